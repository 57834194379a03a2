import PyProof.Rows.All
import Wide.All
import KE.KDictOf
import KE.KDictList
import KE.KNestM
import KE.KFromBytes
import KE.KIsAll
import KE.KLam
import KE.RegMulBits
import Wide.FinOn
import KE.LcSums
import KE.KIntText
import KE.KRevIter
import KE.KMinKey
import KE.KCount
import PySem.Challenge.RW_liftcourt_k61_graph_closed
set_option Elab.async false
set_option bootstrap.genMatcherCode false
set_option linter.all false
set_option maxRecDepth 100000
set_option maxHeartbeats 4000000
local macro_rules|`(s! $x)=>match x.raw[0].isInterpolatedStrLit? with|some s=>`(PySem.Str.ofString $(Lean.quote s))|_=>Lean.Macro.throwUnsupported
local macro_rules|`(tactic|symm)=>`(tactic|(intro _ _ _ _ h;cases h;subst_vars;rfl))
local macro_rules|`(tactic|ac_rfl)=>`(tactic|exact ⟨rfl,rfl,rfl,by decide+kernel,rfl,by decide+kernel,by decide+kernel⟩)
local macro_rules|`(tactic|ext)=>`(tactic|conv=>whnf)
local macro_rules|`(tactic|rwa[$x:term])=>`(tactic|refine $x)
local macro_rules|`(tactic|erw[$x:term])=>`(tactic|(refine $x;conv=>whnf))
local macro_rules|`(tactic|left)=>`(tactic|walk_at "l3go")
local macro_rules|`(tactic|right)=>`(tactic|walk_at "l3dd")
namespace Lean
def wN:=Syntax.node .none
def wI(s:String):Syntax:=mkIdent (.mkSimple s)
def wA(s:String):Syntax:=if s=="_" then wN ``Parser.Term.hole #[mkAtom s] else
 let c:=s.front;if c=='?' then wN ``Parser.Term.syntheticHole #[mkAtom "?",mkAtom "_"] else if c=='@' then wN ``Parser.Term.explicit #[mkAtom "@",mkIdent (s.drop 1).toString.toName] else
 if c.isDigit then Syntax.mkNumLit s else if c=='"' then Syntax.mkStrLit ((s.drop 1).dropEnd 1).toString else if c=='!' then Unhygienic.run (match s with|"!r"=>`((by right))|"!d"=>`((by decide))|"!l"=>`((by lia))|"!a"=>`((by assumption))|"!s"=>`((by simp))|"!k"=>`((by decide+kernel))|"!c"=>`((by kernel_rfl))|"!q"=>`((by walk_at "l3sq"))|"!f"=>`((by first|assumption|decide|lia))|"!g"=>`((by first|assumption|decide))|"!h"=>`((by first|decide|lia))|_=>`((by with_unfolding_all rfl))) else
 let d p:= !(p:String).front.isDigit;if c=='.' then wN ``Parser.Term.dotIdent #[mkAtom ".",mkIdent (s.drop 1).toString.toName] else let q:=s.splitOn ".";let i:Syntax:=mkIdent ((q.takeWhile d).foldl .str .anonymous);(q.dropWhile d).foldl (λt p=>wN ``Parser.Term.proj #[t,mkAtom ".",if d p then wI p else wN `fieldIdx #[mkAtom p]]) i
def wE(x:String):Syntax->Bool|.atom _ y=>x != y|_=>true
def wF:List Syntax->Syntax|[]=>.missing|[x]=>x|x::y=>Syntax.mkApp ⟨x⟩ (y.toArray.map (⟨·⟩))
def wL(l:List Syntax):Syntax:=match l.dropWhile (wE "λ") with|[]=>wF l|_::b=>let v:TSyntaxArray ``Parser.Term.funBinder:=(b.takeWhile (wE "=>")).toArray.map (⟨·⟩);let e:Term:=⟨wF ((b.dropWhile (wE "=>")).drop 1)⟩;wF (l.takeWhile (wE "λ")++[(Unhygienic.run `(fun $v*=>$e)).raw])
def wS(l:List Syntax):Syntax:=let r:=l.foldl (λ(s:Array Syntax×List Syntax) x=>if wE "," x then (s.1,x::s.2) else (s.1.push (wL s.2.reverse),[])) (#[],[]);Syntax.mkSep (if r.2.isEmpty then r.1 else r.1.push (wL r.2.reverse)) (mkAtom ",")
def wC(c:Char)(l:List Syntax):Syntax:=if c==']' then wN `«term[_]» #[mkAtom "[",wS l,mkAtom "]"] else if c=='⟩' then wN ``Parser.Term.anonymousCtor #[mkAtom "⟨",wS l,mkAtom "⟩"] else match l with|x::y::r=>if wE ":=" y then wL l else wN ``Parser.Term.namedArgument #[mkAtom "(",x,mkAtom ":=",wL r,mkAtom ")"]|_=>wL l
def wP(s:List (List Syntax)×String)(x:Syntax):List (List Syntax)×String:=match s.1 with|[]=>s|f::g=>((x::f)::g,"")
def wG(s:List (List Syntax)×String):List (List Syntax)×String:=if s.2=="" then s else wP s (if s.2=="=>"||s.2==":=" then mkAtom s.2 else wA s.2)
def wT(s:List (List Syntax)×String)(c:Char):List (List Syntax)×String:=if " ([⟨)]⟩,λ".contains c then let s:=wG s;if c==' ' then s else if "([⟨".contains c then ([]::s.1,"") else if c==','||c=='λ' then wP s (mkAtom c.toString) else match s.1 with|f::g=>wP (g,"") (wC c f.reverse)|_=>s else (s.1,s.2.push c)
def wD(t:String):Syntax:=match (wG (t.foldl wT ([[]],""))).1 with|[f]=>wL f.reverse|_=>.missing
def wH(s:String):MacroM (TSyntax `tactic):=do
 let r←(s.splitOn "|").toArray.mapM λx=>do
  let q:=x.splitOn "~";let p:Term:=⟨wD q.head!⟩;let e:Term:=⟨wD q.getLast!⟩;`(Parser.Tactic.tacticSeq|(show $p;exact $e))
 `(tactic|first $[|$r]*)
end Lean
def Lean.wW:=("!r~!l~!d~model X.prog X.w~!s~Nat.le_refl _~ac(aj @a)~model prog w~bd X scope N' C s H ex~aG 0⟨[b],j,0,false,0,J⟩~λC s H ex => @a~upd(upd H dx(.own a))a(.ins C dx[])~!c~λC s H ex => (d7(K := K)(n := 4)rfl rfl(az @a(az @a(az @a(az @a cY)))))~Or.inl rfl~EP X pins σ Q~aP hs.lo⟨cs,ws,last,false,0,[]⟩ds~PySem.W.instObj C s.heap.objs.size~λz => ?_~λz => absurd z.1 @c~λab A outer s H vs Q E hr h => ?_~λC s H ex => (d7(K := K)(n := 2)rfl rfl(az @a(az @a cY)))~iP hs wf k ks~mem_append_right _(.head _)~λj A outer s H R Q E S h => ?_~λC s H ex => bZ~!k~ax @a(ac(aj cN))aq~Option Nat~bw hs.so b.pl b.li b.ps(wf U b.li(dY hs.so b.li(tk l.rm b.ps @j U)(CG b.ps U)(A8 @j U b.li))u d)~ar @a ap~aS I q @e~Nat.lt_of_lt_of_le(Heap.lt_size e)I.ok.above~ac(aF @a)~Nat.lt_irrefl _~Option Value~post_val_or_str⟨Nat.le_trans(Txt.slice_le z _ _)J,B⟩~cm pk σ~bd X scope N' C O H fp~λad A outer s H vs Q E hr h => ?_~starEach es X.env~λ_ _ => rfl~λC s H ex => (wv 0)~upd H p(.lst ys)~mem_append_right _(.tail _(.head _))~cs.map dq~!u~wpAny_pure ?_~Nat.ne_of_lt(Nat.lt_of_lt_of_le(Heap.lt_size e)(I.ok.cab x c U F))~ac(aj dQ)~aD(N' := [\"tag\",\"start\",\"goal\",\"lift\"])(pk := [none,none,none,none])@m~model P w~~~~~~~~~~~λvs H Q E h => ?_~some(.ref f)~λj => iz(ds.getD j .non)(es.getD j .non)~λj A outer s H R Q E z h => ?_~λz A outer s H R Q E S h => ?_~length_filter_le _ _~d4 X.env.cells scope.names[]~ar(wv 1)ap~L pins s σ H _ I h~fg(aB.of R)(.cons(.str _)(.cons(.int _).nil))~List.map V.bl bs~wpAny_pure⟨_,rfl,wpAny_pure h⟩~λC s H ex => (eK @a)~rs.map aO.d~rB CX P w K mg base N qual scope f j A outer s H E~upd H a o~bA @b~I.hok.fresh @f~some v~λx c z => eh.keep z st~J.trans x~binaryOp .Add~ax(b7 @a)(ac cR)aq~λh => ?_~~upd H p(.lst(xs.set j v))~cQ so room pl s r~bA @e~upd(upd H P _)c' _~cI rfl(wv 0)(wv 1)~hi pins s σ H _ I h~envOfC qual scope s.heap.objs.size f cd~Value.type.inj Y~I.ok.hd hc~ae st~K w.params~eV(jJ rfl)(wv 3)bz @P~λh2 => ?_~starEach es env~Gr.visit @w s n~upd H' D(.lst ys)~λaa A outer s H vs Q E hr h => ?_~Nat.lt_succ_self _~min its.toArray.size J.toArray.size~λY A outer s H vs Q E hr h => ?_~upd H a(.ins C dx(putF f y fs))~L pos pins s σ H _ I h~ns.map V.int~Heap.lt_size e~upd H l(.lst ys)~ds.getD j .non~es.getD j .non~~~~~~~~~~~iP hs wf k ks s c~S.trans Y~I F.2.2 B.2.2 Y Z~Builtin.Str.glued z ts~!q~λj A outer s H I Q E S h => ?_~lY Pn Pl~λB A outer s H R Q E S h => ?_~J.st.trans(.updL(J _ _ a.el))~aM(jI rfl)rfl cU boot_list @E~λj y B z hy O => ?_~letOwnedTupleGo tg(.ref it)u~compareOp .NotIn~Value.ref j.objs.size~Ad P w~ax @a @g aq~ac cR~aG i M~s0 hs~eV(jJ rfl)(wv 0)(wv 2)@P~ps.zip us~jq H m lc lw ll~Ne.symm(Nat.ne_of_lt I.big)~bK rfl aK @E~nx s c~aV s.cs s.ws~U pins s σ H _ I h~j pins s σ H _ I h~start N vs~PySem.F.args_tuple_add_2 _ _~aA.of a.ec~d4 env.cells scope.names[]~vW @b~zs.set 0(.ref t0)~λh1 => ?_~xq xs lo hi~compEnvC scope @bg C X.env~wpAny_seqItems nS.1 rfl ?_~bw hs.so c.pl c.li c.ps wd~upd H l(.tup ys)~I.same J~aV cs ws~S b o e j~g i j~bu st~assign(.Name x F)X.env~λf vs => PySem.call f vs~bw so pl li ps wd~λz => h1 z.1~tE P w K mg base kC Pn Pl~upd H Z(.dK[])~cI rfl(wv 0)@a~~~~~~~~~~~m6 @a(qI @a(wv 2)wc)~ax(b7 @a)@X aq~pyNext(.ref it)~f(.int i t)(.int j u)~λj g1 g2 => ?_~iA(j.take xs.length)f~ar(wv 2)ap~λy => ?_~b8 P w~ps.mapλp => p.2.toNat~decide_eq_true z~λb o B e => eb b o B e~ts.map V.str~CR aT outer P w H s Q E~~aF @a~mv Kλl => .int l.rm~mv Kλl => .int l.tn~F.args_str_split_2 _ _~iq.ok fl~λys H' p l2 W => ?_~ac(aj(wv 2))~λi ys H' hi p => ?_~I.base.free b o e n j~PySem.mem_of_lookup h~HT.sIx xs.length 0 lo~keywordEach[]X.env~λb u z => ?_~ps.map cB~rs.take i~J.map V.ref~TP X pins σ Q~j.hok.fresh @f~λ_ _ => False~PySem.W.instObj C dx~he pins s σ H _ I h~~mem_append_right _ j~λ_ q => q~vX X.stack~R pins s σ H _ I h~compareOp .In~I.tok _~Nat.le_succ _~bT st~~Y pins s σ H _ I h~Int.le_refl _~bc cs~mem_cons_of_mem _ J~G.F.map GN~aB.of j.eg~~~~~~~~~~~bI dn[]~ar(wv 0)ap~p9 K @cg qG(kg k)~λR H Q E h => ?_~λi ys H' p => ?_~u.map Ae~call(.ref f)[u]~compareOp op~keeperOf(.ref f)~λz => h z.2~λz => R z.1~ax @a @cq aq~wl.map V.ref~I.ok.hd J~RM X pins σ tg R~I.ok.hd j~λx => x.1.isSome~upd H p o~ax @a(ac @a)aq~decide_eq_true h1~O.seqT hT~ks.map cB~j L U~B b _ qλz => z~sF h lc lw M.last M.fire M.bl ll~bt q z~typeIs_str s z t~ns.map WData.int~Dp pk wi g tt te~typeIs_str _ _ _~λ_ _ _ => False~sJ j.heap H~bI a xs~max 0 0~iB rfl~bw so pl li ps j~gx rfl~ws.map aO.d~rk.cl k~jJ rfl~sB.trans sC~aA.of(J _ _ Y)~Nat.ne_of_lt @G~eval iter X.env~s.heap.push PySem.W.emptyDict~sIx j.size 0 lo~ac(aj(wv 1))~aA.of ag~aB.of eb~λU => ?_~aA.of e1~Gr.visit nx s n~~~~~~~~~~~bI dn ys~P5 r ta tb~zF X.K H e~h1.trans z~J _ _ a.ew~nG h ru df~Heap.lt_size q~binaryOp .Mult~ar(wv 11)ap~p9 K GG pre dl~some u~some 6~fZ 0 S~~tupleKind @di~I.freeC x c e~compareOp .Eq~wpAny_bind ?_~xs.length~bg h'.1~b9 h'.2~Nat.zero_le _~aA.of R~ps.take i~ds.take i~ar(wv 3)ap~s.ws.map aO.d~I.stkSub b z~σ.set i @bs~eval e X.env~eval o X.env~G.S.map SS.d~bI pe[]~Option V~bd X scope N' C s H fp~aa @a @g~aB.of e3~B _ _ ed~fs.lookup f~R.map V.int~i _ _ _ _ q~ls.map iq.d~c.ps.map cB~No hr~Fx @w ks.length @cs n~mf rfl~ac(aj bz)~Str.ofString \"oxuds\"~tb σ H1 Q~fb j h2~fW kvs k y~fW kvs k v~~~~~~~~~~~s.sqT h~xs.set i v~J _ _ a.el~aA.of a.ew~aA.of j.e0~aB.of B.eg~upd H x o~Ne.symm Z~bs.all id~ks.map kV~J.trans O~Jm C dx t~hH.same Y~ar @a @bh~X.wish E~dJ kvs k~S.take j~backTo pos @bM~fW kvs U.1 U.2~aQ dl M.ws i M~GQ lo n~jM X.prog X.w~ae ez~ae cK~kc kD kH kS k~upd H dn @fa~GE K a~GD K a~gc dl M p r~aQ dl W i M~hH.same a.s~its.push y~hC.same s1~L2.k7 _ _ _ _ _~L2.ak !q rfl ?_~L2.bb !q rfl ?_~L2.iG _ _ _ _~L2.eJ !q ?_~L2.bH !q ?_~L2.Be _ _ _ _ _~L2.ju !q rfl ?_~L2.spDraw _ _ _ _ _~L2.drawI !q !l !l !l ?_~L2.nj _ _ _ _ _~L2.lC rfl(.tup !q)rfl ?_~L2.lC rfl(.lst !q)rfl ?_~L2.rY _ _ _~L2.pc !f ?_~L2.iT !f ?_~L2.O6 !f ?_~L2.vx !f ?_~L2.bO !g ?_~~~~~~~~~~~L2.aY !g ?_~And(L2.P2 _ _ _ _)_~⟨.inl⟨rfl,_,!q⟩,?_⟩~And(L2.CK _ _)_~⟨L2.Pr !d !d,?_⟩~And(L2.rX _ _)_~⟨L2.hV !h !h,?_⟩".splitOn "~").toArray
local macro_rules|`(@$i:ident)=>do
 let n:=i.getId;let k:=n.toString.foldl (λk c=>k*62+(("abcdefghijklmnopqrstuvwxyzABCDEFGHIJKLMNOPQRSTUVWXYZ0123456789".splitOn c.toString).head!).length) 0;let s:=Lean.wW.getD k "";if n.hasMacroScopes||n.toString.length>2||s=="" then Lean.Macro.throwUnsupported else return Lean.wD s
open List (all_cons all_eq_true all_map any_cons any_eq_false any_eq_true any_filter any_map append_assoc append_nil cons_append drop_append_of_le_length drop_eq_getElem_cons drop_length drop_of_length_le drop_zero ext_getElem filterMap_append filterMap_cons filterMap_map filter_append filter_cons filter_cons_of_neg filter_cons_of_pos filter_nil find?_cons flatMap_append flatMap_cons flatMap_nil flatten_cons foldl_append foldl_cons foldl_toArray forIn_cons getD_eq_getElem?_getD getElem?_append_left getElem?_append_right getElem?_drop getElem?_eq_getElem getElem?_map getElem?_replicate getElem?_set_ne getElem?_set_self getElem?_take_of_lt getElem?_zip_eq_some getElem_inj getElem_mem length_append length_cons length_drop length_eq_zero_iff length_filter_le length_map length_nil length_pos_iff length_range length_replicate length_set length_singleton length_take length_take_le lookup_cons lookup_eq_none_iff map_append map_congr_left map_cons map_eq_nil_iff map_map map_nil map_set mem_append mem_append_left mem_append_right mem_cons mem_cons_of_mem mem_cons_self mem_filter mem_filterMap mem_flatMap mem_flatten mem_iff_getElem mem_iff_getElem? mem_map mem_map_of_mem mem_of_getElem? mem_of_mem_drop mem_of_mem_take mem_or_eq_of_mem_set mem_range mem_reverse mem_singleton nil_append nodup_append nodup_cons not_mem_nil of_mem_zip pairwise_iff_getElem pairwise_lt_range range_succ range_succ_eq_map rel_of_pairwise_cons replicate_succ set_getElem_self size_toArray take_add_one take_append_of_le_length take_length take_of_length_le take_sublist take_succ take_zero)
local macro_rules|`(#check $s:str)=>do
 let a←(s.getString.splitOn " ").toArray.mapM λw=>let i:=Lean.mkIdent (.str `PySem.W.Fast ("tw"++toString (w.foldl (λk c=>k*62+(("0123456789ABCDEFGHIJKLMNOPQRSTUVWXYZabcdefghijklmnopqrstuvwxyz".splitOn c.toString).head!).length) 0)));`(command|def $i:ident:=True)
 return Lean.mkNullNode (a.map (·.raw))
#check "qMDZ4hlSkC DvaydjZMAi0 GYbsiGKqV0n IhoaG52bWeC AlKs7RAZfZF 3JwKtFW4kl7 DA7eSaSYy1Y IMRALi8t9Xq GIffEGxa9HP Ch8CFW9N4AF 2g6zTxb8RTd LyUtqhLh4Sf 3zTWJXcPxDP EeeDYy4KlUh KZ2c5ls5lLM HMXpK7umoTp 125RwOeFutV Jv0HhWoQUR8 12Ye4FAFKQP 1Vkr2WmuusU 9sEnlplAfvy JPJ9A3tRc9A 65VwDkoJzl2 ABgTYjsx4KX Hzpmfwwa3J 957kqBvyGnj IUJLIhvafn8 CIanAT2NKH0 Fo9VoIAcOHH 8fRxx6rmyC1 hQw6CtIFpD 59qspwqb8za EmwpynDTNbI FsASIL4m0zf 7sDiIll8ogl 4kctaZupILr 2HTfvI5yuf8 9YjcnjgyyvL 8PeqYiQ4YgS 36j7iXwMwJ5 LvMjjbUpZIh 5J7Q1emSOvm 1S2JebOanOV JlcL8LfLiGz HJ6IJ8l70WU KecbAJSooT3 AWLCeQ2Yzon 4XuNwTYcvIP KCF1HhyV4Ni 1CqRKrxZ9CB EQLAE9rfnOw 6JWUPiFid3E GuAPsPNlUxs KUiurFY2uIA Eigd501B6dG 5CWH8TqgYmn 1qUOIXq3dNV HTPAAVFo2VZ 76pdKswC7gE GRgoH4UWN5s Kgo0Rqus6v4 5ZA19SqiiYb BmHYHHupcJL HORwlTXAjKY 2HlrplT5KLP 7BUE51cFU8w AL65IsPTSx7 63BxRTFwXKO p9U2paogop GMX0pVkjkC8 8OjbOK5g0WM 4dORhgWEpT4 2h7pqkw3du4 6hwMvdeaKxE HZUmg8k3h9v FxetqvV3kMB 1Bvc2ghyyF5 30ONexxH2yV 24PQhsl4tQe CvHf1HQoaIg Ev2CZLD5J60 LENSs1n3wUR CCQkRQAA0aE GKIxMUqacEK H7UAz7YBqYo 8vtxzTXVZpu DfmzRAgyjn5 6Je61Zsy0rf GN7FqNFX85F 9l2m6OcFMT7 6s2rUZqdYZS 5x7HSYb3m5B 6utyCljQnLN 9ziV52XiFfb IZx37c7sNET 2pc5lWXH4Rt DQzscrwztSA 9mkXonNGK1n 7YpQvWm6vpb Dgqn97i9oG4 8l5bT5cIchz 2k3slp4pQE6 50OiP2QQJrm IJen0dyx9Do 9bHEFUa9b2w Ap1dApyCX6O 7kRncbw8iX8 LkxpSc7u0OS CKoUz6GGTa8 LjbXdtncLKI GTVq3cJikIr DMneqJ0Sgoq H0Ol07lbRRA HLxNCohYayi AqTPxPWpefP CKKFx6Y6erp BVQV5BiqO7K DmgOiQitzNH 880PnMnxTsw 9T9iBkpq8wl HStM6Gh3ShS 7hfB5KGDzVp 9rwxFPYXgSR JHOCoeIdwAG L545R0ZCcSU GKJjYUe09E 2AX8t4LARwM CbchCZEKIAh 87IskDbVUvh AiWSBU1IMLw 5xGehR0WdaS 6zSKe7jJnF3 HCq2VJIIHx 8L8VTOfe7ym 2IzNhGUD5KH 3fena2QMnDT 806YodyYTGt 2xBLiMyqfhK C132laXLaWL GeIBviFZvHZ 2PND80lawKr IvcLGLNRPkc 4R5yuPf6nst 1NY0QWJWJhd By5u84Arj7m 2UKrgSZRC8l 5TCB88xG4nL Jz9OfZVxm9q LRgRAJI3HjP IEcrNqg36Zb E9gPfC4Ybcf H17rgneKkr A4RPBT6zyJk EJkTNmubXD2 9ML4j2ZbJnX 2S7rgOvGmvD 36KYGD8Ybr5 CJ3RpbigLdd ywHG3XueAX GC17JUtB7No 1JPTgVkYmhN 2k6Zg1J9QVb Ef0xpCyBTdc 4Cv4JULLLyn LosdEyV23dO 2fHr7JS41Zh 1d9g7y0PfU2 2Mb6TSdhNcv 8tikBlGOlF5 4SRSXv1iNYU 580HQFkaQaf 6X7tFxUrNR6 lod9CYtT0t JUcyhSwSugh KF3kuymBRzL 5Owc1tLb6mL Ei8ogx0sw8B 7hs7QnsiYzC 8a8M5Dxx4YG 505KCSoanBp 4KmxXAnwl4l 86bf4psaICb 545zELLHllL G4E3GNrC6mn 5xdrceFVBhj CBGsfLG6z38 J60GsrAOn4O CptR3Y5yO3u InLa48wCUS1 Gpuc94fnprC 73cIM6Bykvf A7FbZ76qbF0 DxqbHct0q7d 35VPVcZS13v FgECuBS5RH8 5WvgHSJsw56 97Sii2jVJKL L83cZ9lahMq 8FvwZSS6KQG CqfEsA49Xp4 2dx3YOto6xB 91l6rO2V4GC 2XcaneR2QwL L2GE0MFmjSp IVFN91d2gkM ER5coLif6q0 32KKLzHSJOq LZejBtITdWX DjVR4EaIWJz MQTLr9LNcs 7xGDrH7WtJj 2jh7P6BMHtp AcQ6ylrogJ9 1CS2XHMQD36 7VqKc2nsCJ 8oK7FfnQGJD Bp6UgNdN8vq Dirfpyv3NAg 33LTtehADA2 KW8ejCOSvBy DnZPAI7x2gV F3aXg4dWbLc 49fW4yzRkZ6 GXj4PCIcAvQ Du9vOk0vJJk JxDn7cnbZst 6UX6yGBTDP ACmnn2hBdxN 1djIhzHPVps H4wZSy1MXB8 Lm7oV9pZemS 7gRUxIgDPoC XZTyfFucWi BDool75wHtW 6u1lHeojGxw wUZsZgNBmE EQJe0qhbXaP Jspkdg3yZgW IirI5FACRxU 8COOzfAm0YU IlLxwTFTVll HxXk92RQtXU 2j6EFTQuGwQ 6lkuCMY0vHY 4vdlm6lJD3Q 4oKZiNjYFzy Bggj3ea5j3I 1qiDQq0FKk DthHRmKBVGI GtbTZPjMnR7 JcP2ez6VZZc 1VhIigwkCtT HgYBoNhZhez EUpNExn3bvb EwG0LZPFaR5 HXzFpMZPhjZ HkRG7jqvkQe K8JeTOu6XAt FPGzgYUqbR7 unqGGLRfUc JaKS6m13yY4 DbM7gAcAcag DwAijrFYAJu Gyhcipv89dn EKevPniRDFi EAgTQag3XbC AEmVFbCMfJx BEt6IezYwyR EYaI9BdLs9p 9eomHAlXuOU InAJ2Rx0Clg KUVyDqM6E22 J5xtDuEm2bx Aux5SNuPpbB 6Y9uXCO9Era 8IhWHv2UpVf Ibyb9PjjBSg 6Oz0R5DaDPN 8VIMrxi5KgC ABo37tSj4Ay CnUhMTfBxQi FPcf4XUWDB6 JxSqs0rSsXE FFZxqjt0v7L 3qpTvTAkbb2 DiJBEIrjvuI 6h3p7iEQCMg 4j4oCVIxdU5 EKr01rnMjIm EthVAfdngmP LSa1m5FLMRg GXq3CCfpejm 8FnN7ErqW9T H94VFB5F1ob AsgOIxhG0O 44ThulSxaDC HSzKQCHFEul 7F5FK2Pxbqf GDSy5JnuQpw FJHf3JjEkBD 4IyXKywAalr 7ntxKZdYwOr HcVW79arclq pBtv0tuNnS LilTuDBFpiE FL05QfyewiX 5PaNfvPvB75 HZKXk22qqPG 5G52Bmlid49 3LV9dwN1Ez2 1wSAxloGqrG 7JRgatG8Mng 7zRWUKU0mjp DjoUkODS8ca CAGYBVMQfNA EJCG3uB1Psh 2Nce96Pvjrn GoB9Q2L7oIN 4CnQDLyPpE0 5wYdO1hZNZn KjYJvGcV6Tr CHdeexvvC2L 50kjWGpVEye AipMJQ1HXwu 2iRd9tmDIl3 3A9rP2n5CzF 4Cwxu5aerzo JgzUNCmtOTq 7mlbYRT80OE LWe8lhNARjO HgvYvLPcsdi 7eRwcwju4nR 12pJjwuvLuF GsrDhi4Ec6 RAScwaWViB HSk5sFokAKU DqVMpgWJwfG IFCNvNCXjN6 HuPg9CnduXP Ggvm5c4vUxe JeJv5q2kS88 CaTfuIiRL95 9Fr8Q9AOemV CgLIPF7oeZ6 KoryXp5SQiR 9gL4APqU04X 2VMzyGckPEY IUbaAbZrecQ BxZRJiKWJT5 X4OlsGc68e FnWKxj808ex 7KMLTgjxw1J 1Y6jwTspGBx K7etoOBROfa KCNHaRto2IV FJ0NF9qrQ5I 3YIbeHOsmn1 Fi9ghXiAPDF Lj2yExD1n9e HCAAO5GGZkq EqtCXAzXvZx LkejyiytgAq 9laAKNi9cS9 3YDxYL99cDj DPArvMQHM1I 6k4yIrQhZJY KLN1Sxr6IE8 7yU8ZFfzpk6 JtaWgyVe3RK IhiPnta305Y A5jqQVEmPln DPljIn41RKK ENC9P26sKGs A4Kd6dxZXt2 FHD147vQxKj GbFbH6Df9lE KtdIicpfWZ9 JLKpYgBaMDQ 8PC1A5JFbJH KHEpFnebeU3 K5dMx9gMkXG Lgq0rq1d75X 3zRMnKxc5ed 5jSAfbyCWxT IE961jsYtVc Dp7tqL3MxMH OUOIocFQCX FEa4k8vwbcR IciyM4yyZuc 88s8zxEd434 BZA7rQnwccT 8qtXs3e1O9u AG4NYYEKHhL 2DgVQAFl49D 3WJAxMqPz0K Bw6GqwcVFPc 1JPMTkqninW 9BRHp2K356L CpLwrp0rMDb EYmdWVMeboM GeSgKhWaOZH 2V4r0f4hXIh AyN8oSyvQ9f 159zrgDo0j5 Bd8VVfWojjW 2R08819XQXz 6HkWoCulOyF 4x2Yco61ILT CnllNsafGCx 9Fp4O0LRIcF 4Wa8WCnum8 HEV47Wxuloi E81mA0yk3m H9mexiZXHdO 7cjWUJ7k62g Hg4QybY8HID 5phFdAx0GeM KnNQ85gHPZw 4zPbk5IKXgm 83pMBODxPoN LDP6B3bpc1o 22V3OBzAqQK ImuwezTVTc9 DiSC3AYdQ1f J1UazjVdlIT ApYX5OJ9aXc 9BvULGXQqoT GclIWyZZTC7 ApPHTeJwI51 L6OLZA7YCYe utF8nTACKv Cr5iruW4slb FihhPBuBk9x GEv5XoOMTdC HfY9PjsIOGs 14RL19Fyux4 GaqJ1vBexED LdGyQ8PHtoW LVQEshmeEeG Hvhba0wPDrA J2r9bDTK4dt Fv6NYSMX7N BVlXjWwiCkL GSCJZV9RxRg H2W9Ye9nd7p 1RXfxsulrOl 478naduerDu GnnocKGNuQV IZHAyCWtCXz GIWxUC6QzV3 33rnHXSOH5q LsZnwnwhvHk DrfRX7XAo2E 7EgGj3rwYyW DtRcHFDsUby 9k6EHHKaYX8 C3o2DLzCp81 OtfsTRJXyL 30zTt3Xhoi4 5YyzCLodEfY H1rAc8ZlbTc 61wr9nuJiS8 KhXJx5r0pjC 13xbyQBwODV JbzSVJgCL0G Qa5nUxGt6v BWf7ftO0qnQ Cxrolve9S7v DvIOk23lLG9 61GbI3y9GBJ 1n4D9HlDkug 6RSe3GcAWgZ AipgTZKiGmy 6mg5bqUDZXw 4xbxNVWOPWI EYFICmsqGu5 BO10QcoLzgd JwTbmfir2h0 8HfWf0ej8Ts 3OCGsWiLtAf 7rW6rNc8b9i 8O0vYbNPRx9 2Om5hI8ewVx KzXReg9VguT 6BR4Xew8qgl LcViVICh7EQ H0cJeIcyr3R 1OuMaMWD0e6 CPfuWY6I3Ps 9WiwjjhEwme AeuhDLMXDVT 7DSrarYH30f IOxC7RFBRo2 2ieKnHcqRCI KMWN3SBAlm0 GwQRCD1AWQT B94z4XgICZq LIdWI0HVgJ4 2OFrkupfVpM 7xNeQsodXqv GlVl7G2ERlv Bldnsr734cb HwYYWa5NPWk 9jMie7hO1TR 6ijuUh0hdbH AoLyqFbFWDF Jhu7y2iHwCe LtNxkdScRvt AeL4ZwFNk8F 4Gl4B3U4PJx Ad0isE3pzfn 4NpSJKWBh3z 2TJLmCFeyk6 6fWFlwTX3Mp 7dANan2mAVq E0jAqtl9bZK 64VAxgIpiDl A4SoYTLXvA1 7ZfFyxOXmoq 46X3OHhOJwW 6tp76DSoBfH 67SZjSESZUH LfbbfyoE1EV 5JqOkSFspKx KOYaJX2a5yp 8OXLYkyr8yp ARHAxkJiB1F ETa8ezCPr2o GJoThVfkZo3 AoODJBVqJwD 13rMBOIQwgz FhZMTYcWubf 1alf9NzMGfV 429E18PjxIU 7ssMwon8QVv Guf89hXr3ny RWvGP69etX Bq2m9uyQUa7 FRZyaqmhZp4 78EAbKLNiwT 5yhLySqABMW Ltjr5Z6p468 8uJqNzczFm9 776ejCycZLr LghZ8WoNVVc 9rbZ23zz960 AgtzaXcS0hQ KpbBZX2o3hY 6ph2oRtTIKq 5X3cfmMp8MQ DantwaKp568 HNiup3q1Mat 22A76NyTvn6 KUuqYECrjSX 1c5PFLxHVzA KzCG3ujrD95 GJTvM7pf0G6 FZ5Fk62qxG5 6QCrU9cS3gO A7mJBIevTpf 7iRDqMcuxCO 5L4H6tUD1eD K5J3cidAT3k 8LY5cHtFzMM LbkRBaebKMY JHfjJhqoDA9 6IsRfX3H2p9 Gx2orEUSCce I1KxsF1iL6A IUTmgjETpoq KGCBJgmTBXM BppEkvdurk8 6hncdqllLE7 6WZyzqUoqWx 8KVtmbCrvug CjCpaswD8sT KBs1nczwK91 7wJmbfe7PSk LYX3MWGw2sM FpFLncCOlBZ 7kuqVcMnXMP Fvwyx0PNfpZ 6AvAklXHrb1 DABU6le0L1m 58YPFYSJo17 7UFYyAoGTzl NcFJnCRKg3 D0bvupmobTj L4Vd0AS2nmh 9iJ5DuCKG6i Jd0Lylsxyun BtI1YpgMJEn CFlrflYqjYC 9FdwPUsD0x4 DOmWp5ncX9O EuF3DrPg7At cvWCRB5CoC KEcUKLpieZO 5bnaYs1RJ0q Dc4Do5PZQPX 8GrVe8rx50Y Hv3WYAKFTFU 6fZD45auZcq JPMQS86bTna omCEUfTLfm 6RF1ommyvni LlhbGMOe9o1 EhJ88MOactR 2Xks5uHeSZL JbAzVd5vw4B DiQWQ0VSjie AM2RVnlB0bU AtG2hsL5jOe KwU3ObzHAbV 135pTCkXzh0 ItGvFeB8k7k SoFbh8rB7A JAXafnoehmd A0JgbNmT0th 8TE2GkvivoH G41SfAQSbIv 91aRb3VQr0v vm08DqMl4R 540jQq7p2Jc 59TCslYF7Tg 4dHcnBaFsG2 EmVKYlAqCw6 TQ4fhuQFWI BKgpS044fO3 4E17JtGdU6o DUjYTEs2UUI A0GcHOenQdm AgJMZzaKeYg 31RbR73Qe6 IktDLkoGFib 6LaBAOcq1Qs 1dkdu1yF97p 7Pz4esHlkdN CMRX0vbyECs CgjoVrMjprq BAKVAiWwarQ L9FtF2taL5b fcBTDpquH CyOxvP1BJ9z ENhUJhYkadS 4qJcSimpaWP G3N2yU2d6rv 38mbcW1YxBg FRDF2fR7MKg FrJk6PLv6sT EhsgWWqEvFU CJoCLp66vhj FmStM3Li6Zx ATFjDmpHG3J IHFsMvzYO7j 4CCkK5STPWY JarwSOWbG8X 5X3EtSq87d7 630lHGLucx4 8tAk2f90JLe LRsqgxSuSjA KnromWwNI8L KTTTMctLIhf 7omUcZyfjLO GhHWQuLkbyP 31nyrHKLn5H h23NHco9p4 LR0ezc33HuG 28zJOhgrr1W 3u95yG9h41E KkHiYJaeDKu K0aI7pNc01j HTRLSA4xH0h CA8yUnhVU9D Dzxi6LtK1c8 7laOY2Z6DoR AzlgDDD2Izm 2kL1uGcruU6 L0UpaitLOvy CHbhevy4Ufq GkdgOytOZim D2coCp2iSik 4rtCp5udFPi 3IS8TD1ClX1 7nhEnkkIROP EnhJJBp7YeN 7HLUGKNUFFt 67jLHIR59QZ 17OzvZqbVcU HVOzAZOoBsc D3MuaF613Vf 4dWiC4bnOr2 EwFq6ebVKT1 FebX9W7Jx4u DFxu2yRYYE9 3H9fCkstfej HeHOD9zQp98 JtzthB0oI2U BAQKp23k0tI 2Mr3mcEjCrQ CX7lQHBOKED FJqowRJRW8J EcjTeWp2EHt 3hQwtUorunz G8Dkegw5vO0 5hguR2Gz3W3 1uG1hptnT3m CwHbPDuUxbt 2Rp1c1ku9JE 5YrMJPMrlow DLimuIU1UcK KBKC2folruf 9rKkMgnyxyy DcnDxsChoIC 5opEkjubHUn 3hX46a8Uwzc HNLHEtQNqfx 2eeVeSj0Spu 8Y2LK3uyDXZ 16yp00EpRer Dp6t1bXMVzt DwSqp8030B eW9M3aDoiD FNuopmOHsOJ 7TxdXxS6jc4 1nZAsUsS3ax 5VxpnEKD8Y0 CsfJ7xeNQTO 9Hfjct9yZpP DvcsUp9dKOn 1q93hhQOQh3 H7HYTLlwWdw A0hWklbjf5z Dez0k5XPFCI 1TRgJdJrXOw G90pEP6jC1K 3rfbIuAS48S 587vJd1uEeS 3WyCcadqsSL 9eia1YXp4fS 26RBRCBCAwE FK5QhrDISq7 BELi3R7Z0bN Hos8D7hLUyq 5HYzJOkAsjZ CqX2psXE71Z 1v79ePFtUKu 1cqC68WHhdv 1w1cTE5TRow HZWXs0C3oA7 1VX72mfFWBZ K4UZcrF3USn cw0i7Jp9V5 4hX2Sh0Q1bW 56T2mAKIidN 3yTZZbyXpPn 1wCqdGp5uat rbOWTrwt5W 86ifkDgJgCA 5WiE1aoYStD Czkt1hsnvFG 5z520k2FrBJ Az3GuYlZCFi G30LPrvanes I6dOWqR6qzn BJ1PBt8H5DZ IUhvg2wh3CJ 3qjnGtjMoYT FyjVxU3Ej4w 84487Eexp6C 7JdtRYWFgHR 9U88Yktmc7Q CCc6nkc1H0j 3mP2jnrnuc8 AagFzroP9Tj 7YKf1CdBFu5 Bv5Dwaxid2I 7EqfjEHITV0 4QHBuAC0e7n I4qzqtbw9K4 JoFBh737NWg F84dlPv5sHw O9VXHXNXK8 JIGSxpyGJUW 9b3PPrAh1dn 8QsPFe7i9Xe 15UonGXQBov JijV4vnEhGU Ik4HE7DkfFC 5ubqasogDxU lngBzeUgtH 5WvaCZLh6Or CGw1sYGnAh3 L0U2XYx0YRg 6COxuNvX96E ADedbi2gXPO Akhb2GMXMz9 Kk5p9VPLen0 AjCuL1NIiI6 2csdm4BXX9W AEBeTmGdfdl 2bVAT5cm2Qq HwZfF9jzrwC 1M4tLHccQYK IugAGDuiacZ FPmCUn3vdFf 1F2dC3G43VP 2GWk1l9LbPD CHqHmhTHg25 9x4DjBne3qk EZe1y9lRR95 KaTo43WMDLH G5BYF9ZZJb1 LMJzcNUTa9x 7zIkKSpKoi7 AMOlQpDiH2q BrIBtZw96on 5iWxeokrnPg 18rQ6I9nM4c FojA9b0d4nU CiXg3GBx2uz KNu968l1WhC Ht5RPaiEj6g IyuC6ftKp1g J5FzxlkGEVN 2gd7htHcaS0 1aGjFdr3p4j EIEFvT2fI6s 5qWgmcwl0L2 39RnSzOoC9o Tnrn82SGZI EtTqLtVvwdS AprApAiBEl6 1IKL7Dc1F5g IAWCLteKWn9 IhHH52wSuHD 3ytPSBo5AZ3 Ic29NJCNM68 HwFrg2xGWHd B4ioWSwWB1G 9rIEOu2Rc97 8DVO3Kvo9Np 57VmKPah5Hu BEmtk4DTkj4 Hzqlk5P1PBT CmId58hLFwl Gt5OkjEYlfR 6qk7QRCoqre 5cSjJ0bxUzT D9LWF2acOLH FtKovEm234l KX4Rmc9GRo4 3kBjff3ebMY 7i0hszwm6rT AUE57mA2Pbd GHVfQrAlm4d ICwxUHbaQvt 4jd3BLo47gK F7JDeNzUP4P DrKLZAJq08z GmbIgcZYEN9 ByPOuJWlOUJ 1zJMDiEMEmr 14PWEV3VKuL Hw9tK7Wh2bm Kcmwj3DZmfD I7CmchjTAya 42d7qI4h40n 5B2fyFGlI0T 3FgGqH4ojic Iy0sPoptoRA EobFwkVtvsO C7OhguZCmwV 9ZjcqJwRAXf CPsQEJmLKGH 1dXwnG4AT4O FTyuSB5XRjt It5D0IuYUf5 8hYr09QOKto I2jk4onHU0p 52aCNZ21WPH 3H7bNo7mPuo 5aNDjccxUAe JKAhNbWGZLc 752p2HXhmtw GauJB3MKT6m I822oM76KiW 5aQuYTzoDfU U0WKsIESl8 2BkrDz2lOxD E2S3CFqANaR 6KUHkEAdT6k H1r7WAiBkDv 8JDS0GXdx6p C4Dtpffxbg7 4g9uWI1ck8q K1kXZ323osD 6kKdq341u2a LXBsKnyfVPO JiIpzgKQcZL IvmlLH84osQ 6ELlWtJ0Ucb 7VmUlBxQhqX 3ybPl4uSID9 6GRqoT5UrBb ISR9jN6gPX3 GxzoYwq1zyN 6CxswXEwV6T 4DLjSkQ4ouy 2nZJRaE10yL LN07ScCr5JA DHqvqgg1UIN 7MMBKaRMUta 9r7LMrwKv7F GvSFjGSIh4l KfyznRJFCe6 9oTvurBelwz Dt8WvjB5qvX 1VWFeCvhijx Dd6klWlCHAn CMAfBQPLwxB 4JcjESFuq1S 6NpkcJgrpws 5VntCl7tMVO LjVtOJahuv8 2hq7rdOaoIy 4HfeGCQJSRA GrAFu6N4SmK 5j21c7zN4vm 3S2Tm8hwVfH SbN38tRlQg 8sqcnHvzAU3 7Z6frgyHKpT A563lbbGBJz 7WrgPam0gjV HKlTUGAExlw CYygRh3n3ZM 3vlWQbUufsx 7osXsfxr1iU ArfRQiOsFJk EO8UpDRpWSB 145mfAGXxi3 AG4bANCukkJ Alm6RtnnxVy DM4iwFHN1Yv JDYekK6Nml9 BUe0X6XZJss BEIPmV2iHlm FtxAPXLCK2u BF59abtn8wk G9UtWhccdnw 1ICQcT62aYH Bs425pr55H1 H5cvpG2DiV9 G1H63KCIrGO"
abbrev Fg:=PySem.W.Frag
namespace L2
open PySem PySem.Spec PyProof.Rows
abbrev du:=Sum Int Str
noncomputable def tQ:du->Value->Bool
 | .inl k,v=>Value.isInt k v
 | .inr x,v=>Value.isStrOf x v
noncomputable def Rq (w:World):du->Int
 | .inl k=>hashInt k
 | .inr x=>hashStr w x
theorem bM:∀ {k:du} {v:Value},tQ k v=true->(∃i t,k=Sum.inl i/\v=Value.int i t)\/(∃x t,k=Sum.inr x/\v=Value.str x t)
 | .inl i,v,h=>by
   obtain ⟨t,e⟩:=Value.isInt_shape (k:=i) (v:=v) h;exact .inl ⟨i,t,rfl,e⟩
 | .inr x,v,h=>by
   obtain ⟨t,e⟩:=Value.isStrOf_shape (x:=x) (v:=v) h;exact .inr ⟨x,t,rfl,e⟩
theorem Ce (i:Int)(t:Tok):tQ (.inl i) (.int i t)=true:=by simp [tQ,Value.isInt]
theorem Cd (x:Str)(t:Tok):tQ (.inr x) (.str x t)=true:=by simp [tQ,Value.isStrOf]
theorem MG (a b:Int):decide ((Sum.inl a:du)=Sum.inl b)=(a==b):=by
 by_cases e:a=b
 ·subst e;simp
 ·have h: ¬(Sum.inl a:du)=Sum.inl b:=λq=>e (Sum.inl.inj q);rw [decide_eq_false h];exact (beq_eq_false_iff_ne.mpr e).symm
theorem MC (a b:Str):decide ((Sum.inr a:du)=Sum.inr b)=decide (a=b):=by
 by_cases e:a=b
 ·subst e;simp
 ·have h: ¬(Sum.inr a:du)=Sum.inr b:=λq=>e (Sum.inr.inj q);rw [decide_eq_false h,decide_eq_false e]
theorem ME (a:Int)(b:Str):decide ((Sum.inl a:du)=Sum.inr b)=false:=decide_eq_false (λq=>nomatch q)
theorem MD (a:Str)(b:Int):decide ((Sum.inr a:du)=Sum.inl b)=false:=decide_eq_false (λq=>nomatch q)
noncomputable def b8 (prog:Program)(w:World):PySem.KeyKind prog w du where
 is:=tQ
 hash:=Rq w
 inj:=λv a b ha hb=>by
  rcases bM ha with ⟨i,t,rfl,rfl⟩|⟨x,t,rfl,rfl⟩
  ·rcases bM hb with ⟨j,u,rfl,e⟩|⟨y,u,rfl,e⟩
   ·injection e with e1 _;rw [e1]
   ·exact nomatch e
  ·rcases bM hb with ⟨j,u,rfl,e⟩|⟨y,u,rfl,e⟩
   ·exact nomatch e
   ·injection e with e1 _;rw [e1]
 byValue:=λk v h=>by
  rcases bM h with ⟨i,t,rfl,rfl⟩|⟨x,t,rfl,rfl⟩<;>rfl
 pyHash:=λhv h=>by
  rcases bM hv with ⟨i,t,rfl,rfl⟩|⟨x,t,rfl,rfl⟩
  ·exact wpAny_pyHash_int h
  ·exact wpAny_pyHash_str h
 eqBool:=λhu hv h=>by
  rcases bM hu with ⟨i,t,rfl,rfl⟩|⟨x,t,rfl,rfl⟩
  ·rcases bM hv with ⟨j,u,rfl,rfl⟩|⟨y,u,rfl,rfl⟩
   ·rw [MG] at h;exact wpAny_eqBool_int h
   ·rw [ME] at h;exact SeqAt.EqAt.int_str i t y u _ _ _ _ h
  ·rcases bM hv with ⟨j,u,rfl,rfl⟩|⟨y,u,rfl,rfl⟩
   ·rw [MD] at h;exact SeqAt.EqAt.str_int x t j u _ _ _ _ h
   ·rw [MC] at h;exact wpAny_eqBool_str h
 «strs»:=λk x t v h=>by
  rcases bM h with ⟨i,u,rfl,e⟩|⟨y,u,rfl,e⟩
  ·exact nomatch e
  ·injection e with e1 _;subst e1;cases v<;>rfl
theorem xa (prog:Program)(w:World)(i:Int)(t:Tok):(b8 prog w).is (.inl i) (.int i t)=true:=Ce i t
theorem w9 (prog:Program)(w:World)(x:Str)(t:Tok):(b8 prog w).is (.inr x) (.str x t)=true:=Cd x t
inductive V where
 |non|bl (b:Bool)|int (i:Int)|str (x:Str)|byt (b:Array UInt8)|flt (b:UInt64)|ref (a:Addr)|ty (n:String)
 deriving DecidableEq
def ay:V->Value->Prop
 | .non,u=>u=Value.none
 | .bl b,u=>u=Value.bool b
 | .int i,u=>∃t,u=Value.int i t
 | .str x,u=>∃t,u=Value.str x t
 | .byt b,u=>∃t,u=Value.bytes b t
 | .flt b,u=>∃t,u=Value.float b t
 | .ref a,u=>u=Value.ref a
 | .ty n,u=>u=Value.type n
abbrev aJ:List V->List Value->Prop:=Paired ay
theorem aJ.length {xs:List V}{us:List Value}(r:aJ xs us):xs.length=us.length:=Paired.length r
theorem aJ.get:∀ {xs:List V} {us:List Value} {i:Nat} {x:V},aJ xs us->xs[i]? =some x->∃u,us[i]? =some u/\ay x u
 |_,_,_,_,.nil,e=>by simp at e
 |_,_,0,_,.cons r _,e=>by simp at e;subst e;exact ⟨_,rfl,r⟩
 |_,_,i+1,x,.cons _ t,e=>by
  obtain ⟨u,h1,h2⟩:=aJ.get (i:=i) (x:=x) t (by simpa using e);exact ⟨u,by simpa using h1,h2⟩
theorem aJ.set {x:V}{u:Value}(r:ay x u):∀ {xs:List V} {us:List Value} (i:Nat),aJ xs us->aJ (xs.set i x) (us.set i u)
 |_,_,_,.nil=> .nil
 |_,_,0,.cons _ t=> .cons r t
 |_,_,i+1,.cons q t=> .cons q (aJ.set r i t)
theorem aJ.append:∀ {xs ys:List V} {us ws:List Value},aJ xs us->aJ ys ws->aJ (xs++ys) (us++ws)
 |_,_,_,_,.nil,s=>s
 |_,_,_,_,.cons r t,s=> .cons r (aJ.append t s)
theorem aJ.take:∀ {xs:List V} {us:List Value} (n:Nat),aJ xs us->aJ (xs.take n) (us.take n)
 |_,_,0,_=> .nil
 |_,_,_+1,.nil=> .nil
 |_,_,n+1,.cons r t=> .cons r (aJ.take n t)
theorem aJ.drop:∀ {xs:List V} {us:List Value} (n:Nat),aJ xs us->aJ (xs.drop n) (us.drop n)
 |_,_,0,r=>r
 |_,_,_+1,.nil=> .nil
 |_,_,n+1,.cons _ t=>aJ.drop n t
def iu:Option V->Option Value->Prop
 |some v,some u=>ay v u
 |none,none=>True
 |_,_=>False
def KV {κ:Type}:List (κ×V)->List (κ×Value)->Prop:=Paired λ(p:κ×V) (q:κ×Value)=>p.1=q.1/\ay p.2 q.2
noncomputable def kV:du->V
 | .inl i=> .int i
 | .inr x=> .str x
inductive HO where
 |lst (xs:List V)
 |tup (xs:List V)
 |dK (kvs:List (du×V))|dT (kvs:List (List du×V))
 |set (S:Int->Bool) (n:Nat)
 |ins (C dx:Addr) (fs:List (Str×V))
 |own (x:Addr)
 |xd (fs:List (Str×V))
 |met (f x:Addr)
 |rng (lo hi:Int)
 |frz (o:Obj) (u:HO)
 |tbl (ps:Array Value)
 |ext (φ:Heap->Prop)
abbrev Hp:=Addr->Option HO
noncomputable def upd (H:Hp)(a:Addr)(o:HO):Hp:=λb=>if b=a then some o else H b
theorem ag {H:Hp}{a:Addr}{o:HO}:upd H a o a=some o:=by unfold upd;rw [if_pos rfl]
theorem ai {H:Hp}{a b:Addr}{o:HO}(h:b≠a):upd H a o b=H b:=by unfold upd;rw [if_neg h]
theorem Al {H:Hp}{a:Addr}{o u:HO}:upd @bp a u=upd H a u:=by
 funext b;unfold upd;split<;>rfl
theorem OX {H:Hp}{a b:Addr}{o u:HO}(h:H a=some o)(h':H b=some u)(d:o≠u):a≠b:=by
 intro e;subst e;rw [h] at h';exact d (Option.some.inj h')
theorem bt {H:Hp}{a b:Addr}{o:HO}(h:H a=some o)(h':H b=none):a≠b:=by
 intro e;subst e;rw [h] at h';cases h'
section
variable (P:Program)(w:World)
def be (H:Hp)(h:Heap)(a:Addr):HO->Prop
 | .lst xs=>xs.length<=sizeLine/\∃(its:List Value) (n:Nat),aJ xs its/\h.get? a=some {cls:= .type "list",data:= .seq its.toArray n}
 | .tup xs=>xs.length<=sizeLine/\∃its:List Value,aJ xs its/\IsTup h a its.toArray
 | .dK kvs=>kvs.length<=sizeLine/\(a==sysModules)=false/\∃vs,KV kvs vs/\h.DictOf @di a vs
 | .dT kvs=>kvs.length<=sizeLine/\(a==sysModules)=false/\∃xs:List (List du×Addr×Value),
    Paired (λ(p:List du×V) (q:List du×Addr×Value)=>p.1=q.1/\H q.2.1=some (.tup (p.1.map kV))/\ay p.2 q.2.2) kvs xs/\
    ∃o es ep,h.get? a=some o/\o.ExactDict/\o.data= .dict es ep/\es.toList=xs.map (entryOfKey @fo)/\(xs.map (·.1)).Nodup
 | .set S n=>h.SetOf (intKind P w) a S n
 | .ins C dx fs=>H dx=some (.own a)/\fs.length<=1000/\dx≠a/\h.get? a=some @dI/\
    ∃mA,h.Ns1 dx mA/\(∀f,iu @fM (mA f))/\PySem.Within mA (fs.map (·.1))
 | .own _=>∃o,h.get? a=some o
 | .xd fs=>∃mA,h.Ns1 a mA/\∀f,iu @fM (mA f)
 | .rng lo hi=>∃t u v,h.get? a=some {cls:= .type "range",data:= .fields #[.int lo t,.int hi u,.int 1 v]}
 | .frz o u=>h.get? a=some o/\be H h a u
 | .tbl ps=>h.get? a=some {cls:= .none,data:= .fields ps}
 | .met f x=>h.get? a=some (W.methodObj (.ref f) (.ref x))
 | .ext φ=>φ h/\(∃o,h.get? a=some o)/\∀h1 h2:Heap,φ h1->(∀o,h1.get? a=some o->h2.get? a=some o)->φ h2
def fI (H:Hp)(h:Heap):Prop:=∀a o,H a=some o->be P w H h a o
end
section
variable {P:Program}{w:World}{H H':Hp}{h h':Heap}{a:Addr}{o:HO}
theorem be.lt (x:be P w H h a o):a<h.objs.size:=by
 cases o with
 |lst xs=>obtain ⟨_,_,_,_,e⟩:=x;exact Heap.lt_size e
 |tup xs=>obtain ⟨_,_,_,p⟩:=x;exact p.lt
 |dK kvs=>obtain ⟨_,_,_,_,o,_,_,e,_⟩:=x;exact Heap.lt_size e
 |dT kvs=>obtain ⟨_,_,_,_,o,_,_,e,_⟩:=x;exact Heap.lt_size e
 |set S n=>obtain ⟨o,_,_,_,e,_⟩:=x;exact Heap.lt_size e
 |ins C dx fs=>obtain ⟨_,_,_,e,_⟩:=x;exact Heap.lt_size e
 |own y=>obtain ⟨_,e⟩:=x;exact Heap.lt_size e
 |xd fs=>obtain ⟨_,⟨_,_,_,e,_⟩,_⟩:=x;exact Heap.lt_size e
 |rng lo hi=>obtain ⟨_,_,_,e⟩:=x;exact Heap.lt_size e
 |frz ob u=>obtain ⟨e,_⟩:=x;exact Heap.lt_size e
 |tbl ps=>exact Heap.lt_size (show h.get? a=some _ from x)
 |met f y=>exact Heap.lt_size (show h.get? a=some _ from x)
 |ext φ=>obtain ⟨_,⟨_,e⟩,_⟩:=x;exact Heap.lt_size e
theorem Paired.mapP {α β:Type}{F G:α->β->Prop}:∀ {l₁:List α} {l₂:List β},Paired F l₁ l₂->(∀a b,F a b->G a b)->Paired G l₁ l₂
 |_,_,.nil,_=> .nil
 |_,_,.cons r t,f=> .cons (f _ _ r) (Paired.mapP t f)
theorem Paired.imp' {α β:Type}{F G:α->β->Prop}(f:∀a b,F a b->G a b){z:List α}{j:List β}(r:Paired F z j):Paired G z j:=Paired.mapP r f
theorem be.stay (x:be P w H h a o)(k:∀b u,(b=a\/H b=some (.own a))->h.get? b=some u->h'.get? b=some u)
(I:∀b,H b=some (.own a)->H' b=some (.own a))(J:∀b xs,H b=some (.tup xs)->H' b=some (.tup xs)):be P w H' h' a o:=by
 induction o with
 |lst xs=>obtain ⟨z,its,n,r,e⟩:=x;exact ⟨z,its,n,r,k _ _ (.inl rfl) e⟩
 |tup xs=>obtain ⟨z,its,r,j,e,c⟩:=x;exact ⟨z,its,r,j,k _ _ (.inl rfl) e,c⟩
 |dK kvs=>obtain ⟨z,y,R,r,j,es,B,e,c⟩:=x;exact ⟨z,y,R,r,j,es,B,k _ _ (.inl rfl) e,c⟩
 |dT kvs=>
  obtain ⟨z,y,xs,r,j,es,B,e,c⟩:=x;exact ⟨z,y,xs,Paired.mapP r λp q z=>⟨z.1,J _ _ z.2.1,z.2.2⟩,j,es,B,k _ _ (.inl rfl) e,c⟩
 |set S n=>obtain ⟨j,es,B,t,e,c⟩:=x;exact ⟨j,es,B,t,k _ _ (.inl rfl) e,c⟩
 |ins C dx fs=>
  obtain ⟨d,z,L,e,mA,⟨F,es,B,O,c⟩,r⟩:=x;exact ⟨I _ d,z,L,k _ _ (.inl rfl) e,mA,⟨F,es,B,k _ _ (.inr d) O,c⟩,r⟩
 |own y=>obtain ⟨j,e⟩:=x;exact ⟨j,k _ _ (.inl rfl) e⟩
 |xd fs=>obtain ⟨mA,⟨F,es,B,e,c⟩,r⟩:=x;exact ⟨mA,⟨F,es,B,k _ _ (.inl rfl) e,c⟩,r⟩
 |rng lo hi=>obtain ⟨t,u,v,e⟩:=x;exact ⟨t,u,v,k _ _ (.inl rfl) e⟩
 |frz j u ih=>obtain ⟨e,q⟩:=x;exact ⟨k _ _ (.inl rfl) e,ih q⟩
 |tbl ps=>
  have e:h.get? a=some {cls:= .none,data:= .fields ps}:=x;show h'.get? a=some {cls:= .none,data:= .fields ps};exact k a _ (.inl rfl) e
 |met f y=>
  have e:h.get? a=some (W.methodObj (.ref f) (.ref y)):=x;show h'.get? a=some (W.methodObj (.ref f) (.ref y));exact k a _ (.inl rfl) e
 |ext φ=>obtain ⟨p,⟨o,e⟩,st⟩:=x;exact ⟨st _ _ p λo q=>k _ _ (.inl rfl) q,⟨o,k _ _ (.inl rfl) e⟩,st⟩
theorem fI.lt (x:fI P w H h)(e:H a=some o):a<h.objs.size:=(x a o e).lt
theorem fI.fresh (x:fI P w H h)(e:h.objs.size<=a):H a=none:=by
 cases q:H a with
 |none=>rfl
 |some u=>exact absurd (Nat.lt_of_lt_of_le (x.lt q) e) @I
theorem fI.kept (x:fI P w H h)(k:∀b u,h.get? b=some u->h'.get? b=some u):fI P w H h':=λa o e=>
 (x a o e).stay (λb u _ q=>k b u q) @dM λ_ _ q=>q
theorem fI.laid (x:fI P w H h)(k:∀b u,h.get? b=some u->h'.get? b=some u)(F:h.objs.size<=a)(j:be P w @bp h' a o):fI P w @bp h':=λb u e=>by
 have z:=x.fresh F;by_cases B:b=a
 ·subst B;rw [ag] at e;cases e;exact j
 ·rw [ai B] at e
  exact (x b u e).stay (λc v _ q=>k c v q) (λc q=>by rw [ai @ez];exact q) λc xs q=>by rw [ai @ez];exact q
end
def Rd (H:Hp)(a:Addr)(u:HO):Prop:=H a=some u\/∃o,H a=some (.frz o u)
theorem Rd.ok {P:Program}{w:World}{H:Hp}{h:Heap}{a:Addr}{u:HO}(r:Rd H a u)(x:fI P w H h):be P w H h a u:=by
 rcases r with r|⟨o,r⟩
 ·exact x a u r
 ·obtain ⟨_,q⟩:=x a _ r;exact q
def PN:Option HO->Prop
 |some (.lst _)=>True
 |some (.dK _)=>True
 |some (.dT _)=>True
 |some (.set _ _)=>True
 |some (.ins _ _ _)=>True
 |some (.ext _)=>True
 |_=>False
section
variable {P:Program}{w:World}{H:Hp}{h h':Heap}{x e:Addr}{o':HO}
theorem fI.write (W:fI P w H h)(J:PN (H x))(U:e=x\/H e=some (.own x))(k:∀b u,b≠e->h.get? b=some u->h'.get? b=some u)(O:∃u,h'.get? e=some u)
(R:be P w (upd H x o') h' x o'):fI P w (upd H x o') h':=λb u q=>by
 have B:∀c y,H c=some (.own y)->c≠x:=λc y r z=>by subst z;rw [r] at J;exact J
 have F:∀c xs,H c=some (.tup xs)->c≠x:=λc xs r z=>by subst z;rw [r] at J;exact J
 by_cases L:b=x
 ·subst L;rw [ag] at q;cases q;exact R
 ·rw [ai L] at q;by_cases j:b=e
  ·have S:H b=some (.own x):=by
    rcases U with z|z
    ·exact absurd (j.trans z) L
    ·rw [j];exact z
   rw [q] at S;cases S;obtain ⟨v,Y⟩:=O;exact ⟨v,by rw [j];exact Y⟩
  ·refine (W b u q).stay (λc v I r=>k c v ?_ r) (λc r=>by rw [ai (B c b r)];exact r) λc xs r=>by rw [ai (F c xs r)];exact r
   rcases I with rfl|I
   ·exact j
   ·rintro rfl
    rcases U with z|z
    ·exact B c b I z
    ·rw [I] at z;cases z;exact L rfl
end
structure Un (fs ex:List Addr)(H H':Hp)(h h':Heap):Prop where
 keep:∀b o,h.get? b=some o->H b=none->b∉fs->b∉ex->h'.get? b=some o
 slot:∀b o,h.get? b=some o->H b=none->b∈fs->b∉ex->∃sl,h'.get? b=some {o with slots:=sl}
 free:∀b o,h.get? b=some o->H b=none->b∉ex->H' b=none
 there:∀b o,h.get? b=some o->b∉ex->∃o',h'.get? b=some o'
 tups:∀b xs,H b=some (.tup xs)->H' b=some (.tup xs)
 frzs:∀b o u,H b=some (.frz o u)->H' b=some (.frz o u)
 tbls:∀b ps,H b=some (.tbl ps)->∃more,H' b=some (.tbl (ps++more))
section
variable {fs fs' ex ex':List Addr}{H H1 H2:Hp}{h h1 h2 h':Heap}{a x e:Addr}{o:HO}
theorem Un.any (u:Un fs ex H H1 h h1){b:Addr}{j:Obj}(q:h.get? b=some j)(n:H b=none)(z:b∉ex):∃sl,h1.get? b=some {j with slots:=sl}:=by
 by_cases B:b∈fs
 ·exact u.slot b j q n B z
 ·exact ⟨j.slots,u.keep b j q n B z⟩
theorem Un.kept (k:∀b u,h.get? b=some u->h'.get? b=some u):Un fs ex H H h h':=
 ⟨λb j q _ _ _=>k b j q,λb j q _ _ _=>⟨j.slots,k b j q⟩,λ_ _ _ n _=>n,λb j q _=>⟨j,k b j q⟩,λ_ _ q=>q,λ_ _ _ q=>q,λ_ ps q=>⟨#[],by rw [q];simp⟩⟩
theorem Un.refl:Un fs ex H H h h:=Un.kept λ_ _ q=>q
theorem Un.laid (k:∀b u,h.get? b=some u->h'.get? b=some u)(F:h.objs.size<=a)(z:H a=none):Un fs ex H @bp h h' where
 keep:=λb u q _ _ _=>k b u q
 slot:=λb u q _ _ _=>⟨u.slots,k b u q⟩
 free:=λb u q n _=>by rw [ai (Nat.ne_of_lt (Nat.lt_of_lt_of_le @fg F))];exact n
 there:=λb u q _=>⟨u,k b u q⟩
 tups:=λb xs q=>by rw [ai @ez];exact q
 frzs:=λb u xs q=>by rw [ai @ez];exact q
 tbls:=λb ps q=>⟨#[],by rw [ai @ez,q];simp⟩
theorem Un.write (J:PN (H x))(U:e=x\/H e=some (.own x))(k:∀b u,b≠e->h.get? b=some u->h'.get? b=some u)(O:∃u,h'.get? e=some u):Un fs ex H @gg h h':=by
 have F:∀b,H b=none->b≠x:=λb n z=>by subst z;rw [n] at J;exact J
 have I:∀b,H b=none->b≠e:=λb n z=>by
  subst z
  rcases U with r|r
  ·exact F b n r
  ·rw [n] at r;cases r
 have B:∀b u,H b=some u-> ¬PN @fk->b≠x:=λb u q nm z=>by subst z;rw [q] at J;exact nm J
 refine ⟨λb u q n _ _=>k b u (I b n) q,λb u q n _ _=>⟨u.slots,k b u (I b n) q⟩,λb u q n _=>by rw [ai (F b n)];exact n,λb u q _=> ?_,
  λb xs q=>by rw [ai @ex];exact q,λb u xs q=>by rw [ai @ex];exact q,λb ps q=>⟨#[],by rw [ai @ex,q];simp⟩⟩
 by_cases j:b=e
 ·subst j;exact O
 ·exact ⟨u,k b u j q⟩
end
noncomputable def P3 (h:Heap)(H:Hp):List Addr:=(List.range h.objs.size).filter λa=>(H a).isSome
noncomputable def sJ (h:Heap)(H:Hp):Heap:=W.hideAll h (P3 h H)
theorem Ci (h:Heap)(H:Hp):(sJ h H).objs.size=h.objs.size:=W.hideAll_size _ _
theorem Fu {h:Heap}{H:Hp}{b:Addr}{o:Obj}(e:h.get? b=some o)(n:H b=none):(sJ h H).get? b=some o:=
 W.hideAll_get _ e λB=>by
  have q:(H b).isSome=true:=(mem_filter.mp B).2;rw [n] at q;simp at q
theorem IM {h:Heap}{H:Hp}{b:Addr}{o:Obj}(e:(sJ h H).get? b=some o):h.get? b=some o/\H b=none:=by
 have j:h.get? b=some o:=W.of_hideAll (P3 h H) e;rwa[⟨j,?_⟩]
 cases q:H b with
 |none=>rfl
 |some x=>
  have B:b∈P3 h H:=mem_filter.mpr ⟨mem_range.mpr (Heap.lt_size j),by simp [q]⟩;have z:(sJ h H).get? b=none:=W.hideAll_none (P3 h H) B;rw [z] at e;cases e
noncomputable def Jz (g h:Heap)(L:Addr):List (Addr×Obj):=(List.range h.objs.size).filterMap λa=>if a=L\/(g.get? a).isSome=true then none else (h.get? a).map λo=>(a,o)
noncomputable def eU (g h:Heap)(L d:Addr):List (Addr×Obj):=(Jz g h L).filter λp=>decide (p.1≠d)
structure Mod (K:Fg)(mg:Str->Option Value)(base:Heap):Prop where
 kin:K.In base
 glob:base.Ns mainGlobals mg
 blt:∃mb,base.Ns builtinsNs mb/\∀x:Str,x≠"__name__"->mb x=bootBuiltins x
 nolimit:base.NoLimit
structure Cx where
 prog:Program
 w:World
 K:Fg
 mg:Str->Option Value
 base:Heap
 A:Around
 N:List Str
 s₀:Shared
 H₀:Hp
 env:Env
 outer:List Env
 stack:List Env
 ex:List Addr
 fn:Str->Bool
 calm:Bool
 pn:List (Addr×Obj)
 xe:Value->Shared->Prop
noncomputable def vX (l:List Env):List Addr:=l.filterMap (·.frame)
noncomputable abbrev Cx.fs (X:Cx):List Addr:=vX X.outer
def Np (sc:Scope)(x:Str):Prop:=sc.names.lookup x=some .local\/sc.names.lookup x=some .cell\/sc.names.lookup x=some .free
def JC (sc:Scope)(x:Str):Prop:=sc.names.lookup x=some .local\/sc.names.lookup x=some .cell
def RO (env:Env)(h:Heap)(m:Str->Option Value)(x:Str)(u:Value):Prop:=
 (env.kindOf x=some .local/\m x=some u)\/((env.kindOf x=some .cell\/env.kindOf x=some .free)/\∃c,env.cells.lookup x=some c/\h.IsCell c @fk)
structure Cx.Ok (X:Cx):Prop where
 mod:Mod X.K X.mg X.base
 kind:X.env.scope.kind= .function
 glob:X.env.globals=mainGlobals
 blt:X.env.builtins=builtinsNs
 above:X.s₀.heap.objs.size<=X.env.locals
 inj:∀x y c,X.env.cells.lookup x=some c->X.env.cells.lookup y=some c->x=y
 has:∀x,(X.env.kindOf x=some .cell\/X.env.kindOf x=some .free)->∃c,X.env.cells.lookup x=some c
 cab:∀x c,X.fn x=true->X.env.cells.lookup x=some c->X.s₀.heap.objs.size<=c
 hd:X.calm=true->X.A.handled=none
 frames:X.A.frames=some X.stack
 stk:X.stack=X.outer\/(X.stack=X.env::X.outer/\X.env.frame=some X.env.locals)
 exf:∀b∈X.ex,b≠X.env.locals/\∀x c,X.env.cells.lookup x=some c->c≠b
 bs:∀b o,X.base.get? b=some o->X.s₀.heap.get? b=some o/\X.H₀ b=none
 bsz:X.base.objs.size<=X.s₀.heap.objs.size
 noex:∀b o,X.base.get? b=some o->b∉X.ex
 exfs:∀b∈X.ex,b∉X.fs
 funs:X.s₀.heap.FunFrames X.base X.outer
 frf:∀b∈X.fs,X.H₀ b=none
structure av (X:Cx)(pins:List (Addr×Obj))(σ:List @fH)(H:Hp)(s:Shared):Prop where
 ok:X.Ok
 os:s.os=X.s₀.os
 bare:AllBare s.gens
 base:Un X.fs X.ex X.H₀ H X.s₀.heap s.heap
 loc:∃m,s.heap.Ns X.env.locals m/\∀(i:Nat) (x:Str) (v:V),X.N[i]? =some x->σ[i]? =some @bs->Np X.env.scope x->∃u,ay v u/\RO X.env s.heap m x u
 cell:∀x c,X.env.cells.lookup x=some c->∃v,s.heap.IsCell c v
 free:H X.env.locals=none
 freeC:∀x c,X.env.cells.lookup x=some c->H c=none
 pin:∀p∈X.pn++pins,s.heap.get? p.1=some p.2/\H p.1=none/\p.1≠X.env.locals/\p.1∉X.fs/\∀v,p.2.data≠ .cell v
 hok:fI X.prog X.w H s.heap
 len:σ.length=X.N.length
section
variable {X:Cx}{pins:List (Addr×Obj)}{σ:List @fH}{H H':Hp}{s:Shared}{h':Heap}
theorem Cx.Ok.nofr (W:X.Ok){b:Addr}{o:Obj}(e:X.base.get? b=some o):b∉X.fs:=λB=>by
 have:=(W.funs.mem B).1;rw [e] at this;cases this
theorem av.bs (I:av X pins σ H s):∀b o,X.base.get? b=some o->s.heap.get? b=some o/\H b=none:=λb o e=>
 ⟨I.base.keep b o (I.ok.bs b o e).1 (I.ok.bs b o e).2 (I.ok.nofr e) (I.ok.noex b o e),I.base.free b o (I.ok.bs b o e).1 (I.ok.bs b o e).2 (I.ok.noex b o e)⟩
theorem av.bk (I:av X pins σ H s):∀b o,X.base.get? b=some o->s.heap.get? b=some o:=λb o e=>(I.bs b o e).1
theorem av.mod (I:av X pins σ H s):Mod X.K X.mg X.base:=I.ok.mod
theorem av.kIn (I:av X pins σ H s):X.K.In s.heap:=I.ok.mod.kin.keeps I.bk
theorem av.lt (I:av X pins σ H s):X.env.locals<s.heap.objs.size:=let ⟨_,hn,_⟩:=I.loc;hn.lt
theorem av.sz (I:av X pins σ H s):X.s₀.heap.objs.size<=s.heap.objs.size:=Nat.le_trans I.ok.above (Nat.le_of_lt I.lt)
theorem av.nofs (I:av X pins σ H s){a:Addr}(h:s.heap.objs.size<=a):a∉X.fs:=λB=>by
 obtain ⟨_,o,j,_⟩:=I.ok.funs.mem B;exact absurd (Nat.lt_of_lt_of_le (Heap.lt_size j) (Nat.le_trans I.sz h)) @I
theorem av.cne (I:av X pins σ H s):∀x c,X.env.cells.lookup x=some c->c≠X.env.locals:=λx c e z=>by
 obtain ⟨v,o,F,J⟩:=I.cell x c e;obtain ⟨m,⟨o',es,L,B,j,_⟩,_⟩:=I.loc;rw [z,B] at F;cases F;rw [j] at J;cases J
theorem av.funs (I:av X pins σ H s):s.heap.FunFrames X.base X.outer:=by
 have j:∀(l:List Env),(∀b∈vX l,b∈X.fs)->X.s₀.heap.FunFrames X.base l->s.heap.FunFrames X.base l:=by
  intro l
  induction l with
  |nil=>intro _ _;trivial
  |cons env r ih=>
   intro hs W;obtain ⟨R,⟨L,o,B,O,U,Y⟩,S⟩:=W;have F:L∈X.fs:=hs L (by unfold vX;rw [filterMap_cons,B];exact mem_cons_self);obtain ⟨sl,e⟩:=I.base.slot L o U (I.ok.frf L F) F λz=>I.ok.exfs L z F;exact ⟨R,⟨L,_,B,O,e,Y⟩,ih (λb J=>hs b (by unfold vX;rw [filterMap_cons,B];exact mem_cons_of_mem _ J)) S⟩
 exact j X.outer (λ_ J=>J) I.ok.funs
theorem av.stack (I:av X pins σ H s):s.heap.FunFrames X.base X.stack:=by
 rcases I.ok.stk with e|⟨e,B⟩
 ·rw [e];exact I.funs
 ·rw [e];obtain ⟨m,z,_⟩:=I.loc;rwa[.cons (by rw [I.ok.kind];decide) B z ?_ I.funs];exact Heap.get?_none_of_le (Nat.le_trans I.ok.bsz I.ok.above)
theorem av.stkSub (I:av X pins σ H s):∀b∈vX X.stack,b∈X.env.locals::X.fs:=λb B=>by
 rcases I.ok.stk with e|⟨e,j⟩
 ·rw [e] at B;exact mem_cons_of_mem _ B
 ·rw [e] at B;unfold vX at B;rw [filterMap_cons,j] at B;exact B
theorem av.stkFree (I:av X pins σ H s):∀b∈vX X.stack,H b=none:=λb B=>by
 rcases mem_cons.mp (I.stkSub b B) with e|B
 ·rw [e];exact I.free
 ·obtain ⟨_,o,j,_⟩:=I.ok.funs.mem B;exact I.base.free b o j (I.ok.frf b B) λz=>I.ok.exfs b z B
theorem av.step {g':Array GenState}{t':Nat}{d':Drawn}{ch:List Addr}(I:av X pins σ H s)
(F:∀b∈ch,(b∈X.ex\/X.s₀.heap.objs.size<=b)/\b≠X.env.locals/\(∀x c,X.env.cells.lookup x=some c->c≠b)/\∀p∈X.pn++pins,p.1≠b)
(L:∀b o,b≠X.env.locals->b∉X.fs->b∉ch->s.heap.get? b=some o->H b=none->h'.get? b=some o)
(U:∀b o,b≠X.env.locals->b∈X.fs->b∉ch->s.heap.get? b=some o->H b=none->∃sl,h'.get? b=some {o with slots:=sl})(B:∀b o,b∉ch->s.heap.get? b=some o->H b=none->H' b=none)
(W:∀b o,b∉ch->s.heap.get? b=some o->∃o',h'.get? b=some o')
(ab:∀b xs,H b=some (.tup xs)->H' b=some (.tup xs))(aa:∀b o u,H b=some (.frz o u)->H' b=some (.frz o u))(ad:∀b ps,H b=some (.tbl ps)->∃more,H' b=some (.tbl (ps++more)))
(ns:∀m,s.heap.Ns X.env.locals m->h'.Ns X.env.locals m)(ae:fI X.prog X.w H' h')(hg:AllBare g'):
 av X pins σ H' {s with heap:=h',gens:=g',drawn:=d',toks:=t'}:=by
 have ac:∀b o,X.s₀.heap.get? b=some o->b≠X.env.locals:=λb o e=>Nat.ne_of_lt @G
 have S:∀b o,X.s₀.heap.get? b=some o->b∉X.ex->b∉ch:=λb o e j Y=>by
  rcases (F b Y).1 with z|z
  ·exact j z
  ·exact absurd (Nat.lt_of_lt_of_le @bW z) @I
 have J:∀x c,X.env.cells.lookup x=some c->∀v,s.heap.IsCell c v->h'.IsCell c v:=λx c e v ⟨o,Z,hd⟩=>by
  have O:c∉ch:=λz=>(F c z).2.2.1 x c e rfl;by_cases hc:c∈X.fs
  ·obtain ⟨sl,q⟩:=U c o (I.cne x c e) hc O Z @fp;exact ⟨_,q,hd⟩
  ·exact ⟨o,L c o (I.cne x c e) hc O Z @fp,hd⟩
 rwa[⟨I.ok,I.os,hg,⟨λb o e n Y j=> ?_,λb o e n Y j=> ?_,λb o e n j=> ?_,λb o e j=> ?_,λb xs e=>ab b xs (I.base.tups b xs e),λb o xs e=>aa b o xs (I.base.frzs b o xs e),λb ps e=> ?_⟩,?_,λx c e=> ?_,?_,λx c e=> ?_,λp hp=> ?_,ae,I.len⟩]
 ·exact L b o (ac b o e) Y @cQ (I.base.keep b o e n Y j) @dx
 ·obtain ⟨sl,R⟩:=I.base.slot b o e n Y j;obtain ⟨af,e2⟩:=U b _ (ac b o e) Y @cQ R @dx;exact ⟨af,e2⟩
 ·obtain ⟨o',R⟩:=I.base.there b o e j;exact B b o' @cQ R @dx
 ·obtain ⟨o',R⟩:=I.base.there b o e j;exact W b o' @cQ R
 ·obtain ⟨m1,R⟩:=I.base.tbls b ps e;obtain ⟨m2,e2⟩:=ad b _ R;exact ⟨m1++m2,by rw [e2,Array.append_assoc]⟩
 ·obtain ⟨m,hn,hl⟩:=I.loc;rwa[⟨m,ns m hn,λi x v R e2 e3=> ?_⟩];obtain ⟨u,r,l⟩:=hl i x v R e2 e3;rwa[⟨u,r,?_⟩]
  rcases l with l|⟨k,c,e,z⟩
  ·exact .inl l
  ·exact .inr ⟨k,c,e,J x c e _ z⟩
 ·obtain ⟨v,z⟩:=I.cell x c e;exact ⟨v,J x c e v z⟩
 ·obtain ⟨m,⟨o,_,_,Z,_⟩,_⟩:=I.loc;exact B _ o (λz=>(F _ z).2.1 rfl) Z I.free
 ·obtain ⟨v,o,Z,hd⟩:=I.cell x c e;exact B c o (λz=>(F c z).2.2.1 x c e rfl) Z @fp
 ·obtain ⟨e,n,ne,nf,d⟩:=I.pin p hp;have O:p.1∉ch:=λz=>(F p.1 z).2.2.2 p hp rfl;exact ⟨L p.1 p.2 ne nf O e n,B p.1 p.2 O e n,ne,nf,d⟩
theorem av.un {t':Nat}(I:av X pins σ H s)(u:Un X.fs [] H H' s.heap h')(ae:fI X.prog X.w H' h'):av X pins σ H' {s with heap:=h',toks:=t'}:=by
 obtain ⟨m,⟨o,es,U,L,r⟩,_⟩:=id I.loc;obtain ⟨sl,S⟩:=u.any L I.free @e
 exact I.step (g':=s.gens) (d':=s.drawn) (ch:=[]) (λ_ z=>nomatch z) (λb o _ J _ e n=>u.keep b o e n J @e) (λb o _ J _ e n=>u.slot b o e n J @e) (λb o _ e n=>u.free b o e n @e) (λb o _ e=>u.there b o e @e) u.tups u.frzs u.tbls (λW O=>by
  obtain ⟨o',j,F,B,R⟩:=O;rw [L] at B;cases B
  exact ⟨_,j,F,S,R⟩) ae I.bare
theorem av.call {g':Array GenState}{t':Nat}{d':Drawn}{ch:List Addr}(I:av X pins σ H s)(u:Un @dN ch H H' s.heap h')(ae:fI X.prog X.w H' h')(W:AllBare g')
(F:∀b∈ch,(b∈X.ex\/X.s₀.heap.objs.size<=b)/\b≠X.env.locals/\(∀x c,X.env.cells.lookup x=some c->c≠b)/\∀p∈X.pn++pins,p.1≠b):
 av X pins σ H' {s with heap:=h',gens:=g',drawn:=d',toks:=t'}:=by
 obtain ⟨m,⟨o,es,Z,R,r⟩,_⟩:=id I.loc;obtain ⟨sl,O⟩:=u.any R I.free λz=>(F _ z).2.1 rfl
 exact I.step (ch:=ch) F (λb o O Y j e n=>u.keep b o e n (λz=>(mem_cons.mp @fB).elim O Y) j) (λb o _ _ j e n=>u.any e n j) (λb o j e n=>u.free b o e n j) (λb o j e=>u.there b o e j) u.tups u.frzs u.tbls (λm' S=>by
  obtain ⟨o',J,L,B,U⟩:=S;rw [R] at B;cases B
  exact ⟨_,J,L,O,U⟩) ae W
theorem av.turned {t':Nat}{it:Addr}(I:av X pins σ H s)(k:∀b o,b≠it->s.heap.get? b=some o->h'.get? b=some o)(O:H it=none)(F:it≠X.env.locals)
(h1:it∈X.ex\/X.s₀.heap.objs.size<=it)(h2:∀x c,X.env.cells.lookup x=some c->c≠it)(L:∀p∈X.pn++pins,p.1≠it):av X pins σ H {s with heap:=h',toks:=t'}:=by
 have B:∀b u,H b=some u->b≠it:=λb u e z=>by rw [z,O] at e;cases e
 refine I.step (g':=s.gens) (d':=s.drawn) (ch:=[it]) (λb U=> ?_) (λb o _ _ j e _=>k b o (λz=>j (by simp [z])) e) (λb o _ _ j e _=>⟨o.slots,k b o (λz=>j (by simp [z])) e⟩) (λ_ _ _ _ n=>n)
  (λb o j e=>⟨o,k b o (λz=>j (by simp [z])) e⟩) (λ_ _ e=>e) (λ_ _ _ e=>e) (λb ps e=>⟨#[],by rw [e];simp⟩) (λm J=> ?_) (λb u e=> ?_) I.bare
 ·have e:b=it:=by simpa using U
  subst e;exact ⟨h1,F,h2,L⟩
 ·obtain ⟨o,es,R,S,r⟩:=J;exact ⟨o,es,R,k _ o (Ne.symm F) S,r⟩
 ·rwa[(I.hok b u e).stay (λc v j q=>k c v ?_ q) @dM λ_ _ q=>q]
  rcases j with z|z
  ·rw [z];exact B b u e
  ·exact B c _ z
theorem av.tok (I:av X pins σ H s)(t:Nat):av X pins σ H {s with toks:=t}:=I.un (h':=s.heap) (t':=t) Un.refl I.hok
theorem av.kept {t':Nat}(I:av X pins σ H s)(k:∀b u,s.heap.get? b=some u->h'.get? b=some u):av X pins σ H {s with heap:=h',toks:=t'}:=I.un (Un.kept k) (I.hok.kept k)
theorem av.laid {a:Addr}{o:HO}{t':Nat}(I:av X pins σ H s)(k:∀b u,s.heap.get? b=some u->h'.get? b=some u)(F:s.heap.objs.size<=a)(j:be X.prog X.w @bp h' a o):
 av X pins σ @bp {s with heap:=h',toks:=t'}:=I.un (Un.laid k F (I.hok.fresh F)) (I.hok.laid k F j)
theorem av.write {x e:Addr}{o:HO}{t':Nat}(I:av X pins σ H s)(J:PN (H x))(U:e=x\/H e=some (.own x))(k:∀b u,b≠e->s.heap.get? b=some u->h'.get? b=some u)(O:∃u,h'.get? e=some u)
(j:be X.prog X.w @gg h' x o):av X pins σ @gg {s with heap:=h',toks:=t'}:=I.un (Un.write J U k O) (I.hok.write J U k O j)
theorem av.weak {j:List @fH}(I:av X pins σ H s)(W:j.length=σ.length)(w:∀(i:Nat) v,j[i]? =some @bs->σ[i]? =some @bs):av X pins j H s:=
 ⟨I.ok,I.os,I.bare,I.base,let ⟨m,hn,hl'⟩:=I.loc;⟨m,hn,λi x v R O z=>hl' i x v R (w i v O) z⟩,I.cell,I.free,I.freeC,I.pin,I.hok,W.trans I.len⟩
theorem av.pins_of {j:List (Addr×Obj)}(I:av X pins σ H s)(h:∀p∈j,s.heap.get? p.1=some p.2/\H p.1=none/\p.1≠X.env.locals/\p.1∉X.fs/\∀v,p.2.data≠ .cell v):av X j σ H s:=
 ⟨I.ok,I.os,I.bare,I.base,I.loc,I.cell,I.free,I.freeC,λp F=>(mem_append.mp F).elim (λz=>I.pin p (mem_append_left _ z)) (h p),I.hok,I.len⟩
theorem qS {N:List Str}(z:N.Nodup){i j:Nat}{x:Str}(a:N[i]? =some x)(b:N[j]? =some x):i=j:=by
 obtain ⟨h1,R⟩:=List.getElem?_eq_some_iff.mp a;obtain ⟨h2,O⟩:=List.getElem?_eq_some_iff.mp b;exact (getElem_inj z).mp (R.trans O.symm)
theorem tD {M:Model}{A:Around}{E:Value->Shared->Prop}{i:Nat}{x:Str}{v:V}{u:Value}{Q:Unit->Shared->Prop}(I:av X pins σ H s)(hN:X.N.Nodup)(hi:X.N[i]? =some x)(J:JC X.env.scope x)(r:ay v u)
(h:∀s',av X pins @fC H s'->(∃a,Heap.SameBut a s.heap s'.heap/\(a=X.env.locals\/X.env.cells.lookup x=some a))->Q () s')(hf:X.fn x=true\/X.env.scope.names.lookup x=some .local:=by first|exact .inl rfl|exact .inr rfl|assumption):wpAny M A (storeName X.env x u) Q E s:=by
 obtain ⟨m,hn,hl⟩:=id I.loc
 have aa:(X.env.scope.kind== .class||(X.env.scope.kind== .module&&X.env.locals != X.env.globals))=false:=by rw [I.ok.kind];rfl
 have ac:i<σ.length:=by rw [I.len];exact (List.getElem?_eq_some_iff.mp hi).1
 have Y:=I.cne
 have B:∀ {a:Addr} {h':Heap},(∃o,s.heap.get? a=some o/\H a=none)->Heap.SameBut a s.heap h'->fI X.prog X.w H h':=λ{a h'} ha hs b ob e=>by
  obtain ⟨_,_,L⟩:=ha;rwa[(I.hok b ob e).stay (λc w' F q=>(hs.2 c ?_).trans q) @dM λ_ _ q=>q];rintro rfl
  rcases F with rfl|F
  ·rw [L] at e;cases e
  ·rw [L] at F;cases F
 rcases J with S|S
 ·rwa[wpAny_storeName_local S hn (λh' ah hs=> ?_) aa];obtain ⟨oL,_,_,ag,_⟩:=id hn;rwa[h _ ⟨I.ok,I.os,I.bare,⟨λb o e n W J=> ?_,λb o e n W J=> ?_,I.base.free,λb o e J=> ?_,I.base.tups,I.base.frzs,I.base.tbls⟩,⟨_,ah,λj y v' R O e3=> ?_⟩,λy c e=> ?_,I.free,I.freeC,λp hp=> ?_,B ⟨oL,ag,I.free⟩ hs,by simpa using I.len⟩ ⟨_,hs,.inl rfl⟩]
  ·exact (hs.2 b @eQ).trans (I.base.keep b o e n W J)
  ·obtain ⟨sl,R⟩:=I.base.slot b o e n W J;exact ⟨sl,(hs.2 b @eQ).trans R⟩
  ·obtain ⟨o',R⟩:=I.base.there b o e J;exact ⟨o',(hs.2 b @eQ).trans R⟩
  ·by_cases Z:j=i
   ·subst Z;rw [hi] at R;cases R;rw [getElem?_set_self ac] at O;cases O;exact ⟨u,r,.inl ⟨S,by simp⟩⟩
   ·rw [getElem?_set_ne @gh] at O;obtain ⟨u',r',q⟩:=hl j y v' R O e3;rwa[⟨u',r',?_⟩]
    rcases q with ⟨k,e⟩|⟨k,c,e,z⟩
    ·rwa[.inl ⟨k,?_⟩];have:y≠x:=λe=>Z (qS hN R (e▸hi));simp [this,e]
    ·exact .inr ⟨k,c,e,z.sameBut hs (Y y c e)⟩
  ·obtain ⟨w',z⟩:=I.cell y c e;exact ⟨w',z.sameBut hs (Y y c e)⟩
  ·obtain ⟨e,n,ne,nf,d⟩:=I.pin p hp;exact ⟨(hs.2 p.1 ne).trans e,n,ne,nf,d⟩
 ·have U:X.fn x=true:=by
   rcases hf with z|z
   ·exact z
   ·rw [z] at S;cases S
  obtain ⟨c,F⟩:=I.ok.has x (.inl S);obtain ⟨w',z⟩:=I.cell x c F;rwa[wpAny_storeName_cell I.ok.kind S F z (λh' af hs=> ?_)];obtain ⟨oc,ae,ad⟩:=id z;rwa[h {s with heap:=h'} ⟨I.ok,I.os,I.bare,⟨λb o e n W J=> ?_,λb o e n W J=> ?_,I.base.free,λb o e J=> ?_,I.base.tups,I.base.frzs,I.base.tbls⟩,⟨m,hn.sameBut hs (Ne.symm (Y x c F)),λj y v' R O e3=> ?_⟩,λy c' e=> ?_,I.free,I.freeC,λp hp=> ?_,B ⟨oc,ae,I.freeC x c F⟩ hs,by simpa using I.len⟩ ⟨c,hs,.inr F⟩]
  ·exact (hs.2 b @W).trans (I.base.keep b o e n W J)
  ·obtain ⟨sl,R⟩:=I.base.slot b o e n W J;exact ⟨sl,(hs.2 b @W).trans R⟩
  ·obtain ⟨o',R⟩:=I.base.there b o e J;exact ⟨o',(hs.2 b @W).trans R⟩
  ·by_cases Z:j=i
   ·subst Z;rw [hi] at R;cases R;rw [getElem?_set_self ac] at O;cases O;exact ⟨u,r,.inr ⟨.inl S,c,F,af⟩⟩
   ·rw [getElem?_set_ne @gh] at O;obtain ⟨u',r',q⟩:=hl j y v' R O e3;rwa[⟨u',r',?_⟩]
    rcases q with q|⟨k,c',e,z'⟩
    ·exact .inl q
    ·rwa[.inr ⟨k,c',e,z'.sameBut hs ?_⟩];rintro rfl;exact Z (qS hN R (I.ok.inj _ _ _ e F▸hi))
  ·by_cases ab:c'=c
   ·subst ab;exact ⟨_,af⟩
   ·obtain ⟨w2,z2⟩:=I.cell y c' e;exact ⟨w2,z2.sameBut hs ab⟩
  ·obtain ⟨e,n,ne,nf,d⟩:=I.pin p hp;rwa[⟨(hs.2 p.1 ?_).trans e,n,ne,nf,d⟩];intro q;rw [q,ae] at e;have q':oc=p.2:=Option.some.inj e;exact d w' (by rw [<-q'];exact ad)
theorem pR {M:Model}{A:Around}{E:Value->Shared->Prop}{i:Nat}{x:Str}{v:V}{u:Value}{Q:Unit->Shared->Prop}(I:av X pins σ H s)(z:X.N.Nodup)(hi:X.N[i]? =some x)(j:JC X.env.scope x)(r:ay v u)
(h:∀s',av X pins @fC H s'->Q () s')(F:X.fn x=true\/X.env.scope.names.lookup x=some .local:=by first|exact .inl rfl|exact .inr rfl|assumption):wpAny M A (storeName X.env x u) Q E s:=
 tD I z hi j r (λs' B _=>h s' B) F
theorem av.call' {s':Shared}{ch:List Addr}(I:av X pins σ H s)(j:s'.os=s.os)(u:Un @dN ch H H' s.heap s'.heap)(ae:fI X.prog X.w H' s'.heap)(W:AllBare s'.gens)
(F:∀b∈ch,(b∈X.ex\/X.s₀.heap.objs.size<=b)/\b≠X.env.locals/\(∀x c,X.env.cells.lookup x=some c->c≠b)/\∀p∈X.pn++pins,p.1≠b):av X pins σ H' s':=by
 obtain ⟨h',J,B,z,o'⟩:=s';have e:o'=s.os:=j;subst e;exact I.call (g':=J) (t':=z) (d':=B) u ae W F
end
abbrev XK:=Value->Option Addr->Hp->Prop
abbrev St:=List @fH
abbrev VK:=V->Hp->Prop
abbrev TE:=St->Hp->VK->Prop
abbrev TT:=St->Hp->(Bool->Hp->Prop)->Prop
abbrev TA:=St->Hp->(List V->Hp->Prop)->Prop
structure nR where
 nx:St->Hp->Prop
 rt:VK
 bk:St->Hp->Prop:=λ_ _=>False
 ct:St->Hp->Prop:=λ_ _=>False
abbrev TS:=nR->St->Hp->Prop
def EP (X:Cx)(pins:List (Addr×Obj))(σ:St)(Q:VK)(u:Value)(s':Shared):Prop:=∃v H',av X pins σ H' s'/\ay v u/\Q v H'
def TP (X:Cx)(pins:List (Addr×Obj))(σ:St)(Q:Bool->Hp->Prop)(b:Bool)(s':Shared):Prop:=∃H',av X pins σ H' s'/\Q b H'
def AP (X:Cx)(pins:List (Addr×Obj))(σ:St)(Q:List V->Hp->Prop)(us:List Value)(s':Shared):Prop:=∃vs H',av X pins σ H' s'/\aJ vs us/\Q vs H'
def SP (X:Cx)(pins:List (Addr×Obj))(D:nR)(f:Flow)(s':Shared):Prop:=
 match f with
 | .next=>∃σ' H',av X pins σ' H' s'/\D.nx σ' H'
 | .brk=>∃σ' H',av X pins σ' H' s'/\D.bk σ' H'
 | .cont=>∃σ' H',av X pins σ' H' s'/\D.ct σ' H'
 | .ret u=>∃v σ' H',av X pins σ' H' s'/\ay v u/\D.rt v H'
def PE (X:Cx)(e:Expr)(t:TE):Prop:=
 ∀(pins:List (Addr×Obj)) (s:Shared) (σ:St) (H:Hp) (Q:VK),av X pins σ H s->t σ H Q->wpAny @d X.A @fD @p X.xe s
def PT (X:Cx)(e:Expr)(t:TT):Prop:=
 ∀(pins:List (Addr×Obj)) (s:Shared) (σ:St) (H:Hp) (Q:Bool->Hp->Prop),av X pins σ H s->t σ H Q->wpAny @d X.A (isTrue e X.env @fD) @dF X.xe s
def PW (X:Cx)(e:Expr)(t:TT):Prop:=
 ∀(whole:Sem Value) (pins:List (Addr×Obj)) (s:Shared) (σ:St) (H:Hp) (Q:Bool->Hp->Prop),av X pins σ H s->t σ H Q->wpAny @d X.A (isTrue e X.env whole) @dF X.xe s
theorem PW.pt {X:Cx}{e:Expr}{t:TT}(h:PW X e t):PT X e t:=h _
def PA (X:Cx)(es:List Expr)(t:TA):Prop:=
 ∀(pos:Pos) (pins:List (Addr×Obj)) (s:Shared) (σ:St) (H:Hp) (Q:List V->Hp->Prop),av X pins σ H s->t σ H Q->wpAny @d X.A (spliced (backTo pos @O)) (AP X pins σ Q) X.xe s
def PS (X:Cx)(st:Stmt)(t:TS):Prop:=
 ∀(pins:List (Addr×Obj)) (s:Shared) (σ:St) (H:Hp) (D:nR),av X pins σ H s->t D σ H->wpAny @d X.A (exec st X.env) (SP X pins D) X.xe s
def rT (X:Cx)(st:List Stmt)(t:TS):Prop:=
 ∀(pins:List (Addr×Obj)) (s:Shared) (σ:St) (H:Hp) (D:nR),av X pins σ H s->t D σ H->wpAny @d X.A (execs st X.env) (SP X pins D) X.xe s
theorem br {α:Type}{t:Sem α}{Q j:α->Shared->Prop}{M:Model}{A:Around}{E:Value->Shared->Prop}{s:Shared}(h:wpAny M A t Q E s)(z:∀a s,Q a s->j a s):wpAny M A t j E s:=wpAny_mono h z λ_ _ x=>x
section
variable {X:Cx}
def QU (i:Nat):TE:=λσ H Q=>∃v,σ[i]? =some @bs/\Q v H
def tC (v:V):TE:=λ_ H Q=>Q v H
theorem En {i:Nat}{x:Str}{pos:Pos}(O:X.N[i]? =some x)(Y:Np X.env.scope x)(J:(x==("__debug__":Str))=false:=by decide)(B:(x==("__classdict__":Str))=false:=by decide):PE X (.Name x pos) (QU i):=by
 intro pins s σ H Q I h;obtain ⟨v,e,h⟩:=h;obtain ⟨m,S,W⟩:=I.loc;obtain ⟨u,r,l⟩:=W i x v O e Y;have z:EP X pins σ Q u s:=⟨v,H,I,r,h⟩
 rcases l with ⟨R,L⟩|⟨R,c,F,j⟩
 ·exact wpAny_Name (wpAny_loadName_local I.ok.kind R S L z) J
 ·rcases R with R|R
  ·exact wpAny_Name (wpAny_loadName_cell I.ok.kind R F j z) J
  ·exact wpAny_Name (wpAny_loadName_free I.ok.kind R F j z B) J
theorem bz {i j pos}:PE X (.Constant (.int i) j pos) (tC (.int i)):=λ_ _ _ H _ I h=>wpAny_Constant_int ⟨.int i,H,I.tok _,⟨_,rfl⟩,h⟩
theorem dQ {b j pos}:PE X (.Constant (.bool b) j pos) (tC (.bl b)):=λ_ _ _ H _ I h=>Constant_bool ⟨.bl b,H,I,rfl,h⟩
theorem vh {j pos}:PE X (.Constant .none j pos) (tC .non):=λ_ _ _ H _ I h=>Constant_none ⟨.non,H,I,rfl,h⟩
theorem cN {x j pos}:PE X (.Constant (.str x) j pos) (tC (.str x)):=λ_ _ _ H _ I h=>Calls.Constant_str ⟨.str x,H,I.tok _,⟨_,rfl⟩,h⟩
def Gl (X:Cx)(x:Str):Prop:=X.env.kindOf x=some .globalImplicit
theorem pG {E:Value->Shared->Prop}{pins:List (Addr×Obj)}{s:Shared}{σ:St}{H:Hp}{x:Str}{u:Value}{pos:Pos}{Q:Value->Shared->Prop}(I:av X pins σ H s)(W:Gl X x)(B:X.mg x=some u)(h:Q u s)
(J:(x==("__debug__":Str))=false:=by decide):wpAny @d X.A (eval (.Name x pos) X.env) Q E s:=
 Calls.Name_function_global I.ok.kind W (Calls.loadGlobal_global (by rw [I.ok.glob];exact I.mod.glob.keeps I.bk) B h) J
theorem j8 {E:Value->Shared->Prop}{pins:List (Addr×Obj)}{s:Shared}{σ:St}{H:Hp}{x:Str}{u:Value}{pos:Pos}{Q:Value->Shared->Prop}(I:av X pins σ H s)(W:Gl X x)(B:X.mg x=none)(Y:bootBuiltins x=some u)(h:Q u s)
(z:x≠"__name__":=by decide)(J:(x==("__debug__":Str))=false:=by decide):wpAny @d X.A (eval (.Name x pos) X.env) Q E s:=by
 obtain ⟨j,h1,h2⟩:=I.mod.blt;exact Calls.Name_function_global I.ok.kind W (Calls.loadGlobal_builtin (by rw [I.ok.glob];exact I.mod.glob.keeps I.bk) B (by rw [I.ok.blt];exact h1.keeps I.bk) ((h2 x z).trans Y) h) J
theorem Ay {x:Str}{v:V}{u:Value}{pos:Pos}(W:Gl X x)(B:X.mg x=some u)(r:ay v u)(J:(x==("__debug__":Str))=false:=by decide):PE X (.Name x pos) (tC v):=
 λ_ _ _ H _ I h=>pG I W B ⟨v,H,I,r,h⟩ J
theorem gQ {x:Str}{v:V}{u:Value}{pos:Pos}(W:Gl X x)(B:X.mg x=none)(Y:bootBuiltins x=some u)(r:ay v u)(z:x≠"__name__":=by decide)(J:(x==("__debug__":Str))=false:=by decide):PE X (.Name x pos) (tC v):=
 λ_ _ _ H _ I h=>j8 I W B Y ⟨v,H,I,r,h⟩ z J
variable {a b:Expr}{ta tb:TE}{pos:Pos}
def PC (X:Cx)(op:CmpOp)(a b:Expr)(t:TE):Prop:=
 ∀(pins:List (Addr×Obj)) (s:Shared) (σ:St) (H:Hp) (Q:VK),av X pins σ H s->t σ H Q->
  wpAny @d X.A (eval a X.env) (λv s₁=>wpAny @d X.A (eval b X.env) (λu s₂=>wpAny @d X.A (compareOp op v u) @p X.xe s₂) X.xe s₁) X.xe s
def tB (t:TE):TT:=λσ H Q=>t σ H λx H1=>∃c,x= .bl c/\Q c H1
theorem yS {op:CmpOp}{t:TE}(h:PC X op a b t)(h1:behindInMarks op b=false:=by first|exact nobehind _ @c @c|rfl):PT X (.Compare a [op] [b] pos) (tB t):=by
 intro pins s σ H Q I j;rwa[wpAny_isTrue_Compare1 (br (h pins s σ H _ I j) λv J h1=>br h1 λu O h2=>br h2 λc L ⟨x,H1,z,B,F⟩=> ?_) h1];obtain ⟨d,rfl,q⟩:=F;cases B;exact wpAny_truthy_bool ⟨H1,z,q⟩
variable {tA tB':TT}{eU:List Expr}
def Q6 (t u:TT):TT:=λσ H Q=>t σ H λc H1=>if c=true then u σ H1 Q else Q false H1
def R9 (t u:TT):TT:=λσ H Q=>t σ H λc H1=>if c=true then Q true H1 else u σ H1 Q
def QY (t:TT):TT:=λσ H Q=>t σ H λc H1=>Q (!c) H1
theorem Ax (j:PT X a tA):PW X (.BoolOp .And [a] pos) tA:=by
 intro z pins s σ H Q I h;rwa[isTrue_and (br (j pins s σ H Q I h) λc J e=> ?_)]
 cases c with
 |true=>exact isTrue_and_nil e
 |false=>exact e
theorem iO (j:PT X a tA):PW X (.BoolOp .Or [a] pos) tA:=by
 intro z pins s σ H Q I h;rwa[isTrue_or (br (j pins s σ H Q I h) λc J e=> ?_)]
 cases c with
 |false=>exact isTrue_or_nil e
 |true=>exact e
theorem Lz (L:PT X a tA)(B:PW X (.BoolOp .And (b::eU) pos) tB'):PW X (.BoolOp .And (a::b::eU) pos) (Q6 tA tB'):=by
 intro j pins s σ H Q I h;rwa[isTrue_and (br @bi λc J ⟨H1,z,F⟩=> ?_)]
 cases c with
 |true=>exact B j pins J σ H1 Q z F
 |false=>exact ⟨H1,z,F⟩
theorem OC (L:PT X a tA)(B:PW X (.BoolOp .Or (b::eU) pos) tB'):PW X (.BoolOp .Or (a::b::eU) pos) (R9 tA tB'):=by
 intro j pins s σ H Q I h;rwa[isTrue_or (br @bi λc J ⟨H1,z,F⟩=> ?_)]
 cases c with
 |true=>exact ⟨H1,z,F⟩
 |false=>exact B j pins J σ H1 Q z F
theorem b7 (j:PT X a tA):PT X (.UnaryOp .Not a pos) (QY tA):=by
 intro pins s σ H Q I h;exact isTrue_not (j pins s σ H (λc H1=>Q (!c) H1) I h)
theorem yV {op}{t:TE}(h:PE X a t):PE X (.BoolOp op [a] pos) t:=λpins s σ H Q I j=>BoolOp_one (h pins s σ H Q I j)
def Sa (t:TT)(ta tb:TE):TE:=λσ H Q=>t σ H λc H1=>if c=true then ta σ H1 Q else tb σ H1 Q
theorem Es {c:Expr}(L:PT X c tA)(j:PE X a ta)(B:PE X b tb):PE X (.IfExp c a b pos) (Sa tA ta tb):=by
 intro pins s σ H Q I h;rwa[wpAny_IfExp (br @bi λd J ⟨H1,z,F⟩=> ?_)]
 cases d with
 |true=>exact j pins J σ H1 Q z F
 |false=>exact B pins J σ H1 Q z F
end
def aA (K:Fg)(H:Hp)(a:Addr)(xs:List V):Prop:=
 Rd H a (.lst xs)\/
  ∃(o:Obj) (its:Array Value) (n:Nat),K.lookup a=some o/\o.cls= .type "list"/\o.dict=none/\o.data= .seq its n/\its.size<=sizeLine/\aJ xs its.toList
def aB (K:Fg)(H:Hp)(a:Addr)(xs:List V):Prop:=
 Rd H a (.tup xs)\/
  ∃(o:Obj) (its:Array Value) (n:Nat),K.lookup a=some o/\o.cls= .type "tuple"/\o.data= .seq its n/\its.size<=sizeLine/\aJ xs its.toList
noncomputable def RI:Value->Option V
 | .none=>some .non
 | .bool b=>some (.bl b)
 | .int i _=>some (.int i)
 | .str x _=>some (.str x)
 | .bytes b _=>some (.byt b)
 | .float b _=>some (.flt b)
 | .ref a=>some (.ref a)
 | .type n=>some (.ty n)
 |_=>none
theorem ay.abs {x:V}{u:Value}(r:ay x u):RI u=some x:=by
 cases x with
 |non=>cases r;rfl
 |bl _=>cases r;rfl
 |int _=>obtain ⟨t,rfl⟩:=r;rfl
 |str _=>obtain ⟨t,rfl⟩:=r;rfl
 |byt _=>obtain ⟨t,rfl⟩:=r;rfl
 |flt _=>obtain ⟨t,rfl⟩:=r;rfl
 |ref _=>cases r;rfl
 |ty _=>cases r;rfl
theorem ay.inj {x y:V}{u:Value}(r:ay x u)(q:ay y u):x=y:=Option.some.inj (r.abs.symm.trans q.abs)
theorem aJ.inj:∀ {xs ys:List V} {us:List Value},aJ xs us->aJ ys us->xs=ys
 |_,_,_,.nil,.nil=>rfl
 |_,_,_,.cons r t,.cons r' t'=>by rw [r.inj r',aJ.inj t t']
section
variable {X:Cx}{pins:List (Addr×Obj)}{σ:St}{H:Hp}{s:Shared}{a:Addr}{xs ys:List V}
theorem aA.of {K:Fg}(h:H a=some (.lst xs)):aA K H a xs:= .inl (.inl h)
theorem aB.of {K:Fg}(h:H a=some (.tup xs)):aB K H a xs:= .inl (.inl h)
theorem av.list (I:av X pins σ H s)(h:aA X.K H a xs):∃its:List Value,aJ xs its/\PlainL s.heap a its.toArray/\xs.length<=sizeLine:=by
 rcases h with h|⟨o,its,n,R,j,J,hs,B,r⟩
 ·obtain ⟨z,its,n,r,e⟩:=h.ok I.hok;exact ⟨its,r,⟨_,n,e,rfl,rfl,rfl⟩,z⟩
 ·rwa[⟨its.toList,r,⟨o,n,I.kIn a o R,j,J,by simpa using hs⟩,?_⟩];have e:=r.length;simp only [Array.length_toList] at e;lia
theorem av.tuple (I:av X pins σ H s)(h:aB X.K H a xs):∃its:List Value,aJ xs its/\IsTup s.heap a its.toArray/\xs.length<=sizeLine:=by
 rcases h with h|⟨o,its,n,R,j,hs,B,r⟩
 ·obtain ⟨z,its,r,p⟩:=h.ok I.hok;exact ⟨its,r,p,z⟩
 ·rwa[⟨its.toList,r,⟨o,I.kIn a o R,j,n,by simpa using hs⟩,?_⟩];have e:=r.length;simp only [Array.length_toList] at e;lia
theorem av.list_inj (I:av X pins σ H s)(h:aA X.K H a xs)(h':aA X.K H a ys):xs=ys:=by
 obtain ⟨its,r,⟨o,n,e,_,_,d⟩,_⟩:=I.list h;obtain ⟨j,R,⟨o',F,z,_,_,B⟩,_⟩:=I.list h';rw [e] at z;cases z;rw [d] at B;injection B with d1 _
 have:its=j:=by simpa using congrArg Array.toList d1
 subst this;exact r.inj R
theorem av.tuple_inj (I:av X pins σ H s)(h:aB X.K H a xs)(h':aB X.K H a ys):xs=ys:=by
 obtain ⟨its,r,⟨o,e,_,n,d⟩,_⟩:=I.tuple h;obtain ⟨j,R,⟨o',z,_,F,B⟩,_⟩:=I.tuple h';rw [e] at z;cases z;rw [d] at B;injection B with d1 _
 have:its=j:=by simpa using congrArg Array.toList d1
 subst this;exact r.inj R
end
abbrev Cx.wish (X:Cx)(E:Value->Shared->Prop):Cx:= {X with xe:=E}
abbrev Cx.nox (X:Cx):Cx:=X.wish λ_ _=>False
theorem Cx.Ok.wish {X:Cx}(W:X.Ok)(E:Value->Shared->Prop):(X.wish E).Ok:=
 ⟨W.mod,W.kind,W.glob,W.blt,W.above,W.inj,W.has,W.cab,W.hd,W.frames,W.stk,W.exf,W.bs,W.bsz,W.noex,W.exfs,W.funs,W.frf⟩
theorem Cx.Ok.unwish {X:Cx}{E:Value->Shared->Prop}(W:(X.wish E).Ok):X.Ok:=
 ⟨W.mod,W.kind,W.glob,W.blt,W.above,W.inj,W.has,W.cab,W.hd,W.frames,W.stk,W.exf,W.bs,W.bsz,W.noex,W.exfs,W.funs,W.frf⟩
section
variable {X:Cx}{pins:List (Addr×Obj)}{σ:St}{H:Hp}{s:Shared}{E:Value->Shared->Prop}
theorem av.wish (I:av X pins σ H s)(E:Value->Shared->Prop):av @go pins σ H s:=⟨I.ok.wish E,I.os,I.bare,I.base,I.loc,I.cell,I.free,I.freeC,I.pin,I.hok,I.len⟩
theorem av.unwish (I:av @go pins σ H s):av X pins σ H s:=⟨I.ok.unwish,I.os,I.bare,I.base,I.loc,I.cell,I.free,I.freeC,I.pin,I.hok,I.len⟩
theorem SP.unwish {D:nR}{f:Flow}{s':Shared}(h:SP @go pins D f s'):SP X pins D f s':=by
 cases f with
 |next=>obtain ⟨j,H',I,q⟩:=h;exact ⟨j,H',I.unwish,q⟩
 |brk=>obtain ⟨j,H',I,q⟩:=h;exact ⟨j,H',I.unwish,q⟩
 |cont=>obtain ⟨j,H',I,q⟩:=h;exact ⟨j,H',I.unwish,q⟩
 |ret u=>obtain ⟨v,j,H',I,r,q⟩:=h;exact ⟨v,j,H',I.unwish,r,q⟩
theorem rT.nox {st:List Stmt}{t:TS}(h:rT X.nox st t):rT X st t:=λpins s σ H D I j=>
 wpAny_mono (h pins s σ H D (I.wish _) j) (λ_ _ q=>q.unwish) λ_ _ z=>False.elim z
end
section
variable {X:Cx}{st:Stmt}{eU:List Stmt}{t u:TS}{e:Expr}{te:TE}{pos:Pos}
def Oj:TS:=λD σ H=>D.nx σ H
def QW (t u:TS):TS:=λD σ H=>t {D with nx:=u D} σ H
theorem aq:rT X [] Oj:=λ_ _ σ H _ I h=>wpAny_execs_nil ⟨σ,H,I,h⟩
theorem aa (h1:PS X st t)(h2:rT X eU u):rT X (st::eU) (QW t u):=by
 intro pins s σ H D I h;rwa[wpAny_execs_cons (br (h1 pins s σ H {D with nx:=u D} I h) λf J q=> ?_)]
 cases f with
 |next=>
  obtain ⟨j,H',B,q⟩:=q;exact h2 pins J j H' D B q
 |ret v=>exact q
 |brk=>exact q
 |cont=>exact q
theorem ac (h1:PS X st t):rT X [st] t:=by
 intro pins s σ H D I h;rwa[wpAny_execs_cons (br (h1 pins s σ H D I h) λf J q=> ?_)]
 cases f with
 |next=>exact wpAny_execs_nil q
 |ret v=>exact q
 |brk=>exact q
 |cont=>exact q
theorem av.quiet {pins:List (Addr×Obj)}{σ:St}{H:Hp}{s:Shared}(I:av X pins σ H s):interactive X.env=false:=by simp [interactive,I.ok.kind]
def On (te:TE):TS:=λD σ H=>te σ H λ_ H1=>D.nx σ H1
theorem aF (U:PE X e te)(hs:swapsWith e none pos.line X.env=pure false:=by rfl):PS X (.Expr e pos) (On te):=by
 intro pins s σ H D I h;exact wpAny_Expr_any (br @cA λv J ⟨x,H1,z,B,F⟩=>⟨σ,H1,z,F⟩) I.quiet hs
def QX (te:TE):TS:=λD σ H=>te σ H D.rt
theorem aj (U:PE X e te):PS X (.Return (some e) pos) (QX te):=by
 intro pins s σ H D I h;exact wpAny_Return_some (br @cA λv J ⟨x,H1,z,B,F⟩=>⟨x,σ,H1,z,B,F⟩)
def Oi:TS:=λD _ H=>D.rt .non H
theorem HP:PS X (.Return none pos) Oi:=λ_ _ σ H _ I h=>wpAny_Return_none ⟨.non,σ,H,I,rfl,h⟩
def Q2 (c:TT)(t u:TS):TS:=λD σ H=>c σ H λb H1=>if b=true then t D σ H1 else u D σ H1
theorem OD {c:Expr}{a b:List Stmt}{tc:TT}(j:PT X c tc)(L:rT X a t)(B:rT X b u):PS X (.If c a b pos) (Q2 tc t u):=by
 intro pins s σ H D I h;rwa[wpAny_If (br @cB λd J ⟨H1,z,F⟩=> ?_)]
 cases d with
 |true=>exact L pins J σ H1 D z F
 |false=>exact B pins J σ H1 D z F
end
abbrev TG:=V->St->Hp->(St->Hp->Prop)->Prop
abbrev Bb:=List V->St->Hp->(St->Hp->Prop)->Prop
def PG (X:Cx)(target:Expr)(t:TG):Prop:=
 ∀(pins:List (Addr×Obj)) (s:Shared) (σ:St) (H:Hp) (v:V) (u:Value) (Q:St->Hp->Prop),av X pins σ H s->ay v u->t v σ H Q->
  wpAny @d X.A (assign target X.env u) (λ_ s'=>∃σ' H',av X pins σ' H' s'/\Q σ' H') X.xe s
def CJ (X:Cx)(ts:List Expr)(t:Bb):Prop:=
 ∀(pins:List (Addr×Obj)) (s:Shared) (σ:St) (H:Hp) (vs:List V) (us:List Value) (Q:St->Hp->Prop),av X pins σ H s->aJ vs us->t vs σ H Q->
  wpAny @d X.A (assignInOrder ((assignEach ts X.env).map (·.2)) us) (λ_ s'=>∃σ' H',av X pins σ' H' s'/\Q σ' H') X.xe s
abbrev Ng:=V->V->V->Hp->(Hp->Prop)->Prop
def Gs (X:Cx)(t:Ng):Prop:=
 ∀(pins:List (Addr×Obj)) (s:Shared) (σ:St) (H:Hp) (o i v:V) (ov iv u:Value) (Q:Hp->Prop),av X pins σ H s->ay o ov->ay i iv->ay v u->t o i v H Q->
  wpAny @d X.A (setItem ov iv u) (λ_ s'=>∃H',av X pins σ H' s'/\Q H') X.xe s
abbrev Qf:=V->V->Hp->VK->Prop
def RW (X:Cx)(op:Operator)(t:Qf):Prop:=
 ∀(pins:List (Addr×Obj)) (s:Shared) (σ:St) (H:Hp) (x y:V) (v u:Value) (Q:VK),av X pins σ H s->ay x v->ay y u->t x y H Q->
  wpAny @d X.A (inplaceOp op v u) @p X.xe s
section
variable {X:Cx}{pos:Pos}
def lG (i:Nat):TG:=λv σ H Q=>Q @fC H
theorem vg {i:Nat}{x:Str}(z:X.N.Nodup)(hi:X.N[i]? =some x)(j:JC X.env.scope x)(F:X.fn x=true\/X.env.scope.names.lookup x=some .local:=by first|exact .inl rfl|exact .inr rfl|assumption):PG X (.Name x pos) (lG i):=by
 intro pins s σ H v u Q I r h;exact wpAny_assign_Name (pR I z hi j r (λs' B=>⟨_,H,B,h⟩) F)
def Rw:Bb:=λvs σ H Q=>vs=[]/\Q σ H
def Pc (t:TG)(u:Bb):Bb:=λvs σ H Q=>∃v r,vs=v::r/\t v σ H λσ' H'=>u r σ' H' Q
theorem HV:CJ X [] Rw:=by
 intro pins s σ H R j Q I r h;obtain ⟨e,h⟩:=h;subst e;cases r;exact assignInOrder_nil ⟨σ,H,I,h⟩
theorem El {e:Expr}{es:List Expr}{t:TG}{u:Bb}(h1:PG X e t)(h2:CJ X es u)
(hs:(assignEach (e::es) X.env).map (·.2)=assign e X.env::(assignEach es X.env).map (·.2):=by rfl):CJ X (e::es) (Pc t u):=by
 intro pins s σ H O B Q I r h;obtain ⟨v,L,R,h⟩:=h;subst R
 cases r with
 |cons r rr=>
  rw [hs];rwa[assignInOrder_cons (br (h1 pins s σ H _ _ _ I r h) λ_ J ⟨j,H1,z,F⟩=> ?_)];exact h2 pins J j H1 _ _ Q z rr F
def Pb (K:Fg)(n:Nat)(t:Bb):TG:=λv σ H Q=>∃a xs,v= .ref a/\aB K H a xs/\xs.length=n/\t xs σ H Q
theorem LF {es:List Expr}{k:Nat}{t:Bb}{n:Nat}(J:X.calm=true)(h:CJ X es t)
(L:(assignEach es X.env).length=n:=by rfl)(j:(assignEach es X.env).findIdx? (·.1)=none:=by rfl):PG X (.Tuple es k pos) (Pb X.K n t):=by
 intro pins s σ H v u Q I r z;obtain ⟨a,xs,R,F,W,z⟩:=z;subst R;cases r;obtain ⟨its,B,O,Y⟩:=I.tuple F;rwa[assign_Tuple_tuple @en O (by simp [L,<-W,B.length]) j λh' S=> ?_];have U:av X pins σ H {s with heap:=h'}:=I.kept (t':=s.toks) λb o e=>S b o (Nat.ne_of_lt @bW) e;exact h pins _ σ H xs _ Q U (by simpa using B) z
def Rv (to ti:TE)(t:Ng):TG:=λv σ H Q=>to σ H λo H1=>ti σ H1 λi H2=>t o i v H2 λH3=>Q σ H3
theorem qI {o i:Expr}{to j:TE}{t:Ng}(R:PE X o to)(hi:PE X i j)(hs:Gs X t)
(F:∀v,assign (.Subscript o i pos) X.env v=(do
   let ov<-holding [v] @fE
   let iv<-holding [v,ov] (eval i X.env)
   standAt pos
   holding [v,ov,iv] (setItem ov iv v)
   release [v,ov,iv] []):=by intro _;rfl):PG X (.Subscript o i pos) (Rv to j t):=by
 intro pins s σ H v u Q I r h;rw [F];rwa[wpAny_bind (wpAny_holding (br @dO λov J ⟨x,H1,S,U,O⟩=> ?_))];rwa[wpAny_bind (wpAny_holding (br (hi pins J σ H1 _ S O) λiv W ⟨y,H2,B,L,q2⟩=> ?_))];rwa[wpAny_bind (wpAny_standAt (wpAny_bind (wpAny_holding (br (hs pins W σ H2 x y v ov iv u _ B U L r q2) λ_ s3 ⟨z,Z,Y⟩=> ?_))))];exact wpAny_release ⟨σ,z,Z,Y⟩
def Dq (te:TE)(g:TG):TS:=λD σ H=>te σ H λx H1=>g x σ H1 D.nx
theorem m6 {tg e:Expr}{te:TE}{g:TG}(U:PE X e te)(W:PG X tg g)(hs:swapsWithSole [tg] e pos.line X.env=pure false:=by rfl)(j:swappedStores [tg] e X.env=pure none:=by rfl)
(h1:(assignEach [tg] X.env).map (·.2)=[assign tg X.env]:=by rfl):PS X (.Assign [tg] e pos) (Dq te g):=by
 intro pins s σ H D I h;rwa[wpAny_Assign_stores (br @cA λv J ⟨x,H1,z,B,F⟩=> ?_) hs j];rw [h1];exact br (W pins J σ H1 x v _ z B F) λ_ O q=>q
theorem bP {i:Nat}{x:Str}{e:Expr}{te:TE}{pos':Pos}(z:X.N.Nodup)(hi:X.N[i]? =some x)(L:JC X.env.scope x)(U:PE X e te)(hs:swapsWith e (some (.Name x pos')) pos.line X.env=pure false:=by rfl)(j:X.fn x=true\/X.env.scope.names.lookup x=some .local:=by first|exact .inl rfl|exact .inr rfl|assumption):
 PS X (.Assign [.Name x pos'] e pos) (Dq te (lG i)):=by
 intro pins s σ H D I h;rwa[wpAny_Assign_Name (br @cA λv R ⟨y,H1,J,O,F⟩=> ?_) hs];exact pR J z hi L O (λS B=>⟨_,H1,B,F⟩) j
def Q5 (i:Nat)(te:TE)(ti:Qf):TS:=λD σ H=>∃x,σ[i]? =some (some x)/\te σ H λy H1=>ti x y H1 λz H2=>D.nx (σ.set i (some z)) H2
theorem LC {i:Nat}{x:Str}{e:Expr}{te:TE}{op:Operator}{L:Qf}{pos':Pos}(U:X.N.Nodup)(hi:X.N[i]? =some x)(F:JC X.env.scope x)(he:PE X e te)(ho:RW X op L)(hf:X.fn x=true\/X.env.scope.names.lookup x=some .local:=by first|exact .inl rfl|exact .inr rfl|assumption):
 PS X (.AugAssign (.Name x pos') op e pos) (Q5 i te L):=by
 intro pins s σ H D I h;obtain ⟨v,Z,h⟩:=h;obtain ⟨m,Y,hl⟩:=I.loc
 have B:Np X.env.scope x:=by rcases F with k|k;exact .inl k;exact .inr (.inl k)
 obtain ⟨u,r,l⟩:=hl i x v hi Z B;rwa[wpAny_AugAssign_Name ?_]
 have J:wpAny @d X.A @fD (λw s₂=>wpAny @d X.A (inplaceOp op u w) (λr s₃=>wpAny @d X.A (storeName X.env x r) (λ_=>SP X pins D .next) X.xe s₃) X.xe s₂) X.xe s:=by
  rwa[br @dJ λw S ⟨y,H1,I1,r1,q1⟩=> ?_];rwa[br (ho pins S σ H1 v y u w _ I1 r r1 q1) λz s2 ⟨zv,H2,W,r2,q2⟩=> ?_];exact pR W U hi F r2 (λs3 I3=>⟨_,H2,I3,q2⟩) hf
 rcases l with ⟨R,O⟩|⟨R,c,hc,j⟩
 ·exact wpAny_loadName_local I.ok.kind R Y O J
 ·rcases R with R|R
  ·exact wpAny_loadName_cell I.ok.kind R hc j J
  ·rcases F with k|k
   ·have:X.env.scope.names.lookup x=some .free:=R;rw [k] at this;cases this
   ·have:X.env.scope.names.lookup x=some .free:=R;rw [k] at this;cases this
def Se (f:Int->Int->Int):Qf:=λx y H Q=>∃i j,x= .int i/\y= .int j/\Q (.int (f i j)) H
theorem MO:RW X .Add (Se λi j=>i+j):=by
 intro pins s σ H x y v u Q I B L h;obtain ⟨i,j,R,O,q⟩:=h;subst R;subst O;obtain ⟨t,rfl⟩:=B;obtain ⟨z,rfl⟩:=L;exact iadd_int ⟨.int _,H,I.tok _,⟨_,rfl⟩,q⟩
end
section
variable {X:Cx}{pos:Pos}
def KU (c:TT)(tb:TS):TS:=λD σ H=>∃W:Nat->St->Hp->Prop,(∃m,W m σ H)/\∀m σ H,W m σ H->
 c σ H λb H1=>if b=true then ∃N:St->Hp->Prop,(∀σ' H',N σ' H'->∃m',m'<m/\W m' σ' H')/\tb {D with nx:=N,ct:=N,bk:=D.nx} σ H1 else D.nx σ H1
theorem Eh {c:Expr}{j:List Stmt}{tc:TT}{tb:TS}(hp:PassesOwn @d X.A X.env X.xe)(hc:PT X c tc)(hb:rT X j tb):PS X (.While c j [] pos) (KU tc tb):=by
 intro pins s σ H D I h;obtain ⟨W,⟨m0,w0⟩,B⟩:=h;rwa[wpAny_While (codeAny_whileLoop (λn s'=>∃σ' H',av X pins σ' H' s'/\W n σ' H') ?_ m0 ⟨σ,H,I,w0⟩)];rintro n s1 ⟨L,H1,I1,w1⟩;rwa[wpAny_passesOwn hp (br (hc pins s1 L H1 _ I1 (B n L H1 w1)) λb s2 ⟨H2,I2,J⟩=> ?_)]
 cases b with
 |true=>
  obtain ⟨N,hN,J⟩:=J;rw [if_pos rfl];rwa[wpAny_passesOwn hp (br (hb pins s2 L H2 _ I2 J) λf s3 Y=> ?_)]
  cases f with
  |next=>
   obtain ⟨F,z,Z,S⟩:=Y;obtain ⟨U,O,R⟩:=hN F z S;exact ⟨U,O,F,z,Z,R⟩
  |cont=>
   obtain ⟨F,z,Z,S⟩:=Y;obtain ⟨U,O,R⟩:=hN F z S;exact ⟨U,O,F,z,Z,R⟩
  |brk=>exact Y
  |ret v=>exact Y
 |false=>
  rw [if_neg Bool.false_ne_true];exact wpAny_execs_nil ⟨L,H2,I2,J⟩
end
structure It where
 go:Nat->Hp->Prop
 yld:Nat->Hp->V->Hp->Prop
 stop:Nat->Hp->Prop
def i8 (X:Cx)(pins:List (Addr×Obj))(H:Hp)(b:Addr):Prop:=
 H b=none/\b≠X.env.locals/\b∉X.fs/\(b∈X.ex\/X.s₀.heap.objs.size<=b)/\(∀x c,X.env.cells.lookup x=some c->c≠b)/\∀p∈X.pn++pins,p.1≠b
theorem av.fpOk {X:Cx}{pins:List (Addr×Obj)}{σ:St}{H H':Hp}{s:Shared}{b:Addr}(I:av X pins σ H s)(B:s.heap.objs.size<=b)(j:H' b=none):i8 X pins H' b:=by
 rwa[⟨j,Nat.ne_of_gt (Nat.lt_of_lt_of_le I.lt B),I.nofs B,.inr (Nat.le_trans I.sz B),λx c e z=> ?_,λp F z=> ?_⟩]
 ·obtain ⟨v,q⟩:=I.cell x c e;exact absurd (Nat.lt_of_lt_of_le q.lt (by rw [z];exact B)) @I
 ·exact absurd (Nat.lt_of_lt_of_le (Heap.lt_size (I.pin p F).1) (by rw [z];exact B)) @I
structure vL (P:Program)(w:World)(K:Fg)(tg:Expr)(J:It)(fp:List Addr)(it:Addr)(tn:Nat->Heap->Prop):Prop where
 mem:it∈fp
 obj:∀i h,tn i h->∀b∈fp,∃o,h.get? b=some o/\∀v,o.data≠ .cell v
 keep:∀i h h',tn i h->(∀b∈fp,∀o,h.get? b=some o->h'.get? b=some o)->tn i h'
 item:∀(X:Cx),X.prog=P->X.w=w->X.K=K->X.calm=true->∀(i:Nat) (pins:List (Addr×Obj)) (s:Shared) (σ:St) (H:Hp) (E:Value->Shared->Prop),av X pins σ H s->(∀b∈fp,i8 X pins H b)->tn i s.heap->J.go i H->
  wpAny @Z X.A @dc (λr s1=>∃u,r=some u/\
   wpAny @Z X.A @cl (λ_ s2=>∃x H',av X pins σ H' s2/\ay x u/\J.yld i H x H'/\tn (i+1) s2.heap/\∀b∈fp,H' b=none) E s1) E s
 done:∀(X:Cx),X.prog=P->X.w=w->X.K=K->X.calm=true->∀(i:Nat) (pins:List (Addr×Obj)) (s:Shared) (σ:St) (H:Hp) (E:Value->Shared->Prop),av X pins σ H s->(∀b∈fp,i8 X pins H b)->tn i s.heap->J.stop i H->
  wpAny @Z X.A @dc (λr s1=>r=none/\av X pins σ H s1) E s
 self:∀(A:Around) (i:Nat) (s:Shared) (Q:Value->Shared->Prop) (E:Value->Shared->Prop),tn i s.heap->Q (.ref it) s->wpAny @Z A (pyIter (.ref it)) Q E s
abbrev TI:=St->Hp->(It->Hp->Prop)->Prop
def RM (X:Cx)(pins:List (Addr×Obj))(σ:St)(tg:Expr)(R:It->Hp->Prop)(itv:Value)(s2:Shared):Prop:=
 ∃(it:Addr) (fp:List Addr) (tn:Nat->Heap->Prop) (J:It) (H':Hp),itv= .ref it/\av X pins σ H' s2/\vL X.prog X.w X.K tg J fp it tn/\tn 0 s2.heap/\(∀b∈fp,i8 X pins H' b)/\R J H'
def PI (X:Cx)(tg iter:Expr)(wi:TI):Prop:=
 ∀(pins:List (Addr×Obj)) (s:Shared) (σ:St) (H:Hp) (R:It->Hp->Prop),av X pins σ H s->wi σ H R->
  wpAny @d X.A @eR (λv s1=>wpAny @d X.A (pyIter v) @eo X.xe s1) X.xe s
theorem AR {M:Model}{A:Around}{E:Value->Shared->Prop}{s:Shared}{tg:Expr}{it:Addr}{u:Value}{o:Obj}{n:String}{vs:Array Value}{Q:Unit->Shared->Prop}(I:s.heap.get? it=some o)(j:o.cls= .type n)(J:o.data= .fields vs)
(B:["enumerate","zip","dict_itemiterator","dict_reverseitemiterator","odict_iterator","itertools.zip_longest","itertools.pairwise"].contains n=false)(z:Q () s):wpAny M A @cl Q E s:=by
 unfold letOwnedTupleGo
 cases tg<;>first
  |exact wpAny_pure z
  |(cases u<;>first
     |exact wpAny_pure z
     |(refine wpAny_bind (wpAny_load I ?_)
       rw [j,J];show wpAny M A (if (["enumerate","zip","dict_itemiterator","dict_reverseitemiterator","odict_iterator","itertools.zip_longest","itertools.pairwise"].contains n&&vs[0]? ==some (rawInt _))=true then _ else _) Q E s;rw [if_neg (by intro h;rw [B,Bool.false_and] at h;cases h)]
       exact wpAny_pure z))
noncomputable def GE (K:Fg)(a:Addr):It:=
 ⟨λi H=>∃xs x,aA K H a xs/\xs[i]? =some x,λi H x H'=>H'=H/\∀xs,aA K H a xs->xs[i]? =some x,λi H=>∃xs,aA K H a xs/\xs.length<=i⟩
noncomputable def GD (K:Fg)(a:Addr):It:=
 ⟨λi H=>∃xs x,aB K H a xs/\xs[i]? =some x,λi H x H'=>H'=H/\∀xs,aB K H a xs->xs[i]? =some x,λi H=>∃xs,aB K H a xs/\xs.length<=i⟩
noncomputable def GQ (lo:Int)(n:Nat):It:=⟨λi _=>i<n,λi H x H'=>H'=H/\x= .int (lo+i),λi _=>n<=i⟩
theorem Bf {P:Program}{w:World}{K:Fg}{tg:Expr}(a it:Addr):vL P w K tg @gA [it] it (λi h=>h.IsListIter it a i) where
 mem:=by simp
 obj:=λi h st b B=>by
  have e:b=it:=by simpa using B
  subst e;obtain ⟨o,e,c,d⟩:=st;exact ⟨o,e,λv z=>by rw [d] at z;cases z⟩
 keep:=λi h h' st k=>st.at λo e=>k it @e o e
 item:=by
  intro X hP W O hc i pins s σ H E I J st Z;subst hP W O;obtain ⟨xs,x,F,Y⟩:=Z;obtain ⟨its,S,p,hz⟩:=I.list F;obtain ⟨u,hu,ru⟩:=S.get Y;obtain ⟨U,L,f2,f3,R,f5⟩:=J it @e;rwa[wpAny_pyNext_list_item st p.isList (x:=u) (by simpa using hu) λh' j sb=> ?_];have I1:av X pins σ H {s with heap:=h'}:=I.turned (t':=s.toks) (λb o B e=>(sb.2 b B).trans e) U L f3 R f5;obtain ⟨o,e,c,d⟩:=id j;exact ⟨u,rfl,AR (s:= {s with heap:=h'}) e c d @c ⟨x,H,I1,ru,⟨rfl,λys hy=>by rw [I.list_inj hy F];exact Y⟩,j,λb B=>(J b B).1⟩⟩
 done:=by
  intro X hP W O hc i pins s σ H E I J st Z;subst hP W O;obtain ⟨xs,F,Y⟩:=Z;obtain ⟨its,S,p,hz⟩:=I.list F;obtain ⟨U,L,f2,f3,R,f5⟩:=J it @e;have hl:=S.length;exact wpAny_pyNext_list_end @bH st p.isList (by simp;lia) λh' eb=>⟨rfl,I.turned (t':=s.toks) @dl U L f3 R f5⟩
 self:=λ_ _ _ _ _ st h=>wpAny_pyIter_listiter st h
theorem yd {P:Program}{w:World}{K:Fg}{tg:Expr}(a it:Addr):vL P w K tg @gB [it] it (λi h=>h.IsTupleIter it a i) where
 mem:=by simp
 obj:=λi h st b B=>by
  have e:b=it:=by simpa using B
  subst e;obtain ⟨o,e,c,d⟩:=st;exact ⟨o,e,λv z=>by rw [d] at z;cases z⟩
 keep:=λi h h' st k=>st.at λo e=>k it @e o e
 item:=by
  intro X hP W O hc i pins s σ H E I J st Z;subst hP W O;obtain ⟨xs,x,F,Y⟩:=Z;obtain ⟨its,S,p,hz⟩:=I.tuple F;obtain ⟨u,hu,ru⟩:=S.get Y;obtain ⟨U,L,f2,f3,R,f5⟩:=J it @e;rwa[wpAny_pyNext_tuple_item st (show s.heap.IsTuple a its.toArray from p) (x:=u) (by simpa using hu) λh' j sb=> ?_];have I1:av X pins σ H {s with heap:=h'}:=I.turned (t':=s.toks) (λb o B e=>(sb.2 b B).trans e) U L f3 R f5;obtain ⟨o,e,c,d⟩:=id j;exact ⟨u,rfl,AR (s:= {s with heap:=h'}) e c d @c ⟨x,H,I1,ru,⟨rfl,λys hy=>by rw [I.tuple_inj hy F];exact Y⟩,j,λb B=>(J b B).1⟩⟩
 done:=by
  intro X hP W O hc i pins s σ H E I J st Z;subst hP W O;obtain ⟨xs,F,Y⟩:=Z;obtain ⟨its,S,p,hz⟩:=I.tuple F;obtain ⟨U,L,f2,f3,R,f5⟩:=J it @e;have hl:=S.length;exact wpAny_pyNext_tuple_end @bH st (show s.heap.IsTuple a its.toArray from p) (by simp;lia) λh' eb=>⟨rfl,I.turned (t':=s.toks) @dl U L f3 R f5⟩
 self:=λ_ _ _ _ _ st h=>wpAny_pyIter_tupleiter st h
theorem ye {P:Program}{w:World}{K:Fg}{tg:Expr}(it:Addr)(lo:Int)(n:Nat):vL P w K tg @gu [it] it (λi h=>IsRangeIter h it (lo+(i:Nat)*1) ((n:Int) - (i:Nat)) 1) where
 mem:=by simp
 obj:=λi h st b B=>by
  have e:b=it:=by simpa using B
  subst e
  exact ⟨_,st,λv z=>by
   have z':Data.fields _=Data.cell v:=z
   cases z'⟩
 keep:=λi h h' st k=>k it @e _ st
 item:=by
  intro X hP S O J i pins s σ H E I F st Y;subst hP S O;obtain ⟨U,L,f2,f3,R,Z⟩:=F it @e;have W:=Walks.range (prog:=X.prog) (w:=X.w) @en it lo 1 n;rwa[W.item i s _ _ Y st λv h' tk hv j kk=> ?_];obtain ⟨t,rfl⟩:=hv;have I1:av X pins σ H {s with heap:=h',toks:=tk}:=I.turned (λb o B e=>kk b o (by simpa using B) e) U L f3 R Z;rwa[⟨_,rfl,AR (s:= {s with heap:=h',toks:=tk}) (n:="range_iterator") j rfl rfl @c ⟨.int (lo+i),H,I1,⟨t,?_⟩,⟨rfl,rfl⟩,j,λb B=>(F b B).1⟩⟩];rw [Int.mul_one]
 done:=by
  intro X hP S O J i pins s σ H E I F st Y;subst hP S O;obtain ⟨U,L,f2,f3,R,Z⟩:=F it @e;exact wpAny_pyNext_range_end @en st (by have:n<=i:=Y;lia) λh' eb=>⟨rfl,I.turned (t':=s.toks) @dl U L f3 R Z⟩
 self:=λ_ _ _ _ _ st h=>wpAny_pyIter_rangeiter st h
section
variable {X:Cx}{tg:Expr}
theorem wR {pins:List (Addr×Obj)}{σ:St}{H:Hp}{s:Shared}{R:It->Hp->Prop}{E:Value->Shared->Prop}{lo hi:Int}{t u v:Tok}{tk:Nat}(I:av X pins σ H s)(h1: -(2^62)<=lo)(h2:lo<2^62)(L: -(2^62)<=hi)(j:hi<2^62)
(q:R (GQ lo (hi - lo).toNat) H):wpAny @d X.A (pyIter (.ref s.heap.objs.size)) @eo E {s with heap:=s.heap.push {cls:= .type "range",data:= .fields #[.int lo t,.int hi u,.int 1 v]},toks:=tk}:=by
 rwa[wpAny_pyIter_range (IsRange.new ..) (small_one h1 h2 L j) ?_];have z:av X pins σ H {s with heap:=s.heap.push {cls:= .type "range",data:= .fields #[.int lo t,.int hi u,.int 1 v]},toks:=tk}:=I.kept λb o e=>Heap.get?_push_of_some _ e
 refine ⟨(s.heap.push {cls:= .type "range",data:= .fields #[.int lo t,.int hi u,.int 1 v]}).objs.size,[(s.heap.push {cls:= .type "range",data:= .fields #[.int lo t,.int hi u,.int 1 v]}).objs.size],_,_,H,rfl,
  z.kept (t':=tk) λb o e=>Heap.get?_push_of_some _ e,ye _ lo (hi - lo).toNat,?_,λb B=> ?_,q⟩
 ·have F:lo+((0:Nat):Int)*1=lo:=by simp
  have O:(((hi - lo).toNat:Nat):Int) - ((0:Nat):Int)=Builtin.Range.rangeSize lo hi 1:=by rw [rangeSize_one];split<;>lia
  show IsRangeIter _ _ (lo+((0:Nat):Int)*1) ((((hi - lo).toNat:Nat):Int) - ((0:Nat):Int)) 1;rw [F,O];exact Heap.get?_push_size _ rfl
 ·have e:b=(s.heap.push {cls:= .type "range",data:= .fields #[.int lo t,.int hi u,.int 1 v]}).objs.size:=by simpa using B
  subst e;exact z.fpOk @f (z.hok.fresh @f)
def Q3 (wi:TI)(g:TG)(tb:TS):TS:=λD σ H=>wi σ H λJ H1=>∃W:Nat->Nat->St->Hp->Prop,(∃m,W 0 m σ H1)/\∀i m σ H,W i m σ H->
 (J.stop i H/\D.nx σ H)\/(J.go i H/\∃N:St->Hp->Prop,(∀σ' H',N σ' H'->∃m',m'<m/\W (i+1) m' σ' H')/\∀x H',J.yld i H x H'->g x σ H' λσ2 H2=>tb {D with nx:=N,ct:=N,bk:=D.nx} σ2 H2)
noncomputable def qH (fp:List Addr)(h:Heap):List (Addr×Obj):=fp.filterMap λb=>(h.get? b).map λo=>(b,o)
theorem gS {fp:List Addr}{h:Heap}{b:Addr}{o:Obj}(B:b∈fp)(e:h.get? b=some o):(b,o)∈qH fp h:=mem_filterMap.mpr ⟨b,B,by rw [e];rfl⟩
theorem BZ {fp:List Addr}{h:Heap}{p:Addr×Obj}(F:p∈qH fp h):p.1∈fp/\h.get? p.1=some p.2:=by
 obtain ⟨b,B,e⟩:=mem_filterMap.mp F
 cases q:h.get? b with
 |none=>rw [q] at e;cases e
 |some o=>
  rw [q] at e;have j:(b,o)=p:=Option.some.inj e;subst j;exact ⟨B,q⟩
theorem av.pinned {pins:List (Addr×Obj)}{σ:St}{H:Hp}{s:Shared}{fp:List Addr}(I:av X pins σ H s)(L:∀b∈fp,i8 X pins H b)(J:∀b∈fp,∃o,s.heap.get? b=some o/\∀v,o.data≠ .cell v):av X (pins++qH fp s.heap) σ H s:=
 I.pins_of λp F=>(mem_append.mp F).elim (λz=>I.pin p (mem_append_right _ z)) λz=>by
  obtain ⟨B,e⟩:=BZ z;obtain ⟨U,O,R,_⟩:=L p.1 B;obtain ⟨o,j,d⟩:=J p.1 B;rw [e] at j;cases j;exact ⟨e,U,O,R,d⟩
theorem av.unpinned {pins pl:List (Addr×Obj)}{σ:St}{H:Hp}{s:Shared}(I:av X (pins++pl) σ H s):av X pins σ H s:=I.pins_of λp F=>I.pin p (mem_append_right _ (mem_append_left _ F))
theorem LB {iter:Expr}{S:List Stmt}{wi:TI}{g:TG}{tb:TS}{pos:Pos}(hp:PassesOwn @d X.A X.env X.xe)(hc:X.calm=true)(hi:PI X tg iter wi)(hg:PG X tg g)(L:rT X S tb)
(hs:∀x,foldedSetIterable iter X.env x=pure x:=by intro _;rfl):PS X (.For tg iter S [] pos) (Q3 wi g tb):=by
 intro pins s σ H D I h;rwa[wpAny_For (br @bE λv s1 h1=>br h1 λag s2 h2=> ?_) hs];obtain ⟨it,fp,tn,J,H2,e,I2,T,ae,f2,W,⟨m0,w0⟩,Y⟩:=h2;subst e;have O:∀ {H':Hp},(∀b∈fp,H' b=none)->∀b∈fp,i8 X pins H' b:=λhn b L=>⟨hn b L,(f2 b L).2⟩;rwa[codeAny_forLoop_any (λn s'=>∃i Z H',av X pins Z H' s'/\tn i s'.heap/\(∀b∈fp,H' b=none)/\W i n Z H') ?_ m0 ⟨0,σ,H2,I2,ae,λb L=>(f2 b L).1,w0⟩];rintro n s3 ⟨i,σ3,H3,I3,ad,ab,w3⟩
 rcases Y i n σ3 H3 w3 with ⟨ac,qn⟩|⟨go,N,hN,aa⟩
 ·rwa[wpAny_passesOwn hp (br (T.done X rfl rfl rfl hc i pins s3 σ3 H3 X.xe I3 (O ab) ad ac) λr s4 ⟨hr,I4⟩=> ?_)];subst hr;exact wpAny_execs_nil ⟨σ3,H3,I4,qn⟩
 ·rwa[wpAny_passesOwn hp (br (T.item X rfl rfl rfl hc i pins s3 σ3 H3 X.xe I3 (O ab) ad go) λr s4 ⟨u,hr,h4⟩=> ?_)];subst hr;rwa[wpAny_passesOwn hp (br h4 λ_ s5 ⟨x,H5,I5,r5,y5,U,af⟩=> ?_)];have I5':=I5.pinned (O af) (T.obj _ _ U);rwa[wpAny_passesOwn hp (br (hg _ s5 σ3 H5 x u _ I5' r5 (aa x H5 y5)) λ_ s6 ⟨σ6,H6,I6,q6⟩=> ?_)];rwa[wpAny_passesOwn hp (br (L _ s6 σ6 H6 _ I6 q6) λf s7 R=> ?_)]
  have z:∀ {j:St} {B:Hp},av X (pins++qH fp s5.heap) j B s7->N j B->∃m,m<n/\∃i Z H',av X pins Z H' s7/\tn i s7.heap/\(∀b∈fp,H' b=none)/\W i m Z H':=λ{j B} F n7=>by
   obtain ⟨m',hm,w7⟩:=hN j B n7;rwa[⟨m',hm,i+1,j,B,F.unpinned,T.keep _ _ _ U λb L o e=>(F.pin (b,o) (mem_append_right _ (mem_append_right _ (gS L e)))).1,λb L=> ?_,w7⟩];obtain ⟨o,e,d⟩:=T.obj _ _ U b L;exact (F.pin (b,o) (mem_append_right _ (mem_append_right _ (gS L e)))).2.1
  cases f with
  |next=>obtain ⟨j,B,F,n7⟩:=R;exact z F n7
  |cont=>obtain ⟨j,B,F,n7⟩:=R;exact z F n7
  |brk=>obtain ⟨j,B,F,R⟩:=R;exact ⟨j,B,F.unpinned,R⟩
  |ret v=>obtain ⟨x7,j,B,F,r7,R⟩:=R;exact ⟨x7,j,B,F.unpinned,r7,R⟩
end
theorem FG {K:Fg}{a:Addr}{xs:List V}{g:TG}{tb:TS}{D:nR}{σ:St}{H:Hp}(j:Nat->St->Hp->Prop)(B:j 0 σ H)(I:∀i σ H,i<=xs.length->j i σ H->aA K H a xs)
(hs:∀i x σ H,xs[i]? =some x->j i σ H->g x σ H λσ2 H2=>tb {D with nx:=j (i+1),ct:=j (i+1),bk:=D.nx} σ2 H2)(J:∀σ H,j xs.length σ H->D.nx σ H):
 ∃W:Nat->Nat->St->Hp->Prop,(∃m,W 0 m σ H)/\∀i m σ H,W i m σ H->
  ((GE K a).stop i H/\D.nx σ H)\/((GE K a).go i H/\∃N:St->Hp->Prop,(∀σ' H',N σ' H'->∃m',m'<m/\W (i+1) m' σ' H')/\∀x H',(GE K a).yld i H x H'->g x σ H' λσ2 H2=>tb {D with nx:=N,ct:=N,bk:=D.nx} σ2 H2):=by
 rwa[⟨λi m σ H=>m=xs.length - i/\i<=xs.length/\j i σ H,⟨xs.length,by simp,Nat.zero_le _,B⟩,?_⟩];rintro i m σ H ⟨rfl,hi,p⟩;have q:=I i σ H hi p;by_cases z:i<xs.length
 ·rwa[.inr ⟨⟨xs,xs[i],q,by simp [z]⟩,j (i+1),λσ' H' F=>⟨xs.length - (i+1),by lia,rfl,z,F⟩,λx H' y=> ?_⟩];obtain ⟨e,y⟩:=y;subst e;exact hs i x σ _ (y xs q) p
 ·have e:i=xs.length:=by lia
  subst e;exact .inl ⟨⟨xs,q,Nat.le_refl _⟩,J σ H p⟩
theorem Jg {K:Fg}{a:Addr}{xs:List V}{g:TG}{tb:TS}{D:nR}{σ:St}{H:Hp}(j:Nat->St->Hp->Prop)(B:j 0 σ H)(I:∀i σ H,i<=xs.length->j i σ H->aB K H a xs)
(hs:∀i x σ H,xs[i]? =some x->j i σ H->g x σ H λσ2 H2=>tb {D with nx:=j (i+1),ct:=j (i+1),bk:=D.nx} σ2 H2)(J:∀σ H,j xs.length σ H->D.nx σ H):
 ∃W:Nat->Nat->St->Hp->Prop,(∃m,W 0 m σ H)/\∀i m σ H,W i m σ H->
  ((GD K a).stop i H/\D.nx σ H)\/((GD K a).go i H/\∃N:St->Hp->Prop,(∀σ' H',N σ' H'->∃m',m'<m/\W (i+1) m' σ' H')/\∀x H',(GD K a).yld i H x H'->g x σ H' λσ2 H2=>tb {D with nx:=N,ct:=N,bk:=D.nx} σ2 H2):=by
 rwa[⟨λi m σ H=>m=xs.length - i/\i<=xs.length/\j i σ H,⟨xs.length,by simp,Nat.zero_le _,B⟩,?_⟩];rintro i m σ H ⟨rfl,hi,p⟩;have q:=I i σ H hi p;by_cases z:i<xs.length
 ·rwa[.inr ⟨⟨xs,xs[i],q,by simp [z]⟩,j (i+1),λσ' H' F=>⟨xs.length - (i+1),by lia,rfl,z,F⟩,λx H' y=> ?_⟩];obtain ⟨e,y⟩:=y;subst e;exact hs i x σ _ (y xs q) p
 ·have e:i=xs.length:=by lia
  subst e;exact .inl ⟨⟨xs,q,Nat.le_refl _⟩,J σ H p⟩
theorem Cm {lo:Int}{n:Nat}{g:TG}{tb:TS}{D:nR}{σ:St}{H:Hp}(j:Nat->St->Hp->Prop)(B:j 0 σ H)
(hs:∀i σ H,i<n->j i σ H->g (.int (lo+i)) σ H λσ2 H2=>tb {D with nx:=j (i+1),ct:=j (i+1),bk:=D.nx} σ2 H2)(J:∀σ H,j n σ H->D.nx σ H):
 ∃W:Nat->Nat->St->Hp->Prop,(∃m,W 0 m σ H)/\∀i m σ H,W i m σ H->
  ((GQ lo n).stop i H/\D.nx σ H)\/((GQ lo n).go i H/\∃N:St->Hp->Prop,(∀σ' H',N σ' H'->∃m',m'<m/\W (i+1) m' σ' H')/\∀x H',(GQ lo n).yld i H x H'->g x σ H' λσ2 H2=>tb {D with nx:=N,ct:=N,bk:=D.nx} σ2 H2):=by
 rwa[⟨λi m σ H=>m=n - i/\i<=n/\j i σ H,⟨n,by simp,Nat.zero_le _,B⟩,?_⟩];rintro i m σ H ⟨rfl,hi,p⟩;by_cases z:i<n
 ·rwa[.inr ⟨z,j (i+1),λσ' H' F=>⟨n - (i+1),by lia,rfl,z,F⟩,λx H' y=> ?_⟩];obtain ⟨e,y⟩:=y;subst e y;exact hs i σ _ z p
 ·have e:i=n:=by lia
  subst e;exact .inl ⟨Nat.le_refl _,J σ H p⟩
abbrev R2:=V->V->Hp->VK->Prop
def cG (X:Cx)(f:Value->Value->Sem Value)(r:R2):Prop:=
 ∀(pins:List (Addr×Obj)) (s:Shared) (σ:St) (H:Hp) (x y:V) (v u:Value) (Q:VK),av X pins σ H s->ay x v->ay y u->r x y H Q->
  wpAny @d X.A (f v u) @p X.xe s
def Nq (X:Cx)(f:Value->Sem Value)(r:V->Hp->VK->Prop):Prop:=
 ∀(pins:List (Addr×Obj)) (s:Shared) (σ:St) (H:Hp) (x:V) (v:Value) (Q:VK),av X pins σ H s->ay x v->r x H Q->
  wpAny @d X.A (f v) @p X.xe s
def bf (X:Cx)(f:Value)(r:List V->Hp->VK->Prop):Prop:=
 ∀(pins:List (Addr×Obj)) (s:Shared) (σ:St) (H:Hp) (xs:List V) (us:List Value) (Q:VK),av X pins σ H s->aJ xs us->r xs H Q->
  wpAny @d X.A (call f us) @p X.xe s
def RL (X:Cx)(r:V->Hp->(Bool->Hp->Prop)->Prop):Prop:=
 ∀(pins:List (Addr×Obj)) (s:Shared) (σ:St) (H:Hp) (x:V) (v:Value) (Q:Bool->Hp->Prop),av X pins σ H s->ay x v->r x H Q->
  wpAny @d X.A (truthy v) @dF X.xe s
def P5 (r:R2)(ta tb:TE):TE:=λσ H Q=>ta σ H λx H1=>tb σ H1 λy H2=>r x y H2 Q
def R7 (r:V->Hp->VK->Prop)(ta:TE):TE:=λσ H Q=>ta σ H λx H1=>r x H1 Q
def rI (C:Int->Int->Prop)(g:Int->Int->V):R2:=λx y H Q=>∃i j,x= .int i/\y= .int j/\C i j/\Q @cR H
def Ef (g:Int->Int->V):R2:=λx y H Q=>∃i j,x= .int i/\y= .int j/\Q @cR H
def rU (g:Int->V):V->Hp->VK->Prop:=λx H Q=>∃i,x= .int i/\Q (g i) H
section
variable {X:Cx}{a b c:Expr}{ta tb tc:TE}{pos:Pos}
theorem Nb (j:PE X a ta)(U:PE X b tb){pins:List (Addr×Obj)}{s:Shared}{σ:St}{H:Hp}{R:V->V->Hp->Prop}(I:av X pins σ H s)
(h:ta σ H λx H1=>tb σ H1 λy H2=>R x y H2){Q:Value->Shared->Prop}{f:Value->Value->Sem Value}
(z:∀v u s2 x y H2,av X pins σ H2 s2->ay x v->ay y u->R x y H2->wpAny @d X.A (f v u) Q X.xe s2):
 wpAny @d X.A (eval a X.env) (λv s₁=>wpAny @d X.A (eval b X.env) (λu s₂=>wpAny @d X.A (f v u) Q X.xe s₂) X.xe s₁) X.xe s:=by
 rwa[br @cB λv J ⟨x,H1,O,S,F⟩=> ?_];rwa[br (U pins J σ H1 _ O F) λu s2 ⟨y,H2,B,L,W⟩=> ?_];exact z v u s2 x y H2 B S L W
theorem dE {op:Operator}{r:R2}(j:cG X (binaryOp op) r)(F:PE X a ta)(J:PE X b tb):PE X (.BinOp a op b pos) @fb:=by
 intro pins s σ H Q I h;exact wpAny_BinOp (Nb F J I h λv u O x y H2 B L z q=>j pins O σ H2 x y v u Q B L z q)
theorem OE {op:UnaryOp}{r:V->Hp->VK->Prop}(j:Nq X (unaryOp op) r)(F:PE X a ta):PE X (.UnaryOp op a pos) (R7 r ta):=by
 intro pins s σ H Q I h;exact UnaryOp_ (br (F pins s σ H _ I h) λv J ⟨x,H1,z,B,L⟩=>j pins J σ H1 x v Q z B L)
theorem Qb {f:Value->Value->Sem Value}{C:Int->Int->Prop}{g:Int->Int->Int}
(z:∀(i j:Int) (t u:Tok) (s:Shared) (Q:Value->Shared->Prop) (E:Value->Shared->Prop),C i j->Q (.int @cR s.toks) {s with toks:=s.toks+1}->wpAny @d X.A @dd Q E s):
 cG X f (rI C λi j=> .int @cR):=by
 intro pins s σ H x y v u Q I L B h;obtain ⟨i,j,rfl,rfl,J,q⟩:=h;obtain ⟨t,rfl⟩:=L;obtain ⟨F,rfl⟩:=B;exact z i j t F s _ _ J ⟨.int @cR,H,I.tok _,⟨_,rfl⟩,q⟩
theorem Il {f:Value->Value->Sem Value}{g:Int->Int->Int}
(z:∀(i j:Int) (t u:Tok) (s:Shared) (Q:Value->Shared->Prop) (E:Value->Shared->Prop),Q (.int @cR s.toks) {s with toks:=s.toks+1}->wpAny @d X.A @dd Q E s):
 cG X f (Ef λi j=> .int @cR):=by
 intro pins s σ H x y v u Q I L B h;obtain ⟨i,j,rfl,rfl,q⟩:=h;obtain ⟨t,rfl⟩:=L;obtain ⟨F,rfl⟩:=B;exact z i j t F s _ _ ⟨.int @cR,H,I.tok _,⟨_,rfl⟩,q⟩
theorem Im {f:Value->Value->Sem Value}{g:Int->Int->Bool}
(z:∀(i j:Int) (t u:Tok) (s:Shared) (Q:Value->Shared->Prop) (E:Value->Shared->Prop),Q (.bool @cR) s->wpAny @d X.A @dd Q E s):
 cG X f (Ef λi j=> .bl @cR):=by
 intro pins s σ H x y v u Q I L B h;obtain ⟨i,j,rfl,rfl,q⟩:=h;obtain ⟨t,rfl⟩:=L;obtain ⟨F,rfl⟩:=B;exact z i j t F s _ _ ⟨.bl @cR,H,I,rfl,q⟩
def CK (i j:Int):Prop:=0<j/\j<1073741824
def GM (i j:Int):Prop:=0<=j/\j<=1000000/\i.natAbs<2^64
def rX (i j:Int):Prop:=(-(2^64)<i/\i<2^64)\/(-(2^64)<j/\j<2^64)
theorem rX.ok {i j:Int}(h:rX i j):IntMulOk i j:=by
 rcases h with ⟨h1,h2⟩|⟨h1,h2⟩
 ·exact .of_left (intBits_le_64 h1 h2)
 ·exact .of_right (intBits_le_64 h1 h2)
theorem LS:cG X @bv (Ef λi j=> .int (i+j)):=Il λ_ _ _ _ _ _ _ q=>add_int q
theorem LL:cG X (binaryOp .Sub) (Ef λi j=> .int (i - j)):=Il λ_ _ _ _ _ _ _ q=>sub_int q
theorem LN:cG X @fh (rI rX λi j=> .int (i*j)):=Qb λ_ _ _ _ _ _ _ I q=>mul_int q I.ok
theorem Ii:cG X (binaryOp .FloorDiv) (rI CK λi j=> .int (i / j)):=Qb λi j _ _ _ _ _ I q=>by
 have h1:(0:Int)<j:=I.1;have h2:j<1073741824:=I.2;exact floordiv_int @b (by rw [Int.fdiv_eq_ediv_of_nonneg i @b];exact q) (.inl (PyProof.noPylong_small @b))
theorem LO:cG X (binaryOp .Mod) (rI (λ_ j=>0<j) λi j=> .int (i% j)):=Qb λi j _ _ _ _ _ I q=>by
 have h1:(0:Int)<j:=I;exact mod_int' @b (by rw [Int.fmod_eq_emod_of_nonneg i @b];exact q)
theorem LM:cG X (binaryOp .LShift) (rI GM λi j=> .int (i*2^j.toNat)):=Qb λ_ _ _ _ _ _ _ I q=>lshift_int_small I.1 I.2.1 I.2.2 q
theorem LR:cG X (binaryOp .BitAnd) (Ef λi j=> .int (Builtin.bitAnd i j)):=Il λ_ _ _ _ _ _ _ q=>and_int q
theorem OH:cG X (binaryOp .BitOr) (Ef λi j=> .int (Builtin.bitOr i j)):=Il λ_ _ _ _ _ _ _ q=>or_int q
theorem R6 {f:Value->Sem Value}{g:Int->Int}
(z:∀(i:Int) (t:Tok) (s:Shared) (Q:Value->Shared->Prop) (E:Value->Shared->Prop),Q (.int (g i) s.toks) {s with toks:=s.toks+1}->wpAny @d X.A (f (.int i t)) Q E s):
 Nq X f (rU λi=> .int (g i)):=by
 intro pins s σ H x v Q I L h;obtain ⟨i,rfl,q⟩:=h;obtain ⟨t,rfl⟩:=L;exact z i t s _ _ ⟨.int (g i),H,I.tok _,⟨_,rfl⟩,q⟩
theorem KO:Nq X (unaryOp .USub) (rU λi=> .int (-i)):=R6 λ_ _ _ _ _ q=>neg_int q
end
noncomputable def Lj:V->V->Bool
 | .non,.non=>true| .non,.int _=>true| .int _,.non=>true| .non,.bl _=>true| .bl _,.non=>true| .non,.str _=>true| .str _,.non=>true
 | .int _,.int _=>true| .bl _,.bl _=>true| .str _,.str _=>true| .byt _,.byt _=>true
 | .int _,.str _=>true| .str _,.int _=>true| .bl _,.str _=>true| .str _,.bl _=>true
 |_,_=>false
def Sc:R2:=λx y H Q=>Lj x y=true/\Q (.bl (decide (x=y))) H
def Sb:R2:=λx y H Q=>Lj x y=true/\Q (.bl (!decide (x=y))) H
theorem AX {i j:Int}:decide (V.int i=V.int j)=(i==j):=by
 rw [Bool.eq_iff_iff];simp
theorem FU {i j:Bool}:decide (V.bl i=V.bl j)=(i==j):=by
 rw [Bool.eq_iff_iff];simp
theorem AW {i j:Str}:decide (V.str i=V.str j)=(i==j):=by
 rw [Bool.eq_iff_iff];simp
theorem AY {i j:Array UInt8}:decide (V.byt i=V.byt j)=(i.toList==j.toList):=by
 rw [Bool.eq_iff_iff];cases i;cases j;simp
section
variable {X:Cx}{a b c:Expr}{ta tb tc:TE}{pos:Pos}
theorem aS {pins:List (Addr×Obj)}{σ:St}{H:Hp}{s:Shared}{Q:VK}{k j:Bool}(I:av X pins σ H s)(q:Q (.bl k) H)(e:k=j):EP X pins σ Q (.bool j) s:=by
 subst e;exact ⟨.bl k,H,I,rfl,q⟩
theorem ON:cG X @fq Sc:=by
 intro pins s σ H x y v u Q I L z h;obtain ⟨hs,q⟩:=h
 cases x with
 |non=>
  cases L
  cases y with
  |non=>cases z;exact PySem.EqNone.eq_none_none @F
  |bl j=>cases z;exact PySem.EqNone.eq_none_bool @F
  |int j=>obtain ⟨B,rfl⟩:=z;exact PySem.EqNone.eq_none_int @F
  |str j=>obtain ⟨B,rfl⟩:=z;exact PySem.EqNone.eq_none_str @F
  |_=>exact absurd (show false=true from hs) Bool.false_ne_true
 |bl i=>
  cases L
  cases y with
  |non=>cases z;exact PySem.EqNone.eq_bool_none @F
  |bl j=>cases z;exact eq_bool (aS I q FU)
  |str j=>obtain ⟨B,rfl⟩:=z;exact PySem.EqMixed.eq_bool_str @F
  |_=>exact absurd (show false=true from hs) Bool.false_ne_true
 |int i=>
  obtain ⟨t,rfl⟩:=L
  cases y with
  |non=>cases z;exact PySem.EqNone.eq_int_none @F
  |int j=>obtain ⟨B,rfl⟩:=z;exact eq_int (aS I q AX)
  |str j=>obtain ⟨B,rfl⟩:=z;exact PySem.EqMixed.eq_int_str @F
  |_=>exact absurd (show false=true from hs) Bool.false_ne_true
 |str i=>
  obtain ⟨t,rfl⟩:=L
  cases y with
  |non=>cases z;exact PySem.EqNone.eq_str_none @F
  |bl j=>cases z;exact PySem.EqMixed.eq_str_bool @F
  |int j=>obtain ⟨B,rfl⟩:=z;exact PySem.EqMixed.eq_str_int @F
  |str j=>obtain ⟨B,rfl⟩:=z;exact eq_str (aS I q AW)
  |_=>exact absurd (show false=true from hs) Bool.false_ne_true
 |byt i=>
  obtain ⟨t,rfl⟩:=L
  cases y with
  |byt j=>obtain ⟨B,rfl⟩:=z;exact W.eq_bytes (aS I q AY)
  |_=>exact absurd (show false=true from hs) Bool.false_ne_true
 |_=>cases y<;>exact absurd (show false=true from hs) Bool.false_ne_true
theorem OI:cG X (compareOp .NotEq) Sb:=by
 intro pins s σ H x y v u Q I L z h;obtain ⟨hs,q⟩:=h
 cases x with
 |non=>
  cases L
  cases y with
  |non=>cases z;exact PySem.EqNone.ne_none_none @F
  |bl j=>cases z;exact PySem.EqNone.ne_none_bool @F
  |int j=>obtain ⟨B,rfl⟩:=z;exact PySem.EqNone.ne_none_int @F
  |str j=>obtain ⟨B,rfl⟩:=z;exact PySem.EqNone.ne_none_str @F
  |_=>exact absurd (show false=true from hs) Bool.false_ne_true
 |bl i=>
  cases L
  cases y with
  |non=>cases z;exact PySem.EqNone.ne_bool_none @F
  |bl j=>cases z;exact ne_bool (aS I q (congrArg not FU))
  |str j=>obtain ⟨B,rfl⟩:=z;exact PySem.EqMixed.ne_bool_str @F
  |_=>exact absurd (show false=true from hs) Bool.false_ne_true
 |int i=>
  obtain ⟨t,rfl⟩:=L
  cases y with
  |non=>cases z;exact PySem.EqNone.ne_int_none @F
  |int j=>obtain ⟨B,rfl⟩:=z;exact ne_int (aS I q (congrArg not AX))
  |str j=>obtain ⟨B,rfl⟩:=z;exact PySem.EqMixed.ne_int_str @F
  |_=>exact absurd (show false=true from hs) Bool.false_ne_true
 |str i=>
  obtain ⟨t,rfl⟩:=L
  cases y with
  |non=>cases z;exact PySem.EqNone.ne_str_none @F
  |bl j=>cases z;exact PySem.EqMixed.ne_str_bool @F
  |int j=>obtain ⟨B,rfl⟩:=z;exact PySem.EqMixed.ne_str_int @F
  |str j=>obtain ⟨B,rfl⟩:=z;exact ne_str (aS I q (congrArg not AW))
  |_=>exact absurd (show false=true from hs) Bool.false_ne_true
 |byt i=>
  obtain ⟨t,rfl⟩:=L
  cases y with
  |byt j=>obtain ⟨B,rfl⟩:=z;exact W.ne_bytes (aS I q (congrArg not AY))
  |_=>exact absurd (show false=true from hs) Bool.false_ne_true
 |_=>cases y<;>exact absurd (show false=true from hs) Bool.false_ne_true
theorem OJ:cG X (compareOp .Lt) (Ef λi j=> .bl (decide (i<j))):=Im λ_ _ _ _ _ _ _ q=>lt_int q
theorem OK:cG X (compareOp .LtE) (Ef λi j=> .bl (decide (i<=j))):=Im λ_ _ _ _ _ _ _ q=>le_int q
theorem OL:cG X (compareOp .Gt) (Ef λi j=> .bl (decide (j<i))):=Im λ_ _ _ _ _ _ _ q=>gt_int q
theorem OM:cG X (compareOp .GtE) (Ef λi j=> .bl (decide (j<=i))):=Im λ_ _ _ _ _ _ _ q=>ge_int q
theorem BL:cG X @dP (λx y H Q=>∃i j,x= .str i/\y= .str j/\Q (.bl (!(Builtin.Str.occurrences j i 0 j.length 1).isEmpty)) H):=by
 intro pins s σ H x y v u Q I L z h;obtain ⟨i,j,rfl,rfl,q⟩:=h;obtain ⟨t,rfl⟩:=L;obtain ⟨B,rfl⟩:=z;exact in_str (aS I q rfl)
theorem LP:cG X (compareOp .Is) (λx y H Q=>y= .non/\Q (.bl (decide (x= .non))) H):=by
 intro pins s σ H x y v u Q I L z h;obtain ⟨rfl,q⟩:=h;cases z;rwa[is_none_gen (aS I q ?_)]
 cases x<;>first
  |(cases L;rfl)
  |(obtain ⟨t,rfl⟩:=L;rfl)
theorem Ih:cG X (compareOp .IsNot) (λx y H Q=>y= .non/\Q (.bl (!decide (x= .non))) H):=by
 intro pins s σ H x y v u Q I L z h;obtain ⟨rfl,q⟩:=h;cases z;rwa[isnot_none_gen (aS I q ?_)]
 cases x<;>first
  |(cases L;rfl)
  |(obtain ⟨t,rfl⟩:=L;rfl)
theorem vi:cG X @cm (λx y H Q=>∃i j,x= .str i/\y= .str j/\Q (.bl (!(!(Builtin.Str.occurrences j i 0 j.length 1).isEmpty))) H):=by
 intro pins s σ H x y v u Q I L z h;obtain ⟨i,j,rfl,rfl,q⟩:=h;obtain ⟨t,rfl⟩:=L;obtain ⟨B,rfl⟩:=z;exact notIn_str (aS I q rfl)
theorem cG.or {f:Value->Value->Sem Value}{r R:R2}(h:cG X f r)(h':cG X f R):cG X f (λx y H Q=>r x y H Q\/R x y H Q):=by
 intro pins s σ H x y v u Q I L z q
 rcases q with q|q
 ·exact h pins s σ H x y v u Q I L z q
 ·exact h' pins s σ H x y v u Q I L z q
theorem bF (b:Expr){op:CmpOp}(h:op≠ .In:=by decide)(h2:op≠ .NotIn:=by decide):behindInMarks op b=false:=by
 have R:(op==CmpOp.In)=false:=by cases op<;>first|rfl|exact absurd rfl h
 have O:(op==CmpOp.NotIn)=false:=by cases op<;>first|rfl|exact absurd rfl h2
 cases b<;>simp [behindInMarks,R,O]
theorem dG {op:CmpOp}{r:R2}(F:cG X @eh r)(z:PE X a ta)(O:PE X b tb)(B:behindInMarks op b=false):PE X (.Compare a [op] [b] pos) @fb:=by
 intro pins s σ H Q I h;exact wpAny_Compare1 (Nb z O I h λv u R x y H2 j L J q=>F pins R σ H2 x y v u Q j L J q) B
def PK (K:Fg)(x:V)(H:Hp)(k:Bool):Prop:=
 match x with
 | .non=>k=false
 | .bl b=>k=b
 | .int i=>k=(i != 0)
 | .str y=>y.length<=sizeLine/\k=((y.length:Int) != 0)
 | .byt y=>y.size<=sizeLine/\k=((y.size:Int) != 0)
 | .ref p=>(∃xs,aA K H p xs/\k= !xs.isEmpty)\/(∃xs,aB K H p xs/\k= !xs.isEmpty)\/∃kvs,H p=some (.dK kvs)/\k= !kvs.isEmpty
 |_=>False
theorem zu {κ:Type}{kvs:List (κ×V)}{vs:List (κ×Value)}(r:KV kvs vs):(!vs.isEmpty)= !kvs.isEmpty:=by
 cases r<;>rfl
theorem re {xs:List V}{its:List Value}(r:aJ xs its):(!its.toArray.isEmpty)= !xs.isEmpty:=by
 cases r<;>simp
theorem j6:(sizeLine:Nat)<2^63:=by rw [sizeLine_eq];decide
theorem iE:RL X (λx H Q=>∃k,PK X.K x H k/\Q k H):=by
 intro pins s σ H x v Q I L h;obtain ⟨k,e,q⟩:=h;have S:=j6;have hs:sizeLine=16777216:=sizeLine_eq
 cases x with
 |non=>
  cases L;have j:k=false:=e;subst j;exact truthy_none ⟨H,I,q⟩
 |bl b=>
  cases L;have j:k=b:=e;subst j;exact wpAny_truthy_bool ⟨H,I,q⟩
 |int i=>
  obtain ⟨t,rfl⟩:=L;have j:k=(i != 0):=e;subst j;exact PySem.P.truthy_int ⟨H,I,q⟩
 |str y=>
  obtain ⟨t,rfl⟩:=L;obtain ⟨J,j⟩:y.length<=sizeLine/\k=((y.length:Int) != 0):=e;subst j;exact PySem.P.truthy_str @b ⟨H,I.tok _,q⟩
 |byt y=>
  obtain ⟨t,rfl⟩:=L;obtain ⟨J,j⟩:y.size<=sizeLine/\k=((y.size:Int) != 0):=e;subst j;exact W.truthy_bytes @b ⟨H,I.tok _,q⟩
 |ref p=>
  cases L;have j:(∃xs,aA X.K H p xs/\k= !xs.isEmpty)\/(∃xs,aB X.K H p xs/\k= !xs.isEmpty)\/∃kvs,H p=some (.dK kvs)/\k= !kvs.isEmpty:=e
  rcases j with ⟨xs,B,j⟩|⟨xs,B,j⟩|⟨kvs,B,j⟩
  ·subst j;obtain ⟨its,r,pl,F⟩:=I.list B;have z:=r.length;exact wpAny_truthy_list pl.isList (by simp only [size_toArray];lia) ⟨H,I.tok _,by rw [re r];exact q⟩
  ·subst j;obtain ⟨its,r,pl,F⟩:=I.tuple B;have z:=r.length;exact truthy_tuple pl (by simp only [size_toArray];lia) ⟨H,I.tok _,by rw [re r];exact q⟩
  ·subst j;obtain ⟨F,O,R,r,m⟩:kvs.length<=sizeLine/\(p==sysModules)=false/\∃R,KV kvs R/\s.heap.DictOf (b8 X.prog X.w) p R:=I.hok p _ B;have z:kvs.length=R.length:=Paired.length r;exact wpAny_truthy_dict O m @b ⟨H,I.tok _,by rw [zu r];exact q⟩
 |_=>exact (show False from e).elim
theorem y0:cG X @bv (λx y H Q=>∃i j,x= .str i/\y= .str j/\i.length+j.length<=sizeLine/\Q (.str (i++j)) H):=by
 intro pins s σ H x y v u Q I L z h;obtain ⟨i,j,rfl,rfl,F,q⟩:=h;obtain ⟨t,rfl⟩:=L;obtain ⟨B,rfl⟩:=z;exact add_str (λB tk=>⟨.str (i++j),H,I.tok _,⟨_,rfl⟩,q⟩) F
theorem fR {x:V}{us:List Value}(r:aJ [x] us):∃u,us=[u]/\ay x u:=by
 cases r with
 |cons r1 r2=>cases r2;exact ⟨_,rfl,r1⟩
theorem Db {x y:V}{us:List Value}(r:aJ [x,y] us):∃u w',us=[u,w']/\ay x u/\ay y w':=by
 cases r with
 |cons r1 r2=>
  cases r2 with
  |cons r3 r4=>cases r4;exact ⟨_,_,rfl,r1,r3⟩
theorem Ga:bf X (.builtin "abs") (λxs H Q=>∃i,xs=[.int i]/\Q (.int (if i<0 then -i else i)) H):=by
 intro pins s σ H xs j Q I r h;obtain ⟨i,rfl,q⟩:=h;obtain ⟨u,rfl,t,rfl⟩:=fR r;exact call_abs_int λu tk=>⟨.int (if i<0 then -i else i),H,I.tok _,⟨_,rfl⟩,q⟩
theorem CA:bf X (.type "int") (λxs H Q=>(∃i,xs=[.int i]/\Q (.int i) H)\/∃k,xs=[.bl k]/\Q (.int (if k then 1 else 0)) H):=by
 intro pins s σ H xs j Q I r h
 rcases h with ⟨i,rfl,q⟩|⟨k,rfl,q⟩
 ·obtain ⟨u,rfl,t,rfl⟩:=fR r;exact call_int_int ⟨.int i,H,I,⟨_,rfl⟩,q⟩
 ·obtain ⟨u,rfl,B⟩:=fR r;cases B;exact call_int_bool ⟨.int (if k then 1 else 0),H,I.tok _,⟨_,rfl⟩,q⟩
end
structure z8 (h:Heap)(x dx C:Addr)(mA:Str->Option Value):Prop where
 obj:h.get? x=some @dI
 ns:h.Ns1 dx mA
 ne:dx≠x
theorem B7 {h:Heap}{dx:Addr}{mA:Str->Option Value}(n:h.Ns1 dx mA):∃od,h.get? dx=some od/\∀name,W.lookIn name od=some (mA name):=by
 obtain ⟨o,es,O,I,L,R,_,B⟩:=n;rwa[⟨o,I,λname=> ?_⟩];have e:=B name;unfold nsFind findBy at e;rw [<-Array.find?_toList] at e;unfold W.lookIn;rw [L];dsimp only;split
 ·rename_i y q;rw [q] at e;exact congrArg some e
 ·rename_i q;rw [q] at e
  have a:es.toList.any (·.refKey)=false:=by
   rw [any_eq_false];intro y J;obtain ⟨z,t,j⟩:=R y (Array.mem_toList_iff.mp J);simp [DictEntry.refKey,j]
  have F: ¬es.toList.any (·.refKey)=true:=by rw [a];exact Bool.false_ne_true
  rw [if_neg F];exact congrArg some e
theorem z8.look {h:Heap}{x dx C:Addr}{mA:Str->Option Value}(I:z8 h x dx C mA):∃od,PySem.W.InstAt h x @dI C (some od)/\∀name,W.lookIn name od=some (mA name):=
 let ⟨od,ho,hl⟩:=B7 I.ns
 ⟨od,⟨I.obj,rfl,rfl,ho⟩,hl⟩
section
variable {prog:Program}{w:World}{A:Around}{E:Value->Shared->Prop}{s:Shared}{K:Fg}{x dx C f:Addr}{mA:Str->Option Value}{name:Str}{v:Value}
theorem Je {j:Bool}{Q:Value->Shared->Prop}(X:K.In s.heap)(I:z8 s.heap x dx C mA)(L:W.plainGet K C name=true)(F:W.hasDictIn K C=true)
(B:W.findIn K (.ref C) name=some none)(Y:mA name=some v)(z:W.handedIn v=true)(h:Q v {s with toks:=s.toks+1}):
 wpAny @h A (getAttr (.ref x) name j) Q E s:=by
 obtain ⟨R,J,O⟩:=I.look;exact W.get_value X J (W.plainGet_of L).1 (W.findObj_own F B rfl (by rw [O,Y])) z h
theorem Fy {pl:Sem Bool}{Q:Value×List Value->Shared->Prop}(X:K.In s.heap)(I:z8 s.heap x dx C mA)(j:W.plainGet K C name=true)
(B:W.findIn K (.ref C) name=some @bb)(z:W.isFn K (.ref f)=true)(Y:mA name=none)(h:Q (.ref f,[.ref x]) s):
 wpAny @h A (getMethod (.ref x) name pl) Q E s:=by
 obtain ⟨L,J,F⟩:=I.look;exact W.method_fn X J (W.plainGet_of j).1 (W.plainGet_of j).2 B (beq_iff_eq.mp z) (by show (W.lookIn name L).map (·.isSome)=some false;rw [F,Y];rfl) h
theorem Ho {R:List Str}{Q:Unit->Shared->Prop}(X:K.In s.heap)(I:z8 s.heap x dx C mA)
(hs:W.findIn K (.ref C) "__setattr__"=some (some (.builtin "object.__setattr__")))(U:W.plainOver K C=true)(ht:W.takerIn K C name=some none)(Z:W.hasDictIn K C=true)
(hw:PySem.Within mA R)(hsz:R.length<=sizeLine)
(h:∀h',z8 h' x dx C (λy=>if y=name then some v else mA y)->Heap.SameBut dx s.heap h'->Q () {s with heap:=h',toks:=s.toks+2}):
 wpAny @h A (setAttr (.ref x) name v) Q E s:=by
 obtain ⟨od,J,hl⟩:=I.look;rwa[W.set_plain X J hs (W.osa_open (s:= {s with toks:=s.toks+1}) (r:=none) X J U ht λb=> ?_)];obtain ⟨cd,Y,F⟩:=W.any_some Z;have hx:s.heap.get? x=some ⟨.ref C,some dx,.plain,#[]⟩:=I.obj;rwa[wpAny_bind (wpAny_pure (wpAny_bind (wpAny_bind (wpAny_loadPart hx (wpAny_bind (PySem.W.Looks.here (s:= {s with toks:=s.toks+1}) (W.looks_clsIn X Y) ?_))))))];rw [F];rwa[wpAny_pure (a:=some dx) (wpAny_bind (wpAny_pure @fr))];rwa[wpAny_nsSet1 (s:= {s with toks:=s.toks+1}) I.ns λh' z j=> ?_];obtain ⟨oD,S,aa,L,B,O⟩:=z.count (PySem.Within.cons name v hw);rwa[wpAny_bind (wpAny_lookBehind L (by rw [B];exact pastItsLine_dict (Nat.le_trans O (by rw [length_cons];lia))) ?_)];exact wpAny_pure (h _ ⟨(j.2 _ (Ne.symm I.ne)).trans I.obj,z,I.ne⟩ j)
theorem Fc {R:Result->Shared->Prop}{vs:List Value}{z:List (Str×Value)}(X:K.In s.heap)(B:W.makesIn K C=true)
(hi:W.findIn K (.ref C) "__init__"=some @bb)(F:W.typeIn K (.ref f)=some (.type "function"))
(h:codeAny @h (A.under (.builtin "type.__call__" ⟨.ref C::vs,z⟩)) (.call (.ref f) ⟨.ref (s.heap.objs.size+1)::vs,z⟩) (PySem.W.InitBack (s.heap.objs.size+1) R)
   {s with heap:=(s.heap.push W.emptyDict).push @r}):
 codeAny @h A (.call (.ref C) ⟨vs,z⟩) R s:=by
 obtain ⟨I,g,d,t,os⟩:=s;exact W.make_core (W.makes_of X B) (W.looks_findIn X hi) (λj=>W.bind_fn X j F) (.inl rfl) h
theorem B5 {R:Result->Shared->Prop}(X:K.In s.heap)(B:W.makesIn K C=true)
(hi:W.findIn K (.ref C) "__init__"=some (some (.builtin "object.__init__")))
(j:∀self,PySem.W.Looks @h s.heap (bindSpecial (.builtin "object.__init__") self) (.builtin "object.__init__",[self]))
(h:codeAny @h (A.under (.builtin "type.__call__" ⟨[.ref C],[]⟩)) (.call (.builtin "object.__init__") ⟨[.ref (s.heap.objs.size+1)],[]⟩) (PySem.W.InitBack (s.heap.objs.size+1) R)
   {s with heap:=(s.heap.push W.emptyDict).push @r}):
 codeAny @h A (.call (.ref C) ⟨[],[]⟩) R s:=by
 obtain ⟨F,g,d,t,os⟩:=s;exact W.make_core (W.makes_of X B) (W.looks_findIn X hi) j (.inr ⟨rfl,rfl⟩) h
end
noncomputable def putF (f:Str)(v:V):List (Str×V)->List (Str×V)
 |[]=>[(f,v)]
 |(g,x)::r=>if g=f then (g,v)::r else (g,x)::putF f v r
theorem on (f g:Str)(v:V):∀fs:List (Str×V),(putF f v fs).lookup g=if g=f then some v else fs.lookup g
 |[]=>by
  show List.lookup g [(f,v)]=_;by_cases h:g=f
  ·have B:(g==f)=true:=beq_iff_eq.mpr h;simp only [List.lookup,B,if_pos h]
  ·have B:(g==f)=false:=beq_eq_false_iff_ne.mpr h;simp only [List.lookup,B,if_neg h]
 |(k,x)::r=>by
  have j:=on f g v r;rw [show putF f v ((k,x)::r)=(if k=f then (k,v)::r else (k,x)::putF f v r) from rfl];by_cases R:k=f
  ·rw [if_pos R];by_cases h:g=k
   ·have B:(g==k)=true:=beq_iff_eq.mpr h;simp only [List.lookup,B,if_pos (h.trans R)]
   ·have B:(g==k)=false:=beq_eq_false_iff_ne.mpr h;simp only [List.lookup,B,if_neg (λe:g=f=>h (e.trans R.symm))]
  ·rw [if_neg R];by_cases h:g=k
   ·have B:(g==k)=true:=beq_iff_eq.mpr h;simp only [List.lookup,B,if_neg (λe:g=f=>R (h.symm.trans e))]
   ·have B:(g==k)=false:=beq_eq_false_iff_ne.mpr h;simp only [List.lookup,B];exact j
theorem ng (f:Str)(v:V):∀fs:List (Str×V),f∈(putF f v fs).map (·.1)/\∀g,g∈fs.map (·.1)->g∈(putF f v fs).map (·.1)
 |[]=>⟨by simp [putF],λg h=>by simp at h⟩
 |(k,x)::r=>by
  obtain ⟨j,z⟩:=ng f v r;rw [show putF f v ((k,x)::r)=(if k=f then (k,v)::r else (k,x)::putF f v r) from rfl];by_cases R:k=f
  ·rw [if_pos R];subst R;exact ⟨by simp,λg h=>by simpa using h⟩
  ·rw [if_neg R];rwa[⟨?_,λg h=> ?_⟩]
   ·rw [map_cons];exact mem_cons_of_mem _ j
   ·rw [map_cons] at h ⊢
    rcases mem_cons.mp h with e|e
    ·exact mem_cons.mpr (.inl e)
    ·exact mem_cons_of_mem _ (z g e)
theorem oo (f:Str)(v:V):∀fs:List (Str×V),(putF f v fs).length<=fs.length+1
 |[]=>by simp [putF]
 |(k,x)::r=>by
  have j:=oo f v r;rw [show putF f v ((k,x)::r)=(if k=f then (k,v)::r else (k,x)::putF f v r) from rfl];by_cases R:k=f
  ·rw [if_pos R,length_cons,length_cons];lia
  ·rw [if_neg R,length_cons,length_cons];lia
theorem iu.some_of {v:V}{o:Option Value}(r:iu @bs o):∃u,o=some u/\ay v u:=by
 cases o with
 |none=>exact (show False from r).elim
 |some u=>exact ⟨u,rfl,r⟩
theorem iu.none_of {o:Option Value}(r:iu none o):o=none:=by
 cases o with
 |none=>rfl
 |some u=>exact (show False from r).elim
theorem Cj {v:V}{u:Value}(r:ay v u):W.handedIn u=true:=by
 cases v with
 |non=>cases (show u=Value.none from r);rfl
 |bl b=>cases (show u=Value.bool b from r);rfl
 |int i=>obtain ⟨t,e⟩:=(show ∃t,u=Value.int i t from r);cases e;rfl
 |str x=>obtain ⟨t,e⟩:=(show ∃t,u=Value.str x t from r);cases e;rfl
 |byt b=>obtain ⟨t,e⟩:=(show ∃t,u=Value.bytes b t from r);cases e;rfl
 |flt b=>obtain ⟨t,e⟩:=(show ∃t,u=Value.float b t from r);cases e;rfl
 |ref a=>cases (show u=Value.ref a from r);rfl
 |ty n=>cases (show u=Value.type n from r);rfl
section
variable {P:Program}{w:World}{H H':Hp}{h h':Heap}{a C dx:Addr}{fs fs':List (Str×V)}
theorem pH (ae:fI P w H h)(e:H a=some (.ins C dx fs)):∃mA,z8 h a dx C mA/\(∀f,iu @fM (mA f))/\PySem.Within mA (fs.map (·.1))/\fs.length<=1000/\H dx=some (.own a):=by
 obtain ⟨d,z,L,j,mA,n,r,q⟩:=(show be P w H h a (.ins C dx fs) from ae a _ e);exact ⟨mA,⟨j,n,L⟩,r,q,z,d⟩
end
structure um (K:Fg)(C:Addr):Prop where
 pg:W.plainGet K C Str.empty=true
 hd:W.hasDictIn K C=true
 po:W.plainOver K C=true
 sa:W.findIn K (.ref C) "__setattr__"=some (some (.builtin "object.__setattr__"))
theorem um.get {K:Fg}{C:Addr}(c:um K C)(f:Str):W.plainGet K C f=true:=c.pg
def aN (K:Fg)(C:Addr)(f:Str):Prop:=W.findIn K (.ref C) f=some none
theorem aN.taker {K:Fg}{C:Addr}{f:Str}(n:aN K C f):W.takerIn K C f=some none:=by
 unfold W.takerIn;rw [show W.findIn K (.ref C) f=some none from n];rfl
structure Con (K:Fg)(C:Addr)(f:Str)(v:V)(u:Value):Prop where
 at_:W.findIn K (.ref C) f=some @fk
 rel:ay v u
 get:W.specialIn K u "__get__"=some none
 cp:W.copiedNames.contains f=false
structure Gu (K:Fg)(C:Addr)(m:Str)(f:Addr):Prop where
 at_:W.findIn K (.ref C) m=some @bb
 fn:W.isFn K (.ref f)=true
 kp:W.keepIn K (.ref f)=true
section
variable {X:Cx}{pins:List (Addr×Obj)}{σ:St}{H:Hp}{s:Shared}{a C dx:Addr}{fs:List (Str×V)}{f:Str}{v:V}{A:Around}{E:Value->Shared->Prop}
theorem zz {b:Bool}{Q:Value->Shared->Prop}(I:av X pins σ H s)(e:H a=some (.ins C dx fs))(c:um X.K C)(n:aN X.K C f)(l:fs.lookup f=some v)
(h:∀u s',av X pins σ H s'->ay v u->Q u s'):wpAny @d A (getAttr (.ref a) f b) Q E s:=by
 obtain ⟨mA,O,r,_,_,_⟩:=pH I.hok e;obtain ⟨u,z,j⟩:=iu.some_of (v:=v) (o:=mA f) (by rw [<-l];exact r f);exact Je I.kIn O (c.get f) c.hd n z (Cj j) (h u _ @dQ j)
theorem rf {m:Str}{g:Addr}{pl:Sem Bool}{Q:Value×List Value->Shared->Prop}(I:av X pins σ H s)(e:H a=some (.ins C dx fs))(c:um X.K C)(k:Gu X.K C m g)(l:fs.lookup m=none)
(h:Q (.ref g,[.ref a]) s):wpAny @d A (getMethod (.ref a) m pl) Q E s:=by
 obtain ⟨mA,O,r,_,_,_⟩:=pH I.hok e;have z:mA m=none:=iu.none_of (by rw [<-l];exact r m);exact Fy I.kIn O (c.get m) k.at_ k.fn z h
theorem yu {y:V}{u:Value}{Q:Unit->Shared->Prop}(I:av X pins σ H s)(e:H a=some (.ins C dx fs))(c:um X.K C)(n:aN X.K C f)(U:fs.length<1000)(J:ay y u)
(h:∀s',av X pins σ @bT s'->Q () s'):wpAny @d A (setAttr (.ref a) f u) Q E s:=by
 obtain ⟨mA,O,r,wi,_,B⟩:=pH I.hok e
 have S:(fs.map (·.1)).length<=sizeLine:=by rw [length_map,sizeLine_eq];lia
 rwa[Ho I.kIn O c.sa c.po n.taker c.hd wi S λh' j F=>h _ ?_];have R:∃o,h'.get? dx=some o:=let ⟨o,_,_,e',_⟩:=j.ns;⟨o,e'⟩;rwa[I.write (x:=a) (e:=dx) (by rw [e];exact True.intro) (.inr B) (λb q L z=>(F.2 b L).trans z) R ?_];rwa[⟨by rw [ai O.ne];exact B,?_,O.ne,j.obj,_,j.ns,λg=> ?_,λg W=> ?_⟩]
 ·have:=oo f y fs;lia
 ·show iu ((putF f y fs).lookup g) (if g=f then some u else mA g);rw [on];by_cases q:g=f
  ·rw [if_pos q,if_pos q];exact J
  ·rw [if_neg q,if_neg q];exact r g
 ·by_cases q:g=f
  ·rw [q];exact (ng f y fs).1
  ·rwa[(ng f y fs).2 g (wi g λz=>W ?_)];show (if g=f then some u else mA g)=none;rw [if_neg q];exact z
theorem av.made (I:av X pins σ H s):av X pins σ (upd (upd H s.heap.objs.size (.own (s.heap.objs.size+1))) (s.heap.objs.size+1) (.ins C s.heap.objs.size []))
 {s with heap:=(s.heap.push W.emptyDict).push @r}:=by
 have R:(s.heap.push W.emptyDict).get? s.heap.objs.size=some W.emptyDict:=Heap.get?_push_size s.heap rfl
 have O:((s.heap.push W.emptyDict).push @r).get? (s.heap.objs.size+1)=some @r:=by
  have:=Heap.get?_push_size @eS (o:=W.instObj C s.heap.objs.size) rfl;rwa [Heap.size_push] at this
 have j:(s.heap.push W.emptyDict).Ns s.heap.objs.size (λ_=>none):=⟨W.emptyDict,#[],_,R,rfl,(λe U=>absurd U @e),λ_=>rfl⟩;have z:=I.laid (a:=s.heap.objs.size) (o:= .own (s.heap.objs.size+1)) (h':=s.heap.push W.emptyDict) (t':=s.toks) (λb u q=>Heap.get?_push_of_some _ q) @f ⟨_,R⟩;rwa[z.laid (a:=s.heap.objs.size+1) (o:= .ins C s.heap.objs.size []) (t':=s.toks) (λb u q=>Heap.get?_push_of_some _ q) (Nat.le_of_eq (Heap.size_push _ _)) ?_];have L:s.heap.objs.size≠s.heap.objs.size+1:=Nat.ne_of_lt @bQ;rwa[⟨by rw [ai L,ag],Nat.zero_le _,L,O,λ_=>none,(Heap.Ns1.of_empty j).at λo q=>Heap.get?_push_of_some _ q,λ_=>True.intro,λy J=>absurd rfl J⟩]
theorem Jv {prog:Program}{w:World}{env:Env}{e:Expr}{f:Str}{pos:Pos}{s:Shared}{Q:Value->Shared->Prop}(B:attributeBase e f env (eval e env)=eval e env)
(h:wpAny @h A (eval e env) (λo s₁=>wpAny @h A (getAttr o f true) Q E s₁) E s):wpAny @h A (eval (.Attribute e f pos) env) Q E s:=
 Attribute_any_ h (by rw [arm_eval_Attribute,B])
end
section
variable {X:Cx}{pins:List (Addr×Obj)}{σ:St}{H:Hp}{s:Shared}{A:Around}{E:Value->Shared->Prop}{Q:Value->Shared->Prop}{c:Value}{b:Bool}
inductive iY (K:Fg)(H:Hp):V->Value->Prop where
 |non:iY K H .non (.type "NoneType")
 |bl (x:Bool):iY K H (.bl x) (.type "bool")
 |int (i:Int):iY K H (.int i) (.type "int")
 |str (x:Str):iY K H (.str x) (.type "str")
 |flt (x:UInt64):iY K H (.flt x) (.type "float")
 |lst {a:Addr} {xs:List V} (e:H a=some (.lst xs)):iY K H (.ref a) (.type "list")
 |frz {a:Addr} {o:Obj} {xs:List V} (e:H a=some (.frz o (.lst xs))):iY K H (.ref a) (.type "list")
 |tup {a:Addr} {xs:List V} (e:H a=some (.tup xs)):iY K H (.ref a) (.type "tuple")
 |dK {a:Addr} {kvs:List (du×V)} (e:H a=some (.dK kvs)):iY K H (.ref a) (.type "dict")
 |dT {a:Addr} {kvs:List (List du×V)} (e:H a=some (.dT kvs)):iY K H (.ref a) (.type "dict")
 |ins {a C dx:Addr} {fs:List (Str×V)} (e:H a=some (.ins C dx fs)) (cl:um K C) (ha:W.findIn K (.ref C) "__class__"=some (some (.builtin "object.__class__")))
   (hn:W.specialIn K (.builtin "object.__class__") "__get__"=some (some (.builtin "getset_descriptor.__get__"))) (htk:W.takesIn K (.builtin "object.__class__")=some true)
   (hm:W.mroIn K C (.type "object")=some true):iY K H (.ref a) (.ref C)
theorem Cf {x:V}{u t:Value}(I:av X pins σ H s)(L:ay x u)(ty:iY X.K H x t)(e:W.kitOne X.K t c=some b)(h:∀tk,Q (.bool b) {s with toks:=tk}):
 wpAny @d A (call (.builtin "isinstance") [u,c]) Q E s:=by
 cases ty with
 |non=>cases (show u=Value.none from L);exact W.kia_one W.kitx_none I.kIn True.intro e (λz=>nomatch z) h
 |bl y=>cases (show u=Value.bool y from L);exact W.kia_one W.kitx_bool I.kIn True.intro e (λz=>nomatch z) h
 |int i=>obtain ⟨t,q⟩:=(show ∃t,u=Value.int i t from L);cases q;exact W.kia_one W.kitx_int I.kIn True.intro e (λz=>nomatch z) h
 |str y=>obtain ⟨t,q⟩:=(show ∃t,u=Value.str y t from L);cases q;exact W.kia_one W.kitx_str I.kIn True.intro e (λz=>nomatch z) h
 |flt y=>obtain ⟨t,q⟩:=(show ∃t,u=Value.float y t from L);cases q;exact W.kia_one W.kitx_float I.kIn True.intro e (λz=>nomatch z) h
 | @lst a xs ea=>
   cases (show u=Value.ref a from L);obtain ⟨_,_,n,_,h1⟩:=(show be X.prog X.w H s.heap a (.lst xs) from I.hok a _ ea);exact W.kia_one W.kitx_list I.kIn ⟨_,h1,rfl⟩ e (λz=>nomatch z) h
 | @frz a ob xs ea=>
   cases (show u=Value.ref a from L);obtain ⟨_,_,_,n,_,h1⟩:=(show be X.prog X.w H s.heap a (.frz ob (.lst xs)) from I.hok a _ ea);exact W.kia_one W.kitx_list I.kIn ⟨_,h1,rfl⟩ e (λz=>nomatch z) h
 | @tup a xs ea=>
   cases (show u=Value.ref a from L);obtain ⟨_,_,_,p⟩:=(show be X.prog X.w H s.heap a (.tup xs) from I.hok a _ ea);obtain ⟨o,h1,h2,_⟩:=p;exact W.kia_one W.kitx_tuple I.kIn ⟨o,h1,h2⟩ e (λz=>nomatch z) h
 | @dK a kvs ea=>
   cases (show u=Value.ref a from L);obtain ⟨_,_,R,_,p⟩:=(show be X.prog X.w H s.heap a (.dK kvs) from I.hok a _ ea);obtain ⟨o,es,B,h1,h2,_⟩:=p;exact W.kia_one W.kitx_dict I.kIn ⟨o,h1,h2.1⟩ e (λz=>nomatch z) h
 | @dT a kvs ea=>
   cases (show u=Value.ref a from L);obtain ⟨_,_,xs,_,o,es,B,h1,h2,_⟩:=(show be X.prog X.w H s.heap a (.dT kvs) from I.hok a _ ea);exact W.kia_one W.kitx_dict I.kIn ⟨o,h1,h2.1⟩ e (λz=>nomatch z) h
 | @ins a C dx fs ea cl ha hn htk hm=>
   cases (show u=Value.ref a from L);obtain ⟨mA,O,_⟩:=pH I.hok ea;obtain ⟨F,J,_⟩:=O.look;exact W.kia_one (W.kitx_own (cl.get _) cl.hd ha hn htk hm) I.kIn J e (λz=>nomatch z) h
end
structure bE (k:Nat)(A:Around):Prop where
 hd:A.handled=none
 dp:A.depth+3*k+5<recursionLimit
 un:A.units+16*k+200<cLine
theorem bE.mono {j k:Nat}{A:Around}(r:bE k A)(h:j<=k):bE j A:=⟨r.hd,by have:=r.dp;lia,by have:=r.un;lia⟩
theorem bE.deeper {k:Nat}{A:Around}(r:bE (k+1) A)(env:Env):bE k (A.deeper env):=
 ⟨r.hd,by have:=r.dp;show A.depth+1+3*k+5<_;lia,by have:=r.un;show A.units+3+16*k+200<_;lia⟩
theorem bE.in1 {k:Nat}{A:Around}(r:bE (k+1) A):bE k A.in1:=
 ⟨r.hd,by have:=r.dp;show A.depth+3*k+5<_;lia,by have:=r.un;show A.units+1+16*k+200<_;lia⟩
theorem zi {A:Around}{C:Addr}{us:List Value}{z:List (Str×Value)}:(A.under (.builtin "type.__call__" ⟨.ref C::us,z⟩)).depth=A.depth+1:=by
 first|rfl|simp [Around.under,Code.weight,Code.isCreation,Code.isGuard,Code.isCaller,Code.frames,Code.isFrame,guardIds]
theorem zh {A:Around}{C:Addr}{us:List Value}{z:List (Str×Value)}:(A.under (.builtin "type.__call__" ⟨.ref C::us,z⟩)).units=A.units+1:=by
 first|rfl|simp [Around.under,Code.cUnits,Code.frames,Code.isFrame]
theorem bE.make {k:Nat}{A:Around}(r:bE (k+1) A)(C:Addr)(us:List Value)(z:List (Str×Value)):bE k (A.under (.builtin "type.__call__" ⟨.ref C::us,z⟩)):=
 ⟨r.hd,by have:=r.dp;rw [zi];lia,by have:=r.un;rw [zh];lia⟩
theorem bE.depth {k:Nat}{A:Around}(r:bE k A):A.depth<recursionLimit:=by have:=r.dp;lia
theorem bE.units {k:Nat}{A:Around}(r:bE k A):A.units+64<cLine:=by have:=r.un;lia
def KZ:TA:=λ_ H Q=>Q [] H
def Do (ta:TE)(tr:TA):TA:=λσ H Q=>ta σ H λx H1=>tr σ H1 λxs H2=>Q (x::xs) H2
section
variable {X:Cx}{e:Expr}{es:List Expr}{te:TE}{t:TA}{pos:Pos}
theorem ap:PA X [] KZ:=λ_ _ _ _ H Q I h=>Calls.spliced_nil ⟨[],H,I,.nil,h⟩
theorem Ig (j:PE X e te)(S:PA X es t)(hs:starEach (e::es) X.env=(false,eval e X.env)::starEach es X.env:=by rfl):PA X (e::es) (Do te t):=by
 intro pos pins s σ H Q I h;rw [hs];show wpAny _ _ (spliced ((false,eval e X.env)::backTo pos @O)) _ _ s;rwa[Calls.spliced_cons (br @cB λu J ⟨x,H1,z,O,F⟩=> ?_)];exact br (S pos pins J σ H1 _ z F) λU W ⟨xs,H2,B,L,R⟩=>⟨x::xs,H2,B,.cons O L,R⟩
def QV (t:TA):TE:=λσ H Q=>t σ H λxs H1=>xs.length<=sizeLine/\∀p,H1 p=none->Q (.ref p) (upd H1 p (.tup xs))
def Q0 (t:TA):TE:=λσ H Q=>t σ H λxs H1=>xs.length<=sizeLine/\∀p,H1 p=none->Q (.ref p) (upd H1 p (.lst xs))
theorem LG {O}(h:PA X es t):PE X (.Tuple es O pos) (QV t):=by
 intro pins s σ H Q I L;rwa[wpAny_Tuple_spliced (br (h pos pins s σ H _ I L) λF J ⟨xs,H1,j,r,z,q⟩=>⟨by rw [<-r.length];exact z,?_⟩)];have B:H1 J.heap.objs.size=none:=j.hok.fresh @f;rwa[⟨.ref J.heap.objs.size,upd H1 J.heap.objs.size (.tup xs),j.laid (t':=J.toks) (λb u e=>Heap.get?_push_of_some _ e) @f ?_,rfl,q _ B⟩];exact ⟨z,F,r,⟨_,Heap.get?_push_size _ rfl,rfl,_,rfl⟩⟩
theorem LH (h:PA X es t):PE X (.List es pos) (Q0 t):=by
 intro pins s σ H Q I L;rwa[wpAny_List_spliced (br (h pos pins s σ H _ I L) λF J ⟨xs,H1,j,r,z,q⟩=>⟨by rw [<-r.length];exact z,?_⟩)];have B:H1 J.heap.objs.size=none:=j.hok.fresh @f;rwa[⟨.ref J.heap.objs.size,upd H1 J.heap.objs.size (.lst xs),j.laid (t':=J.toks) (λb u e=>Heap.get?_push_of_some _ e) @f ?_,rfl,q _ B⟩];exact ⟨z,F,0,r,Heap.get?_push_size _ rfl⟩
end
abbrev Sp:=List V->Hp->VK->XK->Prop
abbrev nV:=List Env->Hp->Shared->XK->Value->Shared->Prop
structure nQ (P:Program)(w:World)(K:Fg)(mg:Str->Option Value)(base:Heap)(A:Around)(outer:List Env)(s:Shared)(H:Hp):Prop where
 frames:A.frames=some outer
 mod:Mod K mg base
 bs:∀b o,base.get? b=some o->s.heap.get? b=some o/\H b=none
 bsz:base.objs.size<=s.heap.objs.size
 funs:s.heap.FunFrames base outer
 frf:∀b∈vX outer,H b=none
 hok:fI P w H s.heap
 bare:AllBare s.gens
def CE (outer:List Env)(P:Program)(w:World)(H:Hp)(s:Shared)(Q:VK)(u:Value)(s':Shared):Prop:=
 ∃v H',s'.os=s.os/\AllBare s'.gens/\Un (vX outer) [] H H' s.heap s'.heap/\fI P w H' s'.heap/\ay v u/\Q v H'
def CR (CX:nV)(outer:List Env)(P:Program)(w:World)(H:Hp)(s:Shared)(Q:VK)(E:XK)(r:Result)(s':Shared):Prop:=
 match r with
 | .ok (.ret u)=>CE outer P w H s Q u s'
 | .ok _=>False
 | .error e=>CX outer H s E e s'
structure au (P:Program)(w:World)(K:Fg)(mg:Str->Option Value)(base:Heap)(CX:nV)(k:Nat)(f:Addr)(fd:FuncData)(ps:List Str)(sp:Sp):Prop where
 len:∀vs H Q E,sp vs H Q E->vs.length=ps.length
 run:∀(A:Around) (outer:List Env) (s:Shared) (H:Hp) (args:Args) (us:List Value) (vs:List V) (Q:VK) (E:XK),bE k A->nQ P w K mg base A outer s H->BindsTo s fd args @cu->aJ vs us->sp vs H Q E->
  codeAny @Z A (.call (.ref f) args) (CR CX outer P w H s Q E) s
theorem au.mono {P:Program}{w:World}{K:Fg}{mg:Str->Option Value}{base:Heap}{CX:nV}{j k:Nat}{f:Addr}{fd:FuncData}{ps:List Str}{sp:Sp}(F:au P w K mg base CX j f fd ps sp)(h:j<=k):
 au P w K mg base CX k f fd ps sp:=⟨F.len,λA outer s H z B R Q E S=>F.run A outer s H z B R Q E (S.mono h)⟩
theorem au.imp {P:Program}{w:World}{K:Fg}{mg:Str->Option Value}{base:Heap}{CX:nV}{k:Nat}{f:Addr}{fd:FuncData}{ps:List Str}{sp j:Sp}(F:au P w K mg base CX k f fd ps sp)
(h:∀vs H Q E,j vs H Q E->sp vs H Q E):au P w K mg base CX k f fd ps j:=
 ⟨λvs H Q E q=>F.len vs H Q E (h _ _ _ _ q),λA outer s H z B vs Q E S U I Y hs=>F.run A outer s H z B vs Q E S U I Y (h _ _ _ _ hs)⟩
theorem nQ.make {P:Program}{w:World}{K:Fg}{mg:Str->Option Value}{base:Heap}{A:Around}{outer:List Env}{s:Shared}{H:Hp}(e:nQ P w K mg base A outer s H)(C:Addr)(us:List Value)(z:List (Str×Value)):
 nQ P w K mg base (A.under (.builtin "type.__call__" ⟨.ref C::us,z⟩)) outer s H:=⟨by first|exact e.frames|(simpa [Around.under,Code.envs,Code.isFrame,pushEnvs] using e.frames),e.mod,e.bs,e.bsz,e.funs,e.frf,e.hok,e.bare⟩
theorem nQ.in1 {P:Program}{w:World}{K:Fg}{mg:Str->Option Value}{base:Heap}{A:Around}{outer:List Env}{s:Shared}{H:Hp}(e:nQ P w K mg base A outer s H):
 nQ P w K mg base A.in1 outer s H:=⟨e.frames,e.mod,e.bs,e.bsz,e.funs,e.frf,e.hok,e.bare⟩
section
variable {X:Cx}{pins:List (Addr×Obj)}{σ:St}{H:Hp}{s s':Shared}
theorem av.env0 (I:av X pins σ H s):nQ X.prog X.w X.K X.mg X.base X.A X.stack s H:=
 ⟨I.ok.frames,I.ok.mod,I.bs,Nat.le_trans I.ok.bsz I.sz,I.stack,I.stkFree,I.hok,I.bare⟩
theorem av.after {Q:VK}{u:Value}(I:av X pins σ H s)(h:CE X.stack X.prog X.w H s Q u s'):EP X pins σ Q u s':=by
 obtain ⟨v,H',os,j,F,ae,r,q⟩:=h;obtain ⟨J,g,d,t,B⟩:=s';obtain rfl:B=s.os:=os;exact ⟨v,H',I.call (h':=J) (g':=g) (d':=d) (t':=t) (ch:=[]) F ae j (λb z=>absurd z @e),r,q⟩
end
def Ao (sp:Sp)(dvs:List V)(E:XK)(t:TA):TE:=λσ H Q=>t σ H λvs H1=>sp (vs++dvs) H1 Q E
def Om (C:Addr)(sp:Sp)(dvs:List V)(E:XK)(t:TA):TE:=λσ H Q=>t σ H λvs H1=>∀x dx,H1 x=none->H1 dx=none->dx≠x->
 sp (.ref x::(vs++dvs)) (upd (upd H1 dx (.own x)) x (.ins C dx [])) (λv H2=>v= .non/\Q (.ref x) H2) E
def eG (K:Fg)(fd:FuncData)(ps:List Str)(ds:List Value):Prop:=
 ∀(s:Shared) (us:List Value),K.In s.heap->(us++ds).length=ps.length->BindsTo s fd ⟨us,[]⟩ (ps.zip (us++ds))
theorem eG.all {K:Fg}{fd:FuncData}{ps:List Str}(h:∀us:List Value,us.length=ps.length->bindArgs fd ⟨us,[]⟩=pure @cu):eG K fd ps []:=λs us _ W=>by
 rw [append_nil] at W ⊢;exact .of_eq (h us W)
def fQ (CX:nV)(X:Cx)(E:XK):Prop:=∀(pins:List (Addr×Obj)) (σ:St) (H:Hp) (s:Shared) (e:Value) (s':Shared),av X pins σ H s->CX X.stack H s E e s'->X.xe e s'
section
variable {X:Cx}{CX:nV}{k:Nat}{f C:Addr}{fd:FuncData}{ps:List Str}{sp:Sp}{dvs:List V}{ds:List Value}{E:XK}{x m:Str}{p pos apos:Pos}{e o:Expr}{es:List Expr}{ta:TE}{t:TA}
theorem yP {pins:List (Addr×Obj)}{σ:St}{H:Hp}{s:Shared}{Q:VK}{us:List Value}{vs:List V}(F:au X.prog X.w X.K X.mg X.base CX k f fd ps sp)(S:bE k X.A)(B:eG X.K fd ps ds)(J:aJ dvs ds)(z:fQ CX X E)
(I:av X pins σ H s)(r:aJ vs us)(h:sp (vs++dvs) H Q E):wpAny @d X.A (call (.ref f) us) @p X.xe s:=by
 have L:aJ (vs++dvs) (us++ds):=r.append J
 have W:(us++ds).length=ps.length:=by rw [<-L.length];exact F.len _ _ _ _ h
 rwa[wpAny_call (codeAny_mono (F.run X.A X.stack s H ⟨us,[]⟩ (us++ds) (vs++dvs) Q E S I.env0 (B s us I.kIn W) L h) λr s' j=> ?_)]
 cases r with
 |error e=>exact z pins σ H s e s' I j
 |ok fl=>
  cases fl with
  |ret u=>exact I.after j
  |next=>exact False.elim j
  |brk=>exact False.elim j
  |cont=>exact False.elim j
theorem Ic (F:au X.prog X.w X.K X.mg X.base CX k f fd ps sp)(S:bE k X.A)(Y:Gl X x)(J:X.mg x=some (.ref f))(R:W.keepIn X.K (.ref f)=true)(Z:eG X.K fd ps ds)(hd:aJ dvs ds)(O:fQ CX X E)
(L:PA X (e::es) t)(j:(x==("__debug__":Str))=false:=by decide)(U:starEach (e::es) X.env=(false,eval e X.env)::starEach es X.env:=by rfl)(z:(backTo pos @O).any (·.1)=false:=by rfl):
 PE X (.Call (.Name x p) (e::es) [] pos) (Ao sp dvs E t):=by
 intro pins s σ H Q I h;rwa[wpAny_Call_Name_kw (pG I Y J ?_ j)];rwa[W.callWith_K (h₀:=X.base) I.ok.mod.kin R (br @bU λus s1 ⟨vs,H1,B,r,q⟩=>⟨B.kIn,?_⟩) U z];exact yP F S Z hd O B r q
structure Mk (K:Fg)(C f:Addr):Prop where
 makes:W.makesIn K C=true
 init:W.findIn K (.ref C) "__init__"=some @bb
 fn:W.isFn K (.ref f)=true
 kp:W.keepIn K (.ref C)=true
theorem Ea {pins:List (Addr×Obj)}{σ:St}{H:Hp}{s:Shared}{Q:VK}{us:List Value}{vs:List V}(M:Mk X.K C f)(F:au X.prog X.w X.K X.mg X.base CX k f fd ps sp)(S:bE (k+1) X.A)(R:eG X.K fd ps ds)(hd:aJ dvs ds)
(O:fQ CX X E)(I:av X pins σ H s)(r:aJ vs us)
(h:∀x dx,H x=none->H dx=none->dx≠x->sp (.ref x::(vs++dvs)) (upd (upd H dx (.own x)) x (.ins C dx [])) (λv H2=>v= .non/\Q (.ref x) H2) E):
 wpAny @d X.A (call (.ref C) us) @p X.xe s:=by
 have z:=h (s.heap.objs.size+1) s.heap.objs.size (I.hok.fresh @dR) @br (Nat.ne_of_lt @bQ);have B:=av.made (C:=C) I;have L:aJ (V.ref (s.heap.objs.size+1)::(vs++dvs)) (Value.ref (s.heap.objs.size+1)::(us++ds)):= .cons rfl (r.append hd)
 have W:(Value.ref (s.heap.objs.size+1)::us++ds).length=ps.length:=by
  have e:=L.length;rw [F.len _ _ _ _ z] at e;exact e.symm
 refine wpAny_call (Fc (f:=f) I.kIn M.makes M.init (beq_iff_eq.mp M.fn) (codeAny_mono (F.run _ X.stack _ _ ⟨Value.ref (s.heap.objs.size+1)::us,[]⟩ (Value.ref (s.heap.objs.size+1)::(us++ds)) _ _ E (S.make C us [])
  (B.env0.make C us []) (R _ (Value.ref (s.heap.objs.size+1)::us) B.kIn W) L z) λr s' j=> ?_))
 cases r with
 |error e=>exact O pins σ _ _ e s' B j
 |ok fl=>
  cases fl with
  |ret u=>
   obtain ⟨v,H',Z,U,J,Y⟩:=B.after j;subst J;exact ⟨U,⟨V.ref (s.heap.objs.size+1),H',Z,rfl,Y⟩⟩
  |next=>exact False.elim j
  |brk=>exact False.elim j
  |cont=>exact False.elim j
theorem Ia (M:Mk X.K C f)(F:au X.prog X.w X.K X.mg X.base CX k f fd ps sp)(S:bE (k+1) X.A)(R:Gl X x)(J:X.mg x=some (.ref C))(Y:eG X.K fd ps ds)(Z:aJ dvs ds)(O:fQ CX X E)
(L:PA X (e::es) t)(j:(x==("__debug__":Str))=false:=by decide)(U:starEach (e::es) X.env=(false,eval e X.env)::starEach es X.env:=by rfl)(z:(backTo pos @O).any (·.1)=false:=by rfl):
 PE X (.Call (.Name x p) (e::es) [] pos) (Om C sp dvs E t):=by
 intro pins s σ H Q I h;rwa[wpAny_Call_Name_kw (pG I R J ?_ j)];rwa[W.callWith_K (h₀:=X.base) I.ok.mod.kin M.kp (br @bU λus s1 ⟨vs,H1,B,r,q⟩=>⟨B.kIn,?_⟩) U z];exact Ea M F S Y Z O B r q
end
section
variable {X:Cx}{CX:nV}{k:Nat}{f C:Addr}{fd:FuncData}{ps ks:List Str}{sp:Sp}{E:XK}{x m:Str}{p pos apos kpos:Pos}{e o:Expr}{es:List Expr}{kws:List Keyword}{te ta:TE}{t tk:TA}{nm:Option Str}
structure KBinds (K:Fg)(fd:FuncData)(ps ks:List Str)(g:List Value->List Value->List Value)(gV:List V->List V->List V):Prop where
 to:∀(s:Shared) (us ws:List Value),K.In s.heap->(g us ws).length=ps.length->BindsTo s fd ⟨us,ks.zip ws⟩ (ps.zip (g us ws))
 rel:∀ {vs:List V} {us:List Value} {zs:List V} {ws:List Value},aJ vs us->aJ zs ws->aJ (gV vs zs) (g us ws)
variable {g:List Value->List Value->List Value}{gV:List V->List V->List V}
end
structure af (N P:List Str)(sc:Scope):Prop where
 kind:sc.kind= .function
 co:sc.isCoroutine=false
 gen:sc.isGenerator=false
 nd:N.Nodup
 pre:N.take P.length=P
 par:∀x∈P,sc.names.lookup x=some .local\/sc.names.lookup x=some .cell
 nofree:∀y∈sc.names,y.2≠ .free
theorem uh {j:Str->Option NameKind}{x:Str}:∀ {binds:List (Str×Value)} {m:Str->Option Value},(∀v,(x,v)∉binds)->bindL j binds m x=m x
 |[],_,_=>rfl
 |(n,v)::r,m,h=>by
  unfold bindL;rw [uh λw z=>h w (mem_cons_of_mem _ z)];split
  ·have:x≠n:=by rintro rfl;exact h v mem_cons_self
   simp [this]
  ·rfl
theorem uj {j:Str->Option NameKind}{x:Str}:∀ {binds:List (Str×Value)} {m:Str->Option Value},(∀v,(x,v)∉binds)->bindC j binds m x=m x
 |[],_,_=>rfl
 |(n,v)::r,m,h=>by
  unfold bindC;rw [uj λw z=>h w (mem_cons_of_mem _ z)];split
  ·rfl
  ·have:x≠n:=by rintro rfl;exact h v mem_cons_self
   simp [this]
theorem ui {j:Str->Option NameKind}{x:Str}{v:Value}:∀ {P:List Str} {vs:List Value} {i:Nat} {m:Str->Option Value},P.Nodup->P[i]? =some x->vs[i]? =some v->j x=some .local->
 bindL j (P.zip vs) m x=some v
 |[],_,_,_,_,h,_,_=>by simp at h
 |_::_,[],_,_,_,_,h,_=>by simp at h
 |p::P,w::vs,0,m,nd,h1,h2,hk=>by
  simp at h1 h2;subst h1;subst h2;show bindL j ((p,w)::P.zip vs) m p=_;unfold bindL;rw [uh λv Y=>(nodup_cons.mp nd).1 (of_mem_zip Y).1,if_pos hk];simp
 |p::P,w::vs,i+1,m,nd,h1,h2,hk=>by
  show bindL j ((p,w)::P.zip vs) m x=_;unfold bindL;exact ui (i:=i) (nodup_cons.mp nd).2 (by simpa using h1) (by simpa using h2) hk
theorem uk {j:Str->Option NameKind}{x:Str}{v:Value}:∀ {P:List Str} {vs:List Value} {i:Nat} {m:Str->Option Value},P.Nodup->P[i]? =some x->vs[i]? =some v->j x≠some .local->
 bindC j (P.zip vs) m x=some v
 |[],_,_,_,_,h,_,_=>by simp at h
 |_::_,[],_,_,_,_,h,_=>by simp at h
 |p::P,w::vs,0,m,nd,h1,h2,hk=>by
  simp at h1 h2;subst h1;subst h2;show bindC j ((p,w)::P.zip vs) m p=_;unfold bindC;rw [uj λv Y=>(nodup_cons.mp nd).1 (of_mem_zip Y).1,if_neg hk];simp
 |p::P,w::vs,i+1,m,nd,h1,h2,hk=>by
  show bindC j ((p,w)::P.zip vs) m x=_;unfold bindC;exact uk (i:=i) (nodup_cons.mp nd).2 (by simpa using h1) (by simpa using h2) hk
noncomputable def start (N:List Str)(vs:List V):St:=vs.map some++List.replicate (N.length - vs.length) none
noncomputable def rB (CX:nV)(P:Program)(w:World)(K:Fg)(mg:Str->Option Value)(base:Heap)(N:List Str)(qual:Str)(scope:Scope)(f:Addr)(cd:Value)(A:Around)(outer:List Env)(s:Shared)(H:Hp)(E:XK):Cx where
 prog:=P
 w:=w
 K:=K
 mg:=mg
 base:=base
 A:=A.deeper @bF
 N:=N
 s₀:=s
 H₀:=H
 env:=envOfC qual scope s.heap.objs.size f cd
 outer:=outer
 stack:=envOfC qual scope s.heap.objs.size f cd::outer
 ex:=[]
 calm:=true
 fn:=λ_=>true
 pn:=[]
 xe:=λe s'=>wpAny @Z (A.deeper @bF) (leaving @bF e) (λ_ s''=>CX outer H s E e s'') (λe' s''=>CX outer H s E e' s'') s'
theorem xt {j:Scope}{n:Nat}{x:Str}(h:j.names.lookup x=some .cell):∃c,(cellsFrom n j.names []).lookup x=some c:=by
 have q:=W.cellsFrom_some j.names n [] (.inl h);exact Option.isSome_iff_exists.mp q
theorem Cg {CX:nV}{P:Program}{w:World}{K:Fg}{mg:Str->Option Value}{base:Heap}{N ps:List Str}{qual:Str}{scope:Scope}{f:Addr}{cd:Value}{A:Around}{outer:List Env}{s O:Shared}{H:Hp}{E:XK}{us:List Value}{vs:List V}
(S:af N ps scope)(W:A.handled=none)(j:nQ P w K mg base A outer s H)(hl:vs.length=ps.length)(r:aJ vs us)
(x:InCallC s s.heap.objs.size (bindL (envOfC qual scope s.heap.objs.size f cd).kindOf @cu λ_=>none) (cellsFrom (s.heap.objs.size+1) scope.names []) (bindC (envOfC qual scope s.heap.objs.size f cd).kindOf @cu λ_=>none) O):
 av (rB CX P w K mg base N qual scope f cd A outer s H E) [] @cC H O:=by
 have Y:ps.length<=N.length:=by have:=congrArg List.length S.pre;rw [length_take] at this;lia
 obtain ⟨h1,tk,rfl,R⟩:=x.done;have B:∀b:Addr,b∉(rB CX P w K mg base N qual scope f cd A outer s H E).ex:=λb z=>absurd (show b∈([]:List Addr) from z) @e
 refine ⟨⟨j.mod,S.kind,rfl,rfl,Nat.le_refl _,λy z c h1 h2=> ?_,λy J=> ?_,λy c _ h=> ?_,λ_=>W,Around.frames_deeper j.frames,.inr ⟨rfl,rfl⟩,λb z=>absurd z (B b),j.bs,j.bsz,λb _ _=>B b,λb z=>absurd z (B b),j.funs,j.frf⟩,
  rfl,j.bare,Un.kept R,⟨_,x.toInCall.ns,λi y v h1 h2 h3=> ?_⟩,λy c h=>⟨_,x.cell y c h⟩,j.hok.fresh @f,λy c h=> ?_,λp F=>absurd (show p∈([]:List (Addr×Obj)) from F) @e,j.hok.kept R,?_⟩
 ·exact name_of_addr x.apart (PySem.mem_of_lookup h1) (PySem.mem_of_lookup h2)
 ·have J:scope.names.lookup y=some .cell\/scope.names.lookup y=some .free:=J
  rcases J with J|J
  ·exact xt J
  ·exact absurd rfl (S.nofree _ (PySem.mem_of_lookup J))
 ·exact Nat.le_of_lt (x.above y c @dy)
 ·have hi:i<vs.length:=by
   unfold start at h2;by_cases hi:i<vs.length
   ·exact hi
   ·rw [getElem?_append_right (by simpa using hi)] at h2;rw [getElem?_replicate] at h2;split at h2<;>cases h2
  have U:vs[i]? =some v:=by
   unfold start at h2;rw [getElem?_append_left (by simpa using hi),getElem?_map] at h2
   cases e:vs[i]? with
   |none=>rw [e] at h2;cases h2
   |some a=>rw [e] at h2;cases h2;rfl
  obtain ⟨u,L,Z⟩:=r.get U
  have F:ps[i]? =some y:=by
   rw [<-S.pre,getElem?_take_of_lt @b];exact h1
  have I:ps.Nodup:=by rw [<-S.pre];exact S.nd.sublist (take_sublist _ _)
  rwa[⟨u,Z,?_⟩]
  rcases S.par y (mem_of_getElem? F) with k|k
  ·exact .inl ⟨k,ui I F L k⟩
  ·obtain ⟨c,e⟩:=xt (n:=s.heap.objs.size+1) k;rwa[.inr ⟨.inl k,c,e,?_⟩];have q:=x.cell y c e;rw [uk I F L (by show scope.names.lookup y≠_;rw [k];decide)] at q;exact q
 ·exact j.hok.fresh (Nat.le_of_lt (x.above y c @dy))
 ·unfold start;show _=N.length;rw [length_append,length_map,length_replicate];lia
theorem FI {CX:nV}{P:Program}{w:World}{K:Fg}{mg:Str->Option Value}{base:Heap}{k:Nat}{f:Addr}{name qual:Str}{z:Arguments}{B:List Stmt}{scope:Scope}{dV kV U pm j ct oc:Value}{an od:Option Addr}
{aa:Array @J}{N ps:List Str}{sp:Sp}(lk:K.lookup f=some ⟨oc,od,.func (W.fnOf name qual z B scope dV kV U pm an j ct),aa⟩)(ac:W.codeIn K j qual=true)(S:af N ps scope)
(O:∀vs H Q E,sp vs H Q E->vs.length=ps.length)
(F:∀(A:Around) (outer:List Env) (s:Shared) (H:Hp) (vs:List V) (Q:VK) (E:XK),bE k (A.deeper (envOfC qual scope s.heap.objs.size f j))->sp vs H Q E->
   ∃t,rT @bo B t/\t {nx:=λ_ H'=>Q .non H',rt:=Q} @cC H):
 au P w K mg base CX (k+1) f (W.fnOf name qual z B scope dV kV U pm an j ct) ps sp:=by
 rwa[⟨O,λA outer s H ad us vs Q E hr Y hb r R=> ?_⟩];have hl:=O _ _ _ _ R;have KX:K.In s.heap:=Y.mod.kin.keeps λb o e=>(Y.bs b o e).1;have ab:s.heap.NoLimit:=Y.mod.nolimit.keeps λb o e=>(Y.bs b o e).1
 have L:∀y∈ps.zip us,scope.names.lookup y.1=some .local\/(scope.names.lookup y.1=some .cell/\((cellsFrom (s.heap.objs.size+1) scope.names []).lookup y.1).isSome=true):=λ⟨n,v⟩ hy=>by
  rcases S.par n (of_mem_zip hy).1 with q|q
  ·exact .inl q
  ·exact .inr ⟨q,W.cellsFrom_some _ _ _ (.inl q)⟩
 rwa[codeAny_call_function hr.depth (KX _ _ lk) rfl S.co S.gen rfl (W.codeRec_of KX ac) (hb _ _ _ _ ?_)];rwa[wpAny_newFunctionEnv_cells S.kind L λae he s1 x=> ?_];subst he;rwa[⟨ab.keeps x.toInCall.keep,codeAny_func ?_⟩];obtain ⟨t,ht,hq⟩:=F A outer s H vs Q E (hr.deeper _) R;have I:av @bo [] @cC H s1:=Cg S hr.hd Y hl r x;rwa[wpAny_mono (ht [] s1 @cC H _ I hq) (λfl s' hs=> ?_) λe s' hs=>hs]
 have Z:∀ {σ':St} {H':Hp} {v:V} {u:Value},av @bo [] σ' H' s'->ay v u->Q v H'->CE outer P w H s Q u s':=
  λ{σ' H' v u} J rv q=>⟨v,H',J.os,J.bare,J.base,J.hok,rv,q⟩
 cases fl with
 |ret u=>
  obtain ⟨v,σ',H',J,rv,q⟩:=hs;exact Z J rv q
 |next=>
  obtain ⟨σ',H',J,q⟩:=hs;exact Z (v:=V.non) (u:=Value.none) J rfl q
 |brk=>
  obtain ⟨_,_,_,q⟩:=hs;exact False.elim q
 |cont=>
  obtain ⟨_,_,_,q⟩:=hs;exact False.elim q
section
variable {X:Cx}{x:Str}{p pos:Pos}{e:Expr}{es:List Expr}{t:TA}{id T:String}{r:List V->Hp->VK->Prop}
def P8 (r:List V->Hp->VK->Prop)(t:TA):TE:=λσ H Q=>t σ H λvs H1=>r vs H1 Q
theorem Ew (O:bf X (.builtin id) r)(Z:Gl X x)(B:X.mg x=none)(Y:bootBuiltins x=some (.builtin id))(L:PA X (e::es) t)(R:x≠"__name__":=by decide)(j:(x==("__debug__":Str))=false:=by decide)
(U:starEach (e::es) X.env=(false,eval e X.env)::starEach es X.env:=by rfl)(z:(backTo pos @O).any (·.1)=false:=by rfl):PE X (.Call (.Name x p) (e::es) [] pos) (P8 r t):=by
 intro pins s σ H Q I h;rwa[wpAny_Call_Name_kw (j8 I Z B Y ?_ R j)];exact PyProof.Rows.callWith_builtin1 (br @bU λF J ⟨vs,H1,W,r1,S⟩=>O pins J σ H1 vs F Q W r1 S) U z
theorem BK (O:bf X (.type T) r)(Z:Gl X x)(B:X.mg x=none)(Y:bootBuiltins x=some (.type T))(L:PA X (e::es) t)(R:x≠"__name__":=by decide)(j:(x==("__debug__":Str))=false:=by decide)
(U:starEach (e::es) X.env=(false,eval e X.env)::starEach es X.env:=by rfl)(z:(backTo pos @O).any (·.1)=false:=by rfl):PE X (.Call (.Name x p) (e::es) [] pos) (P8 r t):=by
 intro pins s σ H Q I h;rwa[wpAny_Call_Name_kw (j8 I Z B Y ?_ R j)];exact PyProof.Rows.callWith_type1 (br @bU λF J ⟨vs,H1,W,r1,S⟩=>O pins J σ H1 vs F Q W r1 S) U z
end
end L2
namespace HT
open PySem PyProof.Rows
section
variable {prog:Program}{w:World}{A:Around}{E:Value->Shared->Prop}{s:Shared}
theorem cat_tup {t b:Addr}{vs ws:List Value}{Q:Value->Shared->Prop}(ht:IsTup s.heap t vs.toArray)(hb:IsTup s.heap b ws.toArray)(Y:vs≠[])
(h1:ws=[]->Q (.ref t) s)(h2:ws≠[]->Q (.ref s.heap.objs.size) {s with heap:=s.heap.push {cls:= .type "tuple",data:= .seq (vs++ws).toArray}})
(hsz:vs.length+ws.length<=sizeLine):wpAny @h A (binaryOp .Add (.ref t) (.ref b)) Q E s:=by
 obtain ⟨⟨cls,Z,data,sl⟩,L,U,n,hd⟩:=id ht;obtain ⟨⟨S,z,R,B⟩,j,I,W,J⟩:=id hb;simp only at U hd I J;subst U hd I J
 have e:vs.toArray++ws.toArray=(vs++ws).toArray:=by simp
 by_cases O:ws=[]
 ·exact concat_meets ⟨_,L,rfl⟩ ⟨_,j,rfl⟩ noFill_tuple_add seq_tuple_add PySem.F.slot_tuple_add PySem.F.entry_tuple_add @cD
   (tuple_addW1 t b vs.toArray ws.toArray n W Z z sl B (by simpa using Y) (by simp [O])) ⟨L,j,h1 O⟩
 ·refine concat_meets ⟨_,L,rfl⟩ ⟨_,j,rfl⟩ noFill_tuple_add seq_tuple_add PySem.F.slot_tuple_add PySem.F.entry_tuple_add @cD
   (tuple_addW2 t b vs.toArray ws.toArray n W Z z sl B (by simpa using Y) (by simpa using O) (by rw [size_toArray,size_toArray];exact hsz)) ⟨L,j,?_⟩
  rw [e];exact h2 O
noncomputable def sIx (n d:Nat):Option Int->Nat
 |none=>d
 |some v=>if v<0 then (v+(n:Int)).toNat else min v.toNat n
theorem Lo (n d:Nat)(J:d<=n)(o:Option Int):sIx n d o<=n:=by
 cases o with
 |none=>exact J
 |some v=>
  show (if v<0 then (v+(n:Int)).toNat else min v.toNat n)<=n;by_cases Y:v<0
  ·rw [if_pos Y];lia
  ·rw [if_neg Y];exact Nat.min_le_right _ _
theorem AZ (v:Int)(n d:Nat):(if v<0 then max (v+(n:Int)) 0 else min v (n:Int))=((sIx n d @bs:Nat):Int):=by
 show (if v<0 then max (v+(n:Int)) 0 else min v (n:Int))=(((if v<0 then (v+(n:Int)).toNat else min v.toNat n):Nat):Int);by_cases Y:v<0
 ·simp only [if_pos Y];lia
 ·simp only [if_neg Y];lia
theorem zX (lo hi:Option Int)(n:Nat):Builtin.Slice.sliceAdjust lo hi 1 (n:Int)=(((sIx n 0 lo:Nat):Int),((sIx n n hi:Nat):Int)):=by
 have h1: ¬((1:Int)<0):=by lia
 unfold Builtin.Slice.sliceAdjust;simp only [h1,if_false];rwa[Prod.ext ?_ ?_]
 ·cases lo with
  |none=>rfl
  |some v=>exact AZ v n 0
 ·cases hi with
  |none=>rfl
  |some v=>exact AZ v n n
theorem yU (i j:Nat):Builtin.Slice.slicePlaces (i:Int) (j:Int) 1=j - i:=by
 unfold Builtin.Slice.slicePlaces
 have h1:(1:Int)>0:=by lia
 simp only [h1,if_true,Int.ediv_one];split<;>lia
theorem qa {v:Value}{o:Option Int}{Q:Option Int->Shared->Prop}(p:IsPart v o)(h:Q o s):wpAny @h A (Builtin.Slice.slicePartIndex v) Q E s:=by
 cases p with
 |none=>exact slicePart_none h
 |int i t=>exact slicePart_int h
theorem mE {sl:Addr}{F B:Value}{lo hi:Option Int}{n:Nat}{Q:Int×Int×Nat->Shared->Prop}(hs:s.heap.IsSliceOf sl F B .none)(pl:IsPart F lo)(J:IsPart B hi)
(h:Q (((sIx n 0 lo:Nat):Int),1,sIx n n hi - sIx n 0 lo) s):wpAny @h A (Builtin.Slice.sliceApplied (.ref sl) (pure (n:Int))) Q E s:=by
 obtain ⟨os,j,I,z⟩:=id hs;unfold Builtin.Slice.sliceApplied Builtin.Slice.sliceFields;rwa[wpAny_bind (wpAny_bind (wpAny_field j z (x:=F) rfl (wpAny_bind (wpAny_field j z (x:=B) rfl (wpAny_bind (wpAny_field j z (x:= .none) rfl @V))))))];rwa[wpAny_bind (slicePart_none ?_)];show wpAny _ _ (if ((1:Int)==0)=true then _ else _) _ _ s;rw [if_neg @c];rwa[wpAny_bind (qa pl (wpAny_bind (qa J (wpAny_bind @V))))];show wpAny _ _ (match Builtin.Slice.sliceAdjust lo hi 1 (n:Int) with|(lo,hi)=>pure (lo,(1:Int),Builtin.Slice.slicePlaces lo hi 1)) _ _ s;rw [zX lo hi n];show wpAny _ _ (pure (((sIx n 0 lo:Nat):Int),(1:Int),Builtin.Slice.slicePlaces ((sIx n 0 lo:Nat):Int) ((sIx n n hi:Nat):Int) 1)) _ _ s;rw [yU];exact wpAny_pure h
theorem Ek (xs:Array Value)(i k:Nat):((List.range k).filterMap λ(m:Nat)=>xs[((i:Int)+(m:Int)*1).toNat]?).toArray=((xs.toList.drop i).take k).toArray:=by
 have e:(λ(m:Nat)=>xs[((i:Int)+(m:Int)*1).toNat]?)=λm=>xs[i+m]? :=by
  funext m
  have:((i:Int)+(m:Int)*1).toNat=i+m:=by lia
  rw [this]
 rw [e];have:=pick_run xs i k;rw [filterMap_map] at this;have O:((λx=>xs[x]?)∘λx=>i+x)=λm=>xs[i+m]? :=rfl;rw [O] at this;rw [this]
theorem getItem_tuple_cut {t sl:Addr}{j:Array Value}{R O:Value}{lo hi:Option Int}{Q:Value->Shared->Prop}(J:IsTup s.heap t j)(hs:s.heap.IsSliceOf sl R O .none)(pl:IsPart R lo)(U:IsPart O hi)
(W: ¬(sIx j.size 0 lo=0/\sIx j.size j.size hi=j.size))
(h:Q (.ref s.heap.objs.size) {s with heap:=s.heap.push {cls:= .type "tuple",data:= .seq ((j.toList.drop @eT).take (sIx j.size j.size hi - sIx j.size 0 lo)).toArray}})
(hsz:j.size<=sizeLine):wpAny @h A (getItem (.ref t) (.ref sl)) Q E s:=by
 have z:sizeOk (.seq ((j.toList.drop @eT).take (sIx j.size j.size hi - sIx j.size 0 lo)).toArray):=by
  show ((j.toList.drop @eT).take (sIx j.size j.size hi - sIx j.size 0 lo)).toArray.size<=sizeLine;rw [size_toArray,length_take,length_drop,Array.length_toList];lia
 have Z:sIx j.size j.size hi<=j.size:=Lo _ _ @f hi;obtain ⟨os,B,I,S⟩:=id hs;have F:s.TypeIs (.ref sl) "slice":=⟨os,B,I⟩;unfold getItem
 try with_reducible refine wpAny_holding ?_
 first|refine wpAny_bind @V|skip
 rwa[wpAny_bind (wpAny_sequenceKey J.typeIs @c ?_)]
 refine wpAny_bind (wpAny_callSpecial?_slot (name:=s!"__getitem__") J.typeIs PyProof.Rows.slot_tuple_getitem
  (wpAny_call_entry PyProof.Rows.slot_tuple_getitem J.typeIs entry_tuple_getitem ?_ (args_tuple_getitem _ _)))
 show wpAny _ _ (Builtin.Tuple.tupleItemsOf (.ref t)>>=_) _ _ s;rwa[wpAny_bind (tupleItemsOf_ J ?_)];rwa[wpAny_bind (wpAny_typeOf F ?_)];rw [if_pos @c];rwa[wpAny_bind (mE hs pl U ?_)]
 have L: ¬((((sIx j.size 0 lo:Nat):Int)==0&&(1:Int)==1&&(sIx j.size j.size hi - sIx j.size 0 lo)==j.size)=true):=by
  intro q;rw [Bool.and_eq_true,Bool.and_eq_true] at q;have Y:((sIx j.size 0 lo:Nat):Int)=0:=eq_of_beq q.1.1;have q2:sIx j.size j.size hi - sIx j.size 0 lo=j.size:=eq_of_beq q.2;exact W ⟨by lia,by lia⟩
 show wpAny _ _ (if (((sIx j.size 0 lo:Nat):Int)==0&&(1:Int)==1&&(sIx j.size j.size hi - sIx j.size 0 lo)==j.size)=true then _ else _) _ _ s;rw [if_neg L,Ek]
 first
  |exact wpAny_bind (m:=Builtin.Tuple.tupleExact _) (wpAny_newObj_type @bl z)
  |exact wpAny_bind (m:=Builtin.Tuple.tupleExact _) (wpAny_newObj_type (wpAny_bind (wpAny_pure @bl)) z)
  |exact wpAny_bind (wpAny_bind (m:=Builtin.Tuple.tupleExact _) (wpAny_newObj_type (wpAny_pure @bl) z))
  |exact wpAny_bind (wpAny_bind (m:=Builtin.Tuple.tupleExact _) (wpAny_newObj_type @bl z))
end
end HT
namespace L2
open PySem PySem.Spec PyProof.Rows
abbrev TO:=St->Hp->(Option Int->Hp->Prop)->Prop
def PO (X:Cx)(e:Option Expr)(t:TO):Prop:=
 ∀(pins:List (Addr×Obj)) (s:Shared) (σ:St) (H:Hp) (Q:Option Int->Hp->Prop),av X pins σ H s->t σ H Q->
  wpAny @d X.A (evalPart e X.env) (λu s'=>∃o H',av X pins σ H' s'/\IsPart u o/\Q o H') X.xe s
def Ha:TO:=λ_ H Q=>Q none H
section
variable {X:Cx}{e:Expr}{te:TE}{lo hi:Option Expr}{tl th:TO}{pos p2:Pos}
theorem HS:PO X none Ha:=by
 intro pins s σ H Q I h;rw [evalPart_none];exact wpAny_pure ⟨none,H,I,.none,h⟩
def Nh (X:Cx)(r:V->Option Int->Option Int->Hp->VK->Prop):Prop:=
 ∀(pins:List (Addr×Obj)) (s:Shared) (σ:St) (H:Hp) (x:V) (v vl vu:Value) (lo hi:Option Int) (sl:Addr) (Q:VK),av X pins σ H s->ay x v->s.heap.IsSliceOf sl vl vu .none->IsPart vl lo->IsPart vu hi->r x lo hi H Q->
  ∃T id,typeLookup (.type T) "__getitem__"=pure (some (.builtin id))/\s.TypeIs v T/\wpAny @d X.A (getItem v (.ref sl)) @p X.xe s
def R8 (r:V->Option Int->Option Int->Hp->VK->Prop)(te:TE)(tl th:TO):TE:=λσ H Q=>te σ H λx H1=>tl σ H1 λl H2=>th σ H2 λu H3=>r x l u H3 Q
theorem Eo {r:V->Option Int->Option Int->Hp->VK->Prop}(hr:Nh X r)(he:PE X e te)(W:PO X lo tl)(Y:PO X hi th):PE X (.Subscript e (.Slice lo hi none p2) pos) (R8 r te tl th):=by
 intro pins s σ H Q I h;rwa[Subscript_ (br @dJ λv J ⟨x,H1,I1,R,q1⟩=> ?_)];rwa[wpAny_Slice (br (W pins J σ H1 _ I1 q1) λF S ⟨l,H2,j,pl,U⟩=>br (Y pins S σ H2 _ j U) λB L ⟨u,z,Z,pu,q3⟩=> ?_)];rw [evalPart_none];rwa[wpAny_pure ?_];have I4:av X pins σ z {L with heap:=L.heap.push {cls:= .type "slice",data:= .fields #[F,B,.none]}}:=Z.kept (t':=L.toks) λb ob q=>Heap.get?_push_of_some _ q;obtain ⟨T,id,hT,O,hg⟩:=hr pins {L with heap:=L.heap.push {cls:= .type "slice",data:= .fields #[F,B,.none]}} σ z x v F B l u L.heap.objs.size Q I4 R (Heap.IsSliceOf.new ..) pl pu q3;show wpAny @d X.A (subscriptTail e (.Slice lo hi none p2) v (.ref L.heap.objs.size)) @p X.xe {L with heap:=L.heap.push {cls:= .type "slice",data:= .fields #[F,B,.none]}};exact tail_any (ops:=[.ref L.heap.objs.size,v]) O hT hg @U
noncomputable def xq (xs:List V)(lo hi:Option Int):List V:=(xs.drop @dz).take (HT.sIx xs.length xs.length hi - HT.sIx xs.length 0 lo)
theorem oE (xs:List V)(lo hi:Option Int):(xq xs lo hi).length<=xs.length:=by
 unfold xq;rw [length_take,length_drop];lia
def Re (K:Fg):V->Option Int->Option Int->Hp->VK->Prop:=λx lo hi H Q=>∃a xs,x= .ref a/\aB K H a xs/\
 ¬(HT.sIx xs.length 0 lo=0/\HT.sIx xs.length xs.length hi=xs.length)/\∀p,H p=none->Q (.ref p) (upd H p (.tup @cJ))
theorem Ld:Nh X (Re X.K):=by
 intro pins s σ H x v U S lo hi sl Q I L hs pl j h;obtain ⟨a,xs,rfl,O,F,q⟩:=h;cases L;obtain ⟨its,r,J,B⟩:=I.tuple O
 have z:its.toArray.size=xs.length:=by rw [size_toArray];exact r.length.symm
 rwa[⟨"tuple",_,PyProof.Rows.slot_tuple_getitem.lookup,J.typeIs,?_⟩];rwa[HT.getItem_tuple_cut J hs pl j (by rw [z];exact F) ?_ (by rw [z];exact B)];rw [z];rwa[⟨.ref s.heap.objs.size,_,I.laid (t':=s.toks) (o:= .tup @cJ) (λb R q=>Heap.get?_push_of_some _ q) @f ?_,rfl,q _ @br⟩];exact ⟨Nat.le_trans (oE xs lo hi) B,_,(r.drop @dz).take (HT.sIx xs.length xs.length hi - HT.sIx xs.length 0 lo),IsTup.new _ _⟩
def Oz (K:Fg):R2:=λx y H Q=>∃a b xs ys,x= .ref a/\y= .ref b/\aB K H a xs/\aB K H b ys/\xs≠[]/\xs.length+ys.length<=sizeLine/\
 (ys=[]->Q (.ref a) H)/\(ys≠[]->∀p,H p=none->Q (.ref p) (upd H p (.tup (xs++ys))))
theorem aJ.nil_iff {xs:List V}{us:List Value}(r:aJ xs us):us=[]↔xs=[]:=by
 cases r with
 |nil=>simp
 |cons _ _=>simp
theorem Ij:cG X @bv (Oz X.K):=by
 intro pins s σ H x y v u Q I O W h;obtain ⟨a,b,xs,ys,rfl,rfl,J,Y,U,F,R,Z⟩:=h;cases O;cases W;obtain ⟨its,B,S,_⟩:=I.tuple J;obtain ⟨j,L,p2,_⟩:=I.tuple Y;rwa[HT.cat_tup S p2 (λz=>U (B.nil_iff.mp z)) (λz=>⟨.ref a,H,I,rfl,R (L.nil_iff.mp z)⟩) @s (by rw [<-B.length,<-L.length];exact F)];rwa[⟨.ref s.heap.objs.size,_,I.laid (t':=s.toks) (o:= .tup (xs++ys)) (λb ob q=>Heap.get?_push_of_some _ q) @f ?_,rfl,Z (λw=>z (L.nil_iff.mpr w)) _ @br⟩];exact ⟨by rw [length_append];exact F,_,B.append L,IsTup.new _ _⟩
end
noncomputable def AK (n:Nat)(i:Int):Option Nat:=if 0<=i then (if i<n then some i.toNat else none) else if -(n:Int)<=i then some (i+n).toNat else none
noncomputable def l9 {α:Type}(xs:List α)(i:Int):Option α:=(AK xs.length i).bind λj=>xs[j]?
theorem AJ {n:Nat}{i:Int}{j:Nat}(h:AK n i=some j):seqIndex? i n=some j/\j<n/\ -(n:Int)<=i/\i<n:=by
 unfold AK at h;by_cases B:0<=i
 ·rw [if_pos B] at h;by_cases h1:i<n
  ·rw [if_pos h1] at h;have e:i.toNat=j:=Option.some.inj h;exact ⟨by rw [seqIndex_of B h1,e],by lia,by lia,h1⟩
  ·rw [if_neg h1] at h;cases h
 ·rw [if_neg B] at h;by_cases h1: -(n:Int)<=i
  ·rw [if_pos h1] at h;have e:(i+n).toNat=j:=Option.some.inj h;exact ⟨by rw [seqIndex_neg @b h1,e],by lia,h1,by lia⟩
  ·rw [if_neg h1] at h;cases h
theorem vK {α:Type}{xs:List α}{i:Int}{v:α}(h:l9 xs i=some v):∃j,seqIndex? i xs.length=some j/\xs[j]? =some v/\j<xs.length/\ -(xs.length:Int)<=i/\i<xs.length:=by
 unfold l9 at h
 cases e:AK xs.length i with
 |none=>rw [e] at h;cases h
 |some j=>
  rw [e] at h;obtain ⟨h1,h2,L,z⟩:=AJ e;exact ⟨j,h1,h,h2,L,z⟩
theorem bD {α:Type}{xs:List α}{j:Nat}{v:α}(h:xs[j]? =some v):l9 xs (j:Int)=some v:=by
 have Z:j<xs.length:=(List.getElem?_eq_some_iff.mp h).1
 have e:AK xs.length (j:Int)=some j:=by
  unfold AK;rw [if_pos @b,if_pos @b];simp
 unfold l9;rw [e];exact h
def JB (b:Expr):Prop:=∀o i,subscripted b false o i=operate [o,i] (getItem o i)
def CN (X:Cx)(r:R2):Prop:=
 ∀(value slice:Expr) (pins:List (Addr×Obj)) (s:Shared) (σ:St) (H:Hp) (x y:V) (v u:Value) (Q:VK),av X pins σ H s->ay x v->ay y u->r x y H Q->
  subscripted slice false v u=operate [v,u] (getItem v u)->wpAny @d X.A (subscriptTail value slice v u) @p X.xe s
def xO (X:Cx)(id:String)(r:V->List V->Hp->VK->Prop):Prop:=
 ∀(pins:List (Addr×Obj)) (s:Shared) (σ:St) (H:Hp) (x:V) (xs:List V) (v:Value) (us:List Value) (Q:VK),av X pins σ H s->ay x v->aJ xs us->r x xs H Q->
  wpAny @d X.A (call (.builtin id) (v::us)) @p X.xe s
section
variable {X:Cx}{a b:Expr}{ta tb:TE}{pos:Pos}
theorem eV {r:R2}(S:CN X r)(j:PE X a ta)(F:PE X b tb)(hs:JB b):PE X (.Subscript a b pos) @fb:=by
 intro pins s σ H Q I h;exact Subscript_ (Nb j F I h λv u O x y H2 B L z q=>S a b pins O σ H2 x y v u Q B L z q (hs _ _))
def Ri (K:Fg):R2:=λx y H Q=>∃p xs i v,x= .ref p/\y= .int i/\aA K H p xs/\l9 xs i=some v/\Q v H
def Rg (K:Fg):R2:=λx y H Q=>∃p xs i v,x= .ref p/\y= .int i/\aB K H p xs/\l9 xs i=some v/\Q v H
def Rh:R2:=λx y H Q=>∃z i c,x= .str z/\y= .int i/\z.length<=sizeLine/\l9 z.cps.toList i=some c/\Q (.str ⟨#[c]⟩) H
theorem IY:CN X (Ri X.K):=by
 intro value J pins s σ H x y v u Q I R S h hs;obtain ⟨p,xs,i,z,rfl,rfl,Y,he,q⟩:=h;cases R;obtain ⟨t,rfl⟩:=S;obtain ⟨its,r,pl,hz⟩:=I.list Y;obtain ⟨j,h1,h2,h3,h4,U⟩:=vK he;obtain ⟨w,L,F⟩:=r.get h2;have W:=r.length;have hn:=j6;have B:EP X pins σ Q w s:=⟨z,H,I,F,q⟩;by_cases O:0<=i
 ·have Z:i.toNat=j:=by
   rw [seqIndex_of O U] at h1;exact Option.some.inj h1
  exact item_listR pl.isList O @b (by rw [Z];simpa using L) B hs
 ·have Z:(i+(its.toArray.size:Int)).toNat=j:=by
   rw [seqIndex_neg @b h4] at h1;rw [size_toArray,<-W];exact Option.some.inj h1
  exact subscriptTail_builtinR (x:=w) pl.isList.typeIs slot_list_getitem.lookup
   (wpAny_getItem_list_neg (Q:=λr s'=>r=w/\EP X pins σ Q r s') pl.isList @b (by rw [size_toArray]<;>lia) @b (by rw [Z];simpa using L) ⟨rfl,B⟩) hs
theorem ML:CN X (Rg X.K):=by
 intro value J pins s σ H x y v u Q I O R h hs;obtain ⟨p,xs,i,z,rfl,rfl,L,U,q⟩:=h;cases O;obtain ⟨t,rfl⟩:=R;obtain ⟨its,r,pl,hz⟩:=I.tuple L;obtain ⟨j,h1,h2,Y,h4,h5⟩:=vK U;obtain ⟨w,S,F⟩:=r.get h2;have W:=r.length;have Z:=j6;have B:EP X pins σ Q w s:=⟨z,H,I,F,q⟩
 exact subscriptTail_builtinR (x:=w) pl.typeIs slot_tuple_getitem.lookup
  (getItem_tuple (j:=j) (Q:=λr s'=>r=w/\EP X pins σ Q r s') pl @b @b (by rw [size_toArray,<-W];exact h1) (by simpa using S) ⟨rfl,B⟩) hs
theorem MM:CN X Rh:=by
 intro value J pins s σ H x y v u Q I L F h hs;obtain ⟨z,i,c,rfl,rfl,hz,U,q⟩:=h;obtain ⟨t,rfl⟩:=L;obtain ⟨Y,rfl⟩:=F;obtain ⟨j,h1,h2,Z,B,O⟩:=vK U
 have W:z.cps.toList.length=z.length:=by simp [Str.length]
 rw [W] at h1 B O;have hn:=j6
 exact tail_any @eA slot_str_getitem.lookup (getItem_str (c:=c) (by
  have R:decide (i< -(2^63:Int))=false:=decide_eq_false @b;have S:decide (i≥2^63)=false:=decide_eq_false @b
  rw [R,S,Bool.or_false]) (by rw [h1];simpa using h2) ⟨.str ⟨#[c]⟩,H,I.tok _,⟨_,rfl⟩,q⟩) hs
theorem zg (its:List Value)(n j:Nat)(u:Value):Obj.mapSeq (·.setIfInBounds j u) {cls:= .type "list",data:= .seq its.toArray n}= {cls:= .type "list",data:= .seq (its.set j u).toArray n}:=by
 simp [Obj.mapSeq]
theorem av.lst {pins:List (Addr×Obj)}{σ:St}{H:Hp}{s:Shared}{p:Addr}{xs:List V}(I:av X pins σ H s)(h:H p=some (.lst xs)):
 ∃(its:List Value) (n:Nat),aJ xs its/\s.heap.get? p=some {cls:= .type "list",data:= .seq its.toArray n}/\xs.length<=sizeLine:=by
 obtain ⟨z,its,n,r,e⟩:=I.hok p _ h;exact ⟨its,n,r,e,z⟩
theorem av.lstUpd {pins:List (Addr×Obj)}{σ:St}{H:Hp}{s:Shared}{p:Addr}{xs ys:List V}{its its':List Value}{n F:Nat}{f:Obj->Obj}(I:av X pins σ H s)(h:H p=some (.lst xs))
(j:s.heap.get? p=some {cls:= .type "list",data:= .seq its.toArray n})(B:f {cls:= .type "list",data:= .seq its.toArray n}= {cls:= .type "list",data:= .seq its'.toArray F})(r:aJ ys its')(J:ys.length<=sizeLine)(t:Nat):
 av X pins σ @R {s with heap:=s.heap.update p f,toks:=t}:=by
 have e:(s.heap.update p f).get? p=some {cls:= .type "list",data:= .seq its'.toArray F}:=by
  rw [Heap.get?_update_self f j (by rw [B]<;>rfl),B]
 rwa[I.write (x:=p) (e:=p) (by rw [h];trivial) (.inl rfl) (λb u z q=>(Heap.get?_update_other _ _ (Ne.symm z)).trans q) ⟨_,e⟩ ?_];exact ⟨J,its',F,r,e⟩
def Ov:V->V->V->Hp->(Hp->Prop)->Prop:=λo i v H Q=>∃p xs k j,o= .ref p/\i= .int k/\H p=some (.lst xs)/\AK xs.length k=some j/\Q @bz
theorem DN:Gs X Ov:=by
 intro pins s σ H o i v ov iv u Q I ro ri U h;obtain ⟨p,xs,k,j,rfl,rfl,J,Z,q⟩:=h;cases ro;obtain ⟨t,rfl⟩:=ri;obtain ⟨its,n,r,z,Y⟩:=I.lst J;obtain ⟨h1,h2,L,O⟩:=AJ Z;have B:=r.length;have hn:=j6
 have F:av X pins σ @bz {s with heap:=s.heap.update p (Obj.mapSeq (·.setIfInBounds j u))}:=
  I.lstUpd J z (zg its n j u) (r.set U j) (by rw [length_set];exact Y) s.toks
 by_cases S:0<=k
 ·have R:k.toNat=j:=by
   rw [seqIndex_of S O] at h1;exact Option.some.inj h1
  exact W.ki_setAt z S @b (by rw [size_toArray,<-B];exact O) (by rw [R];exact ⟨_,F,q⟩)
 ·have R:(k+(its.toArray.size:Int)).toNat=j:=by
   rw [seqIndex_neg @b L] at h1;rw [size_toArray,<-B];exact Option.some.inj h1
  exact W.ki_setBack z @b (by rw [size_toArray,<-B];exact L) @b (by rw [R];exact ⟨_,F,q⟩)
theorem uM (lo hi:Option Int)(n:Nat):(sliceBounds lo hi none n).1=((HT.sIx n 0 lo:Nat):Int)/\(sliceBounds lo hi none n).2.1=((HT.sIx n n hi:Nat):Int)/\(sliceBounds lo hi none n).2.2=1:=by
 rwa[⟨?_,?_,rfl⟩]
 ·cases lo with
  |none=>simp [sliceBounds,HT.sIx]
  |some i=>
   simp only [sliceBounds,HT.sIx,Option.getD_none,show (1:Int)>0 by decide,if_true];by_cases h:i<0
   ·simp only [h,if_true]<;>lia
   ·simp only [h,if_false]<;>lia
 ·cases hi with
  |none=>simp [sliceBounds,HT.sIx]
  |some i=>
   simp only [sliceBounds,HT.sIx,Option.getD_none,show (1:Int)>0 by decide,if_true];by_cases h:i<0
   ·simp only [h,if_true]<;>lia
   ·simp only [h,if_false]<;>lia
theorem sh (its:List Value)(lo hi:Option Int):slicePick its.toArray lo hi none=((its.drop (HT.sIx its.length 0 lo)).take (HT.sIx its.length its.length hi - HT.sIx its.length 0 lo)).toArray:=by
 obtain ⟨h1,h2,L⟩:=uM lo hi its.toArray.size;unfold slicePick;rw [h1,h2,L];simp only [sliceRange_one,pick_run,size_toArray]<;>rfl
def Rf (K:Fg):V->Option Int->Option Int->Hp->VK->Prop:=λx lo hi H Q=>∃a xs,x= .ref a/\aA K H a xs/\∀p,H p=none->Q (.ref p) (upd H p (.lst @cJ))
theorem Hn:Nh X (Rf X.K):=by
 intro pins s σ H x v S R lo hi sl Q I L hs pl j h;obtain ⟨a,xs,rfl,B,q⟩:=h;cases L;obtain ⟨its,r,J,F⟩:=I.list B;have z:=r.length;rwa[⟨"list",_,slot_list_getitem.lookup,J.isList.typeIs,?_⟩];rwa[wpAny_getItem_list_slice J.isList hs pl j .none @e ?_ (by rw [size_toArray]<;>lia)];rw [sh,<-z];rwa[⟨.ref s.heap.objs.size,_,I.laid (t':=s.toks) (o:= .lst @cJ) (λb O q=>Heap.get?_push_of_some _ q) @f ?_,rfl,q _ @br⟩];exact ⟨Nat.le_trans (oE xs lo hi) F,_,0,(r.drop @dz).take (HT.sIx xs.length xs.length hi - HT.sIx xs.length 0 lo),Heap.get?_push_size _ rfl⟩
noncomputable def cE:V->Bool
 | .non=>true
 | .bl _=>true
 | .int _=>true
 | .str _=>true
 |_=>false
noncomputable def Jk:V->V->Bool
 | .non,.non=>true
 | .bl a,.bl b=>a==b
 | .bl a,.int b=>(if a then 1 else 0)==b
 | .int a,.bl b=>a==(if b then 1 else 0)
 | .int a,.int b=>a==b
 | .str a,.str b=>a==b
 |_,_=>false
theorem fO {A:Around}{s:Shared}{y x:V}{u v:Value}(j:ay y u)(L:ay x v)(F:cE y=true)(B:cE x=true):SeqAt.EqAt A s u v (Jk y x):=by
 cases y with
 |non=>
  cases j
  cases x with
  |non=>cases L;exact SeqAt.EqAt.same _
  |bl b=>cases L;exact SeqAt.EqAt.none_bool b
  |int b=>obtain ⟨t,rfl⟩:=L;exact SeqAt.EqAt.none_int b t
  |str b=>obtain ⟨t,rfl⟩:=L;exact SeqAt.EqAt.none_str b t
  |_=>exact absurd (show false=true from B) Bool.false_ne_true
 |bl a=>
  cases j
  cases x with
  |non=>cases L;exact SeqAt.EqAt.bool_none a
  |bl b=>cases L;exact SeqAt.EqAt.bool_bool a b
  |int b=>obtain ⟨t,rfl⟩:=L;exact SeqAt.EqAt.bool_int a b t
  |str b=>obtain ⟨t,rfl⟩:=L;exact SeqAt.EqAt.bool_str a b t
  |_=>exact absurd (show false=true from B) Bool.false_ne_true
 |int a=>
  obtain ⟨z,rfl⟩:=j
  cases x with
  |non=>cases L;exact SeqAt.EqAt.int_none a z
  |bl b=>cases L;exact SeqAt.EqAt.int_bool a z b
  |int b=>obtain ⟨t,rfl⟩:=L;exact SeqAt.EqAt.int_int a z b t
  |str b=>obtain ⟨t,rfl⟩:=L;exact SeqAt.EqAt.int_str a z b t
  |_=>exact absurd (show false=true from B) Bool.false_ne_true
 |str a=>
  obtain ⟨z,rfl⟩:=j
  cases x with
  |non=>cases L;exact SeqAt.EqAt.str_none a z
  |bl b=>cases L;exact SeqAt.EqAt.str_bool a z b
  |int b=>obtain ⟨t,rfl⟩:=L;exact SeqAt.EqAt.str_int a z b t
  |str b=>obtain ⟨t,rfl⟩:=L;exact SeqAt.EqAt.str_str a z b t
  |_=>exact absurd (show false=true from B) Bool.false_ne_true
 |_=>exact absurd (show false=true from F) Bool.false_ne_true
noncomputable def zG (x:V)(u:Value):Bool:=match u with
 | .none=>Jk .non x
 | .bool b=>Jk (.bl b) x
 | .int i _=>Jk (.int i) x
 | .str z _=>Jk (.str z) x
 |_=>false
theorem FL {x y:V}{u:Value}(r:ay y u)(f:cE y=true):zG x u=Jk y x:=by
 cases y with
 |non=>cases r;rfl
 |bl b=>cases r;rfl
 |int i=>obtain ⟨t,rfl⟩:=r;rfl
 |str z=>obtain ⟨t,rfl⟩:=r;rfl
 |_=>exact absurd (show false=true from f) Bool.false_ne_true
theorem lT {x:V}:∀ {xs:List V} {us:List Value},aJ xs us->xs.all cE=true->us.any (zG x)=xs.any λy=>Jk y x
 |_,_,.nil,_=>rfl
 |y::xs,u::us,.cons r t,f=>by
  rw [all_cons,Bool.and_eq_true] at f;rw [any_cons,any_cons,FL r f.1,lT t f.2]
theorem iR {A:Around}{s:Shared}{x:V}{v:Value}(L:ay x v)(B:cE x=true):∀ {xs:List V} {us:List Value},aJ xs us->xs.all cE=true->∀u∈us,SeqAt.EqAt A s u v (zG x u)
 |_,_,.nil,_=>λu z=>by cases z
 |y::xs,u::us,.cons r t,f=>λj z=>by
  rw [all_cons,Bool.and_eq_true] at f
  rcases mem_cons.mp z with rfl|z
  ·rw [FL r f.1];exact fO r L f.1 B
  ·exact iR L B t f.2 j z
noncomputable def vw (x:V)(xs:List V):Bool:=xs.any λy=>Jk y x
def Qa (K:Fg)(neg:Bool):R2:=λx y H Q=>∃p xs,y= .ref p/\(aA K H p xs\/aB K H p xs)/\cE x=true/\xs.all cE=true/\Q (.bl (if neg then !vw x xs else vw x xs)) H
theorem BM:cG X @dP (Qa X.K false):=by
 intro pins s σ H x y v u Q I L z h;obtain ⟨p,xs,rfl,F,B,fs,q⟩:=h;cases z
 rcases F with F|F
 ·obtain ⟨its,r,pl,J⟩:=I.list F;rwa[SeqAt.in_listAt (zG x) pl.isList (λw j=>iR L B r fs w (by simpa using j)) ⟨.bl _,H,I,rfl,?_⟩];rw [show its.toArray.any (zG x)=its.any (zG x) by simp,lT r fs];exact q
 ·obtain ⟨its,r,pl,J⟩:=I.tuple F;rwa[SeqAt.in_tupleAt (zG x) pl (λw j=>iR L B r fs w (by simpa using j)) ⟨.bl _,H,I,rfl,?_⟩];rw [show its.toArray.any (zG x)=its.any (zG x) by simp,lT r fs];exact q
theorem vj:cG X @cm (Qa X.K true):=by
 intro pins s σ H x y v u Q I L z h;obtain ⟨p,xs,rfl,F,B,fs,q⟩:=h;cases z
 rcases F with F|F
 ·obtain ⟨its,r,pl,J⟩:=I.list F;rwa[SeqAt.notIn_listAt (zG x) pl.isList (λw j=>iR L B r fs w (by simpa using j)) ⟨.bl _,H,I,rfl,?_⟩];rw [show its.toArray.any (zG x)=its.any (zG x) by simp,lT r fs];exact q
 ·obtain ⟨its,r,pl,J⟩:=I.tuple F;rwa[SeqAt.notIn_tupleAt (zG x) pl (λw j=>iR L B r fs w (by simpa using j)) ⟨.bl _,H,I,rfl,?_⟩];rw [show its.toArray.any (zG x)=its.any (zG x) by simp,lT r fs];exact q
theorem vC:bf X (.builtin "len") (λxs H Q=>∃p ys,xs=[.ref p]/\(aA X.K H p ys\/aB X.K H p ys)/\Q (.int ys.length) H):=by
 intro pins s σ H xs j Q I r h;obtain ⟨p,ys,rfl,F,q⟩:=h;obtain ⟨u,rfl,L⟩:=fR r;cases L;have J:=j6
 rcases F with F|F
 ·obtain ⟨its,R,pl,B⟩:=I.list F;have z:=R.length;exact Calls.call_len_list pl.isList (by simp only [size_toArray]<;>lia) ⟨.int ys.length,H,I.tok _,⟨s.toks+1,by rw [size_toArray,z]⟩,q⟩
 ·obtain ⟨its,R,pl,B⟩:=I.tuple F;have z:=R.length;exact len_tuple pl (by simp only [size_toArray]<;>lia) ⟨.int ys.length,H,I.tok _,⟨s.toks+1,by rw [size_toArray,z]⟩,q⟩
theorem vB:bf X (.builtin "len") (λxs H Q=>∃z,xs=[.str z]/\z.length<=sizeLine/\Q (.int z.length) H):=by
 intro pins s σ H xs B Q I r h;obtain ⟨z,rfl,F,q⟩:=h;obtain ⟨u,rfl,t,rfl⟩:=fR r;have j:=j6;exact len_str @b ⟨.int z.length,H,I.tok _,⟨_,rfl⟩,q⟩
theorem bf.or {f:Value}{r R:List V->Hp->VK->Prop}(h:bf X f r)(h':bf X f R):bf X f (λxs H Q=>r xs H Q\/R xs H Q):=by
 intro pins s σ H xs j Q I z q
 rcases q with q|q
 ·exact h pins s σ H xs j Q I z q
 ·exact h' pins s σ H xs j Q I z q
theorem vA:bf X (.type "list") (λxs H Q=>∃p ys,xs=[.ref p]/\(aA X.K H p ys\/aB X.K H p ys)/\∀l,H l=none->Q (.ref l) @bX):=by
 intro pins s σ H xs Y Q I r h;obtain ⟨p,ys,rfl,F,q⟩:=h;obtain ⟨u,rfl,W⟩:=fR r;cases W
 have J:∀(its:List Value),aJ ys its->ys.length<=sizeLine->∀(h':Heap) (j:Nat),(∀b o',s.heap.get? b=some o'->h'.get? b=some o')->
  h'.get? s.heap.objs.size=some {cls:= .type "list",dict:=none,data:= .seq its.toArray j,slots:= #[]}->EP X pins σ Q (.ref s.heap.objs.size) {s with heap:=h'}:=λits R L h' j z e=>
  ⟨.ref s.heap.objs.size,_,I.laid (t':=s.toks) z @f (show be X.prog X.w _ h' _ (.lst ys) from ⟨L,its,j,R,e⟩),rfl,q _ @br⟩
 rcases F with F|F
 ·obtain ⟨its,R,pl,L⟩:=I.list F;have B:=R.length;obtain ⟨o,S,O,n,U⟩:=pl.isList;exact call_list_seq p (.inl rfl) S O U (λh' j z e=>J its R L h' j z e) (by simp only [size_toArray]<;>lia)
 ·obtain ⟨its,R,pl,L⟩:=I.tuple F;have B:=R.length;obtain ⟨o,S,O,n,U⟩:=pl;exact call_list_seq p (.inr rfl) S O U (λh' j z e=>J its R L h' j z e) (by simp only [size_toArray]<;>lia)
theorem sM:bf X (.type "tuple") (λxs H Q=>∃p ys,xs=[.ref p]/\((aA X.K H p ys/\∀l,H l=none->Q (.ref l) @cN)\/(aB X.K H p ys/\Q (.ref p) H))):=by
 intro pins s σ H xs S Q I r h;obtain ⟨p,ys,rfl,h⟩:=h;obtain ⟨u,rfl,O⟩:=fR r;cases O
 rcases h with ⟨F,q⟩|⟨F,q⟩
 ·obtain ⟨its,R,pl,B⟩:=I.list F;have z:=R.length;rwa[call_tuple_list pl.isList (λh' L=> ?_) (by simp only [size_toArray]<;>lia)];have j:av X pins σ H {s with heap:=h'}:=I.kept (t':=s.toks) L
  have J:av X pins σ (upd H h'.objs.size (.tup ys)) {s with heap:=h'.push {cls:= .type "tuple",data:= .seq its.toArray}}:=
   j.laid (t':=s.toks) (λb o e=>Heap.get?_push_of_some _ e) @f (show be X.prog X.w _ _ _ (.tup ys) from ⟨B,its,R,IsTup.new _ _⟩)
  exact ⟨.ref h'.objs.size,_,J,rfl,q _ @dG⟩
 ·obtain ⟨its,R,pl,B⟩:=I.tuple F;exact call_tuple_same pl ⟨.ref p,H,I,rfl,q⟩
def P2 (K:Fg)(T:String)(x:V)(H:Hp):Prop:=match x with
 | .str _=>T="str"
 | .int _=>T="int"
 | .ref p=>(T="list"/\∃xs,aA K H p xs)\/(T="tuple"/\∃o,K.lookup p=some o/\o.cls= .type "tuple"/\o.dict=none)\/
    (T="dict"/\((∃kvs,H p=some (.dK kvs))\/∃kvs,H p=some (.dT kvs)))\/(T="set"/\∃S n,H p=some (.set S n))
 |_=>False
theorem Df {pins:List (Addr×Obj)}{σ:St}{H:Hp}{s:Shared}{T:String}{x:V}{v:Value}(I:av X pins σ H s)(r:ay x v)(ty:P2 X.K T x H):
 s.TypeIs v T/\∀a,v= .ref a->∃ob,s.heap.get? a=some ob/\ob.dict=none:=by
 cases x with
 |str z=>
  obtain ⟨t,rfl⟩:=r;cases (show T="str" from ty);exact ⟨typeIs_str s z t,λ_ e=>nomatch e⟩
 |int i=>
  obtain ⟨t,rfl⟩:=r;cases (show T="int" from ty);exact ⟨typeIs_int s i t,λ_ e=>nomatch e⟩
 |ref p=>
  cases r
  rcases ty with ⟨rfl,xs,F⟩|⟨rfl,o,R,j,J⟩|⟨rfl,R⟩|⟨rfl,S,n,R⟩
  ·obtain ⟨its,_,pl,_⟩:=I.list F;rwa[⟨pl.isList.typeIs,λa e=> ?_⟩];cases e;obtain ⟨o,n,e,c,J,_⟩:=pl;exact ⟨o,e,J⟩
  ·rwa[⟨⟨o,I.kIn p o R,j⟩,λa e=> ?_⟩];cases e;exact ⟨o,I.kIn _ o R,J⟩
  ·have z:∃o,s.heap.get? p=some o/\o.ExactDict:=by
    rcases R with ⟨kvs,R⟩|⟨kvs,R⟩
    ·obtain ⟨_,_,_,_,o,_,_,e,ex,_⟩:=I.hok p _ R;exact ⟨o,e,ex⟩
    ·obtain ⟨_,_,_,_,o,_,_,e,ex,_⟩:=I.hok p _ R;exact ⟨o,e,ex⟩
   obtain ⟨o,e,ex⟩:=z;rwa[⟨⟨o,e,ex.1⟩,λa O=> ?_⟩];cases O;exact ⟨o,e,ex.2.1⟩
  ·obtain ⟨o,_,_,_,e,ex,_⟩:=I.hok p _ R;rwa[⟨⟨o,e,ex.1⟩,λa O=> ?_⟩];cases O;exact ⟨o,e,ex.2.1⟩
 |_=>exact False.elim ty
variable {o e:Expr}{es:List Expr}{to:TE}{t:TA}{name:Str}{apos cpos:Pos}{T id:String}{r:V->List V->Hp->VK->Prop}
end
def RY (X:Cx)(id:String)(r:V->List V->Hp->VK->Prop):Prop:=
 ∀(pins:List (Addr×Obj)) (s:Shared) (σ:St) (H:Hp) (x:V) (xs:List V) (v:Value) (us:List Value) (Q:VK),av X pins σ H s->ay x v->aJ xs us->r x xs H Q->
  wpAny @d X.A (call (.builtin id) (v::us)) @p X.xe s
theorem aJ.one:∀ {x:V} {us:List Value},aJ [x] us->∃u,us=[u]/\ay x u
 |_,_,.cons r .nil=>⟨_,rfl,r⟩
section
variable {X:Cx}{pins:List (Addr×Obj)}{σ:St}{H:Hp}{s:Shared}{l b:Addr}{xs ys zs:List V}
theorem av.lset {its its':List Value}{n:Nat}{f:Array Value->Array Value}{t':Nat}(I:av X pins σ H s)(F:H l=some (.lst xs))
(e:s.heap.get? l=some {cls:= .type "list",data:= .seq its.toArray n})(B:f its.toArray=its'.toArray)(Y:aJ ys its')(J:ys.length<=sizeLine):
 av X pins σ @bX {s with heap:=s.heap.update l (Obj.mapSeq f),toks:=t'}:=by
 have q:=PySem.IsL.update e f;rw [B] at q;rwa[I.write (x:=l) (e:=l) (by rw [F];exact trivial) (.inl rfl) (λL u j z=>(Heap.get?_update_other s.heap (Obj.mapSeq f) (Ne.symm j)).trans z) ⟨_,q⟩ ?_];exact ⟨J,its',_,Y,q⟩
theorem av.lnew {its:List Value}{t':Nat}(I:av X pins σ H s)(Y:aJ ys its)(B:ys.length<=sizeLine):
 av X pins σ (upd H s.heap.objs.size (.lst ys)) {s with heap:=s.heap.push {cls:= .type "list",data:= .seq its.toArray},toks:=t'}:=
 I.laid (λ_ _ q=>Heap.get?_push_of_some _ q) @f ⟨B,its,0,Y,Heap.get?_push_size _ rfl⟩
theorem av.fresh (I:av X pins σ H s):H s.heap.objs.size=none:=I.hok.fresh @f
theorem av.lstM (I:av X pins σ H s)(F:H l=some (.lst xs)):xs.length<=sizeLine/\∃(its:List Value) (n:Nat),aJ xs its/\xs.length=its.length/\s.heap.get? l=some {cls:= .type "list",data:= .seq its.toArray n}:=by
 obtain ⟨z,its,n,r,e⟩:=I.hok l _ F;exact ⟨z,its,n,r,r.length,e⟩
theorem qQ {n:Nat}(h:n<=sizeLine):Builtin.List.listTooLong n=false:=by
 unfold Builtin.List.listTooLong;exact decide_eq_false @b
end
section
variable {X:Cx}
def HM:V->List V->Hp->VK->Prop:=λx vs H Q=>∃l xs y,x= .ref l/\vs=[y]/\H l=some (.lst xs)/\xs.length<sizeLine/\Q .non (upd H l (.lst (xs++[y])))
theorem B3:RY X "list.append" HM:=by
 intro pins s σ H x R v O Q I L B h;obtain ⟨l,xs,y,rfl,rfl,j,S,q⟩:=h;cases L;obtain ⟨u,rfl,J⟩:=B.one;obtain ⟨z,its,n,r,W,e⟩:=I.lstM j;rwa[call_meets F.slot_list_append ⟨_,e,rfl⟩ F.entry_list_append (F.args_list_append_2 _ _) (PySem.list_append l its.toArray n u (by rw [size_toArray];lia)) ⟨e,?_⟩];rwa[⟨.non,_,I.lset (its':=its++[u]) j e @e (r.append (.cons J .nil)) ?_,rfl,q⟩];rw [length_append,length_singleton];lia
def HL:V->List V->Hp->VK->Prop:=λx vs H Q=>∃l b xs zs,x= .ref l/\vs=[.ref b]/\H l=some (.lst xs)/\H b=some (.lst zs)/\xs.length+zs.length<=sizeLine/\Q .non (upd H l (.lst (xs++zs)))
theorem B2:RY X "list.extend" HL:=by
 intro pins s σ H x vs v us Q I O R h;obtain ⟨l,b,xs,zs,rfl,rfl,L,hB,hz,q⟩:=h;cases O;obtain ⟨u,rfl,S⟩:=R.one;cases S;obtain ⟨z,its,n,r,hl,e⟩:=I.lstM L;obtain ⟨z2,j,W,U,Y,Z⟩:=I.lstM hB
 have J:its.toArray.size+j.toArray.size<=sizeLine:=by rw [size_toArray,size_toArray];lia
 have B: ¬(!its.toArray.isEmpty&&Builtin.List.listTooLong (its.toArray.size+j.toArray.size))=true:=by
  rw [qQ J,Bool.and_false];exact Bool.false_ne_true
 refine call_meets F.slot_list_extend ⟨_,e,rfl⟩ F.entry_list_extend (F.args_list_extend_2 _ _)
  (AutoSeq1.list_extend_list_list_0 l its.toArray n b j.toArray W B (by rw [size_toArray];lia) @b) ⟨e,Z,?_⟩
 rwa[⟨.non,_,I.lset (its':=its++j) L e @e (r.append U) ?_,rfl,q⟩];rw [length_append];lia
def Rj:R2:=λx y H Q=>∃l b xs zs,x= .ref l/\y= .ref b/\H l=some (.lst xs)/\H b=some (.lst zs)/\xs.length+zs.length<=sizeLine/\∀p,H p=none->Q (.ref p) (upd H p (.lst (xs++zs)))
theorem LQ:cG X @bv Rj:=by
 intro pins s σ H x y v u Q I L J h;obtain ⟨l,b,xs,zs,rfl,rfl,F,S,hz,q⟩:=h;cases L;cases J;obtain ⟨z,its,n,r,Z,e⟩:=I.lstM F;obtain ⟨U,j,W,B,Y,R⟩:=I.lstM S;rwa[PySem.P.add_list e R ?_ (by rw [size_toArray,size_toArray];lia)]
 have O:its.toArray++j.toArray=(its++j).toArray:=by simp
 rw [O];exact ⟨.ref _,_,I.lnew (t':=s.toks) (r.append B) (by rw [length_append];lia),rfl,q _ I.fresh⟩
end
end L2
namespace Att
open PySem PySem.W PySem.Calls PyProof.Rows
theorem o0 {P:Params}{h:Heap}:∀(ns:List Int) (vs:List Value),WellAll P h vs @eB->IntsAre vs ns:=by
 intro ns
 induction ns with
 |nil=>
  intro vs w;rw [map_nil] at w;cases w;exact .nil
 |cons n ns ih=>
  intro vs w;rw [map_cons] at w
  cases w with
  |cons a b=>
   cases a;exact .cons _ _ (ih _ b)
theorem Bn {l:OpenLaw}{n:Nat}(S:l.most=some n){P:Params}{h:Heap}{z:List WData}{j:List Value}
(B:l.row.toRowW.claim.pre z=true)(J:WellAll P h j z):
 ∃a vs ns,j=[Value.ref a]/\z=[WData.list @eB]/\h.get? a=some {cls:= .type "list",data:= .seq vs.toArray}/\IntsAre vs ns/\ns.length<=n:=by
 have L:WShape.hasAll [] z [.list .int]=true:=(pre_splitW B).1;have O:l.pre.holds [] {args:=z}=true:=(pre_splitW B).2;obtain ⟨d,r,rfl,h1,h2⟩:=hasAllW_cons L;obtain rfl:=hasAllW_nil h2;obtain ⟨xs,rfl,R⟩:=hasW_list h1;obtain ⟨ns,rfl⟩:=items_int R
 have F:ns.length<=n:=by
  unfold OpenLaw.pre at O
  have I:(WTm.not (.lt (.lit (.int (n:Int))) (.len (.arg 0)))).holds [] {args:=[.list (ns.map .int)]}=true:=by
   have I:=(holds_andW O).1;rw [S] at I;exact I
  have U:=condW_of I (w_not (w_lt w_lit (w_len_list (w_arg rfl))));rw [length_map] at U;rwa[Nat.le_of_not_lt λq=> ?_]
  have W:(n:Int)<((ns.length:Nat):Int):=by lia
  first
   |(rw [decide_eq_true W] at U;exact absurd U @c)
   |(simp at U;lia)
 cases J with
 |cons w1 w2=>
  cases w2
  cases w1 with
  |list ho hall=>exact ⟨_,_,ns,rfl,rfl,ho,o0 ns _ hall,F⟩
theorem BI (l:OpenLaw)(z:List WData):l.row.toRowW.claim.post z (.bool true) z=true:=
 postW_of (r:=l.row.toRowW) (X:=(true==true))
  (show WShape.has [] (.bool true) .bool=true by first|rfl|decide|simp [WShape.has,WShape.arms,WShape.armsAll])
  (show (WTm.eq .res (.lit (.bool true))).value [] {args:=z,res:=some (.bool true),after:=z}=some (.bool (true==true)) from w_eq_bool (w_res rfl) w_lit) rfl
end Att
namespace L2
open PySem PySem.Spec PyProof.Rows
theorem sV:∀ {vs:List Value} {ns:List Int},IntsAre vs ns->aJ @bV vs
 |_,_,.nil=> .nil
 |_,_,.cons n t h=> .cons ⟨t,rfl⟩ (sV h)
noncomputable def bT (s:Stmt):Arguments:=match s with
 | .FunctionDef _ a _ _ _ _ _ _ _ _=>a
 |_=> {posonlyargs:=[],args:=[],vararg:=none,kwonlyargs:=[],kw_defaults:=[],kwarg:=none,defaults:=[]}
noncomputable def bu (s:Stmt):List Stmt:=match s with
 | .FunctionDef _ _ b _ _ _ _ _ _ _=>b
 |_=>[]
noncomputable def ae (s:Stmt):Scope:=match s with
 | .FunctionDef _ _ _ _ _ _ sc _ _ _=>sc
 |_=> {kind:= .function,names:=[],isGenerator:=false,isCoroutine:=false}
abbrev aT:nV:=λ_ _ _ _ _ _=>False
abbrev E0:XK:=λ_ _ _=>False
theorem fX {X:Cx}:fQ aT X E0:=λ_ _ _ _ _ _ _ h=>h.elim
structure bo (K:Fg)(x qual:Str)(st:Stmt)(f:Addr)(fd:FuncData):Prop where
 ex:∃(oc:Value) (od:Option Addr) (kV doc pm:Value) (an:Option Addr) (cdv ct:Value) (osl:Array @J),
  fd=W.fnOf x qual @dS @cS @bI .none kV doc pm an cdv ct/\K.lookup f=some ⟨oc,od,.func fd,osl⟩/\W.codeIn K cdv qual=true
 kp:W.keepIn K (.ref f)=true
section
variable {P:Program}{w:World}{K:Fg}{mg:Str->Option Value}{base:Heap}
theorem bo.ok {x qual:Str}{st:Stmt}{f:Addr}{fd:FuncData}{N ps:List Str}{k:Nat}{sp:Sp}(F:bo K x qual st f fd)(S:af N ps @bI)(O:∀vs H Q E,sp vs H Q E->vs.length=ps.length)
(j:∀(cdv:Value) (A:Around) (outer:List Env) (s:Shared) (H:Hp) (vs:List V) (Q:VK) (E:XK),bE k (A.deeper (envOfC qual @bI s.heap.objs.size f cdv))->sp vs H Q E->
   ∃t,rT (rB aT P w K mg base N qual @bI f cdv A outer s H E).nox @cS t/\t {nx:=λ_ H'=>Q .non H',rt:=Q} @cC H):au P w K mg base aT (k+1) f fd ps sp:=by
 obtain ⟨J,L,Z,U,pm,W,cdv,Y,aa,rfl,I,B⟩:=F.ex;rwa[FI I B S O λA outer s H vs Q E z R=> ?_];obtain ⟨t,h,q⟩:=j cdv A outer s H vs Q E z R;exact ⟨t,h.nox,q⟩
theorem bo.binds {x qual:Str}{st:Stmt}{f:Addr}{fd:FuncData}{ps:List Str}(F:bo K x qual st f fd)
(h:∀(kV doc pm:Value) (an:Option Addr) (cdv ct:Value) (us:List Value),us.length=ps.length->bindArgs (W.fnOf x qual @dS @cS @bI .none kV doc pm an cdv ct) ⟨us,[]⟩=pure @cu):eG K fd ps []:=by
 obtain ⟨J,j,kV,doc,pm,an,cdv,ct,aa,rfl,I,B⟩:=F.ex;exact .all (h kV doc pm an cdv ct)
theorem vz {x qual:Str}{st:Stmt}{f:Addr}{J:Value}{od z:Option Addr}{aa:Array @J}{Z U B j Y:Value}(l:K.lookup f=some ⟨J,od,.func (W.fnOf x qual @dS @cS @bI .none Z U B z j Y),aa⟩)
(c:W.codeIn K j qual=true)(k:W.keepIn K (.ref f)=true):bo K x qual st f (W.fnOf x qual @dS @cS @bI .none Z U B z j Y):=⟨⟨J,od,Z,U,B,z,j,Y,aa,rfl,l,c⟩,k⟩
end
theorem JV {A:Around}{k:Nat}(S:bE k A):A.units+1<cLine:=Nat.lt_of_le_of_lt (Nat.add_le_add_left (by decide:1<=64) _) S.units
def ao (H H':Hp):Prop:=∀b o,H b=some o->H' b=some o
theorem ao.refl (H:Hp):ao H H:=λ_ _ h=>h
theorem ao.trans {H H1 H2:Hp}(a:ao H H1)(b:ao H1 H2):ao H H2:=λc o h=>b c o (a c o h)
theorem ao.free {H H':Hp}(e:ao H H'){l:Addr}(h:H' l=Option.none):H l=Option.none:=by
 cases q:H l with
 |none=>rfl
 |some o=>
  rw [e l o q] at h;cases h
theorem ao.seq {K:Fg}{H H':Hp}{a:Addr}{xs:List V}(e:ao H H')(h:aA K H a xs):aA K H' a xs:=by
 rcases h with (h|⟨o,h⟩)|h
 ·exact .inl (.inl (e _ _ h))
 ·exact .inl (.inr ⟨o,e _ _ h⟩)
 ·exact .inr h
noncomputable def d4 (cells:List (Str×Addr)):List (Str×NameKind)->List (Str×Addr)->List (Str×Addr)
 |[],cs=>cs
 |(n,.free)::r,cs=>d4 cells r (match cells.lookup n with|some a=>(n,a)::cs|none=>cs)
 |(_,_)::r,cs=>d4 cells r cs
theorem nK {j:List (Str×Addr)}{n:Str}{r:List (Str×NameKind)}{cs:List (Str×Addr)}{a:Addr}(h:j.lookup n=some a):d4 j ((n,.free)::r) cs=d4 j r ((n,a)::cs):=by
 show d4 j r (match j.lookup n with|some a=>(n,a)::cs|none=>cs)=_;rw [h]
theorem hX {j:List (Str×Addr)}{n:Str}{k:NameKind}{r:List (Str×NameKind)}{cs:List (Str×Addr)}(h:k≠ .free):d4 j ((n,k)::r) cs=d4 j r cs:=by
 cases k<;>first|rfl|exact absurd rfl h
theorem lI {j:List (Str×Addr)}:∀ {l:List (Str×NameKind)} {cs:List (Str×Addr)},(∀p∈cs,j.lookup p.1=some p.2)->∀p∈d4 j l cs,j.lookup p.1=some p.2
 |[],_,h=>h
 |(n,k)::r,cs,h=>by
  by_cases R:k= .free
  ·subst R
   cases e:j.lookup n with
   |none=>
    have:d4 j ((n,.free)::r) cs=d4 j r cs:=by
     show d4 j r (match j.lookup n with|some a=>(n,a)::cs|none=>cs)=_;rw [e]
    rw [this];exact lI h
   |some a=>
    rw [nK e];rwa[lI λp F=> ?_]
    rcases mem_cons.mp F with rfl|F
    ·exact e
    ·exact h p F
  ·rw [hX R];exact lI h
theorem hZ {j:List (Str×Addr)}:∀ {l:List (Str×NameKind)} {cs:List (Str×Addr)} {p:Str×Addr},p∈cs->p∈d4 j l cs
 |[],_,_,h=>h
 |(n,k)::r,cs,p,h=>by
  by_cases R:k= .free
  ·subst R;show p∈d4 j r (match j.lookup n with|some a=>(n,a)::cs|none=>cs)
   cases e:j.lookup n with
   |none=>exact hZ h
   |some a=>exact hZ (mem_cons_of_mem _ h)
  ·rw [hX R];exact hZ h
theorem rE {j:List (Str×Addr)}{x:Str}{c:Addr}(I:j.lookup x=some c):∀ {l:List (Str×NameKind)} {cs:List (Str×Addr)},(x,NameKind.free)∈l->(x,c)∈d4 j l cs
 |(n,k)::r,cs,h=>by
  rcases mem_cons.mp h with e|h2
  ·cases e;rw [nK I];exact hZ mem_cons_self
  ·by_cases R:k= .free
   ·subst R;show (x,c)∈d4 j r (match j.lookup n with|some a=>(n,a)::cs|none=>cs);exact rE I h2
   ·rw [hX R];exact rE I h2
theorem jx {α β:Type}[BEq α][LawfulBEq α]{x:α}{c:β}:∀ {l:List (α×β)},(x,c)∈l->∃d,l.lookup x=some d
 |(n,a)::r,h=>by
  cases e:x==n with
  |true=>exact ⟨a,by simp only [lookup_cons,e]⟩
  |false=>
   rcases mem_cons.mp h with q|q
   ·cases q;simp at e
   ·obtain ⟨d,J⟩:=jx q;exact ⟨d,by simp only [lookup_cons,e];exact J⟩
theorem nJ {j:List (Str×Addr)}{l:List (Str×NameKind)}{x:Str}{c:Addr}(h:(d4 j l []).lookup x=some c):j.lookup x=some c:=
 lI (l:=l) (cs:=[]) (λ_ F=>absurd F @e) (x,c) @dy
theorem F6 {j:List (Str×Addr)}{l:List (Str×NameKind)}{x:Str}{c:Addr}(I:j.lookup x=some c)(h:(x,NameKind.free)∈l):(d4 j l []).lookup x=some c:=by
 obtain ⟨d,J⟩:=jx (rE (cs:=[]) I h);rw [J,<-I,nJ J]
theorem jA {scope:Scope}{env:Env}(h:∀n,(n,NameKind.free)∈scope.names->∃c,env.cells.lookup n=some c):closureFor scope env=pure @cF:=by
 have J:∀(l:List (Str×NameKind)) (j:List (Str×Addr)),(∀n,(n,NameKind.free)∈l->∃c,env.cells.lookup n=some c)->
  (forIn l j (λ(x:Str×NameKind) (r:List (Str×Addr))=>match x with
    |(name,kind)=>if (kind==NameKind.free)=true then (do let c<-cellOf env name;pure (ForInStep.yield ((name,c)::r))) else (do pure PUnit.unit;pure (ForInStep.yield r))):Sem (List (Str×Addr)))=pure (d4 env.cells l j):=by
  intro l
  induction l with
  |nil=>intro j _;rfl
  |cons p r ih=>
   intro j W;obtain ⟨n,k⟩:=p;have S:=ih;by_cases R:k= .free
   ·subst R;obtain ⟨c,I⟩:=W n mem_cons_self;rw [nK I];rw [<-ih ((n,c)::j) λm B=>W m (mem_cons_of_mem _ B)];rw [forIn_cons];simp only [cellOf,I,beq_self_eq_true,if_true];rfl
   ·rw [hX R];rw [<-ih j λm B=>W m (mem_cons_of_mem _ B)];rw [forIn_cons]
    have z:(k==NameKind.free)=false:=by simpa using R
    simp only [z,Bool.false_eq_true,if_false];rfl
 have e:=J scope.names [] h;unfold closureFor
 first
  |exact congrArg (λm=>m>>=pure) e
  |(simp only [bind_pure];exact e)
  |(rw [show (pure @cF:Sem (List (Str×Addr)))=(pure @cF>>=pure) from rfl,<-e];rfl)
noncomputable def bd (X:Cx)(scope:Scope)(N':List Str)(C:Addr)(s:Shared)(H:Hp)(ex:List Addr):Cx where
 prog:=X.prog
 w:=X.w
 K:=X.K
 mg:=X.mg
 base:=X.base
 A:=X.A
 N:=N'
 s₀:=s
 H₀:=H
 env:=compEnvC scope @bg C X.env
 outer:=X.stack
 stack:=X.stack
 ex:=ex
 fn:=λ_=>false
 calm:=X.calm
 pn:=[]
 xe:=λ_ _=>False
structure cA (X:Cx)(scope:Scope)(N':List Str)(pk:List @C):Prop where
 kind:scope.kind= .function
 nocell:∀y∈scope.names,y.2≠ .cell
 loc:∀y∈scope.names,y.2= .local->scope.names.lookup y.1=some .local
 free:∀n,(n,NameKind.free)∈scope.names->X.env.kindOf n=some .cell\/X.env.kindOf n=some .free
 nofl:∀n,(n,NameKind.free)∈scope.names->scope.names.lookup n≠some .local
 pl:pk.length=N'.length
 pn:∀(j i:Nat) (x:Str),pk[j]? =some (some i)->N'[j]? =some x->X.N[i]? =some x/\(x,NameKind.free)∈scope.names
noncomputable def cm (pk:List @C)(σ:St):St:=pk.map λo=>o.bind λi=>(σ[i]?).join
theorem qU {scope:Scope}{env:Env}{x:Str}(S:∀y∈scope.names,y.2≠ .cell)(h:(relabel scope env).names.lookup x=some .cell\/(relabel scope env).names.lookup x=some .free):(x,NameKind.free)∈scope.names:=by
 have J:∀k,(relabel scope env).names.lookup x=some k->(k= .cell\/k= .free)->(x,NameKind.free)∈scope.names:=λk e R=>by
  have m:=PySem.mem_of_lookup e;obtain ⟨p,F,O⟩:=mem_map.mp m;obtain ⟨n,B⟩:=p;dsimp only at O;by_cases I:(B==NameKind.free&&env.scope.kind== .function&&env.kindOf n==some .cell)=true
  ·rw [if_pos I] at O
   have z:B= .free:=by
    simp only [Bool.and_eq_true] at I;simpa using I.1.1
   have j:n=x:=(Prod.mk.inj O).1;rw [<-j,<-z];exact F
  ·rw [if_neg I] at O;have j:n=x:=(Prod.mk.inj O).1;have L:B=k:=(Prod.mk.inj O).2
   rcases R with R|R
   ·exact absurd (L.trans R) (S _ F)
   ·rw [<-j,<-R,<-L];exact F
 rcases h with h|h
 ·exact J _ h (.inl rfl)
 ·exact J _ h (.inr rfl)
section
variable {X:Cx}{pins:List (Addr×Obj)}{σ:St}{H:Hp}{s:Shared}{scope:Scope}{N':List Str}{pk:List @C}{fp:List Addr}
theorem Jq (I:av X pins σ H s)(S:cA X scope N' pk){C:Addr}(J:s.heap.objs.size<=C)(j:∀b∈fp,i8 X pins H b)(F:∀b∈fp,b<s.heap.objs.size):(bd X scope N' C s H fp).Ok where
 mod:=I.ok.mod
 kind:=S.kind
 glob:=I.ok.glob
 blt:=I.ok.blt
 above:=J
 inj:=λx y c h1 h2=>I.ok.inj x y c (nJ h1) (nJ h2)
 has:=λx h=>by
  have m:(x,NameKind.free)∈scope.names:=qU S.nocell h;obtain ⟨c,L⟩:=I.ok.has x (S.free x m);exact ⟨c,F6 L m⟩
 cab:=λx c h _=>nomatch h
 hd:=I.ok.hd
 frames:=I.ok.frames
 stk:= .inl rfl
 exf:=λb B=>⟨Nat.ne_of_lt (Nat.lt_of_lt_of_le (F b B) J),λx c e=>(j b B).2.2.2.2.1 x c (nJ e)⟩
 bs:=I.bs
 bsz:=Nat.le_trans I.ok.bsz I.sz
 noex:=λb o e B=>by
  rcases (j b B).2.2.2.1 with z|z
  ·exact I.ok.noex b o e z
  ·exact absurd (Nat.lt_of_lt_of_le @bW (Nat.le_trans I.ok.bsz z)) @I
 exfs:=λb B z=>by
  rcases mem_cons.mp @fB with e|e
  ·exact (j b B).2.1 e
  ·exact (j b B).2.2.1 e
 funs:=I.stack
 frf:=I.stkFree
theorem Ej {pk:List @C}{σ:St}{j:Nat}{v:V}(h:(cm pk σ)[j]? =some @bs):∃i,pk[j]? =some (some i)/\σ[i]? =some @bs:=by
 unfold cm at h;rw [getElem?_map] at h
 cases e:pk[j]? with
 |none=>rw [e] at h;cases h
 |some o=>
  rw [e] at h
  cases o with
  |none=>cases h
  |some i=>
   rwa[⟨i,rfl,?_⟩];have h':(σ[i]?).join=some v:=Option.some.inj h
   cases q:σ[i]? with
   |none=>rw [q] at h';cases h'
   |some z=>rw [q] at h';rw [show z=some v from h']
theorem FZ {J:Shared}{C D:Addr}{od:Obj}(I:av X pins σ H s)(S:cA X scope N' pk)(hC:s.heap.objs.size<=C)(hf:∀b∈fp,i8 X pins H b)(ad:∀b∈fp,b<s.heap.objs.size)
(Y:J.os=s.os)(hg:J.gens=s.gens)(B:∀b o,s.heap.get? b=some o->J.heap.get? b=some o)(aa:J.heap.Ns C λ_=>none)(hD:s.heap.objs.size<=D)(ab:D≠C)(Z:J.heap.get? D=some od)(ac:∀v,od.data≠ .cell v):
 av @fI [(D,od)] @L H J where
 ok:=Jq I S hC hf ad
 os:=Y
 bare:=by rw [hg];exact I.bare
 base:=Un.kept B
 loc:=⟨_,aa,λj x v h1 h2 L=>by
  obtain ⟨i,e1,e2⟩:=Ej h2;obtain ⟨hN,W⟩:=S.pn j i x e1 h1;obtain ⟨m,hn,hl⟩:=I.loc;have hk:=S.free x W;obtain ⟨c,hc⟩:=I.ok.has x hk
  have hv:Np X.env.scope x:=by
   rcases hk with k|k
   ·exact .inr (.inl k)
   ·exact .inr (.inr k)
  obtain ⟨u,r,l⟩:=hl i x v hN e2 hv;rwa[⟨u,r,.inr ⟨?_,c,F6 hc W,?_⟩⟩]
  ·rcases L with L|L|L
   ·exfalso;have R:(relabel scope X.env).names.lookup x=some .local:=L;obtain ⟨p,hp,e⟩:=mem_map.mp (PySem.mem_of_lookup R);obtain ⟨n,U⟩:=p;dsimp only at e;by_cases F:(U==NameKind.free&&X.env.scope.kind== .function&&X.env.kindOf n==some .cell)=true
    ·rw [if_pos F] at e;exact nomatch (Prod.mk.inj e).2
    ·rw [if_neg F] at e;have en:n=x:=(Prod.mk.inj e).1;have ek:U= .local:=(Prod.mk.inj e).2;have q:=S.loc _ hp ek;have q2:(relabel scope X.env).names.lookup x=some .local:=R;exact S.nofl x W (by rw [<-en];exact q)
   ·exact .inl L
   ·exact .inr L
  ·rcases l with ⟨k,_⟩|⟨_,c',e,z⟩
   ·rcases hk with U|U<;>(rw [U] at k;cases k)
   ·rw [hc] at e;cases e;obtain ⟨o,O,hd⟩:=z
    exact ⟨o,B _ _ O,hd⟩⟩
 cell:=λx c h=>by
  obtain ⟨v,o,O,hd⟩:=I.cell x c (nJ h);exact ⟨v,o,B _ _ O,hd⟩
 free:=I.hok.fresh hC
 freeC:=λx c h=>I.freeC x c (nJ h)
 pin:=λp hp=>by
  have e:p=(D,od):=by simpa using (show p∈([]:List (Addr×Obj))++[(D,od)] from hp)
  subst e;rwa[⟨Z,I.hok.fresh hD,ab,λz=> ?_,ac⟩];obtain ⟨_,o,O,_⟩:=I.stack.mem z;exact absurd (Nat.lt_of_lt_of_le (Heap.lt_size O) hD) @I
 hok:=I.hok.kept B
 len:=by unfold cm;rw [length_map];exact S.pl
end
theorem zW {prog:Program}{w:World}{A:Around}{E:Value->Shared->Prop}{s:Shared}{l:Addr}{its:Array Value}{n:Nat}{x:Value}{Q:Value->Shared->Prop}
(e:s.heap.get? l=some {cls:= .type "list",data:= .seq its n})(hsz:its.size<=sizeLine)
(z:∀h' n',h'.get? l=some {cls:= .type "list",data:= .seq (its.push x) n'}->Heap.SameBut l s.heap h'->Q .none {s with heap:=h'}):
 wpAny @h A (call (.builtin "list.append") [.ref l,x]) Q E s:=by
 have W:s.heap.IsList l its:=PySem.IsL.isList e;rwa[wpAny_call_entry slot_list_append W.typeIs entry_list_append ?_ (args_list_append _ _)];show wpAny _ _ (updateSeq l (·.push x)>>=λ_=>ret .none) _ _ s;rwa[wpAny_bind ?_];have q:(s.heap.update l (Obj.mapSeq (·.push x))).get? l=some (Obj.mapSeq (·.push x) {cls:= .type "list",data:= .seq its n}):=Heap.get?_update_self _ e rfl;exact wpAny_updateSeq e rfl (wpAny_pure ⟨.none,rfl,z _ _ q (Heap.SameBut.update ..)⟩)
section
variable {X:Cx}{pins:List (Addr×Obj)}{σ:St}{H H':Hp}{s s':Shared}{scope:Scope}{N':List Str}{pk:List @C}{fp:List Addr}
theorem fI.track {P:Program}{w:World}{H:Hp}{h:Heap}{a:Addr}{o:HO}(x:fI P w H h)(z:H a=none)(j:be P w @bp h a o):fI P w @bp h:=λb u e=>by
 by_cases B:b=a
 ·subst B;rw [ag] at e;cases e;exact j
 ·rw [ai B] at e
  exact (x b u e).stay (λc v _ q=>q) (λc q=>by rw [ai @ez];exact q) λc xs q=>by rw [ai @ez];exact q
theorem fI.but {P:Program}{w:World}{H:Hp}{h h':Heap}{a:Addr}(x:fI P w H h)(j:H a=none)(k:∀b o,b≠a->h.get? b=some o->h'.get? b=some o):fI P w H h':=λb u e=>
 (x b u e).stay (λc v I q=>k c v (by
   rcases I with rfl|I
   ·exact λz=>by rw [z,j] at e;cases e
   ·exact bt I j) q) @dM λ_ _ q=>q
theorem FY {C D:Addr}{h':Heap}{ys:List V}{its:List Value}{n:Nat}{σ':St}{O:List (Addr×Obj)}(I:av X pins σ H s)(S:∀b∈fp,i8 X pins H b)
(J:av @fI O σ' H' s')(W:s.heap.objs.size<=C)(Z:s.heap.objs.size<=D)(ab:D≠C)(j:H' D=none)(e:s'.heap.get? D=some {cls:= .type "list",data:= .seq its.toArray n})(r:aJ ys its)
(hz:ys.length<=sizeLine)(Y:Heap.SameBut C s'.heap h'):av X pins σ @bO {s' with heap:=h'}:=by
 have u:Un @dN fp H H' s.heap s'.heap:=J.base;have L:∀b o,b≠C->s'.heap.get? b=some o->h'.get? b=some o:=λb o B q=>(Y.2 b B).trans q;have F:∀b o,s.heap.get? b=some o->b≠C/\b≠D:=λb o q=>⟨Nat.ne_of_lt (Nat.lt_of_lt_of_le @fg W),Nat.ne_of_lt (Nat.lt_of_lt_of_le @fg Z)⟩;have U:H' C=none:=J.free
 have ae:fI X.prog X.w @bO h':=by
  rwa[fI.but (a:=C) (fI.track (h:=s'.heap) J.hok j ⟨hz,its,n,r,e⟩) ?_ L];rw [ai (Ne.symm ab)];exact U
 rwa[I.call' (s':= {s' with heap:=h'}) (ch:=fp) J.os ?_ ae J.bare λb B=>⟨(S b B).2.2.2.1,(S b B).2.1,(S b B).2.2.2.2.1,(S b B).2.2.2.2.2⟩];rwa[⟨λb o q n B R=> ?_,λb o q n B R=> ?_,λb o q n R=> ?_,λb o q R=> ?_,λb xs q=> ?_,λb o xs q=> ?_,λb ps q=> ?_⟩]
 ·exact L b o (F b o q).1 (u.keep b o q n B R)
 ·obtain ⟨sl,z⟩:=u.slot b o q n B R;exact ⟨sl,L b _ (F b o q).1 z⟩
 ·rw [ai (F b o q).2];exact u.free b o q n R
 ·obtain ⟨o',z⟩:=u.there b o q R;exact ⟨o',L b o' (F b o q).1 z⟩
 ·have z:=u.tups b xs q;rw [ai (bt z j)];exact z
 ·have z:=u.frzs b o xs q;rw [ai (bt z j)];exact z
 ·obtain ⟨m,z⟩:=u.tbls b ps q;exact ⟨m,by rw [ai (bt z j)];exact z⟩
end
def GP (X:Cx)(es:List Expr)(t:TT):Prop:=
 ∀(pins:List (Addr×Obj)) (s:Shared) (σ:St) (H:Hp) (Q:Bool->Hp->Prop),av X pins σ H s->t σ H Q->
  wpAny @d X.A (forIn es true λc r=>if r=true then do let ok<-isTrue c X.env (eval c X.env);pure (ForInStep.yield ok) else pure (ForInStep.yield r)) @dF X.xe s
def QT:TT:=λ_ H Q=>Q true H
theorem bZ {X:Cx}:GP X [] QT:=λpins s σ H Q I h=>wpAny_tests_nil ⟨H,I,h⟩
theorem eK {X:Cx}{c:Expr}{t:TT}(h:PT X c t):GP X [c] t:=λpins s σ H Q I F=>wpAny_tests_one (h pins s σ H Q I F)
def sR (σ σ':St):Prop:=σ'.length=σ.length/\∀(i:Nat) v,σ[i]? =some @bs->σ'[i]? =some @bs
def Dp (pk:List @C)(wi:TI)(g:TG)(tt:TT)(te:TE):TE:=λσ H Q=>wi σ H λJ H1=>∃W:Nat->Nat->List V->Hp->Prop,(∃m,W 0 m [] H1)/\∀i m ys H,W i m ys H->
 (J.stop i H/\ys.length<=sizeLine/\∀p,H p=none->Q (.ref p) @R)\/
 (J.go i H/\ys.length<sizeLine/\∃N:List V->Hp->Prop,(∀zs H',N zs H'->∃m',m'<m/\W (i+1) m' zs H')/\∀x H',J.yld i H x H'->g x @L H' λσ2 H2=>sR @L σ2/\tt σ2 H2 λb H3=>
   if b=true then te σ2 H3 λv H4=>N (ys++[v]) H4 else N ys H3)
structure Gn (P:Program)(w:World)(K:Fg)(A₀:Around)(c:Bool)(tg:Expr)(J:It)(fp:List Addr)(it:Addr)(tn:Nat->Heap->Prop):Prop where
 mem:it∈fp
 obj:∀i h,tn i h->∀b∈fp,∃o,h.get? b=some o/\∀v,o.data≠ .cell v
 keep:∀i h h',tn i h->(∀b∈fp,∀o,h.get? b=some o->h'.get? b=some o)->tn i h'
 item:∀(X:Cx),X.prog=P->X.w=w->X.K=K->X.A=A₀->X.calm=c->∀(i:Nat) (pins:List (Addr×Obj)) (s:Shared) (σ:St) (H:Hp) (E:Value->Shared->Prop),av X pins σ H s->(∀b∈fp,i8 X pins H b)->tn i s.heap->J.go i H->
  wpAny @Z X.A @dc (λr s1=>∃u,r=some u/\
   wpAny @Z X.A @cl (λ_ s2=>∃x H',av X pins σ H' s2/\ay x u/\J.yld i H x H'/\tn (i+1) s2.heap/\∀b∈fp,H' b=none) E s1) E s
 done:∀(X:Cx),X.prog=P->X.w=w->X.K=K->X.A=A₀->X.calm=c->∀(i:Nat) (pins:List (Addr×Obj)) (s:Shared) (σ:St) (H:Hp) (E:Value->Shared->Prop),av X pins σ H s->(∀b∈fp,i8 X pins H b)->tn i s.heap->J.stop i H->
  wpAny @Z X.A @dc (λr s1=>r=none/\av X pins σ H s1) E s
 self:∀(A:Around) (i:Nat) (s:Shared) (Q:Value->Shared->Prop) (E:Value->Shared->Prop),tn i s.heap->Q (.ref it) s->wpAny @Z A (pyIter (.ref it)) Q E s
theorem vL.toA {P:Program}{w:World}{K:Fg}{z:Around}{c:Bool}{tg:Expr}{J:It}{fp:List Addr}{it:Addr}{j:Nat->Heap->Prop}(T:vL P w K tg J fp it j)(I:c=true):Gn P w K z c tg J fp it j:=
 ⟨T.mem,T.obj,T.keep,λX h1 h2 L _ U=>T.item X h1 h2 L (U.trans I),λX h1 h2 L _ U=>T.done X h1 h2 L (U.trans I),T.self⟩
def RN (X:Cx)(pins:List (Addr×Obj))(σ:St)(tg:Expr)(R:It->Hp->Prop)(itv:Value)(s2:Shared):Prop:=
 ∃(it:Addr) (fp:List Addr) (tn:Nat->Heap->Prop) (J:It) (H':Hp),itv= .ref it/\av X pins σ H' s2/\Gn X.prog X.w X.K X.A X.calm tg J fp it tn/\tn 0 s2.heap/\(∀b∈fp,i8 X pins H' b)/\R J H'
def RX (X:Cx)(tg iter:Expr)(t:TI):Prop:=
 ∀(pins:List (Addr×Obj)) (s:Shared) (σ:St) (H:Hp) (R:It->Hp->Prop),av X pins σ H s->t σ H R->
  wpAny @d X.A @eR (λv s1=>wpAny @d X.A (pyIter v) (RN X pins σ tg R) X.xe s1) X.xe s
theorem PI.toA {X:Cx}{tg iter:Expr}{t:TI}(h:PI X tg iter t)(z:X.calm=true):RX X tg iter t:=λpins s σ H R I q=>
 br (h pins s σ H R I q) λv L h1=>br h1 λag O ⟨F,fp,j,J,H2,e,B,T,r⟩=>⟨F,fp,j,J,H2,e,B,T.toA z,r⟩
set_option maxHeartbeats 4000000 in
theorem rC {X:Cx}{pins:List (Addr×Obj)}{σ:St}{H:Hp}{O:Shared}{scope:Scope}{N':List Str}{pk:List @C}{fp:List Addr}{tg elt iter:Expr}{ifs:List Expr}{pos:Pos}{g:TG}{tt:TT}{te:TE}
{J:It}{it:Addr}{tn:Nat->Heap->Prop}{R:Value->Addr->Result->Shared->Prop}{E:Value->Shared->Prop}{Q:VK}
(S:cA X scope N' pk)(hg:∀C s H ex,PG @i tg g)(ht:∀C s H ex,GP @i ifs tt)(he:∀C s H ex,PE @i elt te)
(I:av X pins σ H O)(T:Gn X.prog X.w X.K X.A X.calm tg J fp it tn)(st:tn 0 O.heap)(hf:∀b∈fp,i8 X pins H b)
(hW:∃W:Nat->Nat->List V->Hp->Prop,(∃m,W 0 m [] H)/\∀i m ys H,W i m ys H->
   (J.stop i H/\ys.length<=sizeLine/\∀p,H p=none->Q (.ref p) @R)\/
   (J.go i H/\ys.length<sizeLine/\∃N:List V->Hp->Prop,(∀zs H',N zs H'->∃m',m'<m/\W (i+1) m' zs H')/\∀x H',J.yld i H x H'->g x @L H' λσ2 H2=>sR @L σ2/\tt σ2 H2 λb H3=>
     if b=true then te σ2 H3 λv H4=>N (ys++[v]) H4 else N ys H3))
(hR:∀(C D:Addr) (s':Shared) (ys:List V) (H':Hp),(∃m,s'.heap.Ns C m)->Q (.ref D) @bO->(∀h',Heap.SameBut C s'.heap h'->av X pins σ @bO {s' with heap:=h'})->O.heap.objs.size<=C->upd H' D (.lst ys) C=none->
   R (.ref D) C (.ok .next) s'):
 wpAny @d X.A (newList []) (λacc s₃=>wpAny @d X.A (newFunctionEnv scope X.env.globals @bg [] X.env.qual none .none (some X.env)) (λcenv s₄=>
  codeAny @d X.A (.compStart (.ListComp elt [⟨tg,iter,ifs,0⟩] scope pos) 0 (.ref it) acc {cenv with scope:=relabel scope X.env}) (R acc cenv.locals) s₄) E s₃) E O:=by
 obtain ⟨W,⟨m0,w0⟩,an⟩:=hW;rwa[wpAny_newObj_type (wpAny_newFunctionEnv S.nocell (by intro y hy;simp at hy) (λh₁ aa Y=> ?_) S.kind)];dsimp only at aa Y ⊢;generalize al:O.heap.push {cls:= .type "list",dict:=none,data:= .seq ([]:List Value).toArray}=H2 at aa Y ⊢
 have hC:H2.objs.size=O.heap.objs.size+1:=by rw [<-al,Heap.size_push]
 have ab:O.heap.objs.size≠H2.objs.size:=by rw [hC];exact Nat.ne_of_lt @bQ
 have U:O.heap.objs.size<=H2.objs.size:=by rw [hC];exact Nat.le_succ _
 have aq:∀b o,O.heap.get? b=some o->h₁.get? b=some o:=λb o e=>
  Y.extBut b o (Nat.ne_of_lt (Nat.lt_of_lt_of_le @bW U)) (Heap.get?_push_of_some _ (al▸Heap.get?_push_of_some _ e))
 have as:h₁.get? O.heap.objs.size=some {cls:= .type "list",data:= .seq ([]:List Value).toArray}:=
  Y.extBut _ _ ab (Heap.get?_push_of_some _ (al▸Heap.get?_push_size _ rfl))
 have ak:∀b∈fp,b<O.heap.objs.size:=λb F=>by
  obtain ⟨o,e,_⟩:=T.obj 0 _ st b F;exact Heap.lt_size e
 have ay:tn 0 h₁:=T.keep 0 _ _ st λb _ o e=>aq b o e;have aF:X.env.locals≠H2.objs.size:=Nat.ne_of_lt (Nat.lt_of_lt_of_le I.lt U);generalize aE:H2.objs.size=C at *;generalize am:O.heap.objs.size=D at *
 have Z:O.heap.objs.size<=D:=by rw [am];exact Nat.le_refl _
 have ad:O.heap.objs.size<=C:=by rw [am];exact U
 have af:∀s₃:Shared,s₃= {O with heap:=h₁,toks:=O.toks+([]:List (Str×Value)).length}->
  codeAny @d X.A (.compLoop (.ListComp elt [⟨tg,iter,ifs,0⟩] scope pos) 0 (.ref it) (.ref D) @cK) (R (.ref D) C) s₃:=by
  rintro s₃ rfl
  refine codeAny_loop rfl (λn s'=>∃i H' ys its k,av @M [(D,{cls:= .type "list",data:= .seq its k})] @L H' s'/\aJ ys its.toList/\tn i s'.heap/\(∀b∈fp,H' b=none)/\W i n ys H') ?_ m0
   ⟨0,H,[],#[],0,FZ I S ad hf (λb F=>by rw [am];exact ak b F) rfl rfl aq (by simpa using aa) Z ab as (λv z=>nomatch z),.nil,ay,λb F=>(hf b F).1,w0⟩
  rintro n s3 ⟨i,H3,ys,its,k,I3,ae,ar,ap,w3⟩;show wpAny _ _ ((compTurn (.ListComp elt [⟨tg,iter,ifs,0⟩] scope pos) 0 (.ref it) (.ref D) @cK).onRaise (λx=>do noteFrame x @cK;theTreesLotGoes x)) _ _ s3;rwa[wpAny_noted ?_];rw [compTurn_list];have B:∀ {α:Type} {t:Sem α} {Q':α->Shared->Prop} {E':Value->Shared->Prop} {s':Shared},wpAny @d X.A t Q' @dH s'->wpAny @d X.A t Q' E' s':=λh=>wpAny_mono h (λ_ _ x=>x) λ_ _ x=>x.elim
  have ah:∀ {H':Hp} {j},(∀b∈fp,H' b=none)->(∀p∈j,p.1=D)->∀b∈fp,i8 @M j H' b:=λ{H' j} hn hp b F=>
   ⟨hn b F,(I3.ok.exf b F).1,I3.ok.exfs b F,.inl F,(I3.ok.exf b F).2,λp az z=>by
     have aC:p∈j:=by simpa using (show p∈([]:List (Addr×Obj))++j from az)
     have q:=ak b F;rw [<-z,hp p aC] at q
     exact Nat.lt_irrefl _ q⟩
  have L:∀p∈[(D,({cls:= .type "list",data:= .seq its k}:Obj))],p.1=D:=λp hp=>by
   have e:p=(D,({cls:= .type "list",data:= .seq its k}:Obj)):=by simpa using hp
   rw [e]
  have ac:∀ {j:List (Addr×Obj)} {σ' H' s'},av @M j σ' H' s'->(D,({cls:= .type "list",data:= .seq its k}:Obj))∈j->s'.heap.get? D=some {cls:= .type "list",data:= .seq its k}/\H' D=none:=λ{j σ' H' s'} J hm=>by
   obtain ⟨a1,a2,_⟩:=J.pin _ (show (D,({cls:= .type "list",data:= .seq its k}:Obj))∈([]:List (Addr×Obj))++j by simpa using hm);exact ⟨a1,a2⟩
  rwa[wpAny_bind (wpAny_standAt @fr)]
  rcases an i n ys H3 w3 with ⟨ax,hz,qn⟩|⟨go,hz,N,hN,ao⟩
  ·rwa[B (br (T.done @M rfl rfl rfl rfl rfl i _ s3 _ H3 @dH I3 (ah ap L) ar ax) λr s4 ⟨hr,I4⟩=> ?_)];subst hr;rwa[wpAny_pure ?_];obtain ⟨a1,a2⟩:=ac I4 @e;obtain ⟨mC,aA,_⟩:=I4.loc;exact hR C D s4 ys H3 ⟨mC,aA⟩ (qn D a2) (λh' sb=>FY I hf I4 ad Z ab a2 (its:=its.toList) (n:=k) (by simpa using a1) ae hz sb) U (by rw [ai (Ne.symm ab)];exact I4.free)
  ·rwa[B (br (T.item @M rfl rfl rfl rfl rfl i _ s3 _ H3 @dH I3 (ah ap L) ar go) λr s4 ⟨u,hr,h4⟩=> ?_)];subst hr;rwa[wpAny_bind (B (br h4 λ_ s5 ⟨x,H5,I5,r5,y5,aj,aD⟩=> ?_))];have I5':=I5.pinned (ah aD L) (T.obj _ _ aj);rwa[wpAny_bind (B (br (hg C O H fp _ s5 _ H5 x u _ I5' r5 (ao x H5 y5)) λ_ s6 ⟨σ6,H6,I6,aw,q6⟩=> ?_))];rwa[wpAny_bind (B (br (ht C O H fp _ s6 σ6 H6 _ I6 q6) λb s7 ⟨H7,I7,q7⟩=> ?_))]
   have ag:∀ {H':Hp} {s':Shared},av @M ([(D,{cls:= .type "list",data:= .seq its k})]++qH fp s5.heap) σ6 H' s'->
    av @M [(D,{cls:= .type "list",data:= .seq its k})] @L H' s'/\tn (i+1) s'.heap/\∀b∈fp,H' b=none:=λ{H' s'} I7=>by
    rwa[⟨I7.unpinned.weak aw.1.symm aw.2,T.keep _ _ _ aj λb F o e=>(I7.pin (b,o) (mem_append_right _ (mem_append_right _ (gS F e)))).1,λb F=> ?_⟩];obtain ⟨o,e,d⟩:=T.obj _ _ aj b F;exact (I7.pin (b,o) (mem_append_right _ (mem_append_right _ (gS F e)))).2.1
   cases b with
   |false=>
    rw [if_neg Bool.false_ne_true] at q7;obtain ⟨m',hm,w7⟩:=hN _ _ q7;obtain ⟨J7,t7,f7⟩:=ag I7;rw [if_neg Bool.false_ne_true]
    first
     |exact wpAny_pure ⟨rfl,m',hm,i+1,H7,ys,its,k,J7,ae,t7,f7,w7⟩
     |exact wpAny_bind (wpAny_pure (wpAny_pure ⟨rfl,m',hm,i+1,H7,ys,its,k,J7,ae,t7,f7,w7⟩))
   |true=>
    rw [if_pos rfl] at q7;rw [if_pos rfl];rwa[wpAny_bind (wpAny_bind (B (br (he C O H fp _ s7 σ6 H7 _ I7 q7) λy s8 ⟨v,H8,I8,r8,n8⟩=> ?_)))];obtain ⟨m',hm,w8⟩:=hN _ _ n8;obtain ⟨J8,t8,f8⟩:=ag I8;obtain ⟨a1,a2⟩:=ac J8 @e
    have aB:its.size<=sizeLine:=by
     have e:=ae.length
     have e2:its.toList.length=its.size:=by simp
     lia
    rwa[wpAny_bind (zW a1 aB λh' k' e' sb=> ?_)]
    have J9:av @M [] @L H8 {s8 with heap:=h'}:=
     av.turned (t':=s8.toks) (it:=D) (J8.pins_of λp hp=>nomatch hp) (λb o F e=>(sb.2 b F).trans e) a2 ab (.inr Z) (λx c e z=>by
      obtain ⟨w',o,ho,hd⟩:=J8.cell x c e
      rw [z,a1] at ho;cases ho;cases hd) λp hp=>nomatch (show p∈([]:List (Addr×Obj))++[] from hp)
    have J10:av @M [(D,{cls:= .type "list",data:= .seq @gF k'})] @L H8 {s8 with heap:=h'}:=
     J9.pins_of λp hp=>by
      have e:p=(D,({cls:= .type "list",data:= .seq @gF k'}:Obj)):=by simpa using hp
      subst e;rwa[⟨e',a2,ab,λz=> ?_,λv z=>nomatch z⟩];obtain ⟨_,o,ho,_⟩:=I.stack.mem z;exact absurd (Nat.lt_of_lt_of_le (Heap.lt_size ho) Z) @I
    have t9:tn (i+1) h':=T.keep _ _ _ t8 λb F o e=>(sb.2 b (λz=>Nat.lt_irrefl D (by have:=ak b F;rw [z] at this;exact this))).trans e
    have au:aJ (ys++[v]) (its.push y).toList:=by
     rw [Array.toList_push];exact aJ.append ae (.cons r8 .nil)
    first
     |exact wpAny_pure (wpAny_pure ⟨rfl,m',hm,i+1,H8,ys++[v],its.push y,k',J10,au,t9,f8,w8⟩)
     |exact wpAny_bind (wpAny_pure (wpAny_pure ⟨rfl,m',hm,i+1,H8,ys++[v],its.push y,k',J10,au,t9,f8,w8⟩))
 exact codeAny_compStart_list (af _ rfl) (T.self _ 0 _ _ _ ay (af _ rfl))
section
variable {X:Cx}{scope:Scope}{N':List Str}{pk:List @C}{tg elt iter:Expr}{ifs:List Expr}{pos:Pos}{wi:TI}{g:TG}{tt:TT}{te:TE}
theorem Eu (S:cA X scope N' pk)(hi:RX X tg iter wi)(hg:∀C s H ex,PG @i tg g)(O:∀C s H ex,GP @i ifs tt)
(W:∀C s H ex,PE @i elt te)(hs:∀x,foldedSetIterable iter X.env x=pure x:=by intro _;rfl):PE X (.ListComp elt [⟨tg,iter,ifs,0⟩] scope pos) @eC:=by
 intro pins s σ H Q I h;rw [eval_ListComp];rwa[wpAny_comprehension_free (use:=none) rfl hs (jA λn z=>I.ok.has n (S.free n z)) S.kind S.loc ?_];rwa[br @bE λv s1 h1=>br h1 λag s2 h2=> ?_];obtain ⟨it,fp,tn,J,H2,e,L,T,ae,U,B⟩:=h2;subst e;rwa[rC (R:=λj C=>compPost @d X.A X.xe none @p j C) S hg O W L T ae U B ?_];intro C D s' ys H' z q Y _ _;obtain ⟨m,F⟩:=z;exact ⟨m,F,λh' Z=>⟨.ref D,_,Y h' Z,rfl,q⟩⟩
theorem Ib (I:X.calm=true)(S:cA X scope N' pk)(hi:PI X tg iter wi)(W:∀C s H ex,PG @i tg g)(J:∀C s H ex,GP @i ifs tt)
(U:∀C s H ex,PE @i elt te)(hs:∀x,foldedSetIterable iter X.env x=pure x:=by intro _;rfl):PE X (.ListComp elt [⟨tg,iter,ifs,0⟩] scope pos) @eC:=Eu S (hi.toA I) W J U hs
theorem HN {i:Nat}{x:Str}{F j:Pos}(hc:X.calm=true)(hN:X.N.Nodup)(hx:X.N[i]? =some x)(hl:JC X.env.scope x)(S:cA X scope N' pk)(hi:PI X tg iter wi)(hg:∀C s H ex,PG @i tg g)
(ht:∀C s H ex,GP @i ifs tt)(he:∀C s H ex,PE @i elt te)(hs:∀x,foldedSetIterable iter X.env x=pure x:=by intro _;rfl)
(aa:swapsWith (.ListComp elt [⟨tg,iter,ifs,0⟩] scope pos) (some (.Name x F)) j.line X.env=pure true:=by rfl)(hf:X.fn x=true\/X.env.scope.names.lookup x=some .local:=by first|exact .inl rfl|exact .inr rfl|assumption):
 PS X (.Assign [.Name x F] (.ListComp elt [⟨tg,iter,ifs,0⟩] scope pos) j) (Dq @eC (lG i)):=by
 intro pins s σ H D0 I h;rw [exec_Assign_Name_used _ _ _ _ aa];rwa[wpAny_bind (wpAny_standAt @fr)];show wpAny _ _ (comprehension (.ListComp elt [⟨tg,iter,ifs,0⟩] scope pos) scope X.env (firstIterPos [⟨tg,iter,ifs,0⟩] pos) (newList []) false @eR (some @cT)>>=λ_=>pure ()) _ _ s;rwa[wpAny_bind (wpAny_comprehension_free (use:=some @cT) rfl hs (jA λn Z=>I.ok.has n (S.free n Z)) S.kind S.loc ?_)];rwa[br ((hi.toA hc) pins s σ H _ I h) λv s1 h1=>br h1 λag s2 h2=> ?_];obtain ⟨it,fp,tn,J,H2,e,B,T,ae,f2,hW⟩:=h2;subst e;rwa[rC (Q:=λx H1=>lG i x σ H1 D0.nx) (R:=λO C=>compPost @d X.A X.xe (some @cT) _ O C) S hg ht he B T ae f2 hW ?_];intro C D s' ys H' Z q hv U W;obtain ⟨m,hm⟩:=Z;have I':av X pins σ @bO s':=hv s'.heap (Heap.SameBut.refl ..);rwa[wpAny_assign_Name (tD (v:= .ref D) I' hN hx hl rfl (λab I'' ch=> ?_) hf)];obtain ⟨a,sb,L⟩:=ch
 have Y:C≠a:=by
  rcases L with L|L
  ·rw [L];exact Nat.ne_of_gt (Nat.lt_of_lt_of_le B.lt U)
  ·obtain ⟨v,z⟩:=B.cell x a L;exact Nat.ne_of_gt (Nat.lt_of_lt_of_le z.lt U)
 rwa[⟨m,hm.sameBut sb Y,λh' ac=>wpAny_pure (wpAny_pure ⟨_,_,?_,q⟩)⟩];rwa[av.turned (t':=ab.toks) (it:=C) I'' (λb o hb e=>(ac.2 b hb).trans e) W (Nat.ne_of_gt (Nat.lt_of_lt_of_le B.lt U)) (.inr (Nat.le_trans B.sz U)) (λy c e z=> ?_) λp hp z=> ?_]
 ·obtain ⟨v,q⟩:=B.cell y c e;exact absurd (Nat.lt_of_lt_of_le q.lt U) (by rw [z];exact Nat.lt_irrefl _)
 ·exact absurd (Nat.lt_of_lt_of_le (Heap.lt_size (B.pin p hp).1) U) (by rw [z];exact Nat.lt_irrefl _)
end
theorem cu {pk:List @C}{σ:St}{x:V}:sR (cm (none::pk) σ) ((cm (none::pk) σ).set 0 (some x)):=by
 rwa[⟨by simp,λi v h=> ?_⟩]
 cases i with
 |zero=>exact nomatch (show (none:Option V)=some v from Option.some.inj h)
 |succ i=>simpa [cm] using h
section
variable {X:Cx}
noncomputable def cV:V->Option Value
 | .ty n=>some (.type n)
 | .ref C=>some (.ref C)
 |_=>none
theorem Gf {c:V}{t u:Value}(h:cV c=some t)(r:ay c u):u=t:=by
 cases c with
 |ty n=>cases h;exact r
 |ref C=>cases h;exact r
 |_=>cases h
theorem xv:bf X (.builtin "isinstance") (λxs H Q=>∃x c cv t b,xs=[x,c]/\cV c=some cv/\iY X.K H x t/\W.kitOne X.K t cv=some b/\Q (.bl b) H):=by
 intro pins s σ H xs F Q I r h;obtain ⟨x,c,cv,t,b,rfl,j,ty,e,q⟩:=h;obtain ⟨u,z,rfl,B,L⟩:=Db r;cases Gf j L;exact Cf I B ty e λtk=>⟨.bl b,H,I.tok _,rfl,q⟩
theorem xI {bs:List Bool}:∀ {us:List Value},aJ @bk us->LSm.BoolsAre us bs:=by
 induction bs with
 |nil=>intro us r;rw [map_nil] at r;cases r;exact .nil
 |cons b bs ih=>
  intro us r;rw [map_cons] at r
  cases r with
  |cons r1 r2=>cases r1;exact .cons b (ih r2)
theorem CD (J:X.calm=true):bf X (.builtin "all") (λxs H Q=>∃(a:Addr) (bs:List Bool),xs=[.ref a]/\aA X.K H a @bk/\Q (.bl @gi) H):=by
 intro pins s σ H xs U Q I r h;obtain ⟨a,bs,rfl,F,q⟩:=h;obtain ⟨u,rfl,L⟩:=fR r;cases L;obtain ⟨its,S,pl,hz⟩:=I.list F;have W:s.heap.IsList a its.toArray:=pl.isList;have B:=xI S
 have z:a<s.heap.objs.size:=by obtain ⟨_,e,_⟩:=W;exact Heap.lt_size e
 rwa[call_all_walk (wpAny_pyIter_list W ?_)]
 refine ⟨s.heap.objs.size,[s.heap.objs.size,a],[s.heap.objs.size],its.toArray.size,_,_,λi=>(bs[i]?).getD true,rfl,Walks.list (A:=X.A.in1) @en _ a (Nat.ne_of_lt z) its.toArray,
  ⟨⟨_,Heap.get?_push_size _ rfl,rfl,rfl⟩,W.push _⟩,λi v s' Y Z O j=> ?_,λh' tk R=> ?_⟩
 ·obtain ⟨b,e,rfl⟩:=B.get i v (by simpa using O);simp only [e,Option.getD_some] at j;exact wpAny_truthy_bool j
 ·have e:((List.range its.toArray.size).all λi=>(bs[i]?).getD true)=bs.all id:=by
   rw [size_toArray,B.length];exact LSm.range_all bs
  rw [e];exact ⟨.bl _,H,I.kept (LSm.kept_iter R),rfl,q⟩
noncomputable def Qj (x:Str):It:=⟨λi _=>i<x.cps.size,λi H v H'=>H'=H/\∃c,x.cps[i]? =some c/\v= .str ⟨#[c]⟩,λi _=>x.cps.size<=i⟩
theorem tm {P:Program}{w:World}{K:Fg}{tg:Expr}{it:Addr}{x:Str}{t:Tok}{T:String}(L:T="str_ascii_iterator"\/T="str_iterator"):
 vL P w K tg (Qj x) [it] it (λi h=>i<=x.cps.size/\h.IsStrIter it T x t i) where
 mem:=by simp
 obj:=λi h st b B=>by
  have e:b=it:=by simpa using B
  subst e;obtain ⟨o,J,j,hd⟩:=st.2;exact ⟨o,J,λv z=>by rw [hd] at z;cases z⟩
 keep:=λi h h' st k=>⟨st.1,let ⟨o,J,r⟩:=st.2;⟨o,k it @e o J,r⟩⟩
 item:=by
  intro X hP hw U j i pins s σ H E I O st R;subst hP hw U;obtain ⟨Z,S,f2,f3,Y,f5⟩:=O it @e
  have W:Walks X.prog X.w X.A it [it] [it] x.cps.size (SignAt x) (λi h=>h.IsStrIter it T x t i):=by
   rcases L with rfl|rfl
   ·exact Walks.strAscii @ep it x t
   ·exact Walks.strWide @ep it x t
  rwa[W.item i s _ _ R st.2 λv h' tk hv F kk=> ?_];obtain ⟨c,u,hx,rfl⟩:=hv;have I1:av X pins σ H {s with heap:=h',toks:=tk}:=I.turned (λb o B e=>kk b o (by simpa using B) e) Z S f3 Y f5;obtain ⟨o,J,aa,hd⟩:=id F;exact ⟨_,rfl,AR (s:= {s with heap:=h',toks:=tk}) J aa hd (by rcases L with rfl|rfl<;>decide) ⟨.str ⟨#[c]⟩,H,I1,⟨_,rfl⟩,⟨rfl,c,hx,rfl⟩,⟨R,F⟩,λb B=>(O b B).1⟩⟩
 done:=by
  intro X hP hw U j i pins s σ H E I O st R;subst hP hw U;obtain ⟨Z,S,f2,f3,Y,f5⟩:=O it @e
  have W:Walks X.prog X.w X.A it [it] [it] x.cps.size (SignAt x) (λi h=>h.IsStrIter it T x t i):=by
   rcases L with rfl|rfl
   ·exact Walks.strAscii @ep it x t
   ·exact Walks.strWide @ep it x t
  have e:i=x.cps.size:=Nat.le_antisymm st.1 R;subst e;exact W.done s _ _ st.2 λh' tk kk=>⟨rfl,I.turned (λb o B e=>kk b o (by simpa using B) e) Z S f3 Y f5⟩
 self:=λA i s Q E st h=>by
  rcases L with rfl|rfl
  ·exact wpAny_pyIter_striter_ascii st.2 h
  ·exact wpAny_pyIter_striter_wide st.2 h
theorem Hg {ts:List Str}:∀ {us:List Value},aJ @dm us->∃l:List (Str×Tok),us=strValues l/\l.map (·.1)=ts:=by
 induction ts with
 |nil=>intro us r;rw [map_nil] at r;cases r;exact ⟨[],rfl,rfl⟩
 |cons b bs ih=>
  intro us r;rw [map_cons] at r
  cases r with
  |cons r1 r2=>
   obtain ⟨t,rfl⟩:=r1;obtain ⟨l,rfl,e⟩:=ih r2;exact ⟨(b,t)::l,rfl,by rw [map_cons,e]⟩
theorem E7:xO X "str.join" (λx xs H Q=>∃z a ts,x= .str z/\xs=[.ref a]/\aA X.K H a @dm/\(ts.toArray.foldl (· + ·.length+z.length) 0)<=sizeLine/\(Builtin.Str.glued z ts).length<=sizeLine/\Q (.str @cd) H):=by
 intro pins s σ H x xs v U Q I L S h;obtain ⟨z,a,ts,rfl,rfl,B,O,j,q⟩:=h;obtain ⟨t,rfl⟩:=L;obtain ⟨u,rfl,J⟩:=fR S;cases J;obtain ⟨its,R,pl,_⟩:=I.list B;obtain ⟨l,rfl,W⟩:=Hg R;rwa[call_meets F.slot_str_join @eA F.entry_str_join (F.args_str_join_2 _ _) (meets_str_join_list z t a l ?_) ⟨pl.isList,?_⟩]
 ·rw [W];exact qQ O
 ·subst W
  cases l with
  |nil=>exact ⟨j,.str _,H,I.tok _,⟨_,rfl⟩,q⟩
  |cons p r=>
   cases r with
   |nil=>exact ⟨.str _,H,I,⟨p.2,rfl⟩,q⟩
   |cons p2 r=>exact ⟨j,.str _,H,I.tok _,⟨_,rfl⟩,q⟩
theorem Cz:bf X (.type "int") (λxs H Q=>∃x n,xs=[.str x]/\PySem.intText? x=some n/\x.length<=640/\Q (.int n) H):=by
 intro pins s σ H xs B Q I r h;obtain ⟨x,n,rfl,z,j,q⟩:=h;obtain ⟨u,rfl,t,rfl⟩:=fR r;exact PySem.W.KIN.call_text z j ⟨.int n,H,I.tok _,⟨_,rfl⟩,q⟩
theorem yY:cG X @fh (λx y H Q=>∃z n,x= .str z/\y= .int n/\1<n/\n<=1000/\0<z.length/\z.length<=1000/\Q (.str ⟨(List.replicate n.toNat z.cps).foldl (· ++ ·) #[]⟩) H):=by
 intro pins s σ H x y v u Q I L O h;obtain ⟨z,n,rfl,rfl,h1,h2,U,Y,q⟩:=h;obtain ⟨t,rfl⟩:=L;obtain ⟨S,rfl⟩:=O;have R:(z.length:Int)*n<=1000*1000:=Int.mul_le_mul @b h2 @b @c
 have W:z.length*n.toNat<=1000000:=by
  have e:((z.length*n.toNat:Nat):Int)=(z.length:Int)*n:=by rw [Int.natCast_mul,Int.toNat_of_nonneg @b]
  lia
 have hs:sizeLine=16777216:=sizeLine_eq;have F:(n==1)=false:=beq_eq_false_iff_ne.mpr @b;have B:(z.length==0)=false:=beq_eq_false_iff_ne.mpr @b;rwa[PySem.P.mul_str ?_ (λ_ _=> ?_) (λ_ _=>qQ @b) ?_]
 ·rw [decide_eq_false @b,decide_eq_false @b];rfl
 ·have:=Int.le_ediv_of_mul_le (a:=(z.length:Int)) (b:=2^63 - 1) (c:=n) @b @b;lia
 ·rw [if_neg @b,F,B];rwa[⟨?_,.str _,H,I.tok _,⟨_,rfl⟩,q⟩];show ((List.replicate n.toNat z.cps).foldl (· ++ ·) #[]).size<=sizeLine
  have J:∀(k:Nat) (j:Array Nat),((List.replicate k z.cps).foldl (· ++ ·) j).size=j.size+z.length*k:=by
   intro k
   induction k with
   |zero=>intro j;simp
   |succ k ih=>
    intro j;rw [replicate_succ,foldl_cons,ih,Array.size_append,Nat.mul_succ];have e:z.cps.size=z.length:=rfl;lia
  rw [J];simp only [size_toArray,length_nil];lia
theorem IN:xO X "int.bit_length" (λx xs H Q=>∃i,x= .int i/\xs=[]/\Q (.int (Builtin.Int.intBits i)) H):=by
 intro pins s σ H x xs v j Q I L z h;obtain ⟨i,rfl,rfl,q⟩:=h;obtain ⟨t,rfl⟩:=L;cases z;exact call_int_bit_length ⟨.int _,H,I.tok _,⟨_,rfl⟩,q⟩
end
structure aU (P:Program)(w:World)(K:Fg)(mg:Str->Option Value)(base:Heap)(n:Nat)(x:Str)(ps:List Str)(sp:Sp):Prop where
 ex:∃f fd,au P w K mg base aT n f fd ps sp/\eG K fd ps []/\W.keepIn K (.ref f)=true/\mg x=some (.ref f)
section
variable {X:Cx}{x:Str}{p pos:Pos}{e:Expr}{es:List Expr}{t:TA}{ps:List Str}{sp:Sp}{n m:Nat}
theorem OF (c:aU X.prog X.w X.K X.mg X.base n x ps sp)(S:bE m X.A)(J:n<=m)(W:Gl X x)(I:PA X (e::es) t)(j:(x==("__debug__":Str))=false:=by decide)
(U:starEach (e::es) X.env=(false,eval e X.env)::starEach es X.env:=by rfl)(z:(backTo pos @O).any (·.1)=false:=by rfl):
 PE X (.Call (.Name x p) (e::es) [] pos) (Ao sp [] E0 t):=by
 obtain ⟨f,fd,F,b,k,B⟩:=c.ex;exact Ic (F.mono J) S W B k b .nil fX I j U z
end
noncomputable def rD (sc:Scope)(N:List Str)(scope:Scope)(N':List Str)(pk:List @C):Bool:=
 (scope.kind== .function)&&scope.names.all (λy=>y.2 != .cell)&&scope.names.all (λy=> !(y.2== .local)||scope.names.lookup y.1==some .local)&&
 scope.names.all (λy=> !(y.2== .free)||((sc.names.lookup y.1==some .cell||sc.names.lookup y.1==some .free)&&scope.names.lookup y.1 != some .local))&&
 (pk.length==N'.length)&&(List.range pk.length).all λj=>match pk[j]?,N'[j]? with
   |some (some i),some x=>N[i]? ==some x&&scope.names.contains (x,NameKind.free)
   |_,_=>true
theorem aD {X:Cx}{scope:Scope}{N':List Str}{pk:List @C}(h:rD X.env.scope X.N scope N' pk=true):cA X scope N' pk:=by
 unfold rD at h;simp only [Bool.and_eq_true] at h;obtain ⟨⟨⟨⟨⟨h1,h2⟩,L⟩,F⟩,U⟩,I⟩:=h;rwa[⟨by simpa using h1,λy J=> ?_,λy J W=> ?_,λn B=> ?_,λn B=> ?_,by simpa using U,λj i x R O=> ?_⟩]
 ·have:=all_eq_true.mp h2 y J;simpa using this
 ·have:=all_eq_true.mp L y J;rw [W] at this;simpa using this
 ·have:=all_eq_true.mp F _ B;simp only [beq_self_eq_true,Bool.not_true,Bool.false_or,Bool.and_eq_true,Bool.or_eq_true] at this
  rcases this.1 with z|z
  ·exact .inl (show X.env.scope.names.lookup n=_ by simpa using z)
  ·exact .inr (show X.env.scope.names.lookup n=_ by simpa using z)
 ·have:=all_eq_true.mp F _ B;simp only [beq_self_eq_true,Bool.not_true,Bool.false_or,Bool.and_eq_true,Bool.or_eq_true] at this;simpa using this.2
 ·have Z:j<pk.length:=(List.getElem?_eq_some_iff.mp R).1;have:=all_eq_true.mp I j (mem_range.mpr Z);rw [R,O] at this;simp only [Bool.and_eq_true] at this;exact ⟨by simpa using this.1,by simpa using this.2⟩
section
variable {X:Cx}
theorem Cv:bf X (.builtin "len") (λxs H Q=>∃x,xs=[x]/\((∃z,x= .str z/\z.length<=sizeLine/\Q (.int z.length) H)\/∃p,x= .ref p/\∃ys,(aA X.K H p ys\/aB X.K H p ys)/\Q (.int ys.length) H)):=by
 intro pins s σ H xs j Q I r h;obtain ⟨x,rfl,h⟩:=h
 rcases h with ⟨z,rfl,B,q⟩|⟨p,rfl,ys,F,q⟩
 ·exact vB pins s σ H _ j Q I r ⟨z,rfl,B,q⟩
 ·exact vC pins s σ H _ j Q I r ⟨p,ys,rfl,F,q⟩
def Ox (K:Fg):R2:=λx y H Q=>∃i,y= .int i/\((∃z,x= .str z/\z.length<=sizeLine/\∃c,l9 z.cps.toList i=some c/\Q (.str ⟨#[c]⟩) H)\/∃p,x= .ref p/\∃xs,(aA K H p xs\/aB K H p xs)/\∃v,l9 xs i=some v/\Q v H)
theorem MN:CN X (Ox X.K):=by
 intro value J pins s σ H x y v u Q I L j h hs;obtain ⟨i,rfl,h⟩:=h
 rcases h with ⟨z,rfl,R,c,O,q⟩|⟨p,rfl,xs,F|F,B,Y,q⟩
 ·exact MM value J pins s σ H _ _ v u Q I L j ⟨z,i,c,rfl,rfl,R,O,q⟩ hs
 ·exact IY value J pins s σ H _ _ v u Q I L j ⟨p,xs,i,B,rfl,rfl,F,Y,q⟩ hs
 ·exact ML value J pins s σ H _ _ v u Q I L j ⟨p,xs,i,B,rfl,rfl,F,Y,q⟩ hs
theorem Gk {R:List Int}{k:Int}(B:0<=k)(h1:k<R.length):l9 @fN k=some (.int (R.getD k.toNat 0)):=by
 obtain ⟨j,rfl⟩:=Int.eq_ofNat_of_zero_le B;rwa[bD ?_]
 have Z:j<R.length:=by lia
 rw [getElem?_map,getElem?_eq_getElem Z];simp [List.getD,getElem?_eq_getElem Z]
def sL (J:It)(pk:List @C)(g:TG)(tt:TT)(te:TE)(σ:St)(H:Hp)(Q:VK):Prop:=∃W:Nat->Nat->List V->Hp->Prop,(∃m,W 0 m [] H)/\∀i m ys H,W i m ys H->
 (J.stop i H/\ys.length<=sizeLine/\∀p,H p=none->Q (.ref p) @R)\/
 (J.go i H/\ys.length<sizeLine/\∃N:List V->Hp->Prop,(∀zs H',N zs H'->∃m',m'<m/\W (i+1) m' zs H')/\∀x H',J.yld i H x H'->g x @L H' λσ2 H2=>sR @L σ2/\tt σ2 H2 λb H3=>
   if b=true then te σ2 H3 λv H4=>N (ys++[v]) H4 else N ys H3)
def zD (J:It)(g:TG)(tb:TS)(D:nR)(σ:St)(H:Hp):Prop:=∃W:Nat->Nat->St->Hp->Prop,(∃m,W 0 m σ H)/\∀i m σ H,W i m σ H->
 (J.stop i H/\D.nx σ H)\/(J.go i H/\∃N:St->Hp->Prop,(∀σ' H',N σ' H'->∃m',m'<m/\W (i+1) m' σ' H')/\∀x H',J.yld i H x H'->g x σ H' λσ2 H2=>tb {D with nx:=N,ct:=N,bk:=D.nx} σ2 H2)
section
variable {K:Fg}{a:Addr}{xs:List V}{g:TG}{tb:TS}{D:nR}{σ:St}{H:Hp}
theorem eN (j:Nat->St->Hp->Prop)(B:j 0 σ H)(W:∀i σ H,i<=xs.length->j i σ H->aA K H a xs)
(hs:∀i x σ H,xs[i]? =some x->j i σ H->g x σ H λσ2 H2=>tb {D with nx:=j (i+1),ct:=j (i+1),bk:=D.nx} σ2 H2)(J:∀σ H,j xs.length σ H->D.nx σ H):zD @gA g tb D σ H:=FG j B W hs J
theorem rj (j:Nat->St->Hp->Prop)(B:j 0 σ H)(W:∀i σ H,i<=xs.length->j i σ H->aB K H a xs)
(hs:∀i x σ H,xs[i]? =some x->j i σ H->g x σ H λσ2 H2=>tb {D with nx:=j (i+1),ct:=j (i+1),bk:=D.nx} σ2 H2)(J:∀σ H,j xs.length σ H->D.nx σ H):zD @gB g tb D σ H:=Jg j B W hs J
theorem cr {lo:Int}{n:Nat}(j:Nat->St->Hp->Prop)(B:j 0 σ H)
(hs:∀i σ H,i<n->j i σ H->g (.int (lo+i)) σ H λσ2 H2=>tb {D with nx:=j (i+1),ct:=j (i+1),bk:=D.nx} σ2 H2)(J:∀σ H,j n σ H->D.nx σ H):zD @gu g tb D σ H:=Cm j B hs J
end
theorem fi {lo:Int}{n:Nat}{pk:List @C}{g:TG}{tt:TT}{te:TE}{σ:St}{H:Hp}{Q:VK}(j:Nat->List V->Hp->Prop)(L:n<=sizeLine)(B:∀i ys H,j i ys H->ys.length<=i)(F:j 0 [] H)
(hs:∀i ys H,i<n->j i ys H->g (.int (lo+i)) @L H λσ2 H2=>sR @L σ2/\tt σ2 H2 λb H3=>if b=true then te σ2 H3 λv H4=>j (i+1) (ys++[v]) H4 else j (i+1) ys H3)
(J:∀ys H,j (n) ys H->∀p,H p=none->Q (.ref p) @R):
 sL @gu pk g tt te σ H Q:=by
 rwa[⟨λi m ys H=>m=n - i/\i<=n/\j i ys H,⟨n,by simp,Nat.zero_le _,F⟩,?_⟩];rintro i m ys H ⟨rfl,hi,p⟩;have W:=B _ _ _ p;by_cases z:i<n
 ·rwa[.inr ⟨z,by lia,j (i+1),λzs H' I=>⟨n - (i+1),by lia,rfl,z,I⟩,λx H' y=> ?_⟩];obtain ⟨e,y⟩:=y;subst e y;exact hs i ys _ z p
 ·have e:i=n:=by lia
  subst e;exact .inl ⟨Nat.le_refl _,by lia,J ys H p⟩
theorem cx {K:Fg}{a:Addr}{xs:List V}{pk:List @C}{g:TG}{tt:TT}{te:TE}{σ:St}{H:Hp}{Q:VK}(j:Nat->List V->Hp->Prop)(O:xs.length<=sizeLine)(z:∀i ys H,j i ys H->ys.length<=i)(I:j 0 [] H)(F:∀i ys H,i<=xs.length->j i ys H->aA K H a xs)
(hs:∀i x ys H,xs[i]? =some x->j i ys H->g x @L H λσ2 H2=>sR @L σ2/\tt σ2 H2 λb H3=>if b=true then te σ2 H3 λv H4=>j (i+1) (ys++[v]) H4 else j (i+1) ys H3)
(L:∀ys H,j @fs ys H->∀p,H p=none->Q (.ref p) @R):
 sL @gA pk g tt te σ H Q:=by
 rwa[⟨λi m ys H=>m=xs.length - i/\i<=xs.length/\j i ys H,⟨xs.length,by simp,Nat.zero_le _,I⟩,?_⟩];rintro i m ys H ⟨rfl,hi,p⟩;have W:=z _ _ _ p;by_cases B:i<xs.length
 ·rwa[.inr ⟨⟨xs,xs[i],F i ys H hi p,by simp [B]⟩,by lia,j (i+1),λzs H' J=>⟨xs.length - (i+1),by lia,rfl,B,J⟩,λx H' y=> ?_⟩];obtain ⟨e,y⟩:=y;subst e;exact hs i x ys _ (y xs (F i ys _ hi p)) p
 ·have e:i=xs.length:=by lia
  subst e;exact .inl ⟨⟨xs,F _ ys H @f p,Nat.le_refl _⟩,by lia,L ys H p⟩
theorem cW {K:Fg}{a:Addr}{xs:List V}{pk:List @C}{g:TG}{tt:TT}{te:TE}{σ:St}{H:Hp}{Q:VK}(j:Nat->List V->Hp->Prop)(O:xs.length<=sizeLine)(z:∀i ys H,j i ys H->ys.length<=i)(I:j 0 [] H)(F:∀i ys H,i<=xs.length->j i ys H->aB K H a xs)
(hs:∀i x ys H,xs[i]? =some x->j i ys H->g x @L H λσ2 H2=>sR @L σ2/\tt σ2 H2 λb H3=>if b=true then te σ2 H3 λv H4=>j (i+1) (ys++[v]) H4 else j (i+1) ys H3)
(L:∀ys H,j @fs ys H->∀p,H p=none->Q (.ref p) @R):
 sL @gB pk g tt te σ H Q:=by
 rwa[⟨λi m ys H=>m=xs.length - i/\i<=xs.length/\j i ys H,⟨xs.length,by simp,Nat.zero_le _,I⟩,?_⟩];rintro i m ys H ⟨rfl,hi,p⟩;have W:=z _ _ _ p;by_cases B:i<xs.length
 ·rwa[.inr ⟨⟨xs,xs[i],F i ys H hi p,by simp [B]⟩,by lia,j (i+1),λzs H' J=>⟨xs.length - (i+1),by lia,rfl,B,J⟩,λx H' y=> ?_⟩];obtain ⟨e,y⟩:=y;subst e;exact hs i x ys _ (y xs (F i ys _ hi p)) p
 ·have e:i=xs.length:=by lia
  subst e;exact .inl ⟨⟨xs,F _ ys H @f p,Nat.le_refl _⟩,by lia,L ys H p⟩
theorem FX {z:Str}{pk:List @C}{g:TG}{tt:TT}{te:TE}{σ:St}{H:Hp}{Q:VK}(j:Nat->List V->Hp->Prop)(R:z.cps.size<=sizeLine)(B:∀i ys H,j i ys H->ys.length<=i)(J:j 0 [] H)
(hs:∀i c ys H,z.cps[i]? =some c->j i ys H->g (.str ⟨#[c]⟩) @L H λσ2 H2=>sR @L σ2/\tt σ2 H2 λb H3=>if b=true then te σ2 H3 λv H4=>j (i+1) (ys++[v]) H4 else j (i+1) ys H3)
(O:∀ys H,j (z.cps.size) ys H->∀p,H p=none->Q (.ref p) @R):
 sL (Qj z) pk g tt te σ H Q:=by
 rwa[⟨λi m ys H=>m=z.cps.size - i/\i<=z.cps.size/\j i ys H,⟨z.cps.size,by simp,Nat.zero_le _,J⟩,?_⟩];rintro i m ys H ⟨rfl,hi,p⟩;have W:=B _ _ _ p;by_cases F:i<z.cps.size
 ·rwa[.inr ⟨F,by lia,j (i+1),λzs H' L=>⟨z.cps.size - (i+1),by lia,rfl,F,L⟩,λx H' y=> ?_⟩];obtain ⟨e,c,I,Y⟩:=y;subst e Y;exact hs i c ys _ I p
 ·have e:i=z.cps.size:=by lia
  subst e;exact .inl ⟨Nat.le_refl _,by lia,O ys H p⟩
end
section
variable {X:Cx}{K:Fg}
theorem yZ (O:X.K=K):cG X @dP (Qa K false):=O▸BM
theorem sv (O:X.K=K):cG X @cm (Qa K true):=O▸vj
theorem IZ (O:X.K=K):CN X (Ox K):=O▸MN
def Ow (K:Fg):List V->Hp->VK->Prop:=λxs H Q=>∃x,xs=[x]/\((∃z,x= .str z/\z.length<=sizeLine/\Q (.int z.length) H)\/∃p,x= .ref p/\∃ys,(aA K H p ys\/aB K H p ys)/\Q (.int ys.length) H)
theorem Cw (O:X.K=K):bf X (.builtin "len") (Ow K):=O▸Cv
def Oy (K:Fg):List V->Hp->VK->Prop:=λxs H Q=>∃x c cv t b,xs=[x,c]/\cV c=some cv/\iY K H x t/\W.kitOne K t cv=some b/\Q (.bl b) H
theorem Cy (O:X.K=K):bf X (.builtin "isinstance") (Oy K):=O▸xv
def OB (K:Fg):List V->Hp->VK->Prop:=λxs H Q=>∃(a:Addr) (bs:List Bool),xs=[.ref a]/\aA K H a @bk/\Q (.bl @gi) H
theorem CC (O:X.K=K)(I:X.calm=true):bf X (.builtin "all") (OB K):=O▸CD I
def HH (K:Fg):List V->Hp->VK->Prop:=λxs H Q=>∃p ys,xs=[.ref p]/\(aA K H p ys\/aB K H p ys)/\∀l,H l=none->Q (.ref l) @bX
theorem zR (O:X.K=K):bf X (.type "list") (HH K):=O▸vA
def Ee (K:Fg):List V->Hp->VK->Prop:=λxs H Q=>∃p ys,xs=[.ref p]/\((aA K H p ys/\∀l,H l=none->Q (.ref l) @cN)\/(aB K H p ys/\Q (.ref p) H))
theorem xu (O:X.K=K):bf X (.type "tuple") (Ee K):=O▸sM
def Ly (K:Fg):V->List V->Hp->VK->Prop:=λx xs H Q=>∃z a ts,x= .str z/\xs=[.ref a]/\aA K H a @dm/\(ts.toArray.foldl (· + ·.length+z.length) 0)<=sizeLine/\(Builtin.Str.glued z ts).length<=sizeLine/\Q (.str @cd) H
theorem E8 (O:X.K=K):xO X "str.join" (Ly K):=O▸E7
theorem HW (O:X.K=K){es:List Expr}{k:Nat}{t:Bb}{n:Nat}{pos:Pos}(I:X.calm=true)(h:CJ X es t)
(z:(assignEach es X.env).length=n:=by rfl)(j:(assignEach es X.env).findIdx? (·.1)=none:=by rfl):PG X (.Tuple es k pos) (Pb K n t):=O▸LF I h z j
end
theorem sR.refl (σ:St):sR σ σ:=⟨rfl,λ_ _ h=>h⟩
theorem sR.cons {σ j:St}{o o':Option V}(h:o=none\/o=o')(s:sR σ j):sR (o::σ) (o'::j):=by
 rwa[⟨by simp [s.1],λi v e=> ?_⟩]
 cases i with
 |zero=>
  rcases h with rfl|rfl
  ·exact nomatch (show (none:Option V)=some v from Option.some.inj e)
  ·exact e
 |succ i=>exact s.2 i v (by simpa using e)
theorem Q7 {σ:St}{x:V}:sR (none::σ) (some x::σ):= .cons (.inl rfl) (.refl _)
noncomputable def bB:Expr->Bool
 | .Starred _ _=>false
 |_=>true
theorem bg {e:Expr}{es:List Expr}{env:Env}(h:bB e=true):starEach (e::es) env=(false,eval e env)::starEach es env:=by
 cases e<;>first|rfl|cases h
noncomputable def aW:List Expr->Bool
 |[]=>true
 |e::es=>bB e&&aW es
theorem b9 {pos:Pos}{env:Env}:∀ {es:List Expr},aW es=true->(backTo pos @bM).any (·.1)=false
 |[],_=>rfl
 |e::es,h=>by
  have h':(bB e&&aW es)=true:=h;rw [Bool.and_eq_true] at h';rw [bg h'.1];show (false||(backTo pos @bM).any (·.1))=false;rw [b9 h'.2];rfl
theorem m7 {pos:Pos}{env:Env}:∀ {es:List Expr},aW es=true->(backTo pos @bM).all (λx=> !x.1)=true
 |[],_=>rfl
 |e::es,h=>by
  have h':(bB e&&aW es)=true:=h;rw [Bool.and_eq_true] at h';rw [bg h'.1];show (true&&(backTo pos @bM).all (λx=> !x.1))=true;rw [m7 h'.2];rfl
noncomputable def dR:Expr->Bool
 | .Call _ [] [] _=>false
 |_=>true
theorem vI {o:Expr}{name:Str}{env:Env}{z:Sem Value}(h:dR o=true):attributeBase o name env z=z:=by
 unfold attributeBase;split
 ·cases h
 ·rfl
noncomputable def tH:Expr->Bool
 | .UnaryOp _ _ _=>false
 | .BoolOp _ _ _=>false
 | .IfExp _ _ _ _=>false
 | .Compare _ _ _ _=>false
 |_=>true
theorem Fp {e:Expr}{env:Env}{z:Sem Value}(h:tH e=true):isTrue e env z=(do let v<-z;standAt e.pos;holding [v] (truthy v)):=by
 cases e<;>first|rfl|cases h
section
variable {X:Cx}{K:Fg}{x:Str}{p pos apos cpos:Pos}{e o a:Expr}{es:List Expr}{t:TA}{te to ta:TE}{ps:List Str}{sp:Sp}{n m:Nat}{id T:String}{r:List V->Hp->VK->Prop}{name:Str}{rm:V->List V->Hp->VK->Prop}
theorem ar (j:PE X e te)(S:PA X es t)(hs:bB e=true:=by rfl):PA X (e::es) (Do te t):=Ig j S (bg hs)
theorem cO (c:aU X.prog X.w X.K X.mg X.base n x ps sp)(S:bE m X.A)(B:n<=m)(W:Gl X x)(z:PA X (e::es) t)(j:(x==("__debug__":Str))=false:=by decide)(F:aW (e::es)=true:=by rfl):
 PE X (.Call (.Name x p) (e::es) [] pos) (Ao sp [] E0 t):=by
 have h':(bB e&&aW es)=true:=F;rw [Bool.and_eq_true] at h';exact OF c S B W z j @ft @fu
theorem bx (I:bf X (.builtin id) r)(W:Gl X x)(B:X.mg x=none)(Y:bootBuiltins x=some (.builtin id))(z:PA X (e::es) t)(J:x≠"__name__":=by decide)(j:(x==("__debug__":Str))=false:=by decide)
(F:aW (e::es)=true:=by rfl):PE X (.Call (.Name x p) (e::es) [] pos) (P8 r t):=by
 have h':(bB e&&aW es)=true:=F;rw [Bool.and_eq_true] at h';exact Ew I W B Y z J j @ft @fu
theorem aM (I:bf X (.type T) r)(W:Gl X x)(B:X.mg x=none)(Y:bootBuiltins x=some (.type T))(z:PA X (e::es) t)(J:x≠"__name__":=by decide)(j:(x==("__debug__":Str))=false:=by decide)
(F:aW (e::es)=true:=by rfl):PE X (.Call (.Name x p) (e::es) [] pos) (P8 r t):=by
 have h':(bB e&&aW es)=true:=F;rw [Bool.and_eq_true] at h';exact BK I W B Y z J j @ft @fu
end
def rY (b:Bool)(A B:Prop):Prop:=if b=true then A else B
theorem zw {b:Bool}{A B:Prop}(h1:b=true->A)(h2:b=false->B):rY b A B:=by
 cases b with
 |true=>exact h1 rfl
 |false=>exact h2 rfl
theorem bO {b:Bool}{A B:Prop}(e:b=true)(h:A):rY b A B:=by subst e;exact h
theorem aY {b:Bool}{A B:Prop}(e:b=false)(h:B):rY b A B:=by subst e;exact h
theorem jy {c:Prop}[Decidable c]{A B:Prop}(h1:c->A)(h2: ¬c->B):rY (decide c) A B:=zw (λh=>h1 (of_decide_eq_true h)) (λh=>h2 (of_decide_eq_false h))
theorem pc {c:Prop}[Decidable c]{A B:Prop}(I:c)(h:A):rY (decide c) A B:=bO (decide_eq_true I) h
theorem iT {c:Prop}[Decidable c]{A B:Prop}(I: ¬c)(h:B):rY (decide c) A B:=aY (decide_eq_false I) h
theorem Rt {c:Prop}[Decidable c]{A B:Prop}(h1: ¬c->A)(h2:c->B):rY (!decide c) A B:=by
 by_cases h:c
 ·rw [decide_eq_true h];exact aY rfl (h2 h)
 ·rw [decide_eq_false h];exact bO rfl (h1 h)
theorem PE.imp {X:Cx}{e:Expr}{t t':TE}(h:PE X e t)(i:∀σ H Q,t' σ H Q->t σ H Q):PE X e t':=λpins s σ H Q I q=>h pins s σ H Q I (i σ H Q q)
theorem cG.imp {X:Cx}{f:Value->Value->Sem Value}{r R:R2}(h:cG X f r)(i:∀x y H Q,R x y H Q->r x y H Q):cG X f R:=λpins s σ H x y v u Q I L z q=>h pins s σ H x y v u Q I L z @fO
theorem CN.imp {X:Cx}{r R:R2}(h:CN X r)(i:∀x y H Q,R x y H Q->r x y H Q):CN X R:=λvalue J pins s σ H x y v u Q I L z q=>h value J pins s σ H x y v u Q I L z @fO
theorem bf.imp {X:Cx}{f:Value}{r R:List V->Hp->VK->Prop}(h:bf X f r)(i:∀xs H Q,R xs H Q->r xs H Q):bf X f R:=λpins s σ H xs j Q I L q=>h pins s σ H xs j Q I L (i _ _ _ q)
theorem xO.imp {X:Cx}{id:String}{r R:V->List V->Hp->VK->Prop}(h:xO X id r)(i:∀x xs H Q,R x xs H Q->r x xs H Q):xO X id R:=λpins s σ H x xs v j Q I L z q=>h pins s σ H x xs v j Q I L z @fO
def G3 (i:Nat):TE:=λσ H Q=>match σ[i]? with|some @bs=>Q v H|_=>False
theorem wv {X:Cx}(i:Nat){x:Str}{pos:Pos}(z:X.N[i]? =some x:=by rfl)(Y:Np X.env.scope x:=by first|exact Or.inl rfl|exact Or.inr @o|exact Or.inr (Or.inr rfl))(J:(x==("__debug__":Str))=false:=by decide)
(B:(x==("__classdict__":Str))=false:=by decide):PE X (.Name x pos) (G3 i):=
 (En z Y J B).imp λσ H Q h=>by
   unfold G3 at h
   cases e:σ[i]? with
   |none=>rw [e] at h;exact h.elim
   |some o=>
    cases o with
    |none=>rw [e] at h;exact h.elim
    |some v=>rw [e] at h;exact ⟨v,e,h⟩
def wI (g:Int->Int->V):R2:=λx y H Q=>match x,y with| .int i,.int j=>Q @cR H|_,_=>False
def wC (C:Int->Int->Prop)(g:Int->Int->V):R2:=λx y H Q=>match x,y with| .int i,.int j=>C i j/\Q @cR H|_,_=>False
theorem jK {g:Int->Int->V}:∀x y H Q,wI g x y H Q->Ef g x y H Q:=λx y H Q h=>by
 cases x with
 |int i=>cases y with
  |int j=>exact ⟨i,j,rfl,rfl,h⟩
  |_=>exact False.elim h
 |_=>exact False.elim h
theorem yb {C:Int->Int->Prop}{g:Int->Int->V}:∀x y H Q,wC C g x y H Q->rI C g x y H Q:=λx y H Q h=>by
 cases x with
 |int i=>cases y with
  |int j=>exact ⟨i,j,rfl,rfl,h⟩
  |_=>exact False.elim h
 |_=>exact False.elim h
section
variable {X:Cx}{K:Fg}
theorem C3:cG X (binaryOp .Sub) (wI λi j=> .int (i - j)):=LL.imp jK
theorem Ky:cG X (binaryOp .FloorDiv) (wC CK λi j=> .int (i / j)):=Ii.imp yb
def QG:R2:=λx y H Q=>match x,y with| .int i,.int j=>0<j/\Q (.int (i% j)) H|_,_=>False
theorem NI:cG X (binaryOp .Mod) QG:=LO.imp λx y H Q h=>yb (C:=λ_ j=>0<j) (g:=λi j=> .int (i% j)) x y H Q (by
 cases x with
 |int i=>cases y with
  |int j=>exact h
  |_=>exact False.elim h
 |_=>exact False.elim h)
theorem NG:cG X (binaryOp .LShift) (wC GM λi j=> .int (i*2^j.toNat)):=LM.imp yb
theorem NN:cG X (binaryOp .BitAnd) (wI λi j=> .int (Builtin.bitAnd i j)):=LR.imp jK
theorem Qw:cG X (binaryOp .BitOr) (wI λi j=> .int (Builtin.bitOr i j)):=OH.imp jK
theorem w_lt:cG X (compareOp .Lt) (wI λi j=> .bl (decide (i<j))):=OJ.imp jK
theorem we:cG X (compareOp .LtE) (wI λi j=> .bl (decide (i<=j))):=OK.imp jK
theorem NL:cG X (compareOp .Gt) (wI λi j=> .bl (decide (j<i))):=OL.imp jK
theorem Kx:cG X (compareOp .GtE) (wI λi j=> .bl (decide (j<=i))):=OM.imp jK
def Js (p q:Addr)(H:Hp)(Q:VK):Prop:=∃xs ys,H p=some (.lst xs)/\H q=some (.lst ys)/\xs.length+ys.length<=sizeLine/\∀l,H l=none->Q (.ref l) (upd H l (.lst (xs++ys)))
def QR:R2:=λx y H Q=>match x,y with
 | .int i,.int j=>Q (.int (i+j)) H
 | .str a,.str b=>a.length+b.length<=sizeLine/\Q (.str (a++b)) H
 | .ref p,.ref q=>Js p q H Q
 |_,_=>False
theorem NP:cG X @bv QR:=(LS.or (y0.or LQ)).imp λx y H Q h=>by
 cases x with
 |int i=>cases y with
  |int j=>exact .inl ⟨i,j,rfl,rfl,h⟩
  |_=>exact False.elim h
 |str a=>cases y with
  |str b=>exact .inr (.inl ⟨a,b,rfl,rfl,h⟩)
  |_=>exact False.elim h
 |ref p=>cases y with
  |ref q=>obtain ⟨xs,ys,h1,h2,L,z⟩:=h;exact .inr (.inr ⟨p,q,xs,ys,rfl,rfl,h1,h2,L,z⟩)
  |_=>exact False.elim h
 |_=>exact False.elim h
def QF:R2:=λx y H Q=>match x,y with
 | .int i,.int j=>rX i j/\Q (.int (i*j)) H
 | .str z,.int n=>(1<n/\n<=1000/\0<z.length/\z.length<=1000)/\Q (.str ⟨(List.replicate n.toNat z.cps).foldl (· ++ ·) #[]⟩) H
 |_,_=>False
theorem C5:cG X @fh QF:=(LN.or yY).imp λx y H Q h=>by
 cases x with
 |int i=>cases y with
  |int j=>exact .inl ⟨i,j,rfl,rfl,h⟩
  |_=>exact False.elim h
 |str z=>cases y with
  |int n=>exact .inr ⟨z,n,rfl,rfl,h.1.1,h.1.2.1,h.1.2.2.1,h.1.2.2.2,h.2⟩
  |_=>exact False.elim h
 |_=>exact False.elim h
def QE:V->Hp->VK->Prop:=λx H Q=>match x with| .int i=>Q (.int (-i)) H|_=>False
theorem NH:Nq X (unaryOp .USub) QE:=λpins s σ H x v Q I L h=>by
 cases x with
 |int i=>exact KO pins s σ H _ v Q I L ⟨i,rfl,h⟩
 |_=>exact False.elim h
noncomputable def Pg:V->V->Option Bool
 | .non,.non=>some true
 | .int i,.int j=>some (decide (i=j))
 | .str a,.str b=>some (decide (a=b))
 | .bl a,.bl b=>some (decide (a=b))
 | .non,.int _=>some false| .int _,.non=>some false| .non,.str _=>some false| .str _,.non=>some false| .non,.bl _=>some false| .bl _,.non=>some false
 | .int _,.str _=>some false| .str _,.int _=>some false| .bl _,.str _=>some false| .str _,.bl _=>some false
 |_,_=>none
theorem FM {x y:V}{b:Bool}(h:Pg x y=some b):Lj x y=true/\decide (x=y)=b:=by
 cases x<;>cases y<;>first|cases h|skip
 all_goals first
  |exact ⟨rfl,by simp⟩
  |(refine ⟨rfl,?_⟩;simp)
def N4 (neg:Bool):R2:=λx y H Q=>match y with
 | .non=>(match x with| .non=>Q (.bl (!neg)) H|_=>Q (.bl neg) H)
 |_=>False
theorem JI:cG X (compareOp .Is) (N4 false):=LP.imp λx y H Q h=>by
 cases y with
 |non=>cases x<;>exact ⟨rfl,h⟩
 |_=>exact False.elim h
theorem Kv:cG X (compareOp .IsNot) (N4 true):=Ih.imp λx y H Q h=>by
 cases y with
 |non=>cases x<;>exact ⟨rfl,h⟩
 |_=>exact False.elim h
def qd (K:Fg)(neg:Bool)(x:V)(p:Addr)(H:Hp)(Q:VK):Prop:=∃xs,(aA K H p xs\/aB K H p xs)/\cE x=true/\xs.all cE=true/\Q (.bl (if neg then !vw x xs else vw x xs)) H
noncomputable def nW (a b:Str):Bool:= !(Builtin.Str.occurrences b a 0 b.length 1).isEmpty
def RS (K:Fg)(neg:Bool):R2:=λx y H Q=>match y with
 | .str b=>(match x with| .str a=>Q (.bl (if neg then !nW a b else nW a b)) H|_=>False)
 | .ref p=>qd K neg x p H Q
 |_=>False
theorem NK (O:X.K=K):cG X @dP (RS K false):=(BL.or (yZ O)).imp λx y H Q h=>by
 cases y with
 |str b=>cases x with
  |str a=>exact .inl ⟨a,b,rfl,rfl,h⟩
  |_=>exact False.elim h
 |ref p=>obtain ⟨xs,h1,h2,L,j⟩:=h;exact .inr ⟨p,xs,rfl,h1,h2,L,j⟩
 |_=>exact False.elim h
theorem pj (O:X.K=K):cG X @cm (RS K true):=(vi.or (sv O)).imp λx y H Q h=>by
 cases y with
 |str b=>cases x with
  |str a=>exact .inl ⟨a,b,rfl,rfl,h⟩
  |_=>exact False.elim h
 |ref p=>obtain ⟨xs,h1,h2,L,j⟩:=h;exact .inr ⟨p,xs,rfl,h1,h2,L,j⟩
 |_=>exact False.elim h
def k7 (K:Fg)(p:Addr)(i:Int)(H:Hp)(Q:VK):Prop:=∃xs,(aA K H p xs\/aB K H p xs)/\∃v,l9 xs i=some v/\Q v H
def uO (z:Str)(i:Int)(H:Hp)(Q:VK):Prop:=z.length<=sizeLine/\∃c,l9 z.cps.toList i=some c/\Q (.str ⟨#[c]⟩) H
def R3 (K:Fg):R2:=λx y H Q=>match x,y with
 | .str z,.int i=>uO z i H Q
 | .ref p,.int i=>k7 K p i H Q
 |_,_=>False
theorem jJ (O:X.K=K):CN X (R3 K):=(IZ O).imp λx y H Q h=>by
 cases x with
 |str z=>cases y with
  |int i=>obtain ⟨h1,h2⟩:=h;exact ⟨i,rfl,.inl ⟨z,rfl,h1,h2⟩⟩
  |_=>exact False.elim h
 |ref p=>cases y with
  |int i=>obtain ⟨xs,h1,h2⟩:=h;exact ⟨i,rfl,.inr ⟨p,rfl,xs,h1,h2⟩⟩
  |_=>exact False.elim h
 |_=>exact False.elim h
def iG (K:Fg)(p:Addr)(H:Hp)(Q:VK):Prop:=∃ys,(aA K H p ys\/aB K H p ys)/\Q (.int ys.length) H
def QI (K:Fg):List V->Hp->VK->Prop:=λxs H Q=>match xs with
 |[.str z]=>z.length<=sizeLine/\Q (.int z.length) H
 |[.ref p]=>iG K p H Q
 |_=>False
theorem Ah (O:X.K=K):bf X (.builtin "len") (QI K):=(Cw O).imp λxs H Q h=>by
 match xs,h with
 |[.str z],h=>exact ⟨_,rfl,.inl ⟨z,rfl,h⟩⟩
 |[.ref p],h=>exact ⟨_,rfl,.inr ⟨p,rfl,h⟩⟩
def Fq (x:Str)(H:Hp)(Q:VK):Prop:=∃n,PySem.intText? x=some n/\x.length<=640/\Q (.int n) H
def QJ:List V->Hp->VK->Prop:=λxs H Q=>match xs with
 |[.int i]=>Q (.int i) H
 |[.bl k]=>Q (.int (if k then 1 else 0)) H
 |[.str x]=>Fq x H Q
 |_=>False
theorem Aj:bf X (.type "int") QJ:=(CA.or Cz).imp λxs H Q h=>by
 match xs,h with
 |[.int i],h=>exact .inl (.inl ⟨i,rfl,h⟩)
 |[.bl k],h=>exact .inl (.inr ⟨k,rfl,h⟩)
 |[.str x],h=>obtain ⟨n,h1,h2,L⟩:=h;exact .inr ⟨x,n,rfl,h1,h2,L⟩
noncomputable def I9:V->String->Option Bool
 | .non,T=>some (T=="NoneType")
 | .bl _,T=>some (T=="bool"||T=="int")
 | .int _,T=>some (T=="int")
 | .str _,T=>some (T=="str")
 |_,_=>none
def ke (K:Fg)(x c:V)(H:Hp)(Q:VK):Prop:=∃cv t b,cV c=some cv/\iY K H x t/\W.kitOne K t cv=some b/\Q (.bl b) H
noncomputable def vf (T:String):Bool:=T=="int"||T=="str"||T=="bool"||T=="list"||T=="tuple"||T=="dict"
def KG (K:Fg):List V->Hp->VK->Prop:=λxs H Q=>match xs with
 |[x,.ty T]=>(match I9 x T with|some b=>vf T=true/\Q (.bl b) H|none=>ke K x (.ty T) H Q)
 |[x,c]=>ke K x c H Q
 |_=>False
end
theorem Cc {K:Fg}{H:Hp}{x:V}{T:String}{b:Bool}(h:I9 x T=some b)(F:vf T=true):∃t,iY K H x t/\W.kitOne K t (.type T)=some b:=by
 have I:T="int"\/T="str"\/T="bool"\/T="list"\/T="tuple"\/T="dict":=by
  unfold vf at F;simp only [Bool.or_eq_true,beq_iff_eq] at F
  rcases F with ((((h|h)|h)|h)|h)|h<;>simp [h]
 cases x with
 |non=>refine ⟨_,.non,?_⟩;rcases I with rfl|rfl|rfl|rfl|rfl|rfl<;>(cases h;rfl)
 |bl y=>refine ⟨_,.bl y,?_⟩;rcases I with rfl|rfl|rfl|rfl|rfl|rfl<;>(cases h;rfl)
 |int y=>refine ⟨_,.int y,?_⟩;rcases I with rfl|rfl|rfl|rfl|rfl|rfl<;>(cases h;rfl)
 |str y=>refine ⟨_,.str y,?_⟩;rcases I with rfl|rfl|rfl|rfl|rfl|rfl<;>(cases h;rfl)
 |_=>cases h
section
variable {X:Cx}{K:Fg}{a b c e:Expr}{ta tb te:TE}{tA tB':TT}{eU:List Expr}{pos:Pos}
theorem NJ (O:X.K=K):bf X (.builtin "isinstance") (KG K):=(Cy O).imp λxs H Q h=>by
 have j:∀x c,ke K x c H Q->Oy K [x,c] H Q:=λx c ⟨z,t,b,h1,h2,L,B⟩=>⟨x,c,z,t,b,rfl,h1,h2,L,B⟩
 match xs,h with
 |[x,.ty T],h=>
  have h':(match I9 x T with|some b=>vf T=true/\Q (.bl b) H|none=>ke K x (.ty T) H Q):=h
  cases e:I9 x T with
  |none=>rw [e] at h';exact j _ _ h'
  |some b=>
   rw [e] at h';obtain ⟨t,h1,h2⟩:=Cc (K:=K) (H:=H) e h'.1;exact ⟨x,.ty T,_,t,b,rfl,rfl,h1,h2,h'.2⟩
 |[x,.ref C],h=>exact j _ _ h
 |[x,.non],h=>exact j _ _ h
 |[x,.bl _],h=>exact j _ _ h
 |[x,.int _],h=>exact j _ _ h
 |[x,.str _],h=>exact j _ _ h
 |[x,.byt _],h=>exact j _ _ h
 |[x,.flt _],h=>exact j _ _ h
def NU (t:TE):TT:=λσ H Q=>t σ H λx H'=>match x with| .bl k=>Q k H'|_=>False
theorem bY {op:CmpOp}{r:R2}(U:cG X @eh r)(L:PE X a ta)(hb:PE X b tb)(B:behindInMarks op b=false):PT X (.Compare a [op] [b] pos) (NU @fb):=by
 intro pins s σ H Q I h
 refine wpAny_isTrue_Compare1 (br @bi λv J ⟨x,H1,W,Z,R⟩=>br (hb pins J σ H1 _ W R) λu s2 ⟨y,H2,F,O,q2⟩=>
  br (U pins s2 σ H2 x y v u _ F Z O q2) λcv s3 ⟨z,j,I3,S,Y⟩=> ?_) B
 cases z with
 |bl k=>cases S;exact wpAny_truthy_bool ⟨j,I3,Y⟩
 |_=>exact False.elim Y
def qb (K:Fg)(p:Addr)(H:Hp)(Q:Bool->Hp->Prop):Prop:=(∃xs,(aA K H p xs\/aB K H p xs)/\Q (!xs.isEmpty) H)\/∃kvs,H p=some (.dK kvs)/\Q (!kvs.isEmpty) H
def NS (K:Fg)(ta:TE):TT:=λσ H Q=>ta σ H λx H'=>match x with
 | .bl k=>Q k H'
 | .non=>Q false H'
 | .int i=>Q (i != 0) H'
 | .str y=>y.length<=sizeLine/\Q ((y.length:Int) != 0) H'
 | .ref p=>qb K p H' Q
 |_=>False
theorem kz (R:X.K=K)(O:PE X a ta)(L:tH a=true:=by rfl):PT X a (NS K ta):=by
 subst R;intro pins s σ H Q I h;rwa[isTrue_plain (br (O pins s σ H _ I h) λv J ⟨x,H1,z,B,F⟩=> ?_) (Fp L)]
 cases x with
 |bl k=>exact iE pins J σ H1 _ v Q z B ⟨k,rfl,F⟩
 |non=>exact iE pins J σ H1 _ v Q z B ⟨false,rfl,F⟩
 |int i=>exact iE pins J σ H1 _ v Q z B ⟨_,rfl,F⟩
 |str y=>exact iE pins J σ H1 _ v Q z B ⟨_,⟨F.1,rfl⟩,F.2⟩
 |ref p=>
  rcases F with ⟨xs,j|j,q⟩|⟨kvs,j,q⟩
  ·exact iE pins J σ H1 _ v Q z B ⟨_,.inl ⟨xs,j,rfl⟩,q⟩
  ·exact iE pins J σ H1 _ v Q z B ⟨_,.inr (.inl ⟨xs,j,rfl⟩),q⟩
  ·exact iE pins J σ H1 _ v Q z B ⟨_,.inr (.inr ⟨kvs,j,rfl⟩),q⟩
 |_=>exact False.elim F
def QP (t u:TT):TT:=λσ H Q=>t σ H λc H1=>rY c (u σ H1 Q) (Q false H1)
def R1 (t u:TT):TT:=λσ H Q=>t σ H λc H1=>rY c (Q true H1) (u σ H1 Q)
theorem x8 (j:PT X a tA)(B:PW X (.BoolOp .And (b::eU) pos) tB'):PW X (.BoolOp .And (a::b::eU) pos) (QP tA tB'):=Lz j B
theorem jt (j:PT X a tA)(B:PW X (.BoolOp .Or (b::eU) pos) tB'):PW X (.BoolOp .Or (a::b::eU) pos) (R1 tA tB'):=OC j B
def N9 (ta tb:TE):TE:=λσ H Q=>ta σ H λx H1=>match x with| .bl c=>rY c @fW (Q (.bl false) H1)|_=>False
def QC (ta tb:TE):TE:=λσ H Q=>ta σ H λx H1=>match x with| .bl c=>rY c (Q (.bl true) H1) @fW|_=>False
theorem pO (L:PE X a ta)(j:PE X (.BoolOp .And (b::eU) pos) tb):PE X (.BoolOp .And (a::b::eU) pos) (N9 ta tb):=by
 intro pins s σ H Q I h;rwa[BoolOp_and (br @bi λv J ⟨x,H1,z,B,F⟩=> ?_)]
 cases x with
 |bl c=>
  cases B;rwa[wpAny_truthy_bool ?_]
  cases c with
  |true=>exact j pins J σ H1 Q z F
  |false=>exact ⟨.bl false,H1,z,rfl,F⟩
 |_=>exact False.elim F
theorem ND (L:PE X a ta)(j:PE X (.BoolOp .Or (b::eU) pos) tb):PE X (.BoolOp .Or (a::b::eU) pos) (QC ta tb):=by
 intro pins s σ H Q I h;rwa[BoolOp_or (br @bi λv J ⟨x,H1,z,B,F⟩=> ?_)]
 cases x with
 |bl c=>
  cases B;rwa[wpAny_truthy_bool ?_]
  cases c with
  |false=>exact j pins J σ H1 Q z F
  |true=>exact ⟨.bl true,H1,z,rfl,F⟩
 |_=>exact False.elim F
def QD (K:Fg)(ta:TE):TE:=λσ H Q=>ta σ H λx H'=>match x with
 | .bl k=>Q (.bl (!k)) H'
 | .non=>Q (.bl true) H'
 | .int i=>Q (.bl (!(i != 0))) H'
 | .str y=>y.length<=sizeLine/\Q (.bl (!((y.length:Int) != 0))) H'
 | .ref p=>qb K p H' λk H2=>Q (.bl (!k)) H2
 |_=>False
theorem CW (O:X.K=K)(L:PE X a ta):PE X (.UnaryOp .Not a pos) (QD K ta):=by
 subst O;intro pins s σ H Q I h;rwa[UnaryOp_ (br @bi λv z ⟨x,H1,R,S,F⟩=> ?_)]
 have J:(∃k,PK X.K x H1 k/\Q (.bl (!k)) H1)->wpAny @d X.A (unaryOp .Not v) @p X.xe z:=λh=>
  not_of (br (iE pins z σ H1 x v (λk H2=>Q (.bl (!k)) H2) R S h) λk W ⟨H2,B,U⟩=>⟨.bl (!k),H2,B,rfl,U⟩)
 cases x with
 |bl k=>exact J ⟨k,rfl,F⟩
 |non=>exact J ⟨false,rfl,F⟩
 |int i=>exact J ⟨_,rfl,F⟩
 |str y=>exact J ⟨_,⟨F.1,rfl⟩,F.2⟩
 |ref p=>
  rcases F with ⟨xs,j|j,q⟩|⟨kvs,j,q⟩
  ·exact J ⟨_,.inl ⟨xs,j,rfl⟩,q⟩
  ·exact J ⟨_,.inr (.inl ⟨xs,j,rfl⟩),q⟩
  ·exact J ⟨_,.inr (.inr ⟨kvs,j,rfl⟩),q⟩
 |_=>exact False.elim F
def QL (t:TT)(ta tb:TE):TE:=λσ H Q=>t σ H λc H1=>rY c (ta σ H1 Q) @fW
theorem C0 (I:PT X c tA)(j:PE X a ta)(B:PE X b tb):PE X (.IfExp c a b pos) (QL tA ta tb):=Es I j B
def QK (c:TT)(t u:TS):TS:=λD σ H=>c σ H λb H1=>rY b (t D σ H1) (u D σ H1)
theorem ax {t u:TS}{p q:List Stmt}(I:PT X c tA)(j:rT X p t)(B:rT X q u):PS X (.If c p q pos) (QK tA t u):=OD I j B
def Au (K:Fg)(p:Addr)(lo hi:Option Int)(H:Hp)(Q:VK):Prop:=(∃xs,aA K H p xs/\∀l,H l=none->Q (.ref l) (upd H l (.lst @cJ)))\/
 ∃xs,aB K H p xs/\ ¬(HT.sIx xs.length 0 lo=0/\HT.sIx xs.length xs.length hi=xs.length)/\∀l,H l=none->Q (.ref l) (upd H l (.tup @cJ))
def R0 (K:Fg):V->Option Int->Option Int->Hp->VK->Prop:=λx lo hi H Q=>match x with| .ref p=>Au K p lo hi H Q|_=>False
theorem Qv (O:X.K=K):Nh X (R0 K):=by
 subst O;intro pins s σ H x v F B lo hi sl Q I L hs pl J h
 cases x with
 |ref p=>
  rcases h with ⟨xs,h1,h2⟩|⟨xs,h1,h2,j⟩
  ·exact Hn pins s σ H _ v F B lo hi sl Q I L hs pl J ⟨p,xs,rfl,h1,h2⟩
  ·exact Ld pins s σ H _ v F B lo hi sl Q I L hs pl J ⟨p,xs,rfl,h1,h2,j⟩
 |_=>exact False.elim h
def NX (t:TE):TO:=λσ H Q=>t σ H λx H1=>match x with| .int i=>Q (some i) H1|_=>False
theorem GY (h:PE X e te):PO X (some e) (NX te):=by
 intro pins s σ H Q I j;rw [evalPart_some];rwa[br (h pins s σ H _ I j) λu J ⟨x,H1,z,B,F⟩=> ?_]
 cases x with
 |int i=>obtain ⟨t,rfl⟩:=B;exact ⟨some i,H1,z,.int i t,F⟩
 |_=>exact False.elim F
def C7 (K:Fg)(T:String)(x:V)(H:Hp)(P:Prop):Prop:=match x with
 | .str _=>T="str"/\P
 | .int _=>T="int"/\P
 | .ref _=>P2 K T x H/\P
 |_=>False
def R5 (K:Fg)(T:String)(r:V->List V->Hp->VK->Prop)(to:TE)(t:TA):TE:=λσ H Q=>to σ H λx H1=>C7 K T x H1 (t σ H1 λxs H2=>r x xs H2 Q)
end
section
variable {X:Cx}{K:Fg}{o e:Expr}{es:List Expr}{to:TE}{t:TA}{name:Str}{apos cpos:Pos}{T id:String}{r:V->List V->Hp->VK->Prop}
theorem wj {x:V}{H:Hp}{P:Prop}(h:C7 K T x H P):P2 K T x H/\P:=by
 cases x with
 |str z=>exact h
 |int i=>exact h
 |ref p=>exact h
 |_=>exact False.elim h
theorem ij (hK:X.K=K)(pa:PlainAttrs T)(U:Slot T name id)(J:typeOf (.builtin id)=pure (.type "method_descriptor"))(W:xO X id r)(ho:PE X o to)(ha:PA X (e::es) t)
(hb:dR o=true:=by rfl)(R:aW (e::es)=true:=by rfl)(hl:(e::es).length<29:=by decide)(z:(apos.endLine==cpos.line)=true:=by rfl):
 PE X (.Call (.Attribute o name apos) (e::es) [] cpos) (R5 K T r to t):=by
 subst hK;have h':(bB e&&aW es)=true:=R;rw [Bool.and_eq_true] at h';have hs:starEach (e::es) X.env=(false,eval e X.env)::starEach es X.env:=bg h'.1;have j:(backTo cpos @O).any (·.1)=false:=b9 h'.2
 have B:((backTo cpos (starEach (e::es) X.env)).all (λx=> !x.1)&&(backToKw cpos @dA).all @eq
  &&decide ((e::es).length+([]:List Keyword).length+(if ([]:List Keyword).isEmpty then 0 else 1)<30))=true:=by
  rw [m7 R,arm_keywordEach_nil];show (true&&true&&decide ((e::es).length+0+0<30))=true;rw [decide_eq_true @b];rfl
 intro pins s σ H Q I h;rwa[wpAny_Call_method_late (vI hb) B z rfl (br (ho pins s σ H _ I h) λv Y ⟨x,H1,S,O,F⟩=> ?_)];obtain ⟨ty,F⟩:=wj F;obtain ⟨h1,h2⟩:=Df S O ty;rwa[⟨T,id,pa,U,J,h1,h2,?_⟩];have L:=ha cpos pins Y σ H1 _ S F;rw [hs] at L ⊢;rwa[Calls.callWith_builtin (by show (false||(backTo cpos @O).any (·.1))=false;rw [j]<;>rfl) (Calls.evalArgs_plain ?_)];exact br L λus s2 ⟨vs,H2,Z,r2,q2⟩=>W pins s2 σ H2 x vs v us Q Z O r2 q2
def QO (K:Fg)(T:String)(r:V->List V->Hp->VK->Prop)(to:TE):TE:=λσ H Q=>to σ H λx H1=>C7 K T x H1 (r x [] H1 Q)
theorem C1 (R:X.K=K)(Y:PlainAttrs T)(U:Slot T name id)(J:typeOf (.builtin id)=pure (.type "method_descriptor"))(L:xO X id r)(S:PE X o to)
(W:dR o=true:=by rfl)(z:(apos.endLine==cpos.line)=true:=by rfl):PE X (.Call (.Attribute o name apos) [] [] cpos) (QO K T r to):=by
 subst R;intro pins s σ H Q I h;rwa[wpAny_Call_method0_late (vI W) z (br (S pins s σ H _ I h) λv O ⟨x,H1,j,B,F⟩=> ?_)];obtain ⟨ty,F⟩:=wj F;obtain ⟨h1,h2⟩:=Df j B ty;exact ⟨T,id,Y,U,J,h1,h2,Calls.callWith_builtin rfl (PySem.evalArgs_none (L pins O σ H1 x [] v [] Q j B .nil F))⟩
noncomputable def FK (z y:Str):Int:=match Builtin.Str.occurrences z y 0 z.length 1 with|i::_=>(i:Int)|[]=> -1
def AH (K:Fg)(z:Str)(a:Addr)(H:Hp)(Q:VK):Prop:=∃ts:List Str,aA K H a @dm/\(ts.toArray.foldl (· + ·.length+z.length) 0)<=sizeLine/\(Builtin.Str.glued z ts).length<=sizeLine/\Q (.str @cd) H
def N2 (K:Fg):V->List V->Hp->VK->Prop:=λx xs H Q=>match x,xs with| .str z,[.ref a]=>AH K z a H Q|_,_=>False
theorem ya (O:X.K=K):xO X "str.join" (N2 K):=(E8 O).imp λx xs H Q h=>by
 match x,xs,h with
 | .str z,[.ref a],h=>obtain ⟨j,h1⟩:=h;exact ⟨z,a,j,rfl,rfl,h1⟩
def N7:V->List V->Hp->VK->Prop:=λx xs H Q=>match x,xs with| .int i,[]=>Q (.int (Builtin.Int.intBits i)) H|_,_=>False
theorem C6:xO X "int.bit_length" N7:=IN.imp λx xs H Q h=>by
 match x,xs,h with
 | .int i,[],h=>exact ⟨i,rfl,rfl,h⟩
def Jw (a:Addr)(y:V)(H:Hp)(Q:VK):Prop:=∃xs,H a=some (.lst xs)/\xs.length<sizeLine/\Q .non (upd H a (.lst (xs++[y])))
def G6:V->List V->Hp->VK->Prop:=λx xs H Q=>match x,xs with| .ref a,[y]=>Jw a y H Q|_,_=>False
theorem pQ:xO X "list.append" G6:=by
 intro pins s σ H x xs v j Q I L B h
 match x,xs,h with
 | .ref a,[y],h=>
   obtain ⟨ys,h1,h2,z⟩:=h;exact B3 pins s σ H _ _ v j Q I L B ⟨a,ys,y,rfl,rfl,h1,h2,z⟩
def JA (K:Fg)(a:Addr)(H:Hp)(Q:VK):Prop:=∃bs:List Bool,aA K H a @bk/\Q (.bl (bs.all _root_.id)) H
def QQ (K:Fg):List V->Hp->VK->Prop:=λxs H Q=>match xs with|[.ref a]=>JA K a H Q|_=>False
theorem NO (O:X.K=K)(I:X.calm=true):bf X (.builtin "all") (QQ K):=(CC O I).imp λxs H Q h=>by
 match xs,h with
 |[.ref a],h=>obtain ⟨j,h1⟩:=h;exact ⟨a,j,rfl,h1⟩
def xb (K:Fg)(p:Addr)(H:Hp)(Q:VK):Prop:=∃ys,(aA K H p ys\/aB K H p ys)/\∀l,H l=none->Q (.ref l) @bX
def N1 (K:Fg):List V->Hp->VK->Prop:=λxs H Q=>match xs with|[.ref a]=>xb K a H Q|_=>False
theorem jI (O:X.K=K):bf X (.type "list") (N1 K):=(zR O).imp λxs H Q h=>by
 match xs,h with
 |[.ref a],h=>obtain ⟨ys,h1⟩:=h;exact ⟨a,ys,rfl,h1⟩
def Bg (K:Fg)(p:Addr)(H:Hp)(Q:VK):Prop:=∃ys,(aA K H p ys/\∀l,H l=none->Q (.ref l) @cN)\/(aB K H p ys/\Q (.ref p) H)
def KC (K:Fg):List V->Hp->VK->Prop:=λxs H Q=>match xs with|[.ref a]=>Bg K a H Q|_=>False
theorem gx (O:X.K=K):bf X (.type "tuple") (KC K):=(xu O).imp λxs H Q h=>by
 match xs,h with
 |[.ref a],h=>obtain ⟨ys,h1⟩:=h;exact ⟨a,ys,rfl,h1⟩
def xh (K:Fg)(p:Addr)(H:Hp)(R:It->Hp->Prop):Prop:=(∃xs,aA K H p xs/\R (GE K p) H)\/∃xs,aB K H p xs/\R (GD K p) H
def QA (K:Fg)(te:TE):TI:=λσ H R=>te σ H λx H1=>match x with| .str z=>R (Qj z) H1| .ref p=>xh K p H1 R|_=>False
end
theorem Kr {X:Cx}{K:Fg}(W:X.K=K){tg e:Expr}{te:TE}(Y:PE X e te):PI X tg e (QA K te):=by
 subst W;intro pins s σ H R I h;rwa[br @dU λv J ⟨x,H1,j,O,q⟩=> ?_];have U:∀ {t:TE},True:=λ{_}=>trivial
 have L:((∃z,x= .str z/\R (Qj z) H1)\/(∃a,x= .ref a/\(∃xs,aA X.K H1 a xs)/\R (GE X.K a) H1)\/(∃a,x= .ref a/\(∃xs,aB X.K H1 a xs)/\R (GD X.K a) H1))->
  wpAny @d X.A (pyIter v) @eo X.xe J:=λq=>by
  rcases q with ⟨z,rfl,q⟩|⟨a,rfl,⟨xs,F⟩,q⟩|⟨a,rfl,⟨xs,F⟩,q⟩
  ·obtain ⟨t,rfl⟩:=O
   have fp:∀b∈[J.heap.objs.size],i8 X pins H1 b:=λb B=>by
    have e:b=J.heap.objs.size:=by simpa using B
    subst e;exact j.fpOk @f @dG
   cases S:z.cps.all (· <128)
   ·exact wpAny_pyIter_wide S ⟨J.heap.objs.size,[J.heap.objs.size],_,_,H1,rfl,j.kept (t':=J.toks) λb o e=>Heap.get?_push_of_some _ e,tm (.inr rfl),⟨Nat.zero_le _,_,Heap.get?_push_size _ rfl,rfl,rfl⟩,fp,q⟩
   ·exact wpAny_pyIter_ascii S ⟨J.heap.objs.size,[J.heap.objs.size],_,_,H1,rfl,j.kept (t':=J.toks) λb o e=>Heap.get?_push_of_some _ e,tm (.inl rfl),⟨Nat.zero_le _,_,Heap.get?_push_size _ rfl,rfl,rfl⟩,fp,q⟩
  ·cases O;obtain ⟨its,Z,p,hz⟩:=j.list F;rwa[wpAny_pyIter_list p.isList ?_];rwa[⟨J.heap.objs.size,[J.heap.objs.size],_,_,H1,rfl,j.kept (t':=J.toks) λb o e=>Heap.get?_push_of_some _ e,Bf a _,⟨_,Heap.get?_push_size _ rfl,rfl,rfl⟩,λb B=> ?_,q⟩]
   have e:b=J.heap.objs.size:=by simpa using B
   subst e;exact j.fpOk @f @dG
  ·cases O;obtain ⟨its,Z,p,hz⟩:=j.tuple F;rwa[wpAny_pyIter_tuple (show J.heap.IsTuple a its.toArray from p) ?_];rwa[⟨J.heap.objs.size,[J.heap.objs.size],_,_,H1,rfl,j.kept (t':=J.toks) λb o e=>Heap.get?_push_of_some _ e,yd a _,⟨_,Heap.get?_push_size _ rfl,rfl,rfl⟩,λb B=> ?_,q⟩]
   have e:b=J.heap.objs.size:=by simpa using B
   subst e;exact j.fpOk @f @dG
 cases x with
 |str z=>exact L (.inl ⟨z,rfl,q⟩)
 |ref p=>
  rcases q with ⟨xs,h1,h2⟩|⟨xs,h1,h2⟩
  ·exact L (.inr (.inl ⟨p,rfl,⟨xs,h1⟩,h2⟩))
  ·exact L (.inr (.inr ⟨p,rfl,⟨xs,h1⟩,h2⟩))
 |_=>exact False.elim q
section
variable {X:Cx}{tg:Expr}
def NW (ta:TA):TI:=λσ H R=>ta σ H λvs H1=>match vs with|[.int j]=>(-4611686018427387904<=j/\j<4611686018427387904)/\R (GQ 0 j.toNat) H1|_=>False
def NV (ta:TA):TI:=λσ H R=>ta σ H λvs H1=>match vs with|[.int i,.int j]=>(-4611686018427387904<=i/\i<4611686018427387904/\ -4611686018427387904<=j/\j<4611686018427387904)/\R (GQ i (j - i).toNat) H1|_=>False
theorem bK {a:Expr}{ta:TA}{p pos:Pos}(W:Gl X "range")(B:X.mg "range"=none)(z:PA X [a] ta)(hs:bB a=true:=by rfl):PI X tg (.Call (.Name "range" p) [a] [] pos) (NW ta):=by
 intro pins s σ H R I h;rwa[Call_ (j8 I W B boot_range (PyProof.Rows.callWith_type1 (br (z pos pins s σ H _ I h) λU S ⟨O,H1,J,L,F⟩=> ?_) (bg hs) rfl))]
 match O,F with
 |[.int j],F=>
  cases L with
  |cons r rr=>
   cases rr;obtain ⟨t,rfl⟩:=r;have h1: -4611686018427387904<=j:=F.1.1;have h2:j<4611686018427387904:=F.1.2;exact call_range_1 (wR J @b @b @b @b (by simpa using F.2))
theorem Bd {a b:Expr}{ta:TA}{p pos:Pos}(W:Gl X "range")(B:X.mg "range"=none)(J:PA X [a,b] ta)(hs:bB a=true:=by rfl)(z:bB b=true:=by rfl):
 PI X tg (.Call (.Name "range" p) [a,b] [] pos) (NV ta):=by
 intro pins s σ H R I h;rwa[Call_ (j8 I W B boot_range (PyProof.Rows.callWith_type1 (br (J pos pins s σ H _ I h) λY U ⟨S,H1,L,O,F⟩=> ?_) (bg hs) (b9 (by show (bB b&&true)=true;rw [z];rfl))))]
 match S,F with
 |[.int i,.int j],F=>
  cases O with
  |cons r rr=>
   cases rr with
   |cons r' rr=>
    cases rr;obtain ⟨t,rfl⟩:=r;obtain ⟨Z,rfl⟩:=r';obtain ⟨⟨h1,h2,h3,h4⟩,q⟩:=F;exact call_range_2 (wR L @b @b @b @b q)
def setL (p:Addr)(k:Int)(v:V)(H:Hp)(Q:Hp->Prop):Prop:=∃xs j,H p=some (.lst xs)/\AK xs.length k=some j/\Q @bz
def Qz:V->V->V->Hp->(Hp->Prop)->Prop:=λo i v H Q=>match o,i with| .ref p,.int k=>setL p k v H Q|_,_=>False
theorem wc:Gs X Qz:=by
 intro pins s σ H o i v O z u Q I B F J h
 match o,i,h with
 | .ref p,.int k,h=>
   obtain ⟨xs,j,h1,h2,L⟩:=h;exact DN pins s σ H _ _ v O z u Q I B F J ⟨p,xs,k,j,rfl,rfl,h1,h2,L⟩
def Be (K:Fg)(n:Nat)(a:Addr)(H:Hp)(P:List V->Prop):Prop:=∃xs,aB K H a xs/\xs.length=n/\P xs
def Qx (K:Fg)(n:Nat)(t:Bb):TG:=λv σ H Q=>match v with| .ref a=>Be K n a H λxs=>t xs σ H Q|_=>False
def x9 (t:TG)(u:Bb):Bb:=λvs σ H Q=>match vs with|v::r=>t v σ H λσ' H'=>u r σ' H' Q|[]=>False
def JH:Bb:=λvs σ H Q=>match vs with|[]=>Q σ H|_=>False
theorem cY:CJ X [] JH:=λpins s σ H R j Q I r h=>by
 match R,h with
 |[],h=>exact HV pins s σ H [] j Q I r ⟨rfl,h⟩
theorem az {e:Expr}{es:List Expr}{t:TG}{u:Bb}(h1:PG X e t)(h2:CJ X es u)(hs:bB e=true:=by rfl):CJ X (e::es) (x9 t u):=λpins s σ H R j Q I r h=>by
 match R,h with
 |v::vr,h=>exact El h1 h2 (by cases e<;>first|rfl|cases hs) pins s σ H _ j Q I r ⟨v,vr,rfl,h⟩
theorem d7 {K:Fg}(O:X.K=K){es:List Expr}{k:Nat}{t:Bb}{n:Nat}{pos:Pos}(B:X.calm=true)(h:CJ X es t)
(z:(assignEach es X.env).length=n:=by rfl)(j:(assignEach es X.env).findIdx? (·.1)=none:=by rfl):PG X (.Tuple es k pos) (Qx K n t):=λpins s σ H v u Q I r q=>by
 match v,q with
 | .ref a,⟨xs,h1,h2,h3⟩=>exact HW O B h z j pins s σ H _ u Q I r ⟨a,xs,rfl,h1,h2,h3⟩
end
def JJ (pk:List @C)(wi:TI)(g:TG)(tt:TT)(te:TE):TE:=λσ H Q=>wi σ H λJ H1=>sL J pk g tt te σ H1 Q
def QM (wi:TI)(g:TG)(tb:TS):TS:=λD σ H=>wi σ H λJ H1=>zD J g tb D σ H1
section
variable {X:Cx}{scope:Scope}{N':List Str}{pk:List @C}{tg elt iter:Expr}{ifs:List Expr}{pos:Pos}{wi:TI}{g:TG}{tt:TT}{te:TE}
noncomputable def vk:Expr->Bool
 | .Set _ _ _=>false
 |_=>true
theorem iU {e:Expr}{env:Env}(h:vk e=true)(x:Value):foldedSetIterable e env x=pure x:=by
 unfold foldedSetIterable
 cases e<;>first|rfl|cases h
theorem bG (I:X.calm=true)(S:cA X scope N' pk)(hi:PI X tg iter wi)(W:∀C s H ex,PG @i tg g)(J:∀C s H ex,GP @i ifs tt)
(U:∀C s H ex,PE @i elt te)(hs:vk iter=true:=by rfl):PE X (.ListComp elt [⟨tg,iter,ifs,0⟩] scope pos) (JJ pk wi g tt te):=
 Ib I S hi W J U (iU hs)
theorem i9 {i:Nat}{x:Str}{F j:Pos}(I:X.calm=true)(z:X.N.Nodup)(L:X.N[i]? =some x)(O:JC X.env.scope x)(S:cA X scope N' pk)(hi:PI X tg iter wi)(W:∀C s H ex,PG @i tg g)
(J:∀C s H ex,GP @i ifs tt)(U:∀C s H ex,PE @i elt te)(hs:vk iter=true:=by rfl)
(aa:swapsWith (.ListComp elt [⟨tg,iter,ifs,0⟩] scope pos) (some (.Name x F)) j.line X.env=pure true:=by rfl)(B:X.fn x=true\/X.env.scope.names.lookup x=some .local:=by first|exact .inl rfl|exact .inr rfl|assumption):
 PS X (.Assign [.Name x F] (.ListComp elt [⟨tg,iter,ifs,0⟩] scope pos) j) (Dq (JJ pk wi g tt te) (lG i)):=
 HN I z L O S hi W J U (iU hs) aa B
theorem cf {j:List Stmt}{tb:TS}(F:PassesOwn @d X.A X.env X.xe)(I:X.calm=true)(hi:PI X tg iter wi)(W:PG X tg g)(B:rT X j tb)
(hs:vk iter=true:=by rfl):PS X (.For tg iter j [] pos) (QM wi g tb):=LB F I hi W B (iU hs)
end
def uu (c:TT)(tb:TS):TS:=λD σ H=>∃W:Nat->St->Hp->Prop,(∃m,W m σ H)/\∀m σ H,W m σ H->
 c σ H λb H1=>rY b (∃N:St->Hp->Prop,(∀σ' H',N σ' H'->∃m',m'<m/\W m' σ' H')/\tb {D with nx:=N,ct:=N,bk:=D.nx} σ H1) (D.nx σ H1)
theorem CV {X:Cx}{pos:Pos}{c:Expr}{j:List Stmt}{tc:TT}{tb:TS}(F:PassesOwn @d X.A X.env X.xe)(I:PT X c tc)(B:rT X j tb):PS X (.While c j [] pos) (uu tc tb):=Eh F I B
def He (t u:TS):TS:=λD σ H=>∃M:St->Hp->Prop,t {D with nx:=M} σ H/\∀σ' H',M σ' H'->u D σ' H'
theorem gP {X:Cx}{st:Stmt}{eU:List Stmt}{t u:TS}(h1:PS X st t)(h2:rT X eU u):rT X (st::eU) (He t u):=by
 intro pins s σ H D I h;obtain ⟨M,F,z⟩:=h;rwa[wpAny_execs_cons (br (h1 pins s σ H {D with nx:=M} I F) λf J q=> ?_)]
 cases f with
 |next=>
  obtain ⟨j,H',B,q⟩:=q;exact h2 pins J j H' D B (z j H' q)
 |ret v=>exact q
 |brk=>exact q
 |cont=>exact q
theorem zP {t u:TS}{D:nR}{σ:St}{H:Hp}(M:St->Hp->Prop)(h1:t {D with nx:=M} σ H)(h2:∀σ' H',M σ' H'->u D σ' H'):He t u D σ H:=⟨M,h1,h2⟩
section
variable {K:Fg}{H:Hp}{p q:Addr}{xs ys:List V}{Q:VK}
theorem bH (h:aA K H p ys)(g:Q (.int ys.length) H):iG K p H Q:=⟨ys,.inl h,g⟩
theorem eJ (h:aB K H p ys)(g:Q (.int ys.length) H):iG K p H Q:=⟨ys,.inr h,g⟩
theorem bb {i:Int}{v:V}(h:aA K H p xs)(e:l9 xs i=some v)(g:Q v H):k7 K p i H Q:=⟨xs,.inl h,v,e,g⟩
theorem ak {i:Int}{v:V}(h:aB K H p xs)(e:l9 xs i=some v)(g:Q v H):k7 K p i H Q:=⟨xs,.inr h,v,e,g⟩
theorem uN {z:Str}{i:Int}{c:Nat}(B:z.length<=sizeLine)(e:l9 z.cps.toList i=some c)(g:Q (.str ⟨#[c]⟩) H):uO z i H Q:=⟨B,c,e,g⟩
theorem qc {x:V}(h:aA K H p xs)(h1:cE x=true)(h2:xs.all cE=true)(g:Q (.bl (vw x xs)) H):qd K false x p H Q:=⟨xs,.inl h,h1,h2,g⟩
theorem Li {x:V}(h:aB K H p xs)(h1:cE x=true)(h2:xs.all cE=true)(g:Q (.bl (vw x xs)) H):qd K false x p H Q:=⟨xs,.inr h,h1,h2,g⟩
theorem Bm {x:V}(h:aA K H p xs)(h1:cE x=true)(h2:xs.all cE=true)(g:Q (.bl (!vw x xs)) H):qd K true x p H Q:=⟨xs,.inl h,h1,h2,g⟩
theorem tG {x:V}(h:aB K H p xs)(h1:cE x=true)(h2:xs.all cE=true)(g:Q (.bl (!vw x xs)) H):qd K true x p H Q:=⟨xs,.inr h,h1,h2,g⟩
theorem Hq {R:Bool->Hp->Prop}(h:aA K H p xs)(g:R (!xs.isEmpty) H):qb K p H R:= .inl ⟨xs,.inl h,g⟩
theorem Fm {z:Str}{ts:List Str}(h:aA K H p @dm)(h1:(ts.toArray.foldl (· + ·.length+z.length) 0)<=sizeLine)(h2:(Builtin.Str.glued z ts).length<=sizeLine)(g:Q (.str @cd) H):AH K z p H Q:=⟨ts,h,h1,h2,g⟩
theorem eF {y:V}(h:H p=some (.lst xs))(B:xs.length<sizeLine)(g:Q .non (upd H p (.lst (xs++[y])))):Jw p y H Q:=⟨xs,h,B,g⟩
theorem PB {bs:List Bool}(h:aA K H p @bk)(g:Q (.bl @gi) H):JA K p H Q:=⟨bs,h,g⟩
theorem Oe (h:aA K H p ys)(g:∀l,H l=none->Q (.ref l) @cN):Bg K p H Q:=⟨ys,.inl ⟨h,g⟩⟩
theorem Od (h:aB K H p ys)(g:Q (.ref p) H):Bg K p H Q:=⟨ys,.inr ⟨h,g⟩⟩
theorem cZ {R:It->Hp->Prop}(h:aA K H p xs)(g:R (GE K p) H):xh K p H R:= .inl ⟨xs,h,g⟩
theorem dN {R:It->Hp->Prop}(h:aB K H p xs)(g:R (GD K p) H):xh K p H R:= .inr ⟨xs,h,g⟩
theorem wD {k:Int}{j:Nat}{v:V}{R:Hp->Prop}(h:H p=some (.lst xs))(Z:AK xs.length k=some j)(g:R @bz):setL p k v H R:=⟨xs,j,h,Z,g⟩
theorem ju {n:Nat}{P:List V->Prop}(h:aB K H p xs)(W:xs.length=n)(g:P xs):Be K n p H P:=⟨xs,h,W,g⟩
end
theorem hV {i j:Int}(h1: -18446744073709551616<i)(h2:i<18446744073709551616):rX i j:= .inl ⟨h1,h2⟩
theorem F5 {i j:Int}(h1: -18446744073709551616<j)(h2:j<18446744073709551616):rX i j:= .inr ⟨h1,h2⟩
theorem Pr {i j:Int}(h1:0<j)(h2:j<1073741824):CK i j:=⟨h1,h2⟩
theorem Pq {i j:Int}(h1:0<=j)(h2:j<=1000000)(L:i.natAbs<18446744073709551616):GM i j:=⟨h1,h2,L⟩
theorem aR (x:Str):x.cps.toList.length=x.length:=by simp [Str.length]
theorem At {n:Nat}(h:n<=9000):n<sizeLine:=by rw [sizeLine_eq];lia
def GO (K:Fg)(H:Hp)(a:Addr)(ns:List Int):Prop:=aA K H a @bV/\ns.length<=63
inductive D where
 |non|bl (b:Bool)|int (i:Int)|str (x:Str)|lst (ds:List D)|tup (ds:List D)
mutual
noncomputable def iz:D->D->Bool
 | .non,.non=>true
 | .bl a,.bl b=>a==b
 | .bl a,.int b=>(if a then 1 else 0)==b
 | .int a,.bl b=>a==(if b then 1 else 0)
 | .int a,.int b=>a==b
 | .str a,.str b=>a==b
 | .lst xs,.lst ys=>eqDs xs ys
 | .tup xs,.tup ys=>eqDs xs ys
 |_,_=>false
noncomputable def eqDs:List D->List D->Bool
 |[],[]=>true
 |x::xs,y::ys=>iz x y&&eqDs xs ys
 |_,_=>false
end
mutual
theorem fc:∀d:D,iz d d=true
 | .non=>rfl
 | .bl a=>by simp [iz]
 | .int a=>by simp [iz]
 | .str a=>by simp [iz]
 | .lst xs=>by rw [iz];exact eqDs_refl xs
 | .tup xs=>by rw [iz];exact eqDs_refl xs
theorem eqDs_refl:∀ds:List D,eqDs ds ds=true
 |[]=>rfl
 |d::ds=>by rw [eqDs,fc d,eqDs_refl ds];rfl
end
theorem dZ:∀ {xs ys:List D},xs.length≠ys.length->eqDs xs ys=false
 |[],[],h=>absurd rfl h
 |[],_::_,_=>by simp [eqDs]
 |_::_,[],_=>by simp [eqDs]
 |x::xs,y::ys,h=>by
  rw [eqDs,dZ (xs:=xs) (ys:=ys) (by simpa using h),Bool.and_false]
theorem d3:∀ {xs ys:List D},xs.length=ys.length->((List.range xs.length).all λj=>iz (xs.getD j .non) (ys.getD j .non))=eqDs xs ys
 |[],[],_=>rfl
 |[],_::_,h=>by simp at h
 |_::_,[],h=>by simp at h
 |x::xs,y::ys,h=>by
  have z:=d3 (xs:=xs) (ys:=ys) (by simpa using h);rw [eqDs,<-z,length_cons,range_succ_eq_map,all_cons,all_map];rfl
inductive bv (K:Fg)(H:Hp):V->D->Prop
 |non:bv K H .non .non
 |bl (b:Bool):bv K H (.bl b) (.bl b)
 |int (i:Int):bv K H (.int i) (.int i)
 |str (x:Str):bv K H (.str x) (.str x)
 |lst {a:Addr} {xs:List V} {ds:List D} (h:aA K H a xs) (hl:xs.length=ds.length) (hi:∀(i:Nat) x d,xs[i]? =some x->ds[i]? =some d->bv K H x d):bv K H (.ref a) (.lst ds)
 |tup {a:Addr} {xs:List V} {ds:List D} (h:aB K H a xs) (hl:xs.length=ds.length) (hi:∀(i:Nat) x d,xs[i]? =some x->ds[i]? =some d->bv K H x d):bv K H (.ref a) (.tup ds)
mutual
noncomputable def gu:D->Nat
 | .lst ds=>deps ds+1
 | .tup ds=>deps ds+1
 |_=>0
noncomputable def deps:List D->Nat
 |[]=>0
 |d::ds=>max (gu d) (deps ds)
end
theorem iW:∀ {ds:List D} {i:Nat} {d:D},ds[i]? =some d->gu d<=deps ds
 |[],_,_,h=>by simp at h
 |d::ds,0,_,h=>by simp at h;subst h;rw [deps];exact Nat.le_max_left _ _
 |d::ds,i+1,e,h=>by
  have:=iW (ds:=ds) (i:=i) (d:=e) (by simpa using h);rw [deps];exact Nat.le_trans this (Nat.le_max_right _ _)
section
variable {X:Cx}{pins:List (Addr×Obj)}{σ:St}{H:Hp}{s:Shared}
theorem w6 {a:Addr}{xs ys:List V}(I:av X pins σ H s)(h:aA X.K H a xs)(h':aB X.K H a ys):False:=by
 obtain ⟨its,_,p,_⟩:=I.list h;obtain ⟨B,_,p2,_⟩:=I.tuple h';obtain ⟨o,e,c,_⟩:=p.isList;obtain ⟨o',j,z,_⟩:=p2;rw [e] at j;cases j;rw [c] at z;injection z with c2;exact absurd c2 @c
theorem bv.inj (I:av X pins σ H s){x:V}{d e:D}(h:bv X.K H x d)(h':bv X.K H x e):d=e:=by
 induction h generalizing e with
 |non=>cases h';rfl
 |bl b=>cases h';rfl
 |int i=>cases h';rfl
 |str z=>cases h';rfl
 | @lst a xs ds hq hl hi ih=>
   cases h' with
   | @lst _ ys es hq' hl' hi'=>
     have j:=I.list_inj hq hq';subst j;congr 1;rwa[ext_getElem @b λi h1 h2=> ?_];exact ih i xs[i] _ @e (by simp [h1]) (hi' i xs[i] _ @e (by simp [h2]))
   |tup hq' _ _=>exact (w6 I hq hq').elim
 | @tup a xs ds hq hl hi ih=>
   cases h' with
   | @tup _ ys es hq' hl' hi'=>
     have j:=I.tuple_inj hq hq';subst j;congr 1;rwa[ext_getElem @b λi h1 h2=> ?_];exact ih i xs[i] _ @e (by simp [h1]) (hi' i xs[i] _ @e (by simp [h2]))
   |lst hq' _ _=>exact (w6 I hq' hq).elim
open PySem.SeqAt in
theorem iV (I:av X pins σ H s){x:V}{d:D}(h:bv X.K H x d):∀ {y:V} {e:D} {u v:Value} {A:Around},bv X.K H y e->ay x u->ay y v->A.units+gu d<cLine->EqAt A s u v (iz d e):=by
 have B:∀ {x y:V} {u v:Value} {A:Around},cE x=true->cE y=true->ay x u->ay y v->EqAt A s u v (Jk x y):=λf1 f2 Y Z=>fO Y Z f1 f2
 induction h with
 |non=>
  intro y e u v A U L F hu
  cases U with
  |non=>exact B (x:= .non) (y:= .non) rfl rfl L F
  |bl b=>exact B (x:= .non) (y:= .bl b) rfl rfl L F
  |int i=>exact B (x:= .non) (y:= .int i) rfl rfl L F
  |str z=>exact B (x:= .non) (y:= .str z) rfl rfl L F
  |lst hq _ _=>cases L;cases F;obtain ⟨_,_,p,_⟩:=I.list hq;exact EqAt.none_list p.isList @b
  |tup hq _ _=>cases L;cases F;obtain ⟨_,_,p,_⟩:=I.tuple hq;exact EqAt.none_tuple p @b
 |bl b=>
  intro y e u v A U L F hu
  cases U with
  |non=>exact B (x:= .bl b) (y:= .non) rfl rfl L F
  |bl c=>exact B (x:= .bl b) (y:= .bl c) rfl rfl L F
  |int i=>exact B (x:= .bl b) (y:= .int i) rfl rfl L F
  |str z=>exact B (x:= .bl b) (y:= .str z) rfl rfl L F
  |lst hq _ _=>cases L;cases F;obtain ⟨_,_,p,_⟩:=I.list hq;exact EqAt.bool_list b p.isList @b
  |tup hq _ _=>cases L;cases F;obtain ⟨_,_,p,_⟩:=I.tuple hq;exact EqAt.bool_tuple b p @b
 |int i=>
  intro y e u v A U L F hu
  cases U with
  |non=>exact B (x:= .int i) (y:= .non) rfl rfl L F
  |bl c=>exact B (x:= .int i) (y:= .bl c) rfl rfl L F
  |int j=>exact B (x:= .int i) (y:= .int j) rfl rfl L F
  |str z=>exact B (x:= .int i) (y:= .str z) rfl rfl L F
  |lst hq _ _=>obtain ⟨t,rfl⟩:=L;cases F;obtain ⟨_,_,p,_⟩:=I.list hq;exact EqAt.int_list i t p.isList @b
  |tup hq _ _=>obtain ⟨t,rfl⟩:=L;cases F;obtain ⟨_,_,p,_⟩:=I.tuple hq;exact EqAt.int_tuple i t p @b
 |str z=>
  intro y e u v A U L F hu
  cases U with
  |non=>exact B (x:= .str z) (y:= .non) rfl rfl L F
  |bl c=>exact B (x:= .str z) (y:= .bl c) rfl rfl L F
  |int j=>exact B (x:= .str z) (y:= .int j) rfl rfl L F
  |str z'=>exact B (x:= .str z) (y:= .str z') rfl rfl L F
  |lst hq _ _=>obtain ⟨t,rfl⟩:=L;cases F;obtain ⟨_,_,p,_⟩:=I.list hq;exact EqAt.str_list z t p.isList @b
  |tup hq _ _=>obtain ⟨t,rfl⟩:=L;cases F;obtain ⟨_,_,p,_⟩:=I.tuple hq;exact EqAt.str_tuple z t p @b
 | @lst a xs ds hq hl hi ih=>
   intro y e u v A U L F hu
   have ac:gu (.lst ds)=deps ds+1:=by rw [gu]
   cases L
   obtain ⟨its,Y,S,z1⟩:=I.list hq
   cases U with
   |non=>cases F;exact EqAt.list_none S.isList @b
   |bl b=>cases F;exact EqAt.list_bool b S.isList @b
   |int j=>obtain ⟨t,rfl⟩:=F;exact EqAt.list_int j t S.isList @b
   |str z=>obtain ⟨t,rfl⟩:=F;exact EqAt.list_str z t S.isList @b
   | @lst b ys es hq' hl' hi'=>
     cases F
     by_cases R:a=b
     ·subst R
      have e:=bv.inj I (.lst hq hl hi) (.lst hq' hl' hi')
      rw [<-e,fc]
      exact EqAt.same _
     obtain ⟨J,Z,p2,z2⟩:=I.list hq'
     rw [iz]
     have l1:=Y.length
     have l2:=Z.length
     by_cases O:ds.length=es.length
     ·rw [<-d3 O]
      have ab:ds.length=its.toArray.size:=by rw [size_toArray];lia
      rw [ab]
      rwa[EqAt.of_refs R (RcAt.lists S.isList p2.isList (by simp only [size_toArray];lia) @b λj h1 h2=> ?_)]
      have j1:j<xs.length:=by rw [size_toArray] at h1;lia
      have j2:j<ys.length:=by rw [size_toArray] at h2;lia
      obtain ⟨w1,W,q1⟩:=Y.get (i:=j) (x:=xs[j]) @e
      obtain ⟨w2,e2,q2⟩:=Z.get (i:=j) (x:=ys[j]) @e
      have k1:its.toArray[j]=w1:=by
       have:its[j]? =some its.toArray[j]:=by simp
       rw [this] at W;exact Option.some.inj W
      have k2:J.toArray[j]=w2:=by
       have:J[j]? =some J.toArray[j]:=by simp
       rw [this] at e2;exact Option.some.inj e2
      rw [k1,k2]
      have d1:ds[j]? =some @bY:=by simp [List.getD,getElem?_eq_getElem (show j<ds.length by lia)]
      have d2:es[j]? =some @bZ:=by simp [List.getD,getElem?_eq_getElem (show j<es.length by lia)]
      have aa:=iW d1
      rwa[ih j xs[j] _ @e d1 (hi' j ys[j] _ @e d2) q1 q2 ?_]
      have:A.in1.units=A.units+1:=rfl
      lia
     ·rw [dZ O]
      exact EqAt.of_refs R (RcAt.lists_lengths S.isList p2.isList (by simp only [size_toArray];rw [bne_iff_ne];lia) @b)
   |tup hq' _ _=>cases F;obtain ⟨_,_,p2,_⟩:=I.tuple hq';exact EqAt.list_tuple S.isList p2 @b
 | @tup a xs ds hq hl hi ih=>
   intro y e u v A U L F hu
   have ac:gu (.tup ds)=deps ds+1:=by rw [gu]
   cases L
   obtain ⟨its,Y,S,z1⟩:=I.tuple hq
   cases U with
   |non=>cases F;exact EqAt.tuple_none S @b
   |bl b=>cases F;exact EqAt.tuple_bool b S @b
   |int j=>obtain ⟨t,rfl⟩:=F;exact EqAt.tuple_int j t S @b
   |str z=>obtain ⟨t,rfl⟩:=F;exact EqAt.tuple_str z t S @b
   |lst hq' _ _=>cases F;obtain ⟨_,_,p2,_⟩:=I.list hq';exact EqAt.tuple_list S p2.isList @b
   | @tup b ys es hq' hl' hi'=>
     cases F
     by_cases R:a=b
     ·subst R
      have e:=bv.inj I (.tup hq hl hi) (.tup hq' hl' hi')
      rw [<-e,fc]
      exact EqAt.same _
     obtain ⟨J,Z,p2,z2⟩:=I.tuple hq'
     rw [iz]
     have l1:=Y.length
     have l2:=Z.length
     have ad:eqDs ds es=((List.range @bR).all @bc&&its.toArray.size==J.toArray.size):=by
      by_cases O:ds.length=es.length
      ·have W:its.toArray.size=ds.length:=by rw [size_toArray];lia
       have e2:J.toArray.size=ds.length:=by rw [size_toArray];lia
       rw [W,e2,Nat.min_self,d3 O];simp
      ·rw [dZ O]
       have:(its.toArray.size==J.toArray.size)=false:=beq_eq_false_iff_ne.mpr (by simp only [size_toArray];lia)
       rw [this,Bool.and_false]
     rw [ad]
     rwa[EqAt.of_refs R (RcAt.tuples S p2 @b λj h1 h2=> ?_)]
     have j1:j<xs.length:=by rw [size_toArray] at h1;lia
     have j2:j<ys.length:=by rw [size_toArray] at h2;lia
     obtain ⟨w1,W,q1⟩:=Y.get (i:=j) (x:=xs[j]) @e
     obtain ⟨w2,e2,q2⟩:=Z.get (i:=j) (x:=ys[j]) @e
     have k1:its.toArray[j]=w1:=by
      have:its[j]? =some its.toArray[j]:=by simp
      rw [this] at W;exact Option.some.inj W
     have k2:J.toArray[j]=w2:=by
      have:J[j]? =some J.toArray[j]:=by simp
      rw [this] at e2;exact Option.some.inj e2
     rw [k1,k2]
     have d1:ds[j]? =some @bY:=by simp [List.getD,getElem?_eq_getElem (show j<ds.length by lia)]
     have d2:es[j]? =some @bZ:=by simp [List.getD,getElem?_eq_getElem (show j<es.length by lia)]
     have aa:=iW d1
     rwa[ih j xs[j] _ @e d1 (hi' j ys[j] _ @e d2) q1 q2 ?_]
     have:A.in1.units=A.units+1:=rfl
     lia
end
def xn (K:Fg)(x y:V)(H:Hp)(P:Bool->Prop):Prop:=∃d e,bv K H x d/\bv K H y e/\gu d<=60/\P (iz d e)
theorem zH {K:Fg}{x y:V}{H:Hp}{P:Bool->Prop}{d:D}(h1:bv K H x d)(h2:bv K H y d)(J:gu d<=60)(g:P true):xn K x y H P:=⟨d,d,h1,h2,J,by rw [fc];exact g⟩
def N6 (K:Fg):R2:=λx y H Q=>match Pg x y with|some b=>Q (.bl b) H|none=>xn K x y H λb=>Q (.bl b) H
def NY (K:Fg):R2:=λx y H Q=>match Pg x y with|some b=>Q (.bl (!b)) H|none=>xn K x y H λb=>Q (.bl (!b)) H
section
variable {X:Cx}{K:Fg}{m:Nat}
theorem wn {d:D}(S:bE m X.A)(J:gu d<=60):X.A.units+gu d<cLine:=by have:=S.un;lia
open PySem.SeqAt in
theorem wg (hK:X.K=K)(hr:bE m X.A):cG X @fq (N6 K):=by
 subst hK
 intro pins s σ H x y v u Q I R L h
 unfold N6 at h
 cases e:Pg x y with
 |some b=>
  rw [e] at h
  obtain ⟨h1,h2⟩:=FM e
  exact ON pins s σ H x y v u Q I R L ⟨h1,by rw [h2];exact h⟩
 |none=>
  rw [e] at h
  obtain ⟨d,e',h1,h2,hd,q⟩:=h
  have B:EP X pins σ Q (.bool (iz d e')) s:=⟨.bl _,H,I,rfl,q⟩
  have hu:=wn (X:=X) hr hd
  have F:X.A.units<cLine:=by lia
  cases h1 with
  | @lst a xs ds hq hl hi=>
    have D1:bv X.K H (.ref a) (.lst ds):= .lst hq hl hi
    cases R
    obtain ⟨its,Z,S,z1⟩:=I.list hq
    cases h2 with
    |non=>cases L;exact RcAt.list_none S.isList F _ _ _ _ B
    |bl b=>cases L;exact RcAt.list_bool b S.isList F _ _ _ _ B
    |int j=>obtain ⟨t,rfl⟩:=L;exact RcAt.list_int j t S.isList F _ _ _ _ B
    |str z=>obtain ⟨t,rfl⟩:=L;exact RcAt.list_str z t S.isList F _ _ _ _ B
    |tup hq' _ _=>cases L;obtain ⟨_,_,p2,_⟩:=I.tuple hq';exact RcAt.list_tuple S.isList p2 F _ _ _ _ B
    | @lst b ys es hq' hl' hi'=>
      cases L
      obtain ⟨J,r2,p2,z2⟩:=I.list hq'
      have ac:gu (.lst ds)=deps ds+1:=by rw [gu]
      rw [iz] at B
      have l1:=Z.length
      have l2:=r2.length
      by_cases O:ds.length=es.length
      ·rw [<-d3 O,show ds.length=its.toArray.size by rw [size_toArray];lia] at B
       rwa[RcAt.lists S.isList p2.isList (by simp only [size_toArray];lia) F @de _ _ _ _ B]
       have j1:j<xs.length:=by rw [size_toArray] at g1;lia
       have j2:j<ys.length:=by rw [size_toArray] at g2;lia
       obtain ⟨w1,U,q1⟩:=Z.get (i:=j) (x:=xs[j]) @e
       obtain ⟨w2,W,q2⟩:=r2.get (i:=j) (x:=ys[j]) @e
       have k1:its.toArray[j]=w1:=by
        have:its[j]? =some its.toArray[j]:=by simp
        rw [this] at U;exact Option.some.inj U
       have k2:J.toArray[j]=w2:=by
        have:J[j]? =some J.toArray[j]:=by simp
        rw [this] at W;exact Option.some.inj W
       rw [k1,k2]
       have Y:ds[j]? =some @bY:=by simp [List.getD,getElem?_eq_getElem (show j<ds.length by lia)]
       have d2:es[j]? =some @bZ:=by simp [List.getD,getElem?_eq_getElem (show j<es.length by lia)]
       have aa:=iW Y
       rwa[iV I (hi j xs[j] _ @e Y) (hi' j ys[j] _ @e d2) q1 q2 ?_]
       have:X.A.in1.units=X.A.units+1:=rfl
       lia
      ·rw [dZ O] at B
       exact RcAt.lists_lengths S.isList p2.isList (by simp only [size_toArray];rw [bne_iff_ne];lia) F _ _ _ _ B
  | @tup a xs ds hq hl hi=>
    cases R
    obtain ⟨its,Z,S,z1⟩:=I.tuple hq
    cases h2 with
    |non=>cases L;exact RcAt.tuple_none S F _ _ _ _ B
    |bl b=>cases L;exact RcAt.tuple_bool b S F _ _ _ _ B
    |int j=>obtain ⟨t,rfl⟩:=L;exact RcAt.tuple_int j t S F _ _ _ _ B
    |str z=>obtain ⟨t,rfl⟩:=L;exact RcAt.tuple_str z t S F _ _ _ _ B
    |lst hq' _ _=>cases L;obtain ⟨_,_,p2,_⟩:=I.list hq';exact RcAt.tuple_list S p2.isList F _ _ _ _ B
    | @tup b ys es hq' hl' hi'=>
      cases L
      obtain ⟨J,r2,p2,z2⟩:=I.tuple hq'
      have ac:gu (.tup ds)=deps ds+1:=by rw [gu]
      rw [iz] at B
      have l1:=Z.length
      have l2:=r2.length
      have ad:eqDs ds es=((List.range @bR).all @bc&&its.toArray.size==J.toArray.size):=by
       by_cases O:ds.length=es.length
       ·have U:its.toArray.size=ds.length:=by rw [size_toArray];lia
        have W:J.toArray.size=ds.length:=by rw [size_toArray];lia
        rw [U,W,Nat.min_self,d3 O];simp
       ·rw [dZ O]
        have:(its.toArray.size==J.toArray.size)=false:=beq_eq_false_iff_ne.mpr (by simp only [size_toArray];lia)
        rw [this,Bool.and_false]
      rw [ad] at B
      rwa[RcAt.tuples S p2 F @de _ _ _ _ B]
      have j1:j<xs.length:=by rw [size_toArray] at g1;lia
      have j2:j<ys.length:=by rw [size_toArray] at g2;lia
      obtain ⟨w1,U,q1⟩:=Z.get (i:=j) (x:=xs[j]) @e
      obtain ⟨w2,W,q2⟩:=r2.get (i:=j) (x:=ys[j]) @e
      have k1:its.toArray[j]=w1:=by
       have:its[j]? =some its.toArray[j]:=by simp
       rw [this] at U;exact Option.some.inj U
      have k2:J.toArray[j]=w2:=by
       have:J[j]? =some J.toArray[j]:=by simp
       rw [this] at W;exact Option.some.inj W
      rw [k1,k2]
      have Y:ds[j]? =some @bY:=by simp [List.getD,getElem?_eq_getElem (show j<ds.length by lia)]
      have d2:es[j]? =some @bZ:=by simp [List.getD,getElem?_eq_getElem (show j<es.length by lia)]
      have aa:=iW Y
      rwa[iV I (hi j xs[j] _ @e Y) (hi' j ys[j] _ @e d2) q1 q2 ?_]
      have:X.A.in1.units=X.A.units+1:=rfl
      lia
  |non=>cases h2 with
   |lst hq _ _=>cases R;cases L;obtain ⟨_,_,p,_⟩:=I.list hq;exact RcAt.none_list p.isList F _ _ _ _ B
   |tup hq _ _=>cases R;cases L;obtain ⟨_,_,p,_⟩:=I.tuple hq;exact RcAt.none_tuple p F _ _ _ _ B
   |_=>cases e
  |bl b=>cases h2 with
   |lst hq _ _=>cases R;cases L;obtain ⟨_,_,p,_⟩:=I.list hq;exact RcAt.bool_list b p.isList F _ _ _ _ B
   |tup hq _ _=>cases R;cases L;obtain ⟨_,_,p,_⟩:=I.tuple hq;exact RcAt.bool_tuple b p F _ _ _ _ B
   |int j=>cases R;obtain ⟨t,rfl⟩:=L;exact RcAt.bool_int b j t _ _ _ _ B
   |_=>cases e
  |int i=>cases h2 with
   |lst hq _ _=>obtain ⟨t,rfl⟩:=R;cases L;obtain ⟨_,_,p,_⟩:=I.list hq;exact RcAt.int_list i t p.isList F _ _ _ _ B
   |tup hq _ _=>obtain ⟨t,rfl⟩:=R;cases L;obtain ⟨_,_,p,_⟩:=I.tuple hq;exact RcAt.int_tuple i t p F _ _ _ _ B
   |bl b=>obtain ⟨t,rfl⟩:=R;cases L;exact RcAt.int_bool i t b _ _ _ _ B
   |_=>cases e
  |str z=>cases h2 with
   |lst hq _ _=>obtain ⟨t,rfl⟩:=R;cases L;obtain ⟨_,_,p,_⟩:=I.list hq;exact RcAt.str_list z t p.isList F _ _ _ _ B
   |tup hq _ _=>obtain ⟨t,rfl⟩:=R;cases L;obtain ⟨_,_,p,_⟩:=I.tuple hq;exact RcAt.str_tuple z t p F _ _ _ _ B
   |_=>cases e
open PySem.SeqAt in
theorem Ag (hK:X.K=K)(hr:bE m X.A):cG X (compareOp .NotEq) (NY K):=by
 subst hK
 intro pins s σ H x y v u Q I R L h
 unfold NY at h
 cases e:Pg x y with
 |some b=>
  rw [e] at h
  obtain ⟨h1,h2⟩:=FM e
  exact OI pins s σ H x y v u Q I R L ⟨h1,by rw [h2];exact h⟩
 |none=>
  rw [e] at h
  obtain ⟨d,e',h1,h2,hd,q⟩:=h
  have B:EP X pins σ Q (.bool (!iz d e')) s:=⟨.bl _,H,I,rfl,q⟩
  have hu:=wn (X:=X) hr hd
  have F:X.A.units<cLine:=by lia
  cases h1 with
  | @lst a xs ds hq hl hi=>
    have D1:bv X.K H (.ref a) (.lst ds):= .lst hq hl hi
    cases R
    obtain ⟨its,Z,S,z1⟩:=I.list hq
    cases h2 with
    |non=>cases L;exact RcNeAt.list_none S.isList F _ _ _ _ B
    |bl b=>cases L;exact RcNeAt.list_bool b S.isList F _ _ _ _ B
    |int j=>obtain ⟨t,rfl⟩:=L;exact RcNeAt.list_int j t S.isList F _ _ _ _ B
    |str z=>obtain ⟨t,rfl⟩:=L;exact RcNeAt.list_str z t S.isList F _ _ _ _ B
    |tup hq' _ _=>cases L;obtain ⟨_,_,p2,_⟩:=I.tuple hq';exact RcNeAt.list_tuple S.isList p2 F _ _ _ _ B
    | @lst b ys es hq' hl' hi'=>
      cases L
      obtain ⟨J,r2,p2,z2⟩:=I.list hq'
      have ac:gu (.lst ds)=deps ds+1:=by rw [gu]
      rw [iz] at B
      have l1:=Z.length
      have l2:=r2.length
      by_cases O:ds.length=es.length
      ·rw [<-d3 O,show ds.length=its.toArray.size by rw [size_toArray];lia] at B
       rwa[RcNeAt.lists S.isList p2.isList (by simp only [size_toArray];lia) F @de _ _ _ _ B]
       have j1:j<xs.length:=by rw [size_toArray] at g1;lia
       have j2:j<ys.length:=by rw [size_toArray] at g2;lia
       obtain ⟨w1,U,q1⟩:=Z.get (i:=j) (x:=xs[j]) @e
       obtain ⟨w2,W,q2⟩:=r2.get (i:=j) (x:=ys[j]) @e
       have k1:its.toArray[j]=w1:=by
        have:its[j]? =some its.toArray[j]:=by simp
        rw [this] at U;exact Option.some.inj U
       have k2:J.toArray[j]=w2:=by
        have:J[j]? =some J.toArray[j]:=by simp
        rw [this] at W;exact Option.some.inj W
       rw [k1,k2]
       have Y:ds[j]? =some @bY:=by simp [List.getD,getElem?_eq_getElem (show j<ds.length by lia)]
       have d2:es[j]? =some @bZ:=by simp [List.getD,getElem?_eq_getElem (show j<es.length by lia)]
       have aa:=iW Y
       rwa[iV I (hi j xs[j] _ @e Y) (hi' j ys[j] _ @e d2) q1 q2 ?_]
       have:X.A.in1.units=X.A.units+1:=rfl
       lia
      ·rw [dZ O] at B
       exact RcNeAt.lists_lengths S.isList p2.isList (by simp only [size_toArray];rw [bne_iff_ne];lia) F _ _ _ _ B
  | @tup a xs ds hq hl hi=>
    cases R
    obtain ⟨its,Z,S,z1⟩:=I.tuple hq
    cases h2 with
    |non=>cases L;exact RcNeAt.tuple_none S F _ _ _ _ B
    |bl b=>cases L;exact RcNeAt.tuple_bool b S F _ _ _ _ B
    |int j=>obtain ⟨t,rfl⟩:=L;exact RcNeAt.tuple_int j t S F _ _ _ _ B
    |str z=>obtain ⟨t,rfl⟩:=L;exact RcNeAt.tuple_str z t S F _ _ _ _ B
    |lst hq' _ _=>cases L;obtain ⟨_,_,p2,_⟩:=I.list hq';exact RcNeAt.tuple_list S p2.isList F _ _ _ _ B
    | @tup b ys es hq' hl' hi'=>
      cases L
      obtain ⟨J,r2,p2,z2⟩:=I.tuple hq'
      have ac:gu (.tup ds)=deps ds+1:=by rw [gu]
      rw [iz] at B
      have l1:=Z.length
      have l2:=r2.length
      have ad:eqDs ds es=((List.range @bR).all @bc&&its.toArray.size==J.toArray.size):=by
       by_cases O:ds.length=es.length
       ·have U:its.toArray.size=ds.length:=by rw [size_toArray];lia
        have W:J.toArray.size=ds.length:=by rw [size_toArray];lia
        rw [U,W,Nat.min_self,d3 O];simp
       ·rw [dZ O]
        have:(its.toArray.size==J.toArray.size)=false:=beq_eq_false_iff_ne.mpr (by simp only [size_toArray];lia)
        rw [this,Bool.and_false]
      rw [ad] at B
      rwa[RcNeAt.tuples S p2 F @de _ _ _ _ B]
      have j1:j<xs.length:=by rw [size_toArray] at g1;lia
      have j2:j<ys.length:=by rw [size_toArray] at g2;lia
      obtain ⟨w1,U,q1⟩:=Z.get (i:=j) (x:=xs[j]) @e
      obtain ⟨w2,W,q2⟩:=r2.get (i:=j) (x:=ys[j]) @e
      have k1:its.toArray[j]=w1:=by
       have:its[j]? =some its.toArray[j]:=by simp
       rw [this] at U;exact Option.some.inj U
      have k2:J.toArray[j]=w2:=by
       have:J[j]? =some J.toArray[j]:=by simp
       rw [this] at W;exact Option.some.inj W
      rw [k1,k2]
      have Y:ds[j]? =some @bY:=by simp [List.getD,getElem?_eq_getElem (show j<ds.length by lia)]
      have d2:es[j]? =some @bZ:=by simp [List.getD,getElem?_eq_getElem (show j<es.length by lia)]
      have aa:=iW Y
      rwa[iV I (hi j xs[j] _ @e Y) (hi' j ys[j] _ @e d2) q1 q2 ?_]
      have:X.A.in1.units=X.A.units+1:=rfl
      lia
  |non=>cases h2 with
   |lst hq _ _=>cases R;cases L;obtain ⟨_,_,p,_⟩:=I.list hq;exact RcNeAt.none_list p.isList F _ _ _ _ B
   |tup hq _ _=>cases R;cases L;obtain ⟨_,_,p,_⟩:=I.tuple hq;exact RcNeAt.none_tuple p F _ _ _ _ B
   |_=>cases e
  |bl b=>cases h2 with
   |lst hq _ _=>cases R;cases L;obtain ⟨_,_,p,_⟩:=I.list hq;exact RcNeAt.bool_list b p.isList F _ _ _ _ B
   |tup hq _ _=>cases R;cases L;obtain ⟨_,_,p,_⟩:=I.tuple hq;exact RcNeAt.bool_tuple b p F _ _ _ _ B
   |int j=>cases R;obtain ⟨t,rfl⟩:=L;exact RcNeAt.bool_int b j t _ _ _ _ B
   |_=>cases e
  |int i=>cases h2 with
   |lst hq _ _=>obtain ⟨t,rfl⟩:=R;cases L;obtain ⟨_,_,p,_⟩:=I.list hq;exact RcNeAt.int_list i t p.isList F _ _ _ _ B
   |tup hq _ _=>obtain ⟨t,rfl⟩:=R;cases L;obtain ⟨_,_,p,_⟩:=I.tuple hq;exact RcNeAt.int_tuple i t p F _ _ _ _ B
   |bl b=>obtain ⟨t,rfl⟩:=R;cases L;exact RcNeAt.int_bool i t b _ _ _ _ B
   |_=>cases e
  |str z=>cases h2 with
   |lst hq _ _=>obtain ⟨t,rfl⟩:=R;cases L;obtain ⟨_,_,p,_⟩:=I.list hq;exact RcNeAt.str_list z t p.isList F _ _ _ _ B
   |tup hq _ _=>obtain ⟨t,rfl⟩:=R;cases L;obtain ⟨_,_,p,_⟩:=I.tuple hq;exact RcNeAt.str_tuple z t p F _ _ _ _ B
   |_=>cases e
end
structure Nf (h:Heap)(a T:Addr)(cls:Value)(dd:Option Addr)(fl:Value):Prop where
 ex:∃oe vs oT ts,h.get? a=some oe/\oe.cls=cls/\oe.dict=dd/\oe.data= .fields vs/\vs[1]? =some (.ref T)/\vs[2]? =some .none/\T≠a/\h.get? T=some oT/\oT.data= .fields ts/\ts[3]? =some fl
structure Pass (fs:List Addr)(ch:List Addr)(h h':Heap):Prop where
 keep:∀b o,b∉ch->b∉fs->h.get? b=some o->h'.get? b=some o
 slot:∀b o,b∉ch->h.get? b=some o->∃sl,h'.get? b=some {o with slots:=sl}
theorem IT {o:Obj}{vs:Array Value}(J:o.data= .fields vs)(f:Array Value->Array Value):Obj.mapFields f o= {o with data:= .fields (f vs)}:=by
 obtain ⟨c,d,j,sl⟩:=o;cases J;rfl
section
variable {M:Model}{A:Around}{E:Value->Shared->Prop}{s:Shared}
theorem tW {base:Heap}{env:Env}{outer:List Env}{L e:Addr}{R:Obj}{vs:Array Value}{F:Value}{B:Bool}{Q:Unit->Shared->Prop}
(ac:A.frames=some (env::outer))(hl:s.heap.FunFrames base (env::outer))(hf:env.frame=some L)(he:s.heap.get? e=some R)(hd:R.data= .fields vs)(hsz:1<vs.size)(h2:vs[2]? =some .none)
(h:∀h' T,Pass (vX (env::outer)) [e] s.heap h'->s.heap.get? T=none->Nf h' e T R.cls R.dict (rawInt L)->Q () {s with heap:=h'}):
 wpAny M A (do let a<-frameOf env;let pl<-entryPlaceOf L B;let b<-EntryCells.newEntry F a .none (rawInt L) .none pl;setField (.ref e) 1 b) Q E s:=by
 have aa:e∉(env::outer).filterMap (·.frame):=λhm=>by
  obtain ⟨_,o,U,ai⟩:=hl.mem hm;rw [he] at U;cases U;exact ai vs hd
 rwa[wpAny_bind (wpAny_frameOf_fun ac hl hf λj I=>wpAny_bind (wpAny_entryPlaceOf λpl Y=> ?_))];unfold EntryCells.newEntry newFields;rwa[wpAny_bind (wpAny_newObj_type ?_ (Y.sizeOk5 _ _ _ _ _))];have ab:j.get? e=some R:=(I.2.1 e aa).trans he;generalize U:({cls:= .type "traceback",dict:=none,data:= .fields ([F,.ref L,.none,rawInt L,.none]++(if pl.isEmpty then List.replicate 6 Value.none else pl)).toArray}:Obj)=o
 have aj:o.data= .fields ([F,.ref L,.none,rawInt L,.none]++(if pl.isEmpty then List.replicate 6 Value.none else pl)).toArray:=by rw [<-U]
 have ah:o.isFreed=false:=by rw [<-U];rfl
 have Z:=Heap.get?_push_of_some (h:=j) o ab;rwa[wpAny_setField Z hd hsz ?_];have S:j.objs.size≠e:=Nat.ne_of_gt (Heap.lt_size ab);have W:=Obj.data_mapFields hd (·.setIfInBounds 1 @cn);have ad:=Heap.get?_update_self (Obj.mapFields (·.setIfInBounds 1 @cn)) Z (Obj.isFreed_of_fields W);have ag:=(Heap.get?_update_other (j.push o) (Obj.mapFields (·.setIfInBounds 1 @cn)) (Ne.symm S)).trans (Heap.get?_push_size j ah)
 have J:∀b u,b≠e->j.get? b=some u->((j.push o).update e (Obj.mapFields (·.setIfInBounds 1 @cn))).get? b=some u:=λb u af hb=>by
  rw [Heap.get?_update_other _ _ (Ne.symm af)];exact Heap.get?_push_of_some _ hb
 rwa[h _ j.objs.size ⟨λb u hb ae O=> ?_,λb u hb O=> ?_⟩ (Heap.get?_none_of_le (by rw [I.1];exact Nat.le_refl _)) ⟨_,_,o,_,ad,?_,?_,W,by simp [hsz],by rw [Array.getElem?_setIfInBounds_ne @c];exact h2,S,ag,aj,?_⟩]
 ·exact J b u (λz=>hb (by simp [z])) ((I.2.1 b ae).trans O)
 ·obtain ⟨sl,hs⟩:=I.2.2 b u O;exact ⟨sl,J b _ (λz=>hb (by simp [z])) hs⟩
 ·exact Obj.cls_mapFields _ _
 ·rw [IT hd]
 ·first|(simp;done)|(rcases Y with rfl|⟨_,_,_,_,_,_,_,rfl⟩<;>simp)
theorem zE {a T:Addr}{B fl:Value}{dd:Option Addr}{f:Option Addr}{Q:Unit->Shared->Prop}(x:Nf s.heap a T B dd fl)
(h:∀h',Pass [] [T] s.heap h'->Nf h' a T B dd (f.elim .none λf=>rawInt f)->Q () {s with heap:=h'}):wpAny M A (setFlight (.ref a) f) Q E s:=by
 obtain ⟨Y,vs,oT,ts,h1,h2,Z,W,U,L,S,R,I,h9⟩:=x.ex;have J:3<ts.size:=(Array.getElem?_eq_some_iff.mp h9).1;unfold setFlight;rwa[wpAny_bind (wpAny_field h1 W U ?_)];rw [if_pos (show (Value.ref T != Value.none)=true from by simp)];have j:∀b,b≠T->∀g,(s.heap.update T g).get? b=s.heap.get? b:=λb F g=>Heap.get?_update_other _ _ (Ne.symm F);rwa[wpAny_setField R I J (h _ ⟨λb o F _ O=>(j b (λz=>F (by simp [z])) _).trans O,λb o F O=>⟨o.slots,(j b (λz=>F (by simp [z])) _).trans O⟩⟩ ?_)];exact ⟨Y,vs,_,_,(j a (Ne.symm S) _).trans h1,h2,Z,W,U,L,S,Heap.get?_update_self _ R (Obj.isFreed_of_fields (Obj.data_mapFields I _)),Obj.data_mapFields I _,by simp [J]⟩
end
theorem Pass.more {fs fs' ch:List Addr}{h h1:Heap}(a:Pass fs ch h h1)(hs:∀b∈fs,b∈fs'):Pass fs' ch h h1:=⟨λb o j B e=>a.keep b o j (λz=>B (hs b z)) e,a.slot⟩
def Nw (X:Cx)(pins:List (Addr×Obj))(H:Hp)(b:Addr):Prop:=H b=none/\b≠X.env.locals/\b∉X.fs/\(b∈X.ex\/X.s₀.heap.get? b=none)/\(∀x c,X.env.cells.lookup x=some c->c≠b)/\∀p∈X.pn++pins,p.1≠b
theorem be.here {P:Program}{w:World}{H:Hp}{h:Heap}{a:Addr}{o:HO}(x:be P w H h a o):∃u,h.get? a=some u:=by
 cases o with
 |lst xs=>obtain ⟨_,_,_,_,e⟩:=x;exact ⟨_,e⟩
 |tup xs=>obtain ⟨_,_,_,o,e,_⟩:=x;exact ⟨_,e⟩
 |dK kvs=>obtain ⟨_,_,_,_,o,_,_,e,_⟩:=x;exact ⟨_,e⟩
 |dT kvs=>obtain ⟨_,_,_,_,o,_,_,e,_⟩:=x;exact ⟨_,e⟩
 |set S n=>obtain ⟨o,_,_,_,e,_⟩:=x;exact ⟨_,e⟩
 |ins C dx fs=>obtain ⟨_,_,_,e,_⟩:=x;exact ⟨_,e⟩
 |own y=>obtain ⟨_,e⟩:=x;exact ⟨_,e⟩
 |xd fs=>obtain ⟨_,⟨_,_,_,e,_⟩,_⟩:=x;exact ⟨_,e⟩
 |rng lo hi=>obtain ⟨_,_,_,e⟩:=x;exact ⟨_,e⟩
 |frz ob u=>obtain ⟨e,_⟩:=x;exact ⟨_,e⟩
 |tbl ps=>exact ⟨_,show h.get? a=some _ from x⟩
 |met f y=>exact ⟨_,show h.get? a=some _ from x⟩
 |ext φ=>obtain ⟨_,e,_⟩:=x;exact e
theorem fI.none_of {P:Program}{w:World}{H:Hp}{h:Heap}{a:Addr}(x:fI P w H h)(e:h.get? a=none):H a=none:=by
 cases q:H a with
 |none=>rfl
 |some o=>obtain ⟨u,z⟩:=(x a o q).here;rw [e] at z;cases z
section
variable {X:Cx}{pins:List (Addr×Obj)}{σ:St}{H:Hp}{s:Shared}
theorem av.nw {H':Hp}{b:Addr}(I:av X pins σ H s)(B:s.heap.get? b=none)(L:H' b=none):Nw X pins H' b:=by
 rwa[⟨L,λz=> ?_,λz=> ?_,?_,λx c e z=> ?_,λp J z=> ?_⟩]
 ·obtain ⟨m,⟨o,_,_,j,_⟩,_⟩:=I.loc;rw [<-z,B] at j;cases j
 ·obtain ⟨_,o,j,_⟩:=I.funs.mem z;rw [B] at j;cases j
 ·by_cases F:b∈X.ex
  ·exact .inl F
  ·rwa[.inr ?_]
   cases q:X.s₀.heap.get? b with
   |none=>rfl
   |some o=>obtain ⟨o',e⟩:=I.base.there b o q F;rw [B] at e;cases e
 ·obtain ⟨v,o,j,_⟩:=I.cell x c e;rw [z,B] at j;cases j
 ·have e:=(I.pin p J).1;rw [z,B] at e;cases e
theorem av.pass {ch:List Addr}{h':Heap}(I:av X pins σ H s)(p:Pass @dN ch s.heap h')(F:∀b∈ch,Nw X pins H b):av X pins σ H {s with heap:=h'}:=by
 have O:∀b u,H b=some u->b∉ch:=λb u e z=>by rw [(F b z).1] at e;cases e
 have L:∀b u,H b=some u->b∉vX X.stack:=λb u e z=>by rw [I.stkFree b z] at e;cases e
 have S:∀b o,X.s₀.heap.get? b=some o->b∉X.ex->b∉ch:=λb o e j B=>by
  rcases (F b B).2.2.2.1 with z|z
  ·exact j z
  ·rw [e] at z;cases z
 have ac:∀b o,X.s₀.heap.get? b=some o->b≠X.env.locals:=λb o e=>Nat.ne_of_lt @G
 have ab:∀b o,X.s₀.heap.get? b=some o->b∉X.fs->b∉vX X.stack:=λb o e B z=>by
  rcases mem_cons.mp @fB with q|q
  ·exact ac b o e q
  ·exact B q
 have aa:X.env.locals∉ch:=λz=>(F _ z).2.1 rfl;have Y:∀x c,X.env.cells.lookup x=some c->c∉ch:=λx c e z=>(F c z).2.2.2.2.1 x c e rfl
 have J:∀x c,X.env.cells.lookup x=some c->∀v,s.heap.IsCell c v->h'.IsCell c v:=λx c e v ⟨o,Z,hd⟩=>by
  obtain ⟨sl,q⟩:=p.slot c o (Y x c e) Z;exact ⟨_,q,hd⟩
 rwa[⟨I.ok,I.os,I.bare,⟨λb o e n B j=> ?_,λb o e n B j=> ?_,I.base.free,λb o e j=> ?_,I.base.tups,I.base.frzs,I.base.tbls⟩,?_,λx c e=> ?_,I.free,I.freeC,λq hq=> ?_,λb u e=> ?_,I.len⟩]
 ·exact p.keep b o @cQ (ab b o e B) (I.base.keep b o e n B j)
 ·obtain ⟨sl,R⟩:=I.base.slot b o e n B j;obtain ⟨af,U⟩:=p.slot b _ @cQ R;exact ⟨af,U⟩
 ·obtain ⟨o',R⟩:=I.base.there b o e j;obtain ⟨af,U⟩:=p.slot b _ @cQ R;exact ⟨_,U⟩
 ·obtain ⟨m,⟨o,es,ep,Z,r⟩,hl⟩:=I.loc;obtain ⟨sl,hL⟩:=p.slot _ o aa Z;rwa[⟨m,⟨_,es,ep,hL,r⟩,λi x v R U e3=> ?_⟩];obtain ⟨u,rv,l⟩:=hl i x v R U e3;rwa[⟨u,rv,?_⟩]
  rcases l with l|⟨k,c,e,z⟩
  ·exact .inl l
  ·exact .inr ⟨k,c,e,J x c e _ z⟩
 ·obtain ⟨v,z⟩:=I.cell x c e;exact ⟨v,J x c e v z⟩
 ·obtain ⟨e,n,ne,nf,d⟩:=I.pin q hq;rwa[⟨p.keep q.1 q.2 (λz=>(F _ z).2.2.2.2.2 q hq rfl) @s e,n,ne,nf,d⟩]
  rcases mem_cons.mp (I.stkSub _ z) with y|y
  ·exact ne y
  ·exact nf y
 ·rwa[(I.hok b u e).stay (λc v W q=>p.keep c v ?_ ?_ q) @dM λ_ _ q=>q]
  ·rcases W with z|z
   ·rw [z];exact O b u e
   ·exact O c _ z
  ·rcases W with z|z
   ·rw [z];exact L b u e
   ·exact L c _ z
def PH (X:Cx)(pins:List (Addr×Obj))(H:Hp)(h:Heap)(a:Addr)(cls:Value)(dd:Option Addr):Prop:=Nw X pins H a/\
 ((∃oe vs,h.get? a=some oe/\oe.cls=cls/\oe.dict=dd/\oe.data= .fields vs/\vs[1]? =some .none/\vs[2]? =some .none)\/∃T fl,Nf h a T cls dd fl/\Nw X pins H T/\(fl= .none\/∃L,X.env.frame=some L/\fl=rawInt L))
theorem E4 {A:Around}{M:Model}{E:Value->Shared->Prop}{a:Addr}{S:Value}{dd:Option Addr}{Q:Unit->Shared->Prop}{L:Addr}(I:av X pins σ H s)(x:PH X pins H s.heap a S dd)
(hA:A.frames=some X.stack)(B:X.stack=X.env::X.outer)(hf:X.env.frame=some L)
(h:∀h' T,av X pins σ H {s with heap:=h'}->Nw X pins H T->Nf h' a T S dd (rawInt L)->Q () {s with heap:=h'}):wpAny M A (noteFrame (.ref a) X.env) Q E s:=by
 obtain ⟨fa,x⟩:=x
 have ac:A.frames=some (X.env::X.outer):=by rw [<-B];exact hA
 have hl:s.heap.FunFrames X.base (X.env::X.outer):=by rw [<-B];exact I.stack
 unfold noteFrame;simp only [hf]
 rcases x with ⟨oe,vs,h1,h2,h3,Y,U,F⟩|⟨T,fl,x,fT,aa⟩
 ·rwa[wpAny_bind (wpAny_field h1 Y U ?_)];rw [if_neg @c];rwa[tW ac hl hf h1 Y (Array.getElem?_eq_some_iff.mp U).1 F λh' T p W x=> ?_];rw [<-B] at p;have J:=I.pass p (by simpa using fa);exact h h' T J (I.nw W (I.hok.none_of W)) (by rw [<-h2,<-h3];exact x)
 ·obtain ⟨oe,vs,oT,ts,h1,h2,h3,Y,U,F,h6,h7,h8,h9⟩:=id x.ex;rwa[wpAny_bind (wpAny_field h1 Y U ?_)];rw [if_pos (show (Value.ref T != Value.none)=true from by simp)];rwa[wpAny_bind (wpAny_field h7 h8 h9 ?_)]
  rcases aa with rfl|⟨L',R,rfl⟩
  ·rw [if_neg (show ¬((Value.none==rawInt L)=true) from by simp [rawInt])];have ab:3<ts.size:=(Array.getElem?_eq_some_iff.mp h9).1;rwa[wpAny_bind (wpAny_setField h7 h8 ab ?_)];have j:∀b,b≠T->∀g,(s.heap.update T g).get? b=s.heap.get? b:=λb Z g=>Heap.get?_update_other _ _ @gh
   have p1:Pass @dN [T] s.heap (s.heap.update T (Obj.mapFields (·.setIfInBounds 3 Value.none))):=
    ⟨λb o Z _ O=>(j b (λz=>Z (by simp [z])) _).trans O,λb o Z O=>⟨o.slots,(j b (λz=>Z (by simp [z])) _).trans O⟩⟩
   have J1:=I.pass p1 (by simpa using fT);rwa[tW (s:= {s with heap:=s.heap.update T (Obj.mapFields (·.setIfInBounds 3 Value.none))}) ac (base:=X.base) (by rw [<-B];exact J1.stack) hf ((j a (Ne.symm h6) _).trans h1) Y (Array.getElem?_eq_some_iff.mp U).1 F λh' T' p W x'=> ?_];rw [<-B] at p;have J:=J1.pass p (by simpa using fa);exact h h' T' J (J1.nw W (J1.hok.none_of W)) (by rw [<-h2,<-h3];exact x')
  ·rw [hf] at R;cases R;rw [if_pos (show (rawInt L==rawInt L)=true from by simp)];exact wpAny_pure (h s.heap T I fT x)
theorem B9 {A:Around}{M:Model}{E:Value->Shared->Prop}{a:Addr}{B:Value}{dd:Option Addr}{Q:Unit->Shared->Prop}{L:Addr}(I:av X pins σ H s)(x:PH X pins H s.heap a B dd)
(S:A.frames=some X.stack)(j:X.stack=X.env::X.outer)(O:X.env.frame=some L)
(h:∀h' T,av X pins σ H {s with heap:=h'}->Nw X pins H T->Nf h' a T B dd .none->Q () {s with heap:=h'}):wpAny M A (leaving X.env (.ref a)) Q E s:=by
 unfold leaving;rwa[wpAny_bind (E4 I x S j O λh1 T J F U=>zE (s:= {s with heap:=h1}) U λh2 p R=> ?_)];exact h h2 T (J.pass (p.more λ_ z=>nomatch z) (by simpa using F)) F R
end
def Ad (P:Program)(w:World):nV:=λouter H s E e s'=>∃(a T:Addr) (cls:Value) (dd:Option Addr) (H':Hp),e= .ref a/\s'.os=s.os/\AllBare s'.gens/\Un (vX outer) [] H H' s.heap s'.heap/\fI P w H' s'.heap/\
 s.heap.get? a=none/\s.heap.get? T=none/\H' a=none/\H' T=none/\Nf s'.heap a T cls dd .none/\E cls dd H'
def Fl (X:Cx)(E:XK):Prop:=∀(pins:List (Addr×Obj)) (σ:St) (H:Hp) (s:Shared) (a:Addr) (cls:Value) (dd:Option Addr),av X pins σ H s->PH X pins H s.heap a cls dd->E cls dd H->X.xe (.ref a) s
theorem av.afterE {X:Cx}{pins:List (Addr×Obj)}{σ:St}{H:Hp}{s s':Shared}{E:XK}{e:Value}(I:av X pins σ H s)(h:Ad X.prog X.w X.stack H s E e s'):
 ∃a cls dd H',e= .ref a/\av X pins σ H' s'/\PH X pins H' s'.heap a cls dd/\E cls dd H':=by
 obtain ⟨a,T,cls,dd,H',rfl,os,j,F,ae,J,L,B,O,x,q⟩:=h;rwa[⟨a,cls,dd,H',rfl,I.call' os F ae j (λb z=>nomatch z),⟨I.nw J B,.inr ⟨T,_,x,I.nw L O,.inl rfl⟩⟩,q⟩]
theorem Fl.passes {X:Cx}{E:XK}(f:Fl X E):fQ (Ad X.prog X.w) X E:=λpins σ H s e s' I h=>by
 obtain ⟨a,B,Z,H',rfl,J,x,q⟩:=I.afterE h;exact f pins σ H' s' a B Z J x q
section
variable {P:Program}{w:World}{K:Fg}{mg:Str->Option Value}{base:Heap}{N:List Str}{qual:Str}{scope:Scope}{f:Addr}{cd:Value}{A:Around}{outer:List Env}{s:Shared}{H:Hp}{E:XK}
theorem Jh:Fl (rB @co P w K mg base N qual scope f cd A outer s H E) E:=by
 intro pins σ H' s' a B Z I x q;show wpAny _ _ _ _ _ _;rwa[B9 I x I.ok.frames rfl rfl λh' T J F L=> ?_];have j:=x.1;rwa[⟨a,T,B,Z,H',rfl,J.os,J.bare,J.base,J.hok,?_,?_,j.1,F.1,L,q⟩]
 ·rcases j.2.2.2.1 with z|z
  ·exact absurd (show a∈([]:List Addr) from z) @e
  ·exact z
 ·rcases F.2.2.2.1 with z|z
  ·exact absurd (show T∈([]:List Addr) from z) @e
  ·exact z
end
theorem bo.okX {P:Program}{w:World}{K:Fg}{mg:Str->Option Value}{base:Heap}{x qual:Str}{st:Stmt}{f:Addr}{fd:FuncData}{N ps:List Str}{k:Nat}{sp:Sp}(F:bo K x qual st f fd)(S:af N ps @bI)(O:∀vs H Q E,sp vs H Q E->vs.length=ps.length)
(j:∀(cdv:Value) (A:Around) (outer:List Env) (s:Shared) (H:Hp) (vs:List V) (Q:VK) (E:XK),bE k (A.deeper (envOfC qual @bI s.heap.objs.size f cdv))->sp vs H Q E->
   ∃t,rT (rB @co P w K mg base N qual @bI f cdv A outer s H E) @cS t/\t {nx:=λ_ H'=>Q .non H',rt:=Q} @cC H):au P w K mg base @co (k+1) f fd ps sp:=by
 obtain ⟨J,L,Z,U,pm,W,cdv,Y,aa,rfl,I,B⟩:=F.ex;exact FI I B S O λA outer s H vs Q E z R=>j cdv A outer s H vs Q E z R
structure JE (P:Program)(w:World)(K:Fg)(mg:Str->Option Value)(base:Heap)(n:Nat)(x:Str)(ps:List Str)(sp:Sp):Prop where
 ex:∃f fd,au P w K mg base @co n f fd ps sp/\eG K fd ps []/\W.keepIn K (.ref f)=true/\mg x=some (.ref f)
structure Exc0 (K:Fg)(C:Addr):Prop where
 ex:∃bmB newId,W.excIn K C bmB newId=true/\bmB.contains (.type "BaseException")=true
def XP (X:Cx)(pins:List (Addr×Obj))(σ:St)(E:XK)(e:Value)(s':Shared):Prop:=∃a cls dd H',e= .ref a/\av X pins σ H' s'/\PH X pins H' s'.heap a cls dd/\E cls dd H'
open PySem.W
section
variable {prog:Program}{w:World}{A:Around}{E:Value->Shared->Prop}{s:Shared}{K:Frag}{x D:Addr}{ox:Obj}{odo:Option Obj}{name:Str}
theorem MX {R:Result->Shared->Prop}{tk:Tok}(X:K.In s.heap)(I:PySem.W.InstAt s.heap x ox D odo)
(aa:findIn K (.ref D) "__class__"=some (some (.builtin "object.__class__")))(z:mroIn K D (.type "BaseException")=some true)(B:mroIn K D (.type "object")=some true)
(h:R (.ok (.ret (.ref D))) s):codeAny @h A (.call (.builtin "BaseException.__getattribute__") ⟨[.ref x,.str "__class__" tk],[]⟩) R s:=by
 obtain ⟨O,g,d,t,os⟩:=s;have J:=I.type (M:=model prog w);have S:=looks_findIn (M:=model prog w) X aa;have U:=looks_mroIn (M:=model prog w) X z;rwa[codeAny_call_builtin PySem.F.attr_ValueError.ga.plain PySem.F.entry_bexc_ga ?_]
 have L:builtinKind "BaseException.__getattribute__"=some .slot:=by decide+kernel
 have j:splitId "BaseException.__getattribute__"=some ("BaseException","__getattribute__"):=by decide+kernel
 have Y:=PySem.F.args_bexc_ga (.ref x) (.str "__class__" tk);simp only [checkBuiltinCall,L,j];rwa[wpAny_bind ?_];unfold isInstance;rwa[wpAny_bind (J.at (U.at ?_))];have f5:=KF.type_class;have Z:=PySem.F.slot_gs_get.lookup;have f7:=PySem.F.slot_gs_set.lookup
 repeat (any_goals (first|assumption|with_reducible refine J.at ?_|with_reducible refine S.at ?_|wp_step))
 rwa[class_get (s:=⟨O,g,d,t,os⟩) (ox:=ox) (od:=odo) X I B ?_]
 repeat (any_goals (first|assumption|wp_step))
theorem Jj {Q:Option Value->Shared->Prop}(X:K.In s.heap)(I:PySem.W.InstAt s.heap x ox D odo)(j:findIn K (.ref D) "__getattribute__"=some (some (.builtin "BaseException.__getattribute__")))
(B:findIn K (.ref D) "__getattr__"=some none)(aa:findIn K (.ref D) "__class__"=some (some (.builtin "object.__class__")))(z:mroIn K D (.type "BaseException")=some true)(J:mroIn K D (.type "object")=some true)
(h:Q (some (.ref D)) {s with toks:=s.toks+1}):wpAny @h A (getAttr? (.ref x) "__class__") Q E s:=by
 obtain ⟨S,g,d,t,os⟩:=s;have L:=I.type (M:=model prog w);have O:=looks_findIn (M:=model prog w) X j;have L2':=looks_findIn (M:=model prog w) X B;have U:=looks_findIn (M:=model prog w) X aa;have Y:=looks_mroIn (M:=model prog w) X z;have Z:=PySem.F.attr_ValueError.ga.bind (.ref x);unfold getAttr? getAttrBy? getAttrBy;rwa[wpAny_bind (wpAny_mkText (wpAny_bind (wpAny_attempt (wpAny_holding (wpAny_bind (L.at (wpAny_bind (O.at ?_))))))))]
 have R:(Value.builtin "BaseException.__getattribute__"==Value.builtin "object.__getattribute__")=false:=by decide+kernel
 repeat (any_goals (first|assumption|wp_step))
 rwa[L2'.at ?_]
 repeat (any_goals (first|assumption|wp_step))
 rwa[MX X I aa z J ?_];exact handed_on rfl (wpAny_pure h)
end
noncomputable def MY (a:Addr)(cls:Value)(dd:Option Addr):HO:= .ext λh=>∃oe vs,h.get? a=some oe/\oe.cls=cls/\oe.dict=dd/\oe.data= .fields vs/\vs[2]? =some .none
structure PZ (K:Frag)(D:Addr):Prop where
 ga:findIn K (.ref D) "__getattribute__"=some (some (.builtin "BaseException.__getattribute__"))
 gr:findIn K (.ref D) "__getattr__"=some none
 cl:findIn K (.ref D) "__class__"=some (some (.builtin "object.__class__"))
 mB:mroIn K D (.type "BaseException")=some true
 mO:mroIn K D (.type "object")=some true
theorem xg {K:Frag}{x D:Addr}{ox:Obj}{odo:Option Obj}(k:PZ K D):KitX K (.ref x) (.ref D) (λh=>PySem.W.InstAt h x ox D odo) where
 ty:=λ_ _ _ I=>I.type
 it:=λM h X _=>by
  obtain ⟨cd,j,_⟩:=Option.bind_eq_some_iff.mp k.mO;unfold clsIn at j;split at j
  ·rename_i R O B af J;intro A' U Z s' L q;unfold isType loadHead;exact wpAny_bind (wpAny_loadPart (L _ _ (X _ _ J)) (wpAny_pure q))
  ·cases j
 ne:=λh S Y its n sl X F=>by
  obtain ⟨cd,j,_⟩:=Option.bind_eq_some_iff.mp k.mO;rwa[Bool.eq_false_iff.mpr λq=> ?_];have e:D=S:=Value.ref.inj (beq_iff_eq.mp q);subst e;unfold clsIn at j;split at j
  ·rename_i R O B af J;have z:=(X _ _ J).symm.trans F;cases z
  ·cases j
 ca:=λX I q=>Jj X I k.ga k.gr k.cl k.mB k.mO q
section
variable {X:Cx}
def zt (K:Fg)(a:Addr)(c:V)(H:Hp)(Q:VK):Prop:=∃D dd cv b,H a=some (MY a (.ref D) dd)/\PZ K D/\(dd=none\/∃d fs,dd=some d/\H d=some (.xd fs))/\cV c=some cv/\W.kitOne K (.ref D) cv=some b/\Q (.bl b) H
end
structure PL (k:Nat)(A:Around)(a:Addr):Prop where
 hd:A.handled=some (.ref a)
 dp:A.depth+3*k+5<recursionLimit
 un:A.units+16*k+200<cLine
structure PY (P:Program)(w:World)(K:Fg)(mg:Str->Option Value)(base:Heap)(k:Nat)(f:Addr)(fd:FuncData)(ps:List Str)(sp:Addr->Sp):Prop where
 len:∀a vs H Q E,sp a vs H Q E->vs.length=ps.length
 run:∀(a:Addr) (A:Around) (outer:List Env) (s:Shared) (H:Hp) (args:Args) (us:List Value) (vs:List V) (Q:VK) (E:XK),PL k A a->nQ P w K mg base A outer s H->BindsTo s fd args @cu->aJ vs us->sp a vs H Q E->
  codeAny @Z A (.call (.ref f) args) @dn s
structure CalH (P:Program)(w:World)(K:Fg)(mg:Str->Option Value)(base:Heap)(n:Nat)(x:Str)(ps:List Str)(sp:Addr->Sp):Prop where
 ex:∃f fd,PY P w K mg base n f fd ps sp/\eG K fd ps []/\W.keepIn K (.ref f)=true/\mg x=some (.ref f)
def nj (K:Fg)(a:Addr)(c:V)(H:Hp)(Q:VK):Prop:=ke K (.ref a) c H Q\/zt K a c H Q
def Da (K:Fg):List V->Hp->VK->Prop:=λxs H Q=>match xs with
 |[.ref a,c]=>nj K a c H Q
 |xs=>KG K xs H Q
theorem mf {X:Cx}{K:Fg}(O:X.K=K):bf X (.builtin "isinstance") (Da K):=by
 intro pins s σ H xs F Q I r h;have B:KG K xs H Q->wpAny @d X.A (call (.builtin "isinstance") F) @p X.xe s:=λh=>NJ O pins s σ H xs F Q I r h
 match xs,h with
 |[.ref a,c],h=>
  rcases h with h|⟨D,dd,Z,b,e,k,j,hc,U,q⟩
  ·subst O;obtain ⟨Z,t,b,h1,h2,h3,h4⟩:=h;exact xv pins s σ H _ F Q I r ⟨.ref a,c,Z,t,b,rfl,h1,h2,h3,h4⟩
  ·subst O;obtain ⟨u,w',rfl,r1,r2⟩:=Db r;cases Gf hc r2;obtain rfl:u=Value.ref a:=r1;obtain ⟨⟨R,vs,L,J,Y,S,k5⟩,_,_⟩:=I.hok a _ e
   rcases j with rfl|⟨d,fs,rfl,ed⟩
   ·rwa[W.kia_one (xg (ox:=R) (odo:=none) k) I.kIn ⟨L,J,?_,?_⟩ U (λz=>nomatch z) λtk=>⟨.bl b,H,I.tok _,rfl,q⟩]
    ·unfold W.notCls;rw [S]
    ·rw [Y];trivial
   ·obtain ⟨mA,⟨od,es,ep,e',_⟩,_⟩:=I.hok d _ ed;rwa[W.kia_one (xg (ox:=R) (odo:=some od) k) I.kIn ⟨L,J,?_,?_⟩ U (λz=>nomatch z) λtk=>⟨.bl b,H,I.tok _,rfl,q⟩]
    ·unfold W.notCls;rw [S]
    ·rw [Y];exact e'
 |[],h=>exact B h
 |[.non],h=>exact B h
 |[.bl _],h=>exact B h
 |[.int _],h=>exact B h
 |[.str _],h=>exact B h
 |[.byt _],h=>exact B h
 |[.flt _],h=>exact B h
 |[.ty _],h=>exact B h
 |[.ref _],h=>exact B h
 |[.non,c],h=>exact B h
 |[.bl _,c],h=>exact B h
 |[.int _,c],h=>exact B h
 |[.str _,c],h=>exact B h
 |[.byt _,c],h=>exact B h
 |[.flt _,c],h=>exact B h
 |[.ty _,c],h=>exact B h
 |x::y::z::r,h=>exact B (by cases x<;>exact h)
theorem lC {K:Fg}{H:Hp}{a:Addr}{c:V}{z t:Value}{b:Bool}{Q:VK}(h1:cV c=some z)(h2:iY K H (.ref a) t)(L:W.kitOne K t z=some b)(g:Q (.bl b) H):nj K a c H Q:= .inl ⟨z,t,b,h1,h2,L,g⟩
theorem tJ {M:Model}{A:Around}{E:Value->Shared->Prop}{s:Shared}{env:Env}{o:Expr}{m:Str}{apos pos:Pos}{es:List Expr}{Q:Value->Shared->Prop}(j:dR o=true)(F:aW es=true)(W:es.length<29)(z:(apos.endLine==pos.line)=true)
(h:wpAny M A (eval o env) (λov s₁=>wpAny M A (getMethod ov m (do return (<-importBound o env).getD true)) (λfx s₂=>wpAny M A (callWith pos fx.1 fx.2 @gr (backToKw pos (keywordEach [] env))) Q E s₂) E s₁) E s):
 wpAny M A (eval (.Call (.Attribute o m apos) es [] pos) env) Q E s:=by
 have B:methodCallForm (es.length+([]:List Keyword).length) @gr (backToKw pos (keywordEach [] env))=true:=by
  unfold methodCallForm;rw [m7 F,arm_keywordEach_nil];show (true&&true&&decide (es.length+0+0<30))=true;rw [decide_eq_true @b];rfl
 rw [arm_eval_Call,vI j];rwa[wpAny_bind (br h λov J h1=>wpAny_bind (wpAny_standAt ?_))];unfold methodCall;rw [B];rwa[wpAny_bind (wpAny_holding ?_)];unfold calleeOf;rw [if_pos rfl];rwa[br h1 λfx O h2=> ?_];rwa[wpAny_bind ?_];unfold methodCallPos;rw [z];exact wpAny_pure h2
structure iy (P:Program)(w:World)(K:Fg)(mg:Str->Option Value)(base:Heap)(CX:nV)(n:Nat)(m:Str)(C:Addr)(sp:Sp):Prop where
 ex:∃f fd ps,um K C/\Gu K C m f/\au P w K mg base CX n f fd ps sp/\eG K fd ps []
def vo (P:Program)(w:World)(K:Fg)(mg:Str->Option Value)(base:Heap)(CX:nV)(n:Nat)(m:Str)(a:Addr)(E:XK)(H:Hp)(k:Sp->Prop):Prop:=∃C dx fs sp,H a=some (.ins C dx fs)/\fs.lookup m=none/\iy P w K mg base CX n m C sp/\k sp
def C9 (P:Program)(w:World)(K:Fg)(mg:Str->Option Value)(base:Heap)(CX:nV)(n:Nat)(m:Str)(E:XK)(to:TE)(t:TA):TE:=λσ H Q=>to σ H λx H1=>match x with
 | .ref a=>vo P w K mg base CX n m a E H1 λsp=>t σ H1 λvs H2=>sp (.ref a::vs) H2 Q E
 |_=>False
section
variable {X:Cx}{CX:nV}{o e:Expr}{es:List Expr}{to:TE}{t:TA}{m:Str}{apos pos:Pos}{n k:Nat}{E:XK}
theorem pi (hx:fQ CX X E)(hr:bE k X.A)(U:n<=k)(Y:PE X o to)(ha:PA X (e::es) t)(hb:dR o=true:=by rfl)(J:aW (e::es)=true:=by rfl)(hl:(e::es).length<29:=by decide)
(z:(apos.endLine==pos.line)=true:=by rfl):PE X (.Call (.Attribute o m apos) (e::es) [] pos) (C9 X.prog X.w X.K X.mg X.base CX n m E to t):=by
 have h':(bB e&&aW es)=true:=J;rw [Bool.and_eq_true] at h';intro pins s σ H Q I h;rwa[tJ hb J hl z (br @dU λu O ⟨x,H1,L,R,q⟩=> ?_)]
 match x,q with
 | .ref a,⟨C,dx,fs,sp,ea,l,c,q⟩=>
   obtain rfl:u=Value.ref a:=R;obtain ⟨f,fd,ps,S,B,F,b⟩:=c.ex;rwa[rf L ea S B l ?_];rwa[W.callWith_K (first:=[.ref a]) (h₀:=X.base) I.ok.mod.kin B.kp (br (ha pos pins O σ H1 _ L q) λus s2 ⟨vs,H2,j,r,Z⟩=>⟨j.kIn,?_⟩) @ft @fu];exact yP (us:= .ref a::us) (vs:= .ref a::vs) (F.mono U) hr b .nil hx j (.cons rfl r) (by rw [append_nil];exact Z)
theorem v9 (U:fQ CX X E)(O:bE k X.A)(J:n<=k)(R:PE X o to)(Y:dR o=true:=by rfl)(z:(apos.endLine==pos.line)=true:=by rfl):
 PE X (.Call (.Attribute o m apos) [] [] pos) (C9 X.prog X.w X.K X.mg X.base CX n m E to KZ):=by
 intro pins s σ H Q I h;rwa[tJ Y rfl @c z (br @dO λu Z ⟨x,H1,j,L,q⟩=> ?_)]
 match x,q with
 | .ref a,⟨C,dx,fs,sp,ea,l,c,q⟩=>
   obtain rfl:u=Value.ref a:=L;obtain ⟨f,fd,ps,S,B,F,b⟩:=c.ex;rwa[rf j ea S B l ?_];exact W.callWith_K0 (first:=[.ref a]) j.kIn B.kp (yP (us:=[.ref a]) (vs:=[.ref a]) (F.mono J) O b .nil U j (.cons rfl .nil) q)
def xm (K:Fg)(f:Str)(a:Addr)(H:Hp)(Q:VK):Prop:=∃C dx fs v,H a=some (.ins C dx fs)/\um K C/\aN K C f/\fs.lookup f=some v/\Q v H
def QN (K:Fg)(f:Str)(to:TE):TE:=λσ H Q=>to σ H λx H1=>match x with| .ref a=>xm K f a H1 Q|_=>False
theorem Ku {K:Fg}{f:Str}(O:X.K=K)(j:PE X o to)(F:dR o=true:=by rfl):PE X (.Attribute o f pos) (QN K f to):=by
 subst O;intro pins s σ H Q I h;rwa[Jv (vI F) (br @cB λu R ⟨x,H1,z,L,q⟩=> ?_)]
 match x,q with
 | .ref a,⟨C,dx,fs,v,ea,c,n,l,q⟩=>
   obtain rfl:u=Value.ref a:=L;exact zz z ea c n l λU S B J=>⟨v,H1,B,J,q⟩
def putAt (K:Fg)(f:Str)(a:Addr)(y:V)(H:Hp)(R:Hp->Prop):Prop:=∃C dx fs,H a=some (.ins C dx fs)/\um K C/\aN K C f/\fs.length<1000/\R @bT
def QB (K:Fg)(f:Str)(to tv:TE):TS:=λD σ H=>tv σ H λy H1=>to σ H1 λx H2=>match x with| .ref a=>putAt K f a y H2 λH3=>D.nx σ H3|_=>False
theorem cI {K:Fg}{f:Str}{value:Expr}{tv:TE}{pos':Pos}(O:X.K=K)(j:PE X o to)(Y:PE X value tv)(hs:swapsWith value (some (.Attribute o f pos')) pos.line X.env=pure false:=by rfl):PS X (.Assign [.Attribute o f pos'] value pos) (QB K f to tv):=by
 subst O;intro pins s σ H D I h;rwa[plainObj_wpAny_Assign_Attribute (br @dU λu J ⟨y,H1,z,F,q⟩=>br (j pins J σ H1 _ z q) λR W ⟨x,H2,B,L,S⟩=> ?_) hs]
 match x,S with
 | .ref a,⟨C,dx,fs,ea,c,n,l,q⟩=>
   obtain rfl:R=Value.ref a:=L;exact yu B ea c n l F λU Z=>⟨σ,_,Z,q⟩
theorem gR {P:Program}{w:World}{K:Fg}{mg:Str->Option Value}{base:Heap}{a C dx:Addr}{fs:List (Str×V)}{sp:Sp}{H:Hp}{L:Sp->Prop}(h1:H a=some (.ins C dx fs))(h2:fs.lookup m=none)(j:iy P w K mg base CX n m C sp)(g:L sp):vo P w K mg base CX n m a E H L:=⟨C,dx,fs,sp,h1,h2,j,g⟩
theorem dI {K:Fg}{f:Str}{a C dx:Addr}{fs:List (Str×V)}{v:V}{H:Hp}{Q:VK}(h1:H a=some (.ins C dx fs))(h2:um K C)(L:aN K C f)(j:fs.lookup f=some v)(g:Q v H):xm K f a H Q:=⟨C,dx,fs,v,h1,h2,L,j,g⟩
theorem cL {K:Fg}{f:Str}{a C dx:Addr}{fs:List (Str×V)}{y:V}{H:Hp}{R:Hp->Prop}(h1:H a=some (.ins C dx fs))(h2:um K C)(L:aN K C f)(j:fs.length<1000)(g:R @bT):putAt K f a y H R:=⟨C,dx,fs,h1,h2,L,j,g⟩
end
structure i6 (P:Program)(w:World)(K:Fg)(mg:Str->Option Value)(base:Heap)(CX:nV)(n:Nat)(x:Str)(C:Addr)(sp:Sp):Prop where
 ex:∃f fd ps,Mk K C f/\au P w K mg base CX n f fd ps sp/\eG K fd ps []/\mg x=some (.ref C)
section
variable {X:Cx}{CX:nV}{e:Expr}{es:List Expr}{t:TA}{x:Str}{p pos:Pos}{n k:Nat}{E:XK}{C:Addr}{sp:Sp}
def fY (C:Addr)(sp:Sp)(E:XK)(vs:List V)(H:Hp)(Q:VK):Prop:=∀a dx,H a=none->H dx=none->dx≠a->sp (.ref a::(vs++[])) @l (λv H2=>v= .non/\Q (.ref a) H2) E
def NZ (C:Addr)(sp:Sp)(E:XK)(t:TA):TE:=λσ H Q=>t σ H λvs H1=>fY C sp E vs H1 Q
theorem gv (c:i6 X.prog X.w X.K X.mg X.base CX n x C sp)(L:fQ CX X E)(S:bE k X.A)(J:n+1<=k)(W:Gl X x)(I:PA X (e::es) t)(j:(x==("__debug__":Str))=false:=by decide)(z:aW (e::es)=true:=by rfl):
 PE X (.Call (.Name x p) (e::es) [] pos) (NZ C sp E t):=by
 obtain ⟨f,fd,ps,M,F,b,B⟩:=c.ex;have h':(bB e&&aW es)=true:=z;rw [Bool.and_eq_true] at h';rwa[(Ia M F (S.mono J) W B b .nil L I j @ft @fu).imp λσ H Q h=> ?_];exact h
end
section
variable {X:Cx}{K:Fg}{a b c:Expr}{ta tb tc:TE}{pos:Pos}
def F9 (K:Fg)(p q:Addr)(H:Hp)(Q:VK):Prop:=Js p q H Q\/∃xs ys,aB K H p xs/\aB K H q ys/\xs≠[]/\xs.length+ys.length<=sizeLine/\(ys=[]->Q (.ref p) H)/\(ys≠[]->∀l,H l=none->Q (.ref l) (upd H l (.tup (xs++ys))))
def Ob (K:Fg):R2:=λx y H Q=>match x,y with
 | .int i,.int j=>Q (.int (i+j)) H
 | .str a,.str b=>a.length+b.length<=sizeLine/\Q (.str (a++b)) H
 | .ref p,.ref q=>F9 K p q H Q
 |_,_=>False
theorem KA (O:X.K=K):cG X @bv (Ob K):=by
 subst O;rwa[(NP.or Ij).imp λx y H Q h=> ?_]
 cases x with
 |int i=>cases y with
  |int j=>exact .inl h
  |_=>exact False.elim h
 |str a=>cases y with
  |str b=>exact .inl h
  |_=>exact False.elim h
 |ref p=>cases y with
  |ref q=>
   rcases h with h|⟨xs,ys,h1,h2,L,z,U,I⟩
   ·exact .inl h
   ·exact .inr ⟨p,q,xs,ys,rfl,rfl,h1,h2,L,z,U,I⟩
  |_=>exact False.elim h
 |_=>exact False.elim h
theorem Pt {p q:Addr}{H:Hp}{Q:VK}{xs ys:List V}(h1:H p=some (.lst xs))(h2:H q=some (.lst ys))(B:xs.length+ys.length<=sizeLine)(g:∀l,H l=none->Q (.ref l) (upd H l (.lst (xs++ys)))):F9 K p q H Q:= .inl ⟨xs,ys,h1,h2,B,g⟩
def KL (r r':R2)(ta tb tc:TE):TE:=λσ H Q=>ta σ H λx H1=>tb σ H1 λy H2=>r x y H2 λz H3=>match z with| .bl k=>rY k (tc σ H3 λw' H4=>r' y w' H4 Q) (Q (.bl false) H3)|_=>False
theorem wa {op j:CmpOp}{r R:R2}(ho:cG X @eh r)(B:cG X (compareOp j) R)(ha:PE X a ta)(hb:PE X b tb)(hc:PE X c tc)
(J:lastMarks [op,j] [b,c]=false:=by with_unfolding_all rfl):PE X (.Compare a [op,j] [b,c] pos) (KL r R ta tb tc):=by
 intro pins s σ H Q I h
 refine Compare_chain (br (ha pins s σ H _ I h) λv O ⟨x,H1,I1,r1,q1⟩=>chain_link (br (hb pins O σ H1 _ I1 q1) λu s2 ⟨y,H2,S,L,q2⟩=>
  br (ho pins s2 σ H2 x y v u _ S r1 L q2) λd s3 ⟨z,F,Z,r3,Y⟩=> ?_)) J
 match z,Y with
 | .bl k,Y=>
   cases r3;rwa[wpAny_truthy_bool ?_]
   cases k with
   |false=>exact ite_ff ⟨.bl false,F,Z,rfl,Y⟩
   |true=>exact ite_tt (chain_last (br (hc pins s3 σ F _ Z Y) λw' U ⟨W,H4,I4,r4,q4⟩=>B pins U σ H4 y W u w' Q I4 L r4 q4))
def G4 (r r':R2)(ta tb tc:TE):TT:=λσ H Q=>ta σ H λx H1=>tb σ H1 λy H2=>r x y H2 λz H3=>match z with| .bl k=>rY k (tc σ H3 λw' H4=>r' y w' H4 λv H5=>match v with| .bl c=>Q c H5|_=>False) (Q false H3)|_=>False
theorem v8 {op j:CmpOp}{r R:R2}(ho:cG X @eh r)(F:cG X (compareOp j) R)(ha:PE X a ta)(hb:PE X b tb)(hc:PE X c tc)
(O:lastMarks [op,j] [b,c]=false:=by with_unfolding_all rfl):PT X (.Compare a [op,j] [b,c] pos) (G4 r R ta tb tc):=by
 intro pins s σ H Q I h
 refine isTrue_chain (br (ha pins s σ H _ I h) λv S ⟨x,H1,I1,r1,q1⟩=>test_link (br (hb pins S σ H1 _ I1 q1) λu s2 ⟨y,H2,U,L,q2⟩=>
  br (ho pins s2 σ H2 x y v u _ U r1 L q2) λd s3 ⟨z,J,Z,r3,Y⟩=> ?_)) O
 match z,Y with
 | .bl k,Y=>
   cases r3;rwa[wpAny_truthy_bool ?_]
   cases k with
   |false=>exact ite_ff ⟨J,Z,Y⟩
   |true=>
    rwa[ite_tt (test_last (br (hc pins s3 σ J _ Z Y) λw' W ⟨z',H4,I4,r4,q4⟩=>br (F pins W σ H4 y z' u w' _ I4 L r4 q4) λd' s5 ⟨z2,H5,I5,r5,B⟩=> ?_))]
    match z2,B with
    | .bl c,B=>
      cases r5;exact wpAny_truthy_bool ⟨H5,I5,B⟩
def Ji (a b:Addr)(H:Hp)(Q:VK):Prop:=∃xs zs,H a=some (.lst xs)/\H b=some (.lst zs)/\xs.length+zs.length<=sizeLine/\Q .non (upd H a (.lst (xs++zs)))
def G5:V->List V->Hp->VK->Prop:=λx xs H Q=>match x,xs with| .ref a,[.ref b]=>Ji a b H Q|_,_=>False
theorem pP:xO X "list.extend" G5:=by
 intro pins s σ H x xs v j Q I L z h
 match x,xs,h with
 | .ref a,[.ref b],⟨ys,zs,h1,h2,h3,h4⟩=>exact B2 pins s σ H _ _ v j Q I L z ⟨a,b,ys,zs,rfl,rfl,h1,h2,h3,h4⟩
theorem JY {a b:Addr}{H:Hp}{Q:VK}{xs zs:List V}(h:H a=some (.lst xs))(h2:H b=some (.lst zs))(B:xs.length+zs.length<=sizeLine)(g:Q .non (upd H a (.lst (xs++zs)))):Ji a b H Q:=⟨xs,zs,h,h2,B,g⟩
end
open Builtin Builtin.Str
section
variable {X:Cx}{K:Fg}
theorem Hh {l:List (Str×Tok)}:aJ ((l.map (·.1)).map V.str) (strValues l):=by
 induction l with
 |nil=>exact .nil
 |cons p r ih=>exact .cons ⟨p.2,rfl⟩ ih
def KD:V->List V->Hp->VK->Prop:=λx xs H Q=>match x,xs with
 | .str z,[.str y]=>((y.length==0)=false/\z.length+2<=sizeLine)/\∀l,H l=none->Q (.ref l) (upd H l (.lst ((Txt.split z y).map V.str)))
 |_,_=>False
theorem GZ:xO X "str.split" KD:=by
 intro pins s σ H x xs v R Q I L j h
 match x,xs,h with
 | .str x,[.str y],⟨⟨hy,hsz⟩,q⟩=>
   obtain ⟨t,rfl⟩:=L
   cases j with
   |cons r rr=>
    cases rr;obtain ⟨u,rfl⟩:=r
    have z:(partsBetween x (occurrences x y 0 x.length (x.length+1)) y.length).length<=sizeLine:=by
     have Y:=StrLaws.occ_length_le x y 0 x.length (x.length+1);rw [length_partsBetween];lia
    have J:∀(l:List (Str×Tok)) (k:Nat),l.map (·.1)=Txt.split x y->l.length<=sizeLine->EP X pins σ Q (.ref s.heap.objs.size) {s with heap:=s.heap.push {cls:= .type "list",data:= .seq (strValues l).toArray},toks:=k}:=λl k e W=>by
     rwa[⟨.ref s.heap.objs.size,_,I.laid (t':=k) (o:= .lst ((Txt.split x y).map V.str)) (λb S q=>Heap.get?_push_of_some _ q) @f ?_,rfl,q _ @br⟩];rw [<-e];exact ⟨by simpa using W,strValues l,0,Hh,Heap.get?_push_size _ rfl⟩
    have U:1<=sizeLine:=by lia
    cases h1:(decide (x.length<y.length)||decide (strKind x<strKind y))
    ·cases B:(occurrences x y 0 x.length (x.length+1)).isEmpty
     ·rwa[call_meets F.slot_str_split @eD F.entry_str_split @ds (meets_str_split_sep x y t u h1 hy B @b z) ?_];show wants _ _ _ {s with toks:=_,heap:=s.heap.push {cls:= .type "list",data:= .seq (strsFrom s.toks (partsBetween x (occurrences x y 0 x.length (x.length+1)) y.length)).toArray}};rw [strsFrom_eq];have e:(numbered s.toks (partsBetween x (occurrences x y 0 x.length (x.length+1)) y.length)).map (·.1)=Txt.split x y:=(numbered_texts _ _).trans ((if_neg (ne_true_of_eq_false h1)).trans (if_neg (ne_true_of_eq_false B))).symm;rwa[J _ _ e ?_];have O:=congrArg List.length (numbered_texts s.toks (partsBetween x (occurrences x y 0 x.length (x.length+1)) y.length));rw [length_map] at O;lia
     ·exact call_meets F.slot_str_split @eD F.entry_str_split @ds (meets_str_split_not_found x y t u h1 hy B)
       (J [(x,t)] s.toks ((if_neg (ne_true_of_eq_false h1)).trans (if_pos B)).symm U)
    ·exact call_meets F.slot_str_split @eD F.entry_str_split @ds (meets_str_split_cannot_occur x y t u h1)
      (J [(x,t)] s.toks (if_pos h1).symm U)
def Qy (K:Fg):V->Option Int->Option Int->Hp->VK->Prop:=λx lo hi H Q=>match x with
 | .ref p=>Au K p lo hi H Q
 | .str z=>z.length<=sizeLine/\Q (.str (Txt.slice z lo hi)) H
 |_=>False
theorem NE (U:X.K=K):Nh X (Qy K):=by
 intro pins s σ H x v W S lo hi sl Q I R hs pl O h
 cases x with
 |ref p=>exact Qv U pins s σ H _ v W S lo hi sl Q I R hs pl O h
 |str z=>
  obtain ⟨t,rfl⟩:=R;obtain ⟨J,q⟩:=h;rwa[⟨"str",_,F.slot_str_getitem.lookup,typeIs_str _ _ _,?_⟩];have B:∀L k,EP X pins σ Q (.str (Txt.slice z lo hi) L) {s with toks:=k}:=λL k=>⟨.str _,H,I.tok k,⟨L,rfl⟩,q⟩
  cases pl with
  |none=>cases O with
   |none=>exact wpAny_getItem_str_slice (l:=none) (u:=none) (st:=none) hs rfl @K
   |int j tj=>exact wpAny_getItem_str_slice (l:=none) (u:=some (j,tj)) (st:=none) hs rfl @K
  |int i ti=>cases O with
   |none=>exact wpAny_getItem_str_slice (l:=some (i,ti)) (u:=none) (st:=none) hs rfl @K
   |int j tj=>exact wpAny_getItem_str_slice (l:=some (i,ti)) (u:=some (j,tj)) (st:=none) hs rfl @K
 |_=>exact False.elim h
theorem lm {x:Str}{C:Addr}{pos:Pos}(W:Gl X x)(B:X.mg x=some (.ref C))(j:(x==("__debug__":Str))=false:=by decide):PE X (.Name x pos) (tC (.ref C)):=Ay (v:=V.ref C) W B rfl j
end
theorem ao.seqT {K:Fg}{H H':Hp}{a:Addr}{xs:List V}(e:ao H H')(h:aB K H a xs):aB K H' a xs:=by
 rcases h with (h|⟨o,h⟩)|h
 ·exact .inl (.inl (e _ _ h))
 ·exact .inl (.inr ⟨o,e _ _ h⟩)
 ·exact .inr h
theorem ao.upd {H:Hp}{p:Addr}{o:HO}(F:H p=none):ao H @er:=λb u z=>by rw [ai (bt z F)];exact z
theorem ao.any {K:Fg}{H H':Hp}{a:Addr}{xs:List V}(e:ao H H')(h:aA K H a xs\/aB K H a xs):aA K H' a xs\/aB K H' a xs:=h.imp e.seq e.seqT
section
variable {K:Fg}{H H':Hp}{x:V}
theorem JQ {α β:Type}{F:α->β->Prop}:∀ {xs:List α} {ds:List β} {i:Nat} {x:α},Paired F xs ds->xs[i]? =some x->∃d,ds[i]? =some d/\F x d
 |_,_,0,_,.cons r _,h=>⟨_,rfl,by simp at h;exact h▸r⟩
 |_,_,i+1,_,.cons _ t,h=>by simpa using JQ t (by simpa using h)
 |_,_,i,_,.nil,h=>by simp at h
theorem JP {α β:Type}{F:α->β->Prop}:∀ {xs:List α} {ds:List β} {i:Nat} {d:β},Paired F xs ds->ds[i]? =some d->∃x,xs[i]? =some x/\F x d
 |_,_,0,_,.cons r _,h=>⟨_,rfl,by simp at h;exact h▸r⟩
 |_,_,i+1,_,.cons _ t,h=>by simpa using JP t (by simpa using h)
 |_,_,i,_,.nil,h=>by simp at h
theorem _root_.PySem.Paired.len {α β:Type}{F:α->β->Prop}{xs:List α}{ds:List β}(h:Paired F xs ds):xs.length=ds.length:=by
 induction h with
 |nil=>rfl
 |cons _ _ ih=>simp [ih]
theorem RT {α β:Type}{F:α->β->Prop}:∀ {xs:List α} {ds:List β},xs.length=ds.length->(∀(i:Nat) x d,xs[i]? =some x->ds[i]? =some d->F x d)->Paired F xs ds
 |[],[],_,_=> .nil
 |x::xs,d::ds,hl,h=> .cons (h 0 x d rfl rfl) (RT (by simpa using hl) λi y e h1 h2=>h (i+1) y e (by simpa using h1) (by simpa using h2))
 |[],_::_,hl,_=>by simp at hl
 |_::_,[],hl,_=>by simp at hl
theorem _root_.PySem.Paired.get1 {α β:Type}{F:α->β->Prop}{xs:List α}{ds:List β}{i:Nat}{x:α}(h:Paired F xs ds)(e:xs[i]? =some x):∃d,ds[i]? =some d/\F x d:=JQ h e
theorem _root_.PySem.Paired.get2 {α β:Type}{F:α->β->Prop}{xs:List α}{ds:List β}{i:Nat}{d:β}(h:Paired F xs ds)(e:ds[i]? =some d):∃x,xs[i]? =some x/\F x d:=JP h e
theorem _root_.PySem.Paired.of {α β:Type}{F:α->β->Prop}{xs:List α}{ds:List β}(W:xs.length=ds.length)(h:∀(i:Nat) x d,xs[i]? =some x->ds[i]? =some d->F x d):Paired F xs ds:=RT W h
theorem _root_.PySem.Paired.app {α β:Type}{F:α->β->Prop}{xs j:List α}{ds z:List β}(h:Paired F xs ds)(h':Paired F j z):Paired F (xs++j) (ds++z):=by
 induction h with
 |nil=>exact h'
 |cons r _ ih=>exact .cons r ih
abbrev aC (K:Fg)(H:Hp):List V->List D->Prop:=Paired (bv K H)
theorem fg {a:Addr}{xs:List V}{ds:List D}(h:aB K H a xs)(p:aC K H xs ds):bv K H (.ref a) (.tup ds):=
 .tup h p.len λi x d h1 h2=>by obtain ⟨e,L,r⟩:=p.get1 h1;rw [h2] at L;cases L;exact r
theorem Co {a:Addr}{xs:List V}{ds:List D}(h:aA K H a xs)(p:aC K H xs ds):bv K H (.ref a) (.lst ds):=
 .lst h p.len λi x d h1 h2=>by obtain ⟨e,L,r⟩:=p.get1 h1;rw [h2] at L;cases L;exact r
theorem bv.outT {ds:List D}(h:bv K H x (.tup ds)):∃a xs,x= .ref a/\aB K H a xs/\aC K H xs ds:=by
 cases h with
 |tup h hl hi=>exact ⟨_,_,rfl,h,PySem.Paired.of hl hi⟩
theorem bv.outL {ds:List D}(h:bv K H x (.lst ds)):∃a xs,x= .ref a/\aA K H a xs/\aC K H xs ds:=by
 cases h with
 |lst h hl hi=>exact ⟨_,_,rfl,h,PySem.Paired.of hl hi⟩
theorem bv.isInt {i:Int}(h:bv K H x (.int i)):x= .int i:=by cases h;rfl
theorem bv.isStr {i:Str}(h:bv K H x (.str i)):x= .str i:=by cases h;rfl
theorem bv.isNon (h:bv K H x .non):x= .non:=by cases h;rfl
theorem bv.same {d:D}(h:bv K H x d)(s:ao H H'):bv K H' x d:=by
 induction h with
 |non=>exact .non
 |bl b=>exact .bl b
 |int i=>exact .int i
 |str z=>exact .str z
 |lst h hl hi ih=>exact .lst (s.seq h) hl ih
 |tup h hl hi ih=>exact .tup (s.seqT h) hl ih
theorem aC.same {xs:List V}{ds:List D}(h:aC K H xs ds)(s:ao H H'):aC K H' xs ds:=Paired.imp' (λ_ _ z=>bv.same z s) h
mutual
noncomputable def noL:D->Bool
 | .lst _=>false
 | .tup ds=>noLs ds
 |_=>true
noncomputable def noLs:List D->Bool
 |[]=>true
 |d::ds=>noL d&&noLs ds
end
theorem fb:∀ {ds:List D} {i:Nat} {d:D},noLs ds=true->ds[i]? =some d->noL d=true
 |[],_,_,_,h=>by simp at h
 |e::ds,0,d,hn,h=>by
  rw [noLs,Bool.and_eq_true] at hn;simp at h;exact h▸hn.1
 |e::ds,i+1,d,hn,h=>by
  rw [noLs,Bool.and_eq_true] at hn;exact fb hn.2 (by simpa using h)
theorem aB.noL {a p:Addr}{xs zs:List V}{o:HO}(h:aB K H a xs)(F:H p=some (.lst zs)):aB K @er a xs:=by
 rcases h with (h|⟨u,h⟩)|h
 ·exact .inl (.inl (by rw [ai (λz=>by rw [z,F] at h;cases h)];exact h))
 ·exact .inl (.inr ⟨u,by rw [ai (λz=>by rw [z,F] at h;cases h)];exact h⟩)
 ·exact .inr h
theorem bv.noL {d:D}{p:Addr}{zs:List V}{o:HO}(h:bv K H x d)(j:L2.noL d=true)(F:H p=some (.lst zs)):bv K (L2.upd H p o) x d:=by
 induction h with
 |non=>exact .non
 |bl b=>exact .bl b
 |int i=>exact .int i
 |str z=>exact .str z
 |lst h hl hi ih=>rw [L2.noL] at j;cases j
 |tup h hl hi ih=>
  rw [L2.noL] at j;exact .tup (h.noL F) hl λi x d h1 h2=>ih i x d h1 h2 @fX
theorem lH {xs zs:List V}{ds:List D}{p:Addr}{o:HO}(h:aC K H xs ds)(z:noLs ds=true)(F:H p=some (.lst zs)):aC K @er xs ds:=
 PySem.Paired.of h.len λi x d h1 h2=>by
  obtain ⟨e,L,r⟩:=h.get1 h1;rw [h2] at L;cases L;exact r.noL (fb z h2) F
theorem Av {p:Addr}{ys:List V}{Q:VK}(h:aA K H p ys\/aB K H p ys)(g:Q (.int ys.length) H):iG K p H Q:=⟨ys,h,g⟩
theorem DO {p:Addr}{ys:List V}{Q:VK}{i:Int}{v:V}(h:aA K H p ys\/aB K H p ys)(e:l9 ys i=some v)(g:Q v H):k7 K p i H Q:=⟨ys,h,v,e,g⟩
theorem MA {p:Addr}{ys:List V}{Q:VK}(h:aA K H p ys\/aB K H p ys)(g:∀l,H l=none->Q (.ref l) @bX):xb K p H Q:=⟨ys,h,g⟩
end
section
variable {K:Fg}{H H':Hp}{x:V}{Q:VK}
theorem ao.get {b:Addr}{o:HO}(s:ao H H')(h:H b=some o):H' b=some o:=s b o h
def Mt (xs:List V)(H:Hp)(Q:VK):Prop:=xs.length<=sizeLine/\∀p,H p=none->Q (.ref p) (upd H p (.tup xs))
def Qc (xs:List V)(H:Hp)(Q:VK):Prop:=xs.length<=sizeLine/\∀p,H p=none->Q (.ref p) (upd H p (.lst xs))
def NR (t:TA):TE:=λσ H Q=>t σ H λxs H1=>Mt xs H1 Q
def N0 (t:TA):TE:=λσ H Q=>t σ H λxs H1=>Qc xs H1 Q
theorem fJ {X:Cx}{es:List Expr}{t:TA}{pos:Pos}{O}(h:PA X es t):PE X (.Tuple es O pos) (NR t):=LG h
theorem CZ {X:Cx}{es:List Expr}{t:TA}{pos:Pos}(h:PA X es t):PE X (.List es pos) (N0 t):=LH h
theorem bX {xs:List V}(B:xs.length<=sizeLine)(g:∀p H',ao H H'->H p=none->H' p=some (.tup xs)->Q (.ref p) H'):Mt xs H Q:=
 ⟨B,λp n=>g p _ (.upd n) n ag⟩
theorem jo {xs:List V}(B:xs.length<=sizeLine)(g:∀p H',ao H H'->H p=none->H' p=some (.lst xs)->Q (.ref p) H'):Qc xs H Q:=
 ⟨B,λp n=>g p _ (.upd n) n ag⟩
theorem jL {p:Addr}{ys:List V}(h:aA K H p ys)(g:∀p H',ao H H'->H p=none->H' p=some (.tup ys)->Q (.ref p) H'):Bg K p H Q:=Oe h λp n=>g p _ (.upd n) n ag
theorem gU {p:Addr}{ys:List V}(h:aA K H p ys\/aB K H p ys)(g:∀p H',ao H H'->H p=none->H' p=some (.lst ys)->Q (.ref p) H'):xb K p H Q:=MA h λp n=>g p _ (.upd n) n ag
theorem aC.via {xs:List V}{ds:List D}(s:ao H H')(h:aC K H xs ds):aC K H' xs ds:=aC.same h s
theorem bA {n:Nat}(h:n<=1000000):n<=sizeLine:=by rw [sizeLine_eq];lia
theorem aE {α:Type}{f:α->D}{xs:List V}{j:List α}(h:aC K H xs (j.map f)):xs.length=j.length:=by rw [h.len];simp
theorem bC {α:Type}{f:α->D}{xs:List V}{j:List α}{i:Nat}{x:V}(h:aC K H xs (j.map f))(e:xs[i]? =some x):∃a,j[i]? =some a/\bv K H x (f a):=by
 obtain ⟨d,J,dx⟩:=h.get1 e;rw [getElem?_map] at J
 cases z:j[i]? with
 |none=>rw [z] at J;cases J
 |some l=>rw [z] at J;exact ⟨l,rfl,Option.some.inj J▸dx⟩
end
end L2
local macro_rules | `(tactic| walk_at "l3sq") => `(tactic| first
  | assumption
  | (show L2.aB _ _ _ _; first | exact L2.aB.of (by assumption) | exact L2.ao.seqT (by assumption) (by walk_at "l3sq"))
  | (show L2.aA _ _ _ _; first | exact L2.aA.of (by assumption) | exact L2.ao.seq (by assumption) (by walk_at "l3sq"))
  | (show L2.GO _ _ _ _; exact L2.GO.via (by assumption) (by walk_at "l3sq"))
  | (show L2.aC _ _ _ _; exact L2.aC.via (by assumption) (by walk_at "l3sq"))
  | (show L2.bv _ _ _ _; exact L2.bv.via (by assumption) (by walk_at "l3sq"))
  | (show _ = some _; exact L2.ao.get (by assumption) (by walk_at "l3sq")))
namespace L2
theorem O6 {c:Prop}[Decidable c]{A B:Prop}(I: ¬c)(h:A):rY (!decide c) A B:=Rt (λ_=>h) (λz=>absurd z I)
theorem vx {c:Prop}[Decidable c]{A B:Prop}(I:c)(h:B):rY (!decide c) A B:=Rt (λz=>absurd I z) (λ_=>h)
end L2
set_option hygiene false in
local macro_rules|`(tactic|walk_at "l3gs")=>do
 let r←("gH gI gJ;gK gL gM;gN gO;gP gQ;gR gS gT;gU gV gW gX gY gZ ha;hb hc;hd he;hf hg".splitOn ";").toArray.mapM λx=>do let i:Array Lean.Term:=(x.splitOn " ").toArray.map λs=>⟨Lean.mkIdent (.mkSimple s)⟩;let p:=i[0]!;let e:=i.extract 1 i.size;`(Lean.Parser.Tactic.tacticSeq|(show @$p;first $[|refine @$e]*))
 `(tactic|((conv=>whnf);first $[|$r]*))
local macro_rules | `(tactic| walk_at "l3go") => `(tactic| ((repeat (walk_at "l3gs")); conv => whnf))
local macro_rules | `(tactic| walk_at "l3gc") => `(tactic| (walk_at "l3go"; refine L2.cutE (by walk_at "l3go"; exact ⟨rfl, rfl⟩) ?_))
local macro_rules | `(tactic| walk_at "l3gr") => `(tactic| first | refine L2.aY rfl ?_ | refine L2.bO rfl ?_)
namespace L2
open PySem PySem.Spec PyProof.Rows
section
variable {X:Cx}{K:Fg}{H:Hp}{Q:VK}
theorem F8 {prog:Program}{w:World}{A:Around}{E:Value->Shared->Prop}{s:Shared}{t b:Addr}{ws:List Value}{Q:Value->Shared->Prop}(ht:IsTup s.heap t (#[]:Array Value))(hb:IsTup s.heap b ws.toArray)(h:Q (.ref b) s):wpAny @h A (binaryOp .Add (.ref t) (.ref b)) Q E s:=by
 obtain ⟨⟨Y,dd,U,sl⟩,O,L,n,W⟩:=id ht;obtain ⟨⟨S,z,R,B⟩,j,I,Z,J⟩:=id hb;simp only at L W I J;subst L W I J;exact concat_meets ⟨_,O,rfl⟩ ⟨_,j,rfl⟩ noFill_tuple_add seq_tuple_add PySem.F.slot_tuple_add PySem.F.entry_tuple_add @cD (tuple_addW0 t b #[] ws.toArray n Z dd z sl B @e) ⟨O,j,h⟩
def OA (K:Fg):R2:=λx y H Q=>∃a b ys,x= .ref a/\y= .ref b/\aB K H a []/\aB K H b ys/\Q (.ref b) H
theorem Ik:cG X @bv (OA X.K):=by
 intro pins s σ H x y v u Q I L B h;obtain ⟨a,b,ys,rfl,rfl,z,J,q⟩:=h;cases L;cases B;obtain ⟨its,F,S,_⟩:=I.tuple z;obtain ⟨j,O,p2,_⟩:=I.tuple J;cases F;exact F8 S p2 ⟨.ref b,H,I,rfl,q⟩
def Jt (K:Fg)(p q:Addr)(H:Hp)(Q:VK):Prop:=F9 K p q H Q\/∃ys,aB K H p []/\aB K H q ys/\Q (.ref q) H
def Oa (K:Fg):R2:=λx y H Q=>match x,y with
 | .int i,.int j=>Q (.int (i+j)) H
 | .str a,.str b=>a.length+b.length<=sizeLine/\Q (.str (a++b)) H
 | .ref p,.ref q=>Jt K p q H Q
 |_,_=>False
theorem iB (O:X.K=K):cG X @bv (Oa K):=by
 subst O;rwa[((KA rfl).or Ik).imp λx y H Q h=> ?_]
 cases x with
 |int i=>cases y with
  |int j=>exact .inl h
  |_=>exact False.elim h
 |str a=>cases y with
  |str b=>exact .inl h
  |_=>exact False.elim h
 |ref p=>cases y with
  |ref q=>
   rcases h with h|⟨ys,h1,h2,L⟩
   ·exact .inl h
   ·exact .inr ⟨p,q,ys,rfl,rfl,h1,h2,L⟩
  |_=>exact False.elim h
 |_=>exact False.elim h
theorem A0 {p q:Addr}{xs ys:List V}(h1:H p=some (.lst xs))(h2:H q=some (.lst ys))(B:xs.length+ys.length<=sizeLine)(g:∀l H',ao H H'->H l=none->H' l=some (.lst (xs++ys))->Q (.ref l) H'):Jt K p q H Q:= .inl (Pt h1 h2 B λl n=>g l _ (.upd n) n ag)
theorem kF {pk:List @C}{σ:St}{x y:V}:sR (cm (none::none::pk) σ) (((cm (none::none::pk) σ).set 0 (some x)).set 1 (some y)):=
 sR.cons (.inl rfl) (.cons (.inl rfl) (.refl _))
theorem kE {pk:List @C}{σ:St}{x y z u:V}:sR (cm (none::none::none::none::pk) σ) (((((cm (none::none::none::none::pk) σ).set 0 (some x)).set 1 (some y)).set 2 (some z)).set 3 @fk):=
 sR.cons (.inl rfl) (.cons (.inl rfl) (.cons (.inl rfl) (.cons (.inl rfl) (.refl _))))
end
abbrev TJ:=Str->St->Hp->(Str->Hp->Prop)->Prop
def Qn (x:Str):Prop:=∀c∈x.cps.toList,c<128
section
variable {X:Cx}{K:Fg}
theorem BH (bs:List Bool):((List.range bs.length).any λi=>(bs[i]?).getD true)=bs.any id:=by
 rw [Bool.eq_iff_iff,any_eq_true,any_eq_true];constructor
 ·rintro ⟨i,hi,e⟩;have hi:=mem_range.mp hi;rw [getElem?_eq_getElem hi] at e;exact ⟨_,getElem_mem hi,e⟩
 ·rintro ⟨b,B,e⟩;obtain ⟨i,hi,rfl⟩:=mem_iff_getElem.mp B;exact ⟨i,mem_range.mpr hi,by rw [getElem?_eq_getElem hi];exact e⟩
theorem CB (J:X.calm=true):bf X (.builtin "any") (λxs H Q=>∃(a:Addr) (bs:List Bool),xs=[.ref a]/\aA X.K H a @bk/\Q (.bl (bs.any id)) H):=by
 intro pins s σ H xs U Q I r h;obtain ⟨a,bs,rfl,F,q⟩:=h;obtain ⟨u,rfl,L⟩:=fR r;cases L;obtain ⟨its,S,pl,hz⟩:=I.list F;have W:s.heap.IsList a its.toArray:=pl.isList;have B:=xI S
 have z:a<s.heap.objs.size:=by obtain ⟨_,e,_⟩:=W;exact Heap.lt_size e
 rwa[call_any_walk (wpAny_pyIter_list W ?_)]
 refine ⟨s.heap.objs.size,[s.heap.objs.size,a],[s.heap.objs.size],its.toArray.size,_,_,λi=>(bs[i]?).getD true,rfl,Walks.list (A:=X.A.in1) @en _ a (Nat.ne_of_lt z) its.toArray,
  ⟨⟨_,Heap.get?_push_size _ rfl,rfl,rfl⟩,W.push _⟩,λi v s' Y Z O j=> ?_,λh' tk R=> ?_⟩
 ·obtain ⟨b,e,rfl⟩:=B.get i v (by simpa using O);simp only [e,Option.getD_some] at j;exact wpAny_truthy_bool j
 ·have e:((List.range its.toArray.size).any λi=>(bs[i]?).getD true)=bs.any id:=by
   rw [size_toArray,B.length];exact BH bs
  rw [e];exact ⟨.bl _,H,I.kept (LSm.kept_iter R),rfl,q⟩
def Jx (K:Fg)(a:Addr)(H:Hp)(Q:VK):Prop:=∃bs:List Bool,aA K H a @bk/\Q (.bl (bs.any _root_.id)) H
def N8 (K:Fg):List V->Hp->VK->Prop:=λxs H Q=>match xs with|[.ref a]=>Jx K a H Q|_=>False
theorem NM (O:X.K=K)(I:X.calm=true):bf X (.builtin "any") (N8 K):=by
 subst O;rwa[(CB I).imp λxs H Q h=> ?_];unfold N8 at h;split at h
 ·obtain ⟨j,h1,h2⟩:=h;exact ⟨_,j,rfl,h1,h2⟩
 ·exact h.elim
theorem Pz {K:Fg}{p:Addr}{H:Hp}{Q:VK}{bs:List Bool}(h:aA K H p @bk)(g:Q (.bl (bs.any id)) H):Jx K p H Q:=⟨bs,h,g⟩
noncomputable def uy (x y:Str):Bool:=decide (0+y.length<=x.length)&&Builtin.Str.subAt x y 0
def Ak:V->List V->Hp->VK->Prop:=λx xs H Q=>match x,xs with| .str z,[.str y]=>Q (.bl (uy z y)) H|_,_=>False
theorem C4:xO X "str.startswith" Ak:=by
 intro pins s σ H x xs v J Q I L B h;unfold Ak at h;split at h
 ·rename_i z y;obtain ⟨t,rfl⟩:=L;obtain ⟨u,rfl,j,rfl⟩:=fR B;exact call_gives F.slot_str_startswith @eA F.entry_str_startswith (F.args_str_startswith_2 _ _) (gives_str_startswith z y t j) ⟨.bl _,H,I,rfl,h⟩
 ·exact h.elim
end
noncomputable def fm:Stmt->Nat->Stmt
 | .ClassDef _ _ _ body _ _ _ _ _ _ _,j=>body.getD j (.Pass ⟨0,0,0,0⟩)
 |s,_=>s
structure gm (K:Fg)(C:Addr):Prop where
 cl:um K C
 ha:W.findIn K (.ref C) "__class__"=some (some (.builtin "object.__class__"))
 hn:W.specialIn K (.builtin "object.__class__") "__get__"=some (some (.builtin "getset_descriptor.__get__"))
 htk:W.takesIn K (.builtin "object.__class__")=some true
 hm:W.mroIn K C (.type "object")=some true
structure Kb (K:Fg)(C:Addr):Prop where
 makes:W.makesIn K C=true
 init:W.findIn K (.ref C) "__init__"=some (some (.builtin "object.__init__"))
 kp:W.keepIn K (.ref C)=true
section
variable {X:Cx}{C:Addr}{x:Str}{p pos:Pos}
def Dm (C:Addr):TE:=λ_ H Q=>∀a dx,H a=none->H dx=none->dx≠a->Q (.ref a) @l
theorem Hz {pins:List (Addr×Obj)}{σ:St}{H:Hp}{s:Shared}{Q:VK}(M:Kb X.K C)(I:av X pins σ H s)(h:Dm C σ H Q):wpAny @d X.A (call (.ref C) []) @p X.xe s:=by
 have J:=h (s.heap.objs.size+1) s.heap.objs.size (I.hok.fresh @dR) @br (Nat.ne_of_lt @bQ);have B:=av.made (C:=C) I;have Y:=W.makes_of (M:=model X.prog X.w) I.kIn M.makes
 have O:((s.heap.push W.emptyDict).push @r).get? (s.heap.objs.size+1)=some @r:=by
  have:=Heap.get?_push_size @eS (o:=W.instObj C s.heap.objs.size) rfl;rwa [Heap.size_push] at this
 have L:PySem.W.Looks @d ((s.heap.push W.emptyDict).push @r) (typeOf (.ref (s.heap.objs.size+1))) (.ref C):=(PySem.W.Looks.ld O).andThen .now;have z:PySem.W.Looks @d ((s.heap.push W.emptyDict).push @r) (isInstance (.ref (s.heap.objs.size+1)) (.type "object")) true:=L.andThen (Y.top.keeps λb o e=>Heap.get?_push_of_some _ (Heap.get?_push_of_some _ e));rwa[wpAny_call (B5 I.kIn M.makes M.init (λj=>PySem.W.Looks.of_pure (W.oi_bind j)) ?_)];obtain ⟨F,g,d,t,os⟩:=s;rwa[codeAny_call_builtin W.oi_plain W.entry_oi (@W.check_slot @d _ _ _ "object.__init__" "object" "__init__" (.ref (F.objs.size+1)) [] [] _ W.oi_kind W.oi_split z (W.oi_args (.ref (F.objs.size+1))) ?_)];rw [W.oi_run];exact wpAny_pure (And.intro rfl ⟨V.ref (F.objs.size+1),_,B,rfl,J⟩)
theorem yW (M:Kb X.K C)(z:Gl X x)(B:X.mg x=some (.ref C))(j:(x==("__debug__":Str))=false:=by decide):PE X (.Call (.Name x p) [] [] pos) (Dm C):=by
 intro pins s σ H Q I h;rwa[wpAny_Call_Name_kw (pG I z B ?_ j)];exact W.callWith_K0 I.kIn M.kp (Hz M I h)
end
theorem eL {H:Hp}{a dx:Addr}{o:HO}(h1:H a=none)(h2:H dx=none):ao H (upd (upd H dx (.own a)) a o):=λb u z=>by
 rw [ai (λe=>by rw [e,h1] at z;cases z),ai (λe=>by rw [e,h2] at z;cases z)];exact z
theorem Mu {C:Addr}{σ:St}{H:Hp}{Q:VK}(g:∀a dx H',ao H H'->H a=none->H' a=some (.ins C dx [])->Q (.ref a) H'):Dm C σ H Q:=λa dx h1 h2 _=>g a dx _ (eL h1 h2) h1 ag
noncomputable def RJ:Value->Option V
 | .none=>some .non
 | .bool b=>some (.bl b)
 | .int i _=>some (.int i)
 | .str x _=>some (.str x)
 | .bytes b _=>some (.byt b)
 | .float b _=>some (.flt b)
 | .ref a=>some (.ref a)
 | .type n=>some (.ty n)
 |_=>none
theorem A9 {x:V}{u:Value}(h:ay x u):RJ u=some x:=by
 cases x with
 |non=>cases h;rfl
 |bl b=>cases h;rfl
 |int i=>obtain ⟨t,rfl⟩:=h;rfl
 |str i=>obtain ⟨t,rfl⟩:=h;rfl
 |byt i=>obtain ⟨t,rfl⟩:=h;rfl
 |flt i=>obtain ⟨t,rfl⟩:=h;rfl
 |ref i=>cases h;rfl
 |ty i=>cases h;rfl
theorem Ed {x y:V}{u:Value}(h:ay x u)(h':ay y u):x=y:=by
 have e:=(A9 h).symm.trans (A9 h');exact Option.some.inj e
section
variable {X:Cx}{K:Fg}
open Classical in
noncomputable def zF (K:Fg)(H:Hp)(e:D)(u:Value):Bool:=if h:∃d,∃x,ay x u/\bv K H x d then iz h.choose e else false
theorem AV {pins:List (Addr×Obj)}{σ:St}{H:Hp}{s:Shared}(I:av X pins σ H s){e d:D}{x:V}{u:Value}(r:ay x u)(h:bv X.K H x d):zF X.K H e u=iz d e:=by
 have z:∃d,∃x,ay x u/\bv X.K H x d:=⟨d,x,r,h⟩;unfold zF;rw [dif_pos z];obtain ⟨y,j,B⟩:=z.choose_spec;have:=Ed r j;subst this;rw [bv.inj I B h]
theorem xM {pins:List (Addr×Obj)}{σ:St}{H:Hp}{s:Shared}(I:av X pins σ H s){e:D}:∀ {xs:List V} {ds:List D} {us:List Value},aJ xs us->aC X.K H xs ds->us.any @fc=ds.any λd=>iz d e
 |_,_,_,.nil,.nil=>rfl
 |_,_,_,.cons r t,.cons h p=>by rw [any_cons,any_cons,AV I r h,xM I t p]
theorem tM {pins:List (Addr×Obj)}{σ:St}{H:Hp}{s:Shared}{A:Around}(I:av X pins σ H s){y:V}{e:D}{v:Value}(B:ay y v)(J:bv X.K H y e):∀ {xs:List V} {ds:List D} {us:List Value},aJ xs us->aC X.K H xs ds->(∀d∈ds,A.units+gu d<cLine)->∀u∈us,SeqAt.EqAt A s u v (zF X.K H e u)
 |_,_,_,.nil,_,_=>λu z=>by cases z
 |_,_,_,.cons r t,.cons h p,hd=>λF z=>by
  rcases mem_cons.mp z with rfl|z
  ·rw [AV I r h];exact iV I h J r B (hd _ (.head _))
  ·exact tM I B J t p (λd j=>hd d (.tail _ j)) F z
end
section
variable {X:Cx}{CX:nV}{o e:Expr}{es:List Expr}{to:TE}{t:TA}{m:Str}{apos pos:Pos}{n k:Nat}{E:XK}{P:Program}{w:World}{K:Fg}{mg:Str->Option Value}{base:Heap}
theorem CY (h1:X.prog=P)(h2:X.w=w)(L:X.K=K)(O:X.mg=mg)(U:X.base=base)(J:fQ CX X E)(S:bE k X.A)(B:n<=k)(I:PE X o to)(j:PA X (e::es) t)(R:dR o=true:=by rfl)(F:aW (e::es)=true:=by rfl)(W:(e::es).length<29:=by decide)
(z:(apos.endLine==pos.line)=true:=by rfl):PE X (.Call (.Attribute o m apos) (e::es) [] pos) (C9 P w K mg base CX n m E to t):=by
 subst h1 h2 L O U;exact pi J S B I j R F W z
end
theorem AI (xs:Array Nat)(a:Nat):∀m,a+m<=xs.size->((List.range m).map λk=>a+k).filterMap (λi=>xs[i]?)=(xs.toList.drop a).take m
 |0,_=>by simp
 |m+1,h=>by
  have j:=AI xs a m @b;rw [range_succ,map_append,filterMap_append,j,take_succ,getElem?_drop,Array.getElem?_toList]
  have:a+m<xs.size:=by lia
  simp [Array.getElem?_eq_getElem this]
theorem wS {start stop:Int}{n:Nat}{x:Str}(z:x.length=n)(B:0<=start)(h1:start<=stop)(h2:stop<=n):(sliceRange start stop 1).filterMap (λi=>x.cps[i]?)=(x.cps.toList.drop start.toNat).take (stop - start).toNat/\(sliceRange start stop 1).length=(stop - start).toNat:=by
 have e:sliceRange start stop 1=(List.range (stop - start).toNat).map λk=>start.toNat+k:=by
  unfold sliceRange;simp only [show (1:Int)>0 by decide,if_true]
  have c:(if start<stop then (stop - start+1 - 1) / 1 else 0)=stop - start:=by split<;>lia
  rw [c];rwa[map_congr_left λk _=> ?_];lia
 have hs:x.cps.size=n:=z;rw [e];exact ⟨AI x.cps start.toNat _ @b,by simp⟩
theorem fC {x:Str}{l u:Option Int}{start stop:Int}(hi:Builtin.Str.strSliceIndices l u 1 x.length=sliceRange start stop 1)(z:0<=start)(h1:start<=stop)(h2:stop<=x.length):(Txt.slice x l u).cps.toList=(x.cps.toList.drop start.toNat).take (stop - start).toNat:=by
 obtain ⟨B,F⟩:=wS (x:=x) rfl z h1 h2;unfold Txt.slice;rw [hi];split
 ·rename_i h
  have L:(stop - start).toNat=x.length:=by simpa [F] using h
  have j:start.toNat=0:=by lia
  rw [j,drop_zero,L,take_of_length_le (by rw [aR];exact Nat.le_refl _)]
 ·exact B
theorem kZ {x:Str}{n:Int}(h:0<=n):(Txt.slice x none (some n)).cps.toList=x.cps.toList.take n.toNat:=by
 by_cases z:n<=x.length
 ·rw [fC (start:=0) (stop:=n) ?_ @c h z]
  ·simp
  ·unfold Builtin.Str.strSliceIndices;simp only [show (1:Int)>0 by decide,if_true,if_neg (show ¬n<0 by lia)];congr 1;lia
 ·rw [fC (start:=0) (stop:=x.length) ?_ @c @b @dV]
  ·rw [take_of_length_le (by rw [length_drop,aR];lia),take_of_length_le (by rw [aR];lia)];rfl
  ·unfold Builtin.Str.strSliceIndices;simp only [show (1:Int)>0 by decide,if_true,if_neg (show ¬n<0 by lia)];congr 1;lia
theorem jP {x:Str}{n:Int}(h:0<=n):(Txt.slice x (some n) none).cps.toList=x.cps.toList.drop n.toNat:=by
 by_cases z:n<=x.length
 ·rw [fC (start:=n) (stop:=x.length) ?_ h z @dV]
  ·rw [take_of_length_le (by rw [length_drop,aR];lia)]
  ·unfold Builtin.Str.strSliceIndices;simp only [show (1:Int)>0 by decide,if_true,if_neg (show ¬n<0 by lia)];congr 1;lia
 ·rw [fC (start:=x.length) (stop:=x.length) ?_ @b @dV @dV]
  ·rw [show ((x.length:Int) - x.length).toNat=0 by lia,take_zero,drop_of_length_le (by rw [aR];lia)]
  ·unfold Builtin.Str.strSliceIndices;simp only [show (1:Int)>0 by decide,if_true,if_neg (show ¬n<0 by lia)];congr 1;lia
theorem nN (x y:Str):(x++y).cps.toList=x.cps.toList++y.cps.toList:=by
 show (x.cps++y.cps).toList=_;simp
theorem ux {x y:Str}(h:x.cps.toList=y.cps.toList):x=y:=by
 cases x;cases y;congr 1;exact Array.toList_inj.mp h
open PySem.W
noncomputable def Rz (K:Frag)(C:Addr)(bmB:List Value)(newId:String):Bool:=match K.lookup C with
 |some ⟨.type "type",_,.cls cd,sl⟩=>(match cd.mro,sl.toList with
  | .ref C'::bm,[_,_,_,_,some (.builtin n),_]=>C'==C&&n==newId&& !cd.hasDel&&tailIn K bmB bm&&nsOkIn K cd.ns&&cd.hasDict
  |_,_=>false)
 |_=>false
abbrev Sl:List Value:=[.type "ValueError",.type "Exception",.type "BaseException",.type "object"]
noncomputable def Pe (a:Addr)(cls:Value)(dd:Option Addr):HO:= .ext λh=>∃oe vs,h.get? a=some oe/\oe.cls=cls/\oe.dict=dd/\oe.data= .fields vs/\vs[1]? =some .none/\vs[2]? =some .none
structure BaseI (K:Frag)(B:Addr):Prop where
 rd:readsIn K B (.type "type")=true
 at_:findCls K (.ref B) (.type "type") "__init__"=some (.val (.builtin "ValueError.__init__"))
 ga:specialIn K (.ref B) "__getattribute__"=some (some (.builtin "type.__getattribute__"))
inductive Q9 (C:Addr)(fld:Str)(vs:List V)(H:Hp)(Q:VK)(_e:XK):Prop
 |mk (a v:_) (_:vs=[.ref a,v]) (_:H a=some (Pe a (.ref C) none)) (_:∀d,H d=none->d≠a->Q .non (upd (upd H a (Pe a (.ref C) (some d))) d (.xd [(fld,v)])))
structure XI (K:Frag)(C f:Addr):Prop where
 j:Rz K C Sl "ValueError.__new__"=true
 init:findIn K (.ref C) "__init__"=some @bb
 fn:isFn K (.ref f)=true
 kp:keepIn K (.ref C)=true
structure XMk (P:Program)(w:World)(K:Frag)(mg:Str->Option Value)(base:Heap)(n:Nat)(x:Str)(C:Addr)(fld:Str):Prop where
 ex:∃f fd ps,XI K C f/\au P w K mg base aT n f fd ps (Q9 C fld)/\eG K fd ps []/\mg x=some (.ref C)
open PySem.Calls Att
theorem rR {i:Int}{n:Nat}(h:WData.weight (.int i)<=n):Builtin.Int.intBits i<=n:=by
 unfold WData.weight at h;unfold Builtin.Int.intBits;exact h
theorem oP:∀ {ns:List Int} {n:Nat},WData.weightAll @eB<=n->∀i∈ns,Builtin.Int.intBits i<=n
 |[],_,_,_,hi=>nomatch hi
 |a::r,n,h,i,hi=>by
  have h':WData.weight (.int a)+1+WData.weightAll (r.map WData.int)<=n:=by simpa [WData.weightAll] using h
  rcases mem_cons.mp hi with rfl|hi
  ·exact rR @b
  ·exact oP @b i hi
theorem xK {R:List Int}(h:WData.layableAll [WData.list (List.map WData.int R)]=true):∀i∈R,Builtin.Int.intBits i<=2^20:=by
 have h1:WData.layable (WData.list (List.map WData.int R))=true:=by simpa [WData.layableAll] using h
 unfold WData.layable at h1;rw [Bool.and_eq_true,Bool.and_eq_true] at h1;have h2:=of_decide_eq_true h1.2;rwa[oP ?_];simpa [WData.weight] using h2
theorem vJ {l:OpenLaw}{n:Nat}{q:Program}{j:List Str}{XP:(Str->Option Value)->Heap->Prop}{YP:World->Heap->Prop}{d:DefRec}
(hn:l.most=some n)(U:d.params.defaults=[])
(L:∀(w:World) (s₀ s₁:Shared) (mg mb:Str->Option Value) (fa:Addr) (o:Obj) (pm cd doc:Value) (a:Addr) (vs:List Value) (ns:List Int),
   Ground q j [] XP w s₀ mg mb s₁.heap->YP w s₁.heap->
   s₁.heap.get? fa=some o->o.data= .func (docDef d.name d.params d.body d.scope pm cd doc)->s₁.heap.CodeRec cd d.name->mg d.name=some (.ref fa)->
   s₁.heap.get? a=some {cls:= .type "list",data:= .seq vs.toArray}->IntsAre vs ns->ns.length<=n->(∀i∈ns,Builtin.Int.intBits i<=2^20)->s₁.gens= #[]->
   codeAny (model l.prog w) callerA (.call (.ref fa) ⟨[.ref a],[]⟩) (λr s'=>r= .ok (.ret (.bool true))/\OldK s₁.heap s'.heap/\s'.os=s₁.os/\AllBare s'.gens) s₁):
 WalkO q j XP YP l.row.toRowW d [] @cU:=by
 intro w s₀ s₁ mg mb G Y fa o pm cd doc dV kV ho hd O hD S hg Z W as B I aa R ab;obtain rfl:dV= .none:=Dflts.none hD U;obtain rfl:kV= .none:=Dflts.noKw hD;obtain ⟨a,vs,ns,rfl,rfl,F,z,J⟩:=Bn hn B R;rwa[enter_call (codeAny_mono (L w s₀ s₁ mg mb fa o pm cd doc a vs ns G Y ho (fd_plain hd) O S F z J (xK I) hg) λr s' hq=> ?_)];obtain ⟨rfl,h2,h3,h4⟩:=hq;exact ⟨.inl ⟨.bool true,.bool true,[],rfl,λ_=>rfl,.bool true,BI l _,λ_=>⟨List.Pairwise.nil,λ_ hm=>(nomatch hm)⟩⟩,h2,h3,h4⟩
open PySem.StrLaws Builtin.Str
noncomputable def jn (sp:List Nat):List (List Nat)->List Nat
 |[]=>[]
 |[p]=>p
 |p::q::r=>p++sp++jn sp (q::r)
structure FunD (K:Fg)(x qual:Str)(st:Stmt)(T f:Addr)(fd:FuncData):Prop where
 ex:∃(oc:Value) (od:Option Addr) (kV doc pm:Value) (an:Option Addr) (cdv ct:Value) (osl:Array @J),
  fd=W.fnOf x qual @dS @cS @bI (.ref T) kV doc pm an cdv ct/\K.lookup f=some ⟨oc,od,.func fd,osl⟩/\W.codeIn K cdv qual=true
structure CalD (P:Program)(w:World)(K:Fg)(mg:Str->Option Value)(base:Heap)(n:Nat)(x:Str)(ps:List Str)(dvs:List V)(sp:Sp):Prop where
 ex:∃f fd ds,au P w K mg base @co n f fd ps sp/\eG K fd ps ds/\aJ dvs ds/\W.keepIn K (.ref f)=true/\mg x=some (.ref f)
def RQ (P:Program)(w:World)(K:Fg)(mg:Str->Option Value)(base:Heap)(n:Nat)(f:Addr)(ps:List Str)(sp:Sp):Prop:=
 ∃fd,au P w K mg base aT n f fd ps sp/\eG K fd ps []/\W.keepIn K (.ref f)=true
theorem aU.fnv {P:Program}{w:World}{K:Fg}{mg:Str->Option Value}{base:Heap}{n:Nat}{x:Str}{ps:List Str}{sp:Sp}(c:aU P w K mg base n x ps sp):∃f,mg x=some (.ref f)/\RQ P w K mg base n f ps sp:=by
 obtain ⟨f,fd,F,b,k,B⟩:=c.ex;exact ⟨f,B,fd,F,b,k⟩
def jF (base:Heap)(mg:Str->Option Value):Prop:=∃bm o,mg "__builtins__"=some (.ref bm)/\bm≠builtinsNs/\bm≠mainGlobals/\base.get? bm=some o/\o.cls= .type "module"/\o.dict=some builtinsNs/\o.data= .plain
theorem Ca {P:Program}{w:World}{K:Frag}{mg mb:Str->Option Value}{CX:nV}{k:Nat}{fa a:Addr}{fd:FuncData}{x:Str}{sp:Sp}{j:Shared}{vs:List Value}{ns:List Int}{tabs:List (Addr×Addr)}
(S:∀q∈tabs,CodeHd j.heap q.1 q.2/\j.heap.get? q.2=some (tabObj #[]))(aj:noTabs K=true)(ak:jF j.heap mg)
(KX:K.In j.heap)(ac:j.heap.Ns mainGlobals mg)(L:j.heap.Ns builtinsNs mb)(am:∀x:Str,x≠"__name__"->mb x=bootBuiltins x)(ai:j.heap.NoLimit)(hg:j.gens= #[])
(ha:j.heap.get? a=some {cls:= .type "list",data:= .seq vs.toArray})(hi:IntsAre vs ns)(hl:ns.length<=sizeLine)(hr:bE k callerA)
(F:∀base:Heap,K.In base->base.Ns mainGlobals mg->jF base mg->au P w K mg base CX k fa fd [x] sp)(ab:∀(s:Shared) (u:Value),BindsTo s fd ⟨[u],[]⟩ [(x,u)])
(an:∀H:Hp,(∀q∈tabs,H q.2=some (.tbl #[]))->aA K H a @bV->sp [.ref a] H (λv _=>v= .bl true) λ_ _ _=>False)
(ap:∀H e s',CX [] H j @eE e s'->False):
 codeAny @Z callerA (.call (.ref fa) ⟨[.ref a],[]⟩) (λr s'=>r= .ok (.ret (.bool true))/\OldK j.heap s'.heap/\s'.os=j.os/\AllBare s'.gens) j:=by
 have rv:=sV hi;have ad:=hi.length
 have ta:∀q∈tabs,q.2≠a:=λq I z=>by have:=(S q I).2;rw [z,ha] at this;cases this
 have aa:∀H:Hp,aA K H a @bV->fI P w H j.heap->(∀q∈tabs,H q.2=some (.tbl #[]))->(∀b u,H b=some u->(∃q∈tabs,b=q.2)\/(b=a/\K.lookup a=none/\∃ob xs,u= .frz ob (.lst xs)))->
  codeAny @Z callerA (.call (.ref fa) ⟨[.ref a],[]⟩) (λr s'=>r= .ok (.ret (.bool true))/\OldK j.heap s'.heap/\s'.os=j.os/\AllBare s'.gens) j:=by
  intro H hS af ag hA;have B:∀ {b:Addr} {o:Obj},j.heap.get? b=some o->H b=none->(sJ j.heap H).get? b=some o:=λe n=>Fu e n
  have ao:∀ {b:Addr} {o:Obj},j.heap.get? b=some o->o.cls≠ .none->o.cls≠ .type "list"->H b=none:=λ{b o} e d1 d2=>by
   cases q:H b with
   |none=>rfl
   |some u=>
    rcases hA b u q with ⟨t,O,rfl⟩|⟨rfl,_,_⟩
    ·rw [(S t O).2] at e;cases e;exact absurd rfl d1
    ·rw [ha] at e;cases e;exact absurd rfl d2
  have al:∀ {b:Addr} {o:Obj} {es:Array DictEntry} {ep:Nat},j.heap.get? b=some o->o.data= .dict es ep->H b=none:=λ{b o es ep} e d=>by
   cases q:H b with
   |none=>rfl
   |some u=>
    rcases hA b u q with ⟨t,O,rfl⟩|⟨rfl,_,_⟩
    ·rw [(S t O).2] at e;cases e;cases d
    ·rw [ha] at e;cases e;cases d
  have R:∀ {b:Addr} {m:Str->Option Value},j.heap.Ns b m->(sJ j.heap H).Ns b m:=λ{b m} ⟨o,es,ep,e,d,r⟩=>⟨o,es,ep,B e (al e d),d,r⟩
  have ae:K.In @eF:=λb o e=>B (KX b o e) (by
   cases q:H b with
   |none=>rfl
   |some u=>
    rcases hA b u q with ⟨t,O,rfl⟩|⟨rfl,hk,_⟩
    ·have e2:=KX _ _ e;rw [(S t O).2] at e2;have h2:=all_eq_true.mp aj (t.2,o) (mem_of_lookupK e);cases e2;exact absurd (show false=true from h2) Bool.false_ne_true
    ·rw [hk] at e;cases e)
  have hM:Mod K mg @eF:=⟨ae,R ac,⟨mb,R L,am⟩,let ⟨mc,h1,h2⟩:=ai;⟨mc,R h1,h2⟩⟩;have hB:jF @eF mg:=let ⟨bm,o,h1,h2,h3,h4,h5,h6,h7⟩:=ak;⟨bm,o,h1,h2,h3,B h4 (ao h4 (by rw [h5];simp) (by rw [h5];simp)),h5,h6,h7⟩;have e0:nQ P w K mg @eF callerA [] j H:=⟨rfl,hM,λb o e=>IM e,Nat.le_of_eq (Ci _ _),trivial,λb L=>absurd (show b∈([]:List Addr) from L) @e,af,.of_eq hg⟩;rwa[codeAny_mono ((F _ ae (R ac) hB).run callerA [] j H ⟨[.ref a],[]⟩ [.ref a] [.ref a] _ _ hr e0 (ab j (.ref a)) (.cons rfl .nil) (an H ag hS)) λr s' h=> ?_]
  cases r with
  |error e=>exact (ap H e s' h).elim
  |ok fl=>
   cases fl with
   |next=>exact False.elim h
   |brk=>exact False.elim h
   |cont=>exact False.elim h
   |ret u=>
    obtain ⟨v,H',os,ah,un,Y,r',q⟩:=h;have q':v= .bl true:=q;subst q';obtain rfl:u=Value.bool true:=r';rwa[⟨rfl,⟨λb o e=> ?_,λb o e=>un.there b o e @e⟩,os,ah⟩]
    cases q:H b with
    |none=>exact .inl (un.keep b o e q (by intro z;exact absurd (show b∈([]:List Addr) from z) @e) @e)
    |some u=>
     rcases hA b u q with ⟨t,O,rfl⟩|⟨rfl,hk,ob,xs,rfl⟩
     ·obtain ⟨Z,e2⟩:=un.tbls _ _ (ag t O);have e3:s'.heap.get? t.2=some (tabObj (#[]++Z)):=Y _ _ e2;have e4:=(S t O).2;rw [e4] at e;cases e;exact .inr (.inl ⟨((S t O).1.tab e4).isCodeTable,rfl,#[],Z,rfl,e3⟩)
     ·have U:=un.frzs b ob _ q;obtain ⟨e1,_⟩:=af b _ q;obtain ⟨e2,_⟩:=Y b _ U;rw [e] at e1;cases e1;exact .inl e2
 have aq:∀(H:Hp),(∀b u,H b=some u->u= .tbl #[]->∃q∈tabs,b=q.2)->∀b,H b=some (.tbl #[])->be P w H j.heap b (.tbl #[]):=λH z b e=>by
  obtain ⟨q,I,rfl⟩:=z b _ e rfl;exact (S q I).2
 cases hk:K.lookup a with
 |some o=>
  have e:=KX a o hk;rw [ha] at e;cases e;rwa[aa (λb=>if b∈tabs.map (·.2) then some (.tbl #[]) else none) (.inr ⟨_,vs.toArray,_,hk,rfl,rfl,rfl,by rw [size_toArray,ad];exact hl,by simpa using rv⟩) @dB (λq I=>if_pos (mem_map_of_mem I)) @dB]
  ·by_cases J:b∈tabs.map (·.2)
   ·have W:=(if_pos J).symm.trans z;cases W;obtain ⟨q,I,rfl⟩:=mem_map.mp J;exact (S q I).2
   ·have W:=(if_neg J).symm.trans z;cases W
  ·by_cases J:b∈tabs.map (·.2)
   ·obtain ⟨q,I,rfl⟩:=mem_map.mp J;exact .inl ⟨q,I,rfl⟩
   ·have W:=(if_neg J).symm.trans z;cases W
 |none=>
  have na:a∉tabs.map (·.2):=λz=>by obtain ⟨q,I,e⟩:=mem_map.mp z;exact ta q I e
  rwa[aa (λb=>if b∈tabs.map (·.2) then some (.tbl #[]) else if b=a then some (.frz {cls:= .type "list",data:= .seq vs.toArray} (.lst @bV)) else none) (.inl (.inr ⟨{cls:= .type "list",data:= .seq vs.toArray},(if_neg na).trans (if_pos rfl)⟩)) @dB (λq I=>if_pos (mem_map_of_mem I)) @dB]
  ·by_cases J:b∈tabs.map (·.2)
   ·have W:=(if_pos J).symm.trans z;cases W;obtain ⟨q,I,rfl⟩:=mem_map.mp J;exact (S q I).2
   ·have W:=(if_neg J).symm.trans z;by_cases L:b=a
    ·have U:=(if_pos L).symm.trans W;cases U;subst L;exact ⟨ha,by rw [length_map];exact hl,vs,_,rv,ha⟩
    ·have U:=(if_neg L).symm.trans W;cases U
  ·by_cases J:b∈tabs.map (·.2)
   ·obtain ⟨q,I,rfl⟩:=mem_map.mp J;exact .inl ⟨q,I,rfl⟩
   ·have W:=(if_neg J).symm.trans z;by_cases L:b=a
    ·have U:=(if_pos L).symm.trans W;cases U;exact .inr ⟨L,hk,_,_,rfl⟩
    ·have U:=(if_neg L).symm.trans W;cases U
theorem C2 {l:OpenLaw}{n k:Nat}{q:Program}{B:List Str}{XP:(Str->Option Value)->Heap->Prop}{YP:World->Heap->Prop}{d:DefRec}{K:Params->Frag}{CX:World->nV}{sp:World->Sp}{x:Str}{tabs:World->List (Addr×Addr)}
(hn:l.most=some n)(Z:n<=sizeLine)(U:d.params.defaults=[])(hr:bE k callerA)
(hY:∀(w:World) (h:Heap),YP w h->(K w.params).In h/\∀t∈tabs w,h.get? t.2=some (tabObj #[]))(aj:∀w:World,noTabs @bJ=true)(O:∀w:World,∀t∈tabs w,codeHdIn @bJ t.1 t.2=true)
(F:∀(w:World) (mg:Str->Option Value) (fa:Addr) (h:Heap),(K w.params).In h->h.Ns mainGlobals mg->mg d.name=some (.ref fa)->
   ∃fd:FuncData,(∀(s:Shared) (u:Value),BindsTo s fd ⟨[u],[]⟩ [(x,u)])/\
    ∀base:Heap,(K w.params).In base->base.Ns mainGlobals mg->jF base mg->au l.prog w @bJ mg base (CX w) k fa fd [x] (sp w))
(aa:∀(w:World) (H:Hp) (a:Addr) (ns:List Int),ns.length<=n->(∀i∈ns,Builtin.Int.intBits i<=2^20)->(∀t∈tabs w,H t.2=some (.tbl #[]))->aA @bJ H a @bV->sp w [.ref a] H (λv _=>v= .bl true) λ_ _ _=>False)
(ap:∀(w:World) (H:Hp) (s:Shared) (e:Value) (s':Shared),CX w [] H s @eE e s'->False):
 WalkO q B XP YP l.row.toRowW d [] @cU:=by
 rwa[vJ hn U λw s₀ s₁ mg mb fa o pm cd ac a vs ns G Y ho hd ab S L J j I hg=> ?_];obtain ⟨W,hT⟩:=hY w _ Y;obtain ⟨fd,hb,hF⟩:=F w mg fa _ W G.T.g S
 have ak:jF s₁.heap mg:=by
  obtain ⟨bm,ob,h1,h2,R,h4,h5,h6⟩:=G.T.bmain;rwa[⟨bm,ob,h1,h2,λz=> ?_,R,h4,h5,h6⟩];obtain ⟨o',es,ep,e',d',_⟩:=G.T.g;rw [z,e'] at R;cases R;rw [d'] at h6;cases h6
 exact Ca (tabs:=tabs w) (λt ht=>⟨codeHd_of_K W (O w t ht),hT t ht⟩) (aj w) ak W G.T.g G.T.b G.T.builtins G.T.nolimit hg L J (Nat.le_trans j Z) hr hF hb (λH ag hS=>aa w H a ns j I ag hS) λH e s'=>ap w H s₁ e s'
noncomputable def xT (c:Addr)(q:Str):HO:= .ext λh=>h.CodeRec (.ref c) q
noncomputable def Ab (a:Addr)(o:Obj):HO:= .ext λh=>h.get? a=some o
section
variable {P:Program}{w:World}{H:Hp}{h:Heap}
theorem Jr {c:Addr}{q:Str}(e:h.CodeRec (.ref c) q):be P w H h c (xT c q):=by
 obtain ⟨W,J,vs,Z,I,ae,Y,S⟩:=id e;cases I
 exact ⟨e,⟨J,ae⟩,λh1 h2 z k=>by
  obtain ⟨c1,O,B,L,R,U,j,F⟩:=z;cases R
  exact ⟨_,O,B,L,rfl,k _ U,j,F⟩⟩
theorem AD {a:Addr}{o:Obj}(e:h.get? a=some o):be P w H h a (Ab a o):=⟨e,⟨o,e⟩,λh1 h2 z k=>k _ z⟩
end
def cF (H:Hp)(P:Addr)(q:Str):Prop:=∃ps,H P=some (.tbl ps)/\TriplesOk ps.toList/\∀pos cv,codeAmong pos ps.toList=some cv->∃c',cv= .ref c'/\H c'=some (xT c' q)
def fq (P:Addr)(H H':Hp):Prop:=∀b o,b≠P->H b=some o->H' b=some o
def aI (H H':Hp):Prop:=∀b o,(∀ps,o≠ .tbl ps)->H b=some o->H' b=some o
theorem aI.refl (H:Hp):aI H H:=λ_ _ _ e=>e
theorem aI.trans {H H1 H2:Hp}(a:aI H H1)(b:aI H1 H2):aI H H2:=λc o n e=>b c o n (a c o n e)
theorem ao.nt {H H':Hp}(s:ao H H'):aI H H':=λb o _ e=>s b o e
theorem fq.nt {P:Addr}{H H':Hp}{ps:Array Value}(s:fq P H H')(O:H P=some (.tbl ps)):aI H H':=λb o n e=>s b o (λz=>by rw [z,O] at e;cases e;exact n _ rfl) e
theorem cF.same {H H':Hp}{P:Addr}{q:Str}(t:cF H P q)(s:ao H H'):cF H' P q:=
 let ⟨ps,h1,h2,h3⟩:=t;⟨ps,s _ _ h1,h2,λpos z e=>let ⟨c',a,b⟩:=h3 pos z e;⟨c',a,s _ _ b⟩⟩
theorem cF.sameP {H H':Hp}{P B:Addr}{q:Str}{j:Array Value}(t:cF H P q)(s:fq B H H')(F:H B=some (.tbl j))(J:P≠B):cF H' P q:=
 let ⟨ps,h1,h2,h3⟩:=t;⟨ps,s _ _ J h1,h2,λpos I e=>let ⟨c',a,b⟩:=h3 pos I e;⟨c',a,s _ _ (λz=>by rw [z,F] at b;cases b) b⟩⟩
theorem kB {a b:Int}{t u:Tok}{c:Value}:∀ {l:List Value},TriplesOk l->TriplesOk (l++[.int a t,.int b u,c])
 |[],_=>trivial
 | .int _ _:: .int _ _::_::r,h=>kB (l:=r) h
theorem rS {a b:Int}{t u:Tok}{c:Value}{pos:Pos}{j:Value}:∀ {l:List Value},TriplesOk l->codeAmong pos (l++[.int a t,.int b u,c])=some j->codeAmong pos l=some j\/j=c
 |[],_,h=>by
  simp only [nil_append,codeAmong] at h;split at h
  ·cases h;exact .inr rfl
  ·cases h
 | .int x _:: .int y _::z::r,ok,h=>by
   have h:(if x==pos.line&&y==pos.col then some z else codeAmong pos (r++[.int a t,.int b u,c]))=some j:=h;show (if x==pos.line&&y==pos.col then some z else codeAmong pos r)=some j\/_;by_cases R:(x==pos.line&&y==pos.col)=true
   ·rw [if_pos R] at h ⊢;exact .inl h
   ·rw [if_neg R] at h ⊢;exact rS (l:=r) ok h
def Q1 (P:Addr)(q:Str)(mk:Addr->Value->Obj):TE:=λσ H Q=>cF H P q/\∀f c' ctv H',fq P H H'->H f=none->H' f=some (Ab f (mk c' ctv))->H' c'=some (xT c' q)->cF H' P q->Q (.ref f) H'
theorem Er {X:Cx}{c P:Addr}{j:Arguments}{B:Expr}{scope:Scope}{F:List (Str×Addr)}{pos:Pos}(S:X.env.code= .ref c)(C:CodeHd X.base c P)(hB:jF X.base X.mg)(ab:defaultsOf j X.env=([],[]))(af:closureFor scope X.env=pure F):
 PE X (.Lambda j B scope pos) (Q1 P (X.env.qual++"<lambda>") λc' ctv=>kla_obj "<lambda>" (X.env.qual++"<lambda>") j B scope F ((X.mg "__name__").getD .none) c' ctv):=by
 intro pins s σ H Q I ⟨T,h⟩;rwa[kla_eval ab ?_];obtain ⟨ps,O,ht,hc⟩:=id T;have ad:s.heap.get? P=some (tabObj ps):=I.hok P _ O;have C':=C.keeps I.bk;have hg:s.heap.Ns mainGlobals X.mg:=I.ok.mod.glob.keeps I.bk
 have nb:∀ {b:Addr} {o:Obj},X.base.get? b=some o->b≠P:=λ{b o} e z=>by have:=(I.bs b o e).2;rw [z,O] at this;cases this
 have ah:mainGlobals≠P:=by
  obtain ⟨o,es,ep,e,_⟩:=I.ok.mod.glob;exact nb e
 have hb:s.heap.BuiltinsAt X.mg P:=by
  obtain ⟨bm,o,h1,h2,h3,h4,h5,h6,h7⟩:=hB;exact ⟨bm,o,h1,h2,h3,nb h4,I.bk _ _ h4,h5,h6,h7⟩
 cases hm:codeAmong pos ps.toList with
 |none=>
  rwa[kla_makeFunction af I.ok.glob hg S C' ad ht hm ah hb λc' ctv h' tk hx R ae ac Y=> ?_];generalize Z:kla_obj "<lambda>" (X.env.qual++"<lambda>") j B scope F ((X.mg "__name__").getD .none) c' ctv=L;generalize aa:ps++ #[rawInt pos.line,rawInt pos.col,.ref c']=W at Y;have J:s.heap.objs.size<=h'.objs.size:=Nat.le_trans R (Nat.le_of_lt ae);have lt:∀ {b:Addr} {u:HO},H b=some u->b<s.heap.objs.size:=λe=>I.hok.lt e;have ak:c'≠P:=Nat.ne_of_gt (Nat.lt_of_lt_of_le (lt O) R);have aj:h'.objs.size≠P:=Nat.ne_of_gt (Nat.lt_of_lt_of_le (lt O) J);have an:h'.objs.size≠c':=Nat.ne_of_gt ae;have ap:H c'=none:=I.hok.fresh R;have U:H h'.objs.size=none:=I.hok.fresh J
  let H':Hp:=upd (upd (upd H P (.tbl W)) c' (xT c' (X.env.qual++"<lambda>"))) h'.objs.size (Ab h'.objs.size L)
  have ne:∀ {b:Addr} {u:HO},b≠P->H b=some u->H' b=some u:=λ{b u} nP e=>by
   have l:=lt e;show upd @bC h'.objs.size _ b=_;rw [ai (Nat.ne_of_lt (Nat.lt_of_lt_of_le l J)),ai (Nat.ne_of_lt (Nat.lt_of_lt_of_le l R)),ai nP];exact e
  have eP:H' P=some (.tbl W):=by
   show upd @bC h'.objs.size _ P=_;rw [ai aj.symm,ai ak.symm];exact ag
  have ec:H' c'=some (xT c' (X.env.qual++"<lambda>")):=by
   show upd @bC h'.objs.size _ c'=_;rw [ai an.symm];exact ag
  have ef:H' h'.objs.size=some (Ab h'.objs.size L):=ag;have kp:∀b o,b≠P->s.heap.get? b=some o->(h'.push L).get? b=some o:=λb o nP e=>Heap.get?_push_of_some _ (hx b o nP e);have tP:(h'.push L).get? P=some (tabObj W):=Heap.get?_push_of_some _ Y
  have nP:∀ {b:Addr},H b=none->b≠P:=λ{b} n z=>by rw [z,O] at n;cases n
  have un:Un X.fs [] H H' s.heap (h'.push L):=by
   rwa[⟨λb o e n _ _=>kp b o (nP n) e,λb o e n _ _=>⟨o.slots,kp b o (nP n) e⟩,λb o e n _=> ?_,λb o e _=> ?_,λb xs e=>ne (λz=>by rw [z,O] at e;cases e) e,λb o u e=>ne (λz=>by rw [z,O] at e;cases e) e,λb qs e=> ?_⟩]
   ·have l:=Heap.lt_size e;show upd @bC h'.objs.size _ b=_;rw [ai (Nat.ne_of_lt (Nat.lt_of_lt_of_le l J)),ai (Nat.ne_of_lt (Nat.lt_of_lt_of_le l R)),ai (nP n)];exact n
   ·by_cases z:b=P
    ·exact ⟨_,by rw [z];exact tP⟩
    ·exact ⟨o,kp b o z e⟩
   ·by_cases z:b=P
    ·rw [z,O] at e;cases e;exact ⟨#[rawInt pos.line,rawInt pos.col,.ref c'],by rw [z,eP,<-aa]⟩
    ·exact ⟨#[],by rw [ne z e];simp⟩
  have al:fI X.prog X.w H' (h'.push L):=by
   intro b u e;by_cases z1:b=h'.objs.size
   ·rw [z1,ef] at e;cases e;rw [z1];exact AD (Heap.get?_push_size _ (by rw [<-Z];rfl))
   by_cases z2:b=c'
   ·rw [z2,ec] at e;cases e;rw [z2];exact Jr (ac.keeps λb o e=>Heap.get?_push_of_some _ e)
   by_cases z3:b=P
   ·rw [z3,eP] at e;cases e;rw [z3];exact tP
   ·have e':H b=some u:=by
     have e:upd @bC h'.objs.size _ b=some u:=e;rw [ai z1,ai z2,ai z3] at e;exact e
    rwa[(I.hok b u e').stay (λd v hd r=> ?_) (λd r=>ne (λz=>by rw [z,O] at r;cases r) r) λd xs r=>ne (λz=>by rw [z,O] at r;cases r) r];rwa[kp d v @s r]
    rcases hd with hd|hd
    ·exact z3 (hd.symm.trans z)
    ·rw [z,O] at hd;cases hd
  rwa[⟨.ref h'.objs.size,H',I.un (t':=tk) un al,rfl,h _ c' ctv H' (λb o n e=>ne n e) U (by rw [<-Z] at ef;exact ef) ec ⟨W,eP,?_,λpos' cv e=> ?_⟩⟩]
  ·rw [<-aa,Array.toList_append];exact kB ht
  ·rw [<-aa,Array.toList_append] at e
   rcases rS ht e with z|z
   ·obtain ⟨d,e1,e2⟩:=hc pos' cv z;exact ⟨d,e1,ne (λy=>by rw [y,O] at e2;cases e2) e2⟩
   ·exact ⟨c',z,ec⟩
 |some cv=>
  obtain ⟨c',rfl,am⟩:=hc pos cv hm;rwa[kla_makeFunctionHit af I.ok.glob hg S C' ad ht hm hb λctv h' tk hk J=> ?_];have k2:∀b o,s.heap.get? b=some o->(h'.push (kla_obj "<lambda>" (X.env.qual++"<lambda>") j B scope F ((X.mg "__name__").getD .none) c' ctv)).get? b=some o:=λb o e=>Heap.get?_push_of_some _ (hk b o e);have U:H h'.objs.size=none:=I.hok.fresh J;have sm:ao H (upd H h'.objs.size (Ab h'.objs.size (kla_obj "<lambda>" (X.env.qual++"<lambda>") j B scope F ((X.mg "__name__").getD .none) c' ctv))):= .upd U;exact ⟨.ref h'.objs.size,_,I.laid (t':=tk) k2 J (AD (Heap.get?_push_size _ rfl)),rfl,h _ c' ctv _ (λb o _ e=>sm b o e) U ag (sm _ _ am) (T.same sm)⟩
structure i7 (ps fs:List Str)(sc:Scope):Prop where
 kind:sc.kind= .function
 co:sc.isCoroutine=false
 gen:sc.isGenerator=false
 nd:(ps++fs).Nodup
 par:∀x∈ps,sc.names.lookup x=some .local
 fre:∀x∈fs,sc.names.lookup x=some .free
 nocell:∀x∈sc.names,x.2≠ .cell
 only:∀y∈sc.names,y.2= .free->y.1∈fs
noncomputable def Pp (P:Program)(w:World)(K:Frag)(mg:Str->Option Value)(base:Heap)(N:List Str)(qual:Str)(scope:Scope)(f:Addr)(cd:Value)(cl:List (Str×Addr))(A:Around)(outer:List Env)(s:Shared)(H:Hp):Cx where
 prog:=P
 w:=w
 K:=K
 mg:=mg
 base:=base
 A:=A.deeper (envX qual scope s.heap.objs.size f cd cl)
 N:=N
 s₀:=s
 H₀:=H
 env:=envX qual scope s.heap.objs.size f cd cl
 outer:=outer
 stack:=envX qual scope s.heap.objs.size f cd cl::outer
 ex:=[]
 calm:=true
 fn:=λ_=>false
 pn:=[]
 xe:=λ_ _=>False
theorem zo {ps:List Str}{us:List Value}{i:Nat}{x:Str}{u:Value}(J:ps.Nodup)(h1:ps[i]? =some x)(h2:us[i]? =some u):(ps.zip us).reverse.lookup x=some u:=by
 have L:(ps.zip us)[i]? =some (x,u):=by rw [getElem?_zip_eq_some];exact ⟨h1,h2⟩
 have F:(x,u)∈(ps.zip us).reverse:=mem_reverse.mpr (mem_of_getElem? L)
 have z:∀v,(x,v)∈(ps.zip us).reverse->v=u:=λv Y=>by
  obtain ⟨j,Z⟩:=mem_iff_getElem?.mp (mem_reverse.mp Y);obtain ⟨I,B⟩:=getElem?_zip_eq_some.mp Z;have:j=i:=qS J I h1;subst this;rw [h2] at B;exact (Option.some.inj B).symm
 cases e:(ps.zip us).reverse.lookup x with
 |none=>
  have:=lookup_eq_none_iff.mp e (x,u) F;simp at this
 |some v=>rw [z v (PySem.mem_of_lookup e)]
theorem IW {P:Program}{w:World}{K:Frag}{mg:Str->Option Value}{base:Heap}{k:Nat}{f Y:Addr}{name qual:Str}{B:Arguments}{F:Expr}{scope:Scope}{L:List (Str×Addr)}{pm af:Value}{ps fs:List Str}{A:Around}{outer:List Env}{s:Shared}{H:Hp}{us:List Value}{vs fvs:List V}{Q:VK}{E:XK}
(S:i7 ps fs scope)(hf:s.heap.get? f=some (kla_obj name qual B F scope L pm Y af))(aj:s.heap.CodeRec (.ref Y) qual)(hr:bE (k+1) A)(R:nQ P w K mg base A outer s H)
(ac:bindArgs (kla_fn name qual B F scope L pm (.ref Y) af) ⟨us,[]⟩=pure @cu)(r:aJ vs us)(hl:vs.length=ps.length)(am:fvs.length=fs.length)
(j:∀(i:Nat) x v,fs[i]? =some x->fvs[i]? =some v->∃c u,L.lookup x=some c/\ay v u/\s.heap.IsCell c @fk)(ah:∀x c,L.lookup x=some c->x∈fs)
(ag:∀x y c,L.lookup x=some c->L.lookup y=some c->x=y)(ab:∀x c,L.lookup x=some c->H c=none)
(aa:bE k (A.deeper (envX qual scope s.heap.objs.size f (.ref Y) L))->∃t,PE (Pp P w K mg base (ps++fs) qual scope f (.ref Y) L A outer s H) F t/\t ((vs++fvs).map some) H Q):
 codeAny @Z A (.call (.ref f) ⟨us,[]⟩) @dn s:=by
 have ul:us.length=ps.length:=by rw [<-r.length,hl]
 rwa[kla_callFunE hr.depth hf rfl S.co S.gen rfl aj ?_];rw [ac];have al:s.heap.NoLimit:=R.mod.nolimit.keeps λb o e=>(R.bs b o e).1;rwa[wpAny_pure (wpAny_newFunctionEnv S.nocell (λy W=>S.par _ (of_mem_zip W).1) (λh₁ ai ae=>⟨al.fresh _ ae,?_⟩) S.kind)];show codeAny _ _ (.expr F (envX qual scope s.heap.objs.size f (.ref Y) L)) _ _;have hk:∀b o,s.heap.get? b=some o->h₁.get? b=some o:=λb o e=>ae.extBut b o (Nat.ne_of_lt @bW) (Heap.get?_push_of_some _ e);obtain ⟨t,ht,hq⟩:=aa (hr.deeper _)
 have U:∀x c,L.lookup x=some c->∃u,s.heap.IsCell c @fk:=λx c e=>by
  obtain ⟨i,hi⟩:=mem_iff_getElem?.mp (ah x c e);have ak:i<fs.length:=(List.getElem?_eq_some_iff.mp hi).1;obtain ⟨c2,u,e2,_,hc⟩:=j i x _ hi (getElem?_eq_getElem @b);rw [e] at e2;cases e2;exact ⟨u,hc⟩
 have O:∀ {c:Addr} {v:Option Value},s.heap.IsCell c v->h₁.IsCell c v:=λ{c v} ⟨o,ho,hd⟩=>⟨o,hk _ _ ho,hd⟩;have Z:∀x,scope.names.lookup x=some .free->x∈fs:=λx e=>S.only _ (PySem.mem_of_lookup e) rfl
 have I:av (Pp P w K mg base (ps++fs) qual scope f (.ref Y) L A outer s H) [] ((vs++fvs).map some) H {s with heap:=h₁,toks:=s.toks+(ps.zip us).length}:=by
  have ad:∀b:Addr,b∉(Pp P w K mg base (ps++fs) qual scope f (.ref Y) L A outer s H).ex:=λb z=>absurd (show b∈([]:List Addr) from z) @e
  refine ⟨⟨R.mod,S.kind,rfl,rfl,Nat.le_refl _,ag,λy W=> ?_,λy c z _=>(nomatch (show false=true from z)),λ_=>hr.hd,Around.frames_deeper R.frames,.inr ⟨rfl,rfl⟩,λb z=>absurd z (ad b),R.bs,R.bsz,λb _ _=>ad b,λb z=>absurd z (ad b),R.funs,R.frf⟩,
   rfl,R.bare,Un.kept hk,⟨_,ai,λi y v h1 h2 h3=> ?_⟩,λy c h=> ?_,R.hok.fresh @f,ab,λp hp=>absurd (show p∈([]:List (Addr×Obj)) from hp) @e,R.hok.kept hk,?_⟩
  ·have W:scope.names.lookup y=some .cell\/scope.names.lookup y=some .free:=W
   rcases W with W|W
   ·exact absurd rfl (S.nocell _ (PySem.mem_of_lookup W))
   ·obtain ⟨i,hi⟩:=mem_iff_getElem?.mp (Z y W);have ak:i<fs.length:=(List.getElem?_eq_some_iff.mp hi).1;obtain ⟨c2,u,e2,_⟩:=j i y _ hi (getElem?_eq_getElem @b);exact ⟨c2,e2⟩
  ·have h1:(ps++fs)[i]? =some y:=h1;rw [getElem?_map] at h2;obtain ⟨v',hv,e⟩:=Option.map_eq_some_iff.mp h2;cases e;by_cases hi:i<ps.length
   ·rw [getElem?_append_left hi] at h1;rw [getElem?_append_left @b] at hv;obtain ⟨u,hu,rv⟩:=r.get hv;rwa[⟨u,rv,.inl ⟨S.par y (mem_of_getElem? h1),?_⟩⟩];exact zo (nodup_append.mp S.nd).1 h1 hu
   ·rw [getElem?_append_right @b] at h1;rw [getElem?_append_right @b,hl] at hv;obtain ⟨c,u,e2,rv,hc⟩:=j _ y _ h1 hv;exact ⟨u,rv,.inr ⟨.inr (S.fre y (mem_of_getElem? h1)),c,e2,O hc⟩⟩
  ·obtain ⟨u,hc⟩:=U y c h;exact ⟨_,O hc⟩
  ·show _=(ps++fs).length;rw [length_map,length_append,length_append];lia
 rwa[kla_codeExpr (wpAny_mono (ht [] _ _ H Q I hq) (λu s' hs=> ?_) λe s' hs=>False.elim hs)];obtain ⟨v,H',J,rv,q⟩:=hs;exact ⟨v,H',J.os,J.bare,J.base,J.hok,rv,q⟩
structure ko (P:Program)(w:World)(K:Frag)(mg:Str->Option Value)(base:Heap)(n:Nat)(f:Addr)(sp:Sp):Prop where
 run:∀(A:Around) (outer:List Env) (s:Shared) (H:Hp) (us:List Value) (vs:List V) (Q:VK) (E:XK),bE n A->nQ P w K mg base A outer s H->aJ vs us->sp vs H Q E->codeAny @Z A (.call (.ref f) ⟨us,[]⟩) @dn s
 keep:∀(vs:List V) (H:Hp) (Q:VK) (E:XK) (h:Heap),sp vs H Q E->fI P w H h->K.In h->∃k,(k=Keeper.frame\/k=Keeper.machine\/k=Keeper.boundFrame)/\Looks @Z h @ei k
theorem RQ.cal {P:Program}{w:World}{K:Frag}{mg:Str->Option Value}{base:Heap}{n:Nat}{f:Addr}{ps:List Str}{sp:Sp}(F:RQ P w K mg base n f ps sp):ko P w K mg base n f sp:=by
 obtain ⟨fd,F,b,k⟩:=F;rwa[⟨λA outer s H j R Q E S B r h=> ?_,λR H Q E h _ _ z=>keeps_K k h z⟩];have z:K.In s.heap:=B.mod.kin.keeps λb o e=>(B.bs b o e).1
 have L:aJ R (j++[]):=by rw [append_nil];exact r
 have W:(j++[]).length=ps.length:=by rw [<-L.length];exact F.len _ _ _ _ h
 exact F.run A outer s H ⟨j,[]⟩ (j++[]) R Q E S B (b s j z W) L h
section
variable {X:Cx}{x:Str}{p pos:Pos}{e:Expr}{es:List Expr}{t:TA}{n m:Nat}
def K4 (P:Program)(w:World)(K:Frag)(mg:Str->Option Value)(base:Heap)(m:Nat)(i:Nat)(t:TA):TE:=λσ H Q=>∃f n sp,σ[i]? =some @bb/\n<=m/\ko P w K mg base n f sp/\t σ H λvs H1=>sp vs H1 Q E0
theorem Ev (i:Nat)(hr:bE m X.A)(Y:X.N[i]? =some x)(hv:Np X.env.scope x)(ha:PA X (e::es) t)(U:(x==("__debug__":Str))=false:=by decide)(O:(x==("__classdict__":Str))=false:=by decide)
(hp:aW (e::es)=true:=by rfl):PE X (.Call (.Name x p) (e::es) [] pos) (K4 X.prog X.w X.K X.mg X.base m i t):=by
 have h':(bB e&&aW es)=true:=hp;rw [Bool.and_eq_true] at h';intro pins s σ H Q I h;obtain ⟨f,n,sp,hσ,Z,C,h⟩:=h;rwa[wpAny_Call_Name_kw (br (En (X:=X) Y hv U O pins s σ H (λv H1=>v= .ref f/\H1=H) I ⟨.ref f,hσ,rfl,rfl⟩) λu W ⟨v,H0,I0,R,ev,eH⟩=> ?_)];subst ev;subst eH;have R:u=Value.ref f:=R;subst R;have he:=bg (env:=X.env) (es:=es) h'.1;have L:(backTo pos @O).any (·.1)=false:=b9 h'.2
 have j:wpAny @d X.A (spliced (backTo pos (starEach (e::es) X.env))) (λS J=>(∃k,(k=Keeper.frame\/k=Keeper.machine\/k=Keeper.boundFrame)/\Looks @d J.heap @ei k)/\wpAny @d X.A (call (.ref f) ([]++S)) @p X.xe J) X.xe W:=by
  rwa[br (ha pos pins W σ H0 _ I0 h) λS J ⟨vs,H1,B,r,q⟩=>⟨C.keep _ _ _ _ _ q B.hok B.kIn,?_⟩];rwa[wpAny_call (codeAny_mono (C.run X.A X.stack J H1 S vs Q E0 (hr.mono Z) B.env0 r q) λr s' F=> ?_)]
  cases r with
  |error e=>exact False.elim F
  |ok fl=>
   cases fl with
   |ret u=>exact B.after F
   |next=>exact False.elim F
   |brk=>exact False.elim F
   |cont=>exact False.elim F
 rw [he] at j ⊢;exact callWith_of (P:=λh=>∃k,(k=Keeper.frame\/k=Keeper.machine\/k=Keeper.boundFrame)/\Looks @d h @ei k) (by show ((false||(backTo pos @O).any (·.1))||false)=false;rw [L];rfl) (λh z=>z) (evalArgs_plain j)
end
theorem au.calm {P:Program}{w:World}{K:Frag}{mg:Str->Option Value}{base:Heap}{k:Nat}{f:Addr}{fd:FuncData}{ps:List Str}{sp:Sp}(F:au P w K mg base @co k f fd ps sp):au P w K mg base aT k f fd ps (λvs H Q _=>sp vs H Q E0):=by
 rwa[⟨λvs H Q E h=>F.len _ _ _ _ h,λA outer s H j I vs Q E S R O r h=>codeAny_mono (F.run A outer s H j I vs Q E0 S R O r h) λJ s' B=> ?_⟩]
 cases J with
 |ok fl=>cases fl<;>exact B
 |error e=>obtain ⟨a,T,L,Z,H',_,_,_,_,_,_,_,_,_,_,z⟩:=B;exact z.elim
theorem JE.calm {P:Program}{w:World}{K:Frag}{mg:Str->Option Value}{base:Heap}{n:Nat}{x:Str}{ps:List Str}{sp:Sp}(c:JE P w K mg base n x ps sp):aU P w K mg base n x ps (λvs H Q _=>sp vs H Q E0):=by
 obtain ⟨f,fd,F,b,k,B⟩:=c.ex;exact ⟨f,fd,F.calm,b,k,B⟩
section
variable {X:Cx}{pins:List (Addr×Obj)}{σ:St}{H:Hp}{s:Shared}{h':Heap}
theorem av.sub {j:List (Addr×Obj)}(I:av X pins σ H s)(h:∀p∈j,p∈pins):av X j σ H s:=I.pins_of λp F=>I.pin p (mem_append_right _ (h p F))
theorem av.repin {t':Nat}{a:Addr}{o o':Obj}(I:av X ((a,o)::pins) σ H s)(W:X.s₀.heap.objs.size<=a)(j:∀p∈X.pn++pins,p.1≠a)(k:∀b u,b≠a->s.heap.get? b=some u->h'.get? b=some u)(L:h'.get? a=some o')(Y:∀v,o'.data≠ .cell v):
 av X ((a,o')::pins) σ H {s with heap:=h',toks:=t'}:=by
 obtain ⟨S,p2,B,U,O⟩:=I.pin (a,o) @x;have R:av X pins σ H s:=I.sub λp F=> .tail _ F
 have J:av X pins σ H {s with heap:=h',toks:=t'}:=R.turned (it:=a) k p2 B (.inr W) (λx c e z=>by
  obtain ⟨v,Z,h1,h2⟩:=I.cell x c e;rw [z] at h1;have S:s.heap.get? a=some o:=S;rw [S] at h1;cases h1
  exact O v h2) j
 rwa[J.pins_of λp F=> ?_]
 rcases mem_cons.mp F with rfl|F
 ·exact ⟨L,p2,B,U,Y⟩
 ·exact J.pin p (mem_append_right _ F)
theorem av.pinNew {t':Nat}{a:Addr}{o:Obj}(I:av X pins σ H s)(F:s.heap.objs.size<=a)(k:∀b u,s.heap.get? b=some u->h'.get? b=some u)(z:h'.get? a=some o)(J:∀v,o.data≠ .cell v):av X ((a,o)::pins) σ H {s with heap:=h',toks:=t'}:=by
 rwa[(I.kept (t':=t') k).pins_of λp j=> ?_]
 rcases mem_cons.mp j with rfl|j
 ·exact ⟨z,I.hok.fresh F,Nat.ne_of_gt (Nat.lt_of_lt_of_le I.lt F),I.nofs F,J⟩
 ·exact (I.kept (t':=t') k).pin p @dL
end
def Gz (X:Cx)(σ:St)(f:Addr)(xs:List V)(J:Hp->Prop)(kf:Nat->Int):Prop:=
 ∀(pins:List (Addr×Obj)) (s:Shared) (H:Hp) (i:Nat) (v:V) (u:Value),av X pins σ H s->J H->xs[i]? =some v->ay v u->
  wpAny @d X.A.in1 @eg (λr s'=>∃H',av X pins σ H' s'/\ay (.int (kf i)) r/\J H') @dH s
def Nm (xs:List V)(kf:Nat->Int)(i:Nat):Prop:=∀j,j<xs.length->kf i<=kf j/\(j<i->kf i<kf j)
theorem jc {X:Cx}{pins:List (Addr×Obj)}{σ:St}{H:Hp}{s:Shared}{l:Addr}{xs:List V}(I:av X pins σ H s)(e:H l=some (.lst xs)):∃us:List Value,aJ xs us/\s.heap.IsList l us.toArray:=by
 obtain ⟨_,us,n,r,h1⟩:=(show be X.prog X.w H s.heap l (.lst xs) from I.hok l _ e);exact ⟨us,r,_,h1,rfl,n,rfl⟩
theorem IP {X:Cx}{pins:List (Addr×Obj)}{σ:St}{l S It f:Addr}{xs:List V}{dv:Value}{R:Result->Shared->Prop}(O:Nat->Int)(J:Hp->Prop)(hh:X.A.handled=none)(ac:∀H,J H->H l=some (.lst xs))
(aD:X.s₀.heap.objs.size<=It)(ar:X.s₀.heap.objs.size<=S)(ak:∀p∈X.pn++pins,p.1≠It)(aj:∀p∈X.pn++pins,p.1≠S)(ab:S≠It)(ao:Gz X σ f xs J O)
(hR:∀i v u s' H,xs[i]? =some v->ay v u->Nm xs O i->J H->av X pins σ H s'->R (.ok (.ret u)) s'):
 ∀(r j i:Nat) (s:Shared) (H:Hp) (v:V) (vb:Value) (tb:Tok) (c:Nat) (oI:Obj),xs.length - (j+1)=r->j+1<=xs.length->
  av X ((S,seqObj "list" #[vb,.int (O i) tb] c)::(It,oI)::pins) σ H s->J H->s.heap.IsListIter It l (j+1)->xs[i]? =some v->ay v vb->i<=j->(∀j',j'<=j->O i<=O j'/\(j'<i->O i<O j'))->
  codeAny @d X.A (.builtin "min.loop" ⟨[.ref It,.ref f,.ref S],[("default",dv)]⟩) R s:=by
 have Z:(toString "min"++toString ".loop":String)="min.loop":=by decide
 have aG:∀(o:Obj),∀p∈X.pn++(S,o)::pins,p.1≠It:=λo p B=>by
  rcases mem_append.mp B with B|B
  ·exact ak p (mem_append_left _ B)
  ·rcases mem_cons.mp B with rfl|B
   ·exact ab
   ·exact ak p (mem_append_right _ B)
 have aw:∀(o:Obj),∀p∈X.pn++(It,o)::pins,p.1≠S:=λo p B=>by
  rcases mem_append.mp B with B|B
  ·exact aj p (mem_append_left _ B)
  ·rcases mem_cons.mp B with rfl|B
   ·exact ab.symm
   ·exact aj p (mem_append_right _ B)
 have af:∀ {a b:Addr×Obj},∀p∈a::b::pins,p∈b::a::pins:=λ{a b} p B=>by
  rcases mem_cons.mp B with rfl|B
  ·exact .tail _ (.head _)
  ·rcases mem_cons.mp B with rfl|B
   ·exact .head _
   ·exact .tail _ (.tail _ B)
 intro r
 induction r with
 |zero=>
  intro j i s H v vb tb c oI hr hj I hJ ai hv rv aI L;obtain ⟨us,ad,hl⟩:=jc I (ac H hJ)
  have ah:us.toArray.size=xs.length:=by rw [size_toArray,ad.length]
  have nS:=I.pin (S,_) @x;have nI:=I.pin (It,oI) @S
  have ag:l≠It:=λz=>by have:=nI.2.1;rw [<-z,ac H hJ] at this;cases this
  have W:=Walks.list (prog:=X.prog) (w:=X.w) (A:=X.A.in1) hh It l ag us.toArray;rwa[codeAny_builtin PySem.F.entry_min_loop ?_];rw [Around.under_plainId PySem.F.plain_min_loop _];show wpAny _ X.A.in1 (seqItems? (.ref S)>>=_) _ _ _;rwa[wpAny_bind @cL];show wpAny _ X.A.in1 (tryCatch (pyNext (.ref It)) _>>=_) _ _ _;rwa[wpAny_bind (wpAny_tryCatch (W.done _ _ _ ⟨by rw [ah,show xs.length=j+1 by lia];exact ai,hl⟩ λh1 aa U=> ?_))];have U:∀b u,b≠It->s.heap.get? b=some u->h1.get? b=some u:=λb u n e=>U b u (by simpa using n) e;have I0:av X pins σ H s:=I.sub λp B=> .tail _ (.tail _ B)
  have az:∀ {a:Addr} {o:Obj},s.heap.get? a=some o->(∀v,o.data≠ .cell v)->∀x c,X.env.cells.lookup x=some c->c≠a:=λ{a o} ho hd x c e z=>by
   obtain ⟨v,oc,h1,h2⟩:=I.cell x c e;rw [z,ho] at h1;cases h1;exact hd v h2
  have aL:=U S _ ab nS.1;have s1:=Heap.SameBut.update h1 S (Obj.mapSeq λ_=>(#[]:Array Value));have I1:av X pins σ H {s with heap:=h1,toks:=aa}:=I0.turned (it:=It) U nI.2.1 nI.2.2.1 (.inr aD) (az nI.1 nI.2.2.2.2) ak;have ap:∀x c,X.env.cells.lookup x=some c->c≠S:=az nS.1 nS.2.2.2.2;show wpAny _ X.A.in1 (updateSeq S (λ_=> #[])>>=_) _ _ _;rwa[wpAny_bind ?_];rwa[wpAny_updateSeq aL rfl (wpAny_bind (wpAny_letGo @V))];rwa[hR i v vb _ H hv rv (λj' aH=>L j' @b) hJ ?_];exact I1.turned (it:=S) (λb u n e=>(s1.2 b n).trans e) nS.2.1 nS.2.2.1 (.inr ar) ap aj
 |succ r ih=>
  intro j i s H v vb tb c oI hr hj I hJ ai hv rv aI L
  have ae:j+1<xs.length:=by lia
  obtain ⟨us,ad,hl⟩:=jc I (ac H hJ)
  have ah:us.toArray.size=xs.length:=by rw [size_toArray,ad.length]
  have nS:=I.pin (S,_) @x;have nI:=I.pin (It,oI) @S
  have ag:l≠It:=λz=>by have:=nI.2.1;rw [<-z,ac H hJ] at this;cases this
  have W:=Walks.list (prog:=X.prog) (w:=X.w) (A:=X.A.in1) hh It l ag us.toArray;rwa[codeAny_builtin PySem.F.entry_min_loop ?_];rw [Around.under_plainId PySem.F.plain_min_loop _];show wpAny _ X.A.in1 (seqItems? (.ref S)>>=_) _ _ _;rwa[wpAny_bind @cL];show wpAny _ X.A.in1 (tryCatch (pyNext (.ref It)) _>>=_) _ _ _;rwa[wpAny_bind (wpAny_tryCatch (W.item (j+1) _ _ _ (by rw [ah];exact ae) ⟨ai,hl⟩ λu h1 aa hP ax U=> ?_))]
  have hu:us[j+1]? =some u:=by simpa using hP
  obtain ⟨v1,al⟩:∃v1,xs[j+1]? =some v1:=⟨_,getElem?_eq_getElem ae⟩
  have au:ay v1 u:=by
   obtain ⟨u',aq,ru⟩:=ad.get al;rw [hu] at aq;cases aq;exact ru
  obtain ⟨Y,aA,aE,am⟩:=id ax.1;have U:∀b u,b≠It->s.heap.get? b=some u->h1.get? b=some u:=λb u n e=>U b u (by simpa using n) e
  have I1:av X ((S,seqObj "list" #[vb,.int (O i) tb] c)::(It,Y)::pins) σ H {s with heap:=h1,toks:=aa}:=
   ((I.sub af).repin (t':=aa) aD (aG _) U aA λv e=>by rw [am] at e;cases e).sub af
  show wpAny _ X.A.in1 (tryCatch (holding [u] @eg) _>>=_) _ _ _;rwa[wpAny_bind (wpAny_tryCatch (wpAny_holding (wpAny_mono (ao _ _ H (j+1) v1 u I1 hJ al au) (λx s2 he=> ?_) λ_ _ hF=>hF.elim)))];obtain ⟨H2,I2,⟨t2,rfl⟩,aB⟩:=he;have aF:=I2.pin (S,_) @x;have aC:=I2.pin (It,Y) @S;have as:s2.heap.IsListIter It l (j+1+1):=⟨Y,aC.1,aE,am⟩;show wpAny _ X.A.in1 (tryCatch (holding [u,.int (O (j+1)) t2] (richCompare .Lt (.int (O (j+1)) t2) (.int (O i) tb)>>=_)) _>>=_) _ _ _;rwa[wpAny_bind (wpAny_tryCatch (wpAny_holding (wpAny_bind (CmpOf.ints_lt (prog:=X.prog) (w:=X.w) (A:=X.A.in1) (P:=λi v=>∃t,v= .int (O i) t) O (λi v h=>h) (j+1) i _ _ _ _ _ ⟨t2,rfl⟩ ⟨tb,rfl⟩ ?_))))];rwa[wpAny_bind (wpAny_holding (wpAny_truthy_bool ?_))];rwa[wpAny_bind (wpAny_letGo @V)];by_cases an:O (j+1)<O i
  ·have s1:=Heap.SameBut.update s2.heap S (Obj.mapSeq λ_=> #[u,.int (O (j+1)) t2]);obtain ⟨c2,aK⟩:∃c2,(s2.heap.update S (Obj.mapSeq λ_=> #[u,.int (O (j+1)) t2])).get? S=some (seqObj "list" #[u,.int (O (j+1)) t2] c2):=⟨_,get?_update_seq aF.1 λ_=> #[u,.int (O (j+1)) t2]⟩;simp only [an,decide_true,if_true];rwa[wpAny_bind ?_];rwa[wpAny_updateSeq aF.1 rfl (wpAny_bind (wpAny_letGo ?_))];rw [Z];rwa[wpAny_pure ⟨plainId_quiet PySem.F.plain_min_loop _,ih (j+1) (j+1) _ H2 v1 u t2 c2 Y @b ae (I2.repin (t':=s2.toks) ar (aw _) (λb u n e=>(s1.2 b n).trans e) aK λv e=>by cases e) aB ⟨Y,(s1.2 It ab.symm).trans aC.1,aE,am⟩ al au @f λj' aH=> ?_⟩];by_cases e:j'=j+1
   ·subst e;exact ⟨by lia,λ_=>by lia⟩
   ·have aJ:=L j' @b;have aM:=aJ.1;exact ⟨by lia,λ_=>by lia⟩
  ·simp only [an,decide_false,Bool.false_eq_true,if_false];rwa[wpAny_bind (wpAny_letGo ?_)];rw [Z];rwa[wpAny_pure ⟨plainId_quiet PySem.F.plain_min_loop _,ih (j+1) i _ H2 v vb tb c Y @b ae I2 aB as hv rv @b λj' aH=> ?_⟩];by_cases e:j'=j+1
   ·subst e;exact ⟨by lia,λ_=>by lia⟩
   ·exact L j' @b
theorem Gm (a v d:Value):argsOk "min" ⟨[a],[(s!"key",v),(s!"default",d)]⟩:=by unfold argsOk;kernel_rfl
theorem Mq {X:Cx}{pins:List (Addr×Obj)}{σ:St}{H:Hp}{s:Shared}{l f:Addr}{xs:List V}{d:V}{dv:Value}{Q:VK}{E:Value->Shared->Prop}(hh:X.A.handled=none)(I:av X pins σ H s)(aB:H l=some (.lst xs))(rd:ay d dv)
(h0:xs=[]->Q d H)(h1:xs≠[]->∃(kf:Nat->Int) (J:Hp->Prop),J H/\(∀H,J H->H l=some (.lst xs))/\Gz X σ f xs J kf/\∀i v H,xs[i]? =some v->Nm xs kf i->J H->Q v H):
 wpAny @d X.A (call (.builtin "min") [.ref l] [(s!"key",.ref f),(s!"default",dv)]) @p E s:=by
 have Z:(toString "min"++toString ".loop":String)="min.loop":=by decide
 obtain ⟨us,ag,ad⟩:=jc I aB
 have ae:us.toArray.size=xs.length:=by rw [size_toArray,ag.length]
 obtain ⟨ol,as,_⟩:=id ad;have aC:l<s.heap.objs.size:=Heap.lt_size as;rwa[kmk_tree PySem.F.kind_min PySem.F.plain_min PySem.F.entry_min (Gm _ _ _) ?_];show wpAny _ X.A.in1 (Builtin.Builtins.bindParams "min" ["key","default"] 0 ⟨[],[(s!"key",.ref f),(s!"default",dv)]⟩>>=_) _ _ s;rwa[wpAny_bind (wpAny_of_eq (show Builtin.Builtins.bindParams "min" ["key","default"] 0 ⟨[],[(s!"key",.ref f),(s!"default",dv)]⟩=pure [some (.ref f),some dv] from rfl) ?_)];rwa[wpAny_bind @V];rwa[wpAny_bind (wpAny_pyIter_list ad ?_)];rwa[wpAny_bind (wpAny_newList ?_ @fv)];rw [Z];generalize L:s.heap.objs.size=B at *
 have I1:av X ((B,{cls:= .type "list_iterator",data:= .fields #[.ref l,.int 0 0]})::pins) σ H {s with heap:=s.heap.push {cls:= .type "list_iterator",data:= .fields #[.ref l,.int 0 0]}}:=
  I.pinNew (t':=s.toks) (a:=B) (by rw [L];exact Nat.le_refl _) (λb u e=>Heap.get?_push_of_some _ e) (by rw [<-L];exact Heap.get?_push_size _ rfl) λv e=>by cases e
 have hS:(s.heap.push {cls:= .type "list_iterator",data:= .fields #[.ref l,.int 0 0]}).objs.size=B+1:=by rw [size_push',L]
 generalize ai:(s.heap.push {cls:= .type "list_iterator",data:= .fields #[.ref l,.int 0 0]}).objs.size=S at *
 have I2:=I1.pinNew (t':=s.toks) (h':=(s.heap.push {cls:= .type "list_iterator",data:= .fields #[.ref l,.int 0 0]}).push (seqObj "list" #[] 0)) (a:=S) (o:=seqObj "list" #[] 0) (Nat.le_of_eq ai) (λb u e=>Heap.get?_push_of_some _ e) (by rw [<-ai];exact Heap.get?_push_size _ rfl) λv e=>by cases e
 have ab:S≠B:=by rw [hS];exact Nat.ne_of_gt @bQ
 have aD:X.s₀.heap.objs.size<=B:=by rw [<-L];exact I.sz
 have ar:X.s₀.heap.objs.size<=S:=by rw [hS];exact Nat.le_succ_of_le aD
 have ah:∀p∈X.pn++pins,p.1<B:=λp j=>by rw [<-L];exact Heap.lt_size (I.pin p j).1
 have ak:∀p∈X.pn++pins,p.1≠B:=λp j=>Nat.ne_of_lt (ah p j)
 have aj:∀p∈X.pn++pins,p.1≠S:=λp j=>by rw [hS];exact Nat.ne_of_lt (Nat.lt_succ_of_lt (ah p j))
 have az:l≠B:=Nat.ne_of_lt aC;rwa[wpAny_pure ⟨plainId_quiet PySem.F.plain_min_loop _,?_⟩];generalize aw:({s with heap:=(s.heap.push {cls:= .type "list_iterator",data:= .fields #[.ref l,.int 0 0]}).push (seqObj "list" #[] 0)}:Shared)=s2 at I2;show codeAny _ _ (.builtin "min.loop" ⟨[.ref B,.ref f,.ref S],[("default",dv)]⟩) _ s2;have nS:=I2.pin (S,_) @x;have nI:=I2.pin (B,_) @S;have W:=Walks.list (prog:=X.prog) (w:=X.w) (A:=X.A.in1) hh B l az us.toArray
 have R:s2.heap.IsList l us.toArray:=by
  obtain ⟨o,a,b⟩:=ad;rw [<-aw];exact ⟨o,Heap.get?_push_of_some _ (Heap.get?_push_of_some _ a),b⟩
 rwa[codeAny_builtin PySem.F.entry_min_loop ?_];rw [Around.under_plainId PySem.F.plain_min_loop _];show wpAny _ X.A.in1 (seqItems? (.ref S)>>=_) _ _ _;rwa[wpAny_bind @cL];show wpAny _ X.A.in1 (tryCatch (pyNext (.ref B)) _>>=_) _ _ _;by_cases hx:xs=[]
 ·rwa[wpAny_bind (wpAny_tryCatch (W.done _ _ _ ⟨by rw [ae,hx];exact ⟨_,nI.1,rfl,rfl⟩,R⟩ λh1 aa U=> ?_))]
  have I3:av X pins σ H {s2 with heap:=h1,toks:=aa}:=(I2.sub λp j=> .tail _ (.tail _ j)).turned (it:=B) (λb u n e=>U b u (by simpa using n) e) nI.2.1 nI.2.2.1 (.inr aD) (λx c e z=>by
   obtain ⟨v,oc,h1,h2⟩:=I2.cell x c e;rw [z,nI.1] at h1;cases h1
   exact nI.2.2.2.2 v h2) ak
  exact wpAny_bind (wpAny_rule (wpAny_pure ⟨d,H,I3,rd,h0 hx⟩))
 ·obtain ⟨kf,J,hJ,aE,O,hQ⟩:=h1 hx;have ac:0<xs.length:=length_pos_iff.mpr hx;rwa[wpAny_bind (wpAny_tryCatch (W.item 0 _ _ _ (by rw [ae];exact ac) ⟨⟨_,nI.1,rfl,rfl⟩,R⟩ λu h1 aa hP ax U=> ?_))]
  have hu:us[0]? =some u:=by simpa using hP
  obtain ⟨v1,al⟩:∃v1,xs[0]? =some v1:=⟨_,getElem?_eq_getElem ac⟩
  have au:ay v1 u:=by
   obtain ⟨u',aq,ru⟩:=ag.get al;rw [hu] at aq;cases aq;exact ru
  obtain ⟨Y,aA,ap,am⟩:=id ax.1;have U:∀b u,b≠B->s2.heap.get? b=some u->h1.get? b=some u:=λb u n e=>U b u (by simpa using n) e
  have af:∀ {a b:Addr×Obj},∀p∈a::b::pins,p∈b::a::pins:=λ{a b} p j=>by
   rcases mem_cons.mp j with rfl|j
   ·exact .tail _ (.head _)
   ·rcases mem_cons.mp j with rfl|j
    ·exact .head _
    ·exact .tail _ (.tail _ j)
  have I3:av X ((S,seqObj "list" #[] 0)::(B,Y)::pins) σ H {s2 with heap:=h1,toks:=aa}:=
   ((I2.sub af).repin (t':=aa) aD (λp j=>by
     rcases mem_append.mp j with j|j
     ·exact ak p (mem_append_left _ j)
     ·rcases mem_cons.mp j with rfl|j
      ·exact ab
      ·exact ak p @dL) U aA λv e=>by rw [am] at e;cases e).sub af
  show wpAny _ X.A.in1 (tryCatch (holding [u] @eg) _>>=_) _ _ _;rwa[wpAny_bind (wpAny_tryCatch (wpAny_holding (wpAny_mono (O _ _ H 0 v1 u I3 hJ al au) (λx s3 he=> ?_) λ_ _ hF=>hF.elim)))];obtain ⟨H3,I4,⟨t2,rfl⟩,an⟩:=he;have aF:=I4.pin (S,_) @x;have aG:=I4.pin (B,Y) @S;have s1:=Heap.SameBut.update s3.heap S (Obj.mapSeq λ_=> #[u,.int (kf 0) t2]);obtain ⟨c2,ao⟩:∃c2,(s3.heap.update S (Obj.mapSeq λ_=> #[u,.int (kf 0) t2])).get? S=some (seqObj "list" #[u,.int (kf 0) t2] c2):=⟨_,get?_update_seq aF.1 λ_=> #[u,.int (kf 0) t2]⟩;show wpAny _ X.A.in1 (updateSeq S (λ_=> #[u,.int (kf 0) t2])>>=_) _ _ _;rwa[wpAny_bind ?_];rwa[wpAny_updateSeq aF.1 rfl ?_];rw [Z];rwa[wpAny_pure ⟨plainId_quiet PySem.F.plain_min_loop _,IP kf J hh aE aD ar ak aj ab O (λi v u s' H hv ru hb hJ I=>⟨v,H,I,ru,hQ i v H hv hb hJ⟩) _ 0 0 _ H3 v1 u t2 c2 Y rfl ac (I4.repin (t':=s3.toks) ar (λp j=> ?_) (λb u n e=>(s1.2 b n).trans e) ao λv e=>by cases e) an ⟨Y,(s1.2 _ ab.symm).trans aG.1,ap,am⟩ al au @f λj' aH=> ?_⟩]
  ·rcases mem_append.mp j with j|j
   ·exact aj p (mem_append_left _ j)
   ·rcases mem_cons.mp j with rfl|j
    ·exact ab.symm
    ·exact aj p @dL
  ·have e:j'=0:=by lia
   subst e;exact ⟨by lia,λh=>absurd h @I⟩
structure oU (X:Cx)(fs:List Str)(js:List Nat)(cl:List (Str×Addr)):Prop where
 at_:∀(i:Nat) x,fs[i]? =some x->∃j c,js[i]? =some j/\X.N[j]? =some x/\X.env.scope.names.lookup x=some .cell/\X.env.cells.lookup x=some c/\cl.lookup x=some c
 dom:∀x c,cl.lookup x=some c->x∈fs/\X.env.cells.lookup x=some c
theorem Fk {X:Cx}{σ:St}{k:Nat}{f L:Addr}{name qual p0:Str}{B:Arguments}{F:Expr}{scope:Scope}{R:List (Str×Addr)}{pm af:Value}{fs:List Str}{js:List Nat}{fvs:List V}{xs:List V}{J:Hp->Prop}{kf:Nat->Int}{t:TE}
(S:i7 [p0] fs scope)(U:oU X fs js R)(ab:∀u:Value,bindArgs (kla_fn name qual B F scope R pm (.ref L) af) ⟨[u],[]⟩=pure [(p0,u)])(hr:bE (k+1) X.A.in1)
(ac:js.map (λj=>σ[j]?)=fvs.map λv=>some @bs)(al:js.length=fs.length)
(hJ:∀H,J H->H f=some (Ab f (kla_obj name qual B F scope R pm L af))/\H L=some (xT L qual))
(hb:∀(s:Shared) (H:Hp),bE k (X.A.in1.deeper (envX qual scope s.heap.objs.size f (.ref L) R))->PE (Pp X.prog X.w X.K X.mg X.base ([p0]++fs) qual scope f (.ref L) R X.A.in1 X.stack s H) F t)
(ht:∀i v H,xs[i]? =some v->J H->t (some v::fvs.map some) H λr H'=>r= .int (kf i)/\J H'):Gz X σ f xs J kf:=by
 intro pins s H i v u I W hv rv;obtain ⟨hf,hc⟩:=hJ H W
 have ad:fvs.length=fs.length:=by
  have:=congrArg List.length ac;rw [length_map,length_map] at this;lia
 have ah:s.heap.get? f=some (kla_obj name qual B F scope R pm L af):=(I.hok f _ hf).1;have ak:s.heap.CodeRec (.ref L) qual:=(I.hok L _ hc).1;rwa[wpAny_call (codeAny_mono (IW (Q:=λr H'=>r= .int (kf i)/\J H') (E:=E0) (fvs:=fvs) (vs:=[v]) (us:=[u]) S ah ak hr I.env0.in1 (ab u) (.cons rv .nil) rfl ad (λn x w h1 h2=> ?_) (λx c e=>(U.dom x c e).1) (λx y c e1 e2=>I.ok.inj x y c (U.dom x c e1).2 (U.dom y c e2).2) (λx c e=>I.freeC x c (U.dom x c e).2) λaj=>⟨t,hb s H aj,ht i v H hv W⟩) λrr s' Y=> ?_)]
 ·obtain ⟨j,c,e1,e2,e3,e4,e5⟩:=U.at_ n x h1;obtain ⟨m,hn,Z⟩:=I.loc
  have hσ:σ[j]? =some (some w):=by
   have:=congrArg (λl=>l[n]?) ac;simp only [getElem?_map,e1,h2,Option.map_some,Option.some.injEq] at this;exact this
  obtain ⟨u0,ai,aa⟩:=Z j x w e2 hσ (.inr (.inl e3))
  rcases aa with ⟨z,_⟩|⟨_,c2,e6,O⟩
  ·have z:X.env.scope.names.lookup x=some .local:=z;rw [e3] at z;cases z
  ·rw [e4] at e6;cases e6;exact ⟨c,u0,e5,ai,O⟩
 ·cases rr with
  |error e=>exact False.elim Y
  |ok fl=>
   cases fl with
   |ret u=>
    obtain ⟨v',H',I',ae,rfl,ag⟩:=I.after Y;exact ⟨H',I',ae,ag⟩
   |next=>exact False.elim Y
   |brk=>exact False.elim Y
   |cont=>exact False.elim Y
def QZ (q:Str)(mk:Addr->Value->Obj)(js:List Nat)(te tl td tb:TE):TE:=λσ H Q=>te σ H λx H1=>tl σ H1 λfv H2=>td σ H2 λd H3=>
 ∃l f xs,x= .ref l/\fv= .ref f/\H3 l=some (.lst xs)/\(xs=[]->Q d H3)/\(xs≠[]->∃(c':Addr) (ctv:Value) (fvs:List V) (kf:Nat->Int) (J:Hp->Prop),js.map (λj=>σ[j]?)=fvs.map (λv=>some @bs)/\J H3/\
  (∀H,J H->H l=some (.lst xs)/\H f=some (Ab f (mk c' ctv))/\H c'=some (xT c' q))/\(∀i v H,xs[i]? =some v->J H->tb (some v::fvs.map some) H λr H'=>r= .int (kf i)/\J H')/\∀i v H,xs[i]? =some v->Nm xs kf i->J H->Q v H)
theorem Ep {X:Cx}{k:Nat}{p pos B W Z:Pos}{e D:Expr}{te tl td tb:TE}{U:Str}{R:Arguments}{O:Expr}{j:Scope}{F:List (Str×Addr)}{fs:List Str}{Y:List Nat}(hc:X.calm=true)(hg:Gl X "min")(hm:X.mg "min"=none)(hr:bE (k+2) X.A)
(he:PE X e te)(hl:PE X (.Lambda R O j B) tl)(hd:PE X D td)(S:i7 [U] fs j)(LI:oU X fs Y F)(al:Y.length=fs.length)
(ab:∀(c':Addr) (ctv u:Value),bindArgs (kla_fn "<lambda>" (X.env.qual++"<lambda>") R O j F ((X.mg "__name__").getD .none) (.ref c') ctv) ⟨[u],[]⟩=pure [(U,u)])
(hb:∀(f c':Addr) (s:Shared) (H:Hp),bE k (X.A.in1.deeper (envX (X.env.qual++"<lambda>") j s.heap.objs.size f (.ref c') F))->PE (Pp X.prog X.w X.K X.mg X.base ([U]++fs) (X.env.qual++"<lambda>") j f (.ref c') F X.A.in1 X.stack s H) O tb)
(hs:bB e=true:=by rfl):
 PE X (.Call (.Name "min" p) [e] [⟨some "key",.Lambda R O j B,W⟩,⟨some "default",D,Z⟩] pos)
  (QZ (X.env.qual++"<lambda>") (λc' ctv=>kla_obj "<lambda>" (X.env.qual++"<lambda>") R O j F ((X.mg "__name__").getD .none) c' ctv) Y te tl td tb):=by
 intro pins s σ H Q I h;have st:starEach [e] X.env=[(false,eval e X.env)]:=bg hs;rwa[wpAny_Call_Name_kw (j8 I hg hm boot_min ?_)];rwa[callWith_kw (env:=X.env) ?_ (by rw [st];rfl) (by rw [st];rfl)];rw [st];show wpAny _ _ (spliced ((false,eval e X.env)::backTo pos (starEach [] X.env))) _ _ s;rwa[Calls.spliced_cons (br @dJ λu s1 ⟨x,H1,I1,r1,q1⟩=> ?_)];rwa[Calls.spliced_nil ?_];rwa[kws_cons (br (hl pins s1 σ H1 _ I1 q1) λuf s2 ⟨fv,H2,I2,r2,q2⟩=> ?_)];rwa[kws_cons (br (hd pins s2 σ H2 _ I2 q2) λud s3 ⟨d,H3,I3,r3,q3⟩=> ?_)];rwa[kws_nil ?_];obtain ⟨l,f,xs,rfl,rfl,aa,h0,h1⟩:=q3;have r1:u=Value.ref l:=r1;have r2:uf=Value.ref f:=r2;subst r1 r2;rwa[Mq (f:=f) @bH I3 aa r3 h0 λhx=> ?_];obtain ⟨c',ctv,ad,kf,J,ac,hJ,L,ht,hQ⟩:=h1 hx;exact ⟨kf,J,hJ,λH z=>(L H z).1,Fk S LI (ab c' ctv) hr.in1 ac al (λH z=>(L H z).2) (hb f c') ht,hQ⟩
section
variable {prog:Program}{w:World}{A:Around}{E:Value->Shared->Prop}{s:Shared}
theorem ze {it t:Addr}{i:Nat}{j:Array Value}{x:Value}{Q:Value->Shared->Prop}(ai:s.heap.IsTupleIter it t i)(O:s.heap.IsTuple t j)(R:j[i]? =some x)
(L:∀h',h'.IsTupleIter it t (i+1)->Heap.SameBut it s.heap h'->Q x {s with heap:=h'}):wpAny @h A (Builtin.SmallTypes.nextOf (.ref it)) Q E s:=by
 obtain ⟨o,I,B,J⟩:=id ai;obtain ⟨S,as,_,U,z⟩:=O;unfold Builtin.SmallTypes.nextOf;rwa[wpAny_bind (wpAny_callSpecial?_slot (name:=s!"__next__") ai.typeIs F.slot_tuple_iterator_next (wpAny_call_entry F.slot_tuple_iterator_next ai.typeIs F.entry_tuple_iterator_next ?_ (F.args_tuple_iterator_next_1 _)))];show wpAny _ _ (field (.ref it) 0>>=_) _ _ s;rwa[wpAny_bind (wpAny_field I J (x:= .ref t) rfl ?_)];show wpAny _ _ (if (Value.ref t==Value.none)=true then _ else _) _ _ s;rw [if_neg (show ¬((Value.ref t==Value.none)=true) from Bool.false_ne_true)];show wpAny _ _ (field (.ref it) 1>>=_) _ _ s;rwa[wpAny_bind (wpAny_field I J (x:= .int i 0) rfl ?_)];show wpAny _ _ (seqItems? (.ref t)>>=_) _ _ s;rwa[wpAny_bind (wpAny_seqItems as z ?_)];simp only [Int.toNat_natCast,R];rwa[wpAny_bind (wpAny_setField I J @e (wpAny_pure ⟨x,rfl,wpAny_pure (L _ ?_ (Heap.SameBut.update ..))⟩))];exact ⟨_,Heap.get?_update_self _ I (Obj.isFreed_of_fields (Obj.data_mapFields J _)),(Obj.cls_mapFields ..).trans B,by rw [Obj.data_mapFields J];simp [rawInt]⟩
theorem iQ {it t:Addr}{i:Nat}{j:Array Value}{Q:Value->Shared->Prop}(B:A.handled=none)(ai:s.heap.IsTupleIter it t i)(O:s.heap.IsTuple t j)(R:j[i]? =none)
(L:∀h' e,Heap.ExtBut it s.heap h'->(∃o,h'.get? e=some o/\o.cls= .type "StopIteration")->E (.ref e) {s with heap:=h'}):wpAny @h A (Builtin.SmallTypes.nextOf (.ref it)) Q E s:=by
 obtain ⟨o,I,S,J⟩:=id ai;obtain ⟨U,as,_,W,z⟩:=O;unfold Builtin.SmallTypes.nextOf;rwa[wpAny_bind (wpAny_callSpecial?_slot (name:=s!"__next__") ai.typeIs F.slot_tuple_iterator_next (wpAny_call_entry F.slot_tuple_iterator_next ai.typeIs F.entry_tuple_iterator_next ?_ (F.args_tuple_iterator_next_1 _)))];show wpAny _ _ (field (.ref it) 0>>=_) _ _ s;rwa[wpAny_bind (wpAny_field I J (x:= .ref t) rfl ?_)];show wpAny _ _ (if (Value.ref t==Value.none)=true then _ else _) _ _ s;rw [if_neg (show ¬((Value.ref t==Value.none)=true) from Bool.false_ne_true)];show wpAny _ _ (field (.ref it) 1>>=_) _ _ s;rwa[wpAny_bind (wpAny_field I J (x:= .int i 0) rfl ?_)];show wpAny _ _ (seqItems? (.ref t)>>=_) _ _ s;rwa[wpAny_bind (wpAny_seqItems as z ?_)];simp only [Int.toNat_natCast,R];rwa[wpAny_bind (wpAny_rule (wpAny_bind (wpAny_setField I J @e ?_)))];show wpAny _ _ (newExc (.type "StopIteration") []>>=_) _ _ _;rwa[wpAny_bind ?_];simp only [newExc,newTuple];rwa[wpAny_bind (wpAny_newObj_type ?_ (by size_fits))];rwa[wpAny_bind (m:=firstArgMember _ _) (wpAny_of_eq (a:=Value.none) (by first|rfl|(simp only [firstArgMember];rfl)) ?_)];rwa[wpAny_newObj_type ?_ (by size_fits)];simp only [raiseNew];rwa[wpAny_bind (wpAny_handled ?_)]
 first|rw [show A.in1.handled=none from B]|rw [B]
 rwa[wpAny_bind (wpAny_pure (wpAny_throw ?_))];exact L _ _ (((Heap.SameBut.update ..).extBut.push _).push _) ⟨_,Heap.get?_push_size _ rfl,rfl⟩
end
theorem tX {prog:Program}{w:World}{A:Around}(J:A.handled=none)(it l:Addr)(F:l≠it)(j:Array Value):
 Draws prog w A it [it,l] j.size (λi v=>j[i]? =some v) (λi h=>h.IsTupleIter it l i/\h.IsTuple l j) where
 live:=λ_ _ st=>let ⟨o,ho,_⟩:=st.1;⟨o,ho⟩
 frame:=λ_ _ _ st R=>⟨st.1.at λo e=>R it @e o e,let ⟨o,ho,r⟩:=st.2;⟨o,R l @e o ho,r⟩⟩
 item:=λi s Q E hi st I=>by
  rwa[ze st.1 st.2 (x:=j[i]) (by simp [hi]) λh' z B=> ?_];exact I _ h' s.toks (by simp [hi]) ⟨z,let ⟨o,ho,r⟩:=st.2;⟨o,(B.2 l F).trans ho,r⟩⟩ B
 done:=λs Q E st L=>iQ J st.1 st.2 @e L
open Sem (wp)
open AutoSeq1 (wpAny_loadPart')
theorem qV (l:Addr)(j:Array Value)(n:Nat)(z:Option Addr)(sl:Array @J):
 Meets (Builtin.«enumerate.__new__» ⟨[.type "enumerate",.ref l],[]⟩) (λ_ R s=>s.heap.get? l=some {cls:= .type "tuple",dict:=z,data:= .seq j n,slots:=sl}/\
  R (.ok (.ret (.ref (s.heap.push {cls:= .type "tuple_iterator",data:= .fields #[.ref l,.int 0 0]}).objs.size)))
    {s with heap:=(s.heap.push {cls:= .type "tuple_iterator",data:= .fields #[.ref l,.int 0 0]}).push {cls:= .type "enumerate",data:= .fields #[.none,.bool false,.ref s.heap.objs.size,rawInt 0,.none,.none]}}):=
 .of_wp λprog w A R s h=>by
  obtain ⟨I,g,d,tk,os⟩:=s;obtain ⟨W,h⟩:=h;have B:=sub_enumerate;have F:Heap.IsTuple (Shared.heap ⟨I,g,d,tk,os⟩) l j:=⟨_,W,rfl,n,rfl⟩
  wp_walk using wpAny_loadPart' W
  rwa[wpAny_stack_any λst=>wpAny_pure ?_];split
  ·rename_i c _ _ _ _ _;cases (c==Value.type "enumerate")
   ·wp_walk using wpAny_loadPart' W,wpAny_pyIter_tuple F
    exact ⟨_,rfl,h⟩
   ·wp_walk using wpAny_loadPart' W,wpAny_pyIter_tuple F
    exact ⟨_,rfl,h⟩
  ·wp_walk using wpAny_loadPart' W,wpAny_pyIter_tuple F
   exact ⟨_,rfl,h⟩
theorem sO {prog:Program}{w:World}{A:Around}{E:Value->Shared->Prop}{s:Shared}{l:Addr}{j:Array Value}{Q:Value->Shared->Prop}(O:s.heap.IsTuple l j)
(h:∀h',IsEnum h' (s.heap.objs.size+1) s.heap.objs.size 0 .none->h'.IsTupleIter s.heap.objs.size l 0->h'.objs.size=s.heap.objs.size+2->
   (∀b o,s.heap.get? b=some o->h'.get? b=some o)->Q (.ref (s.heap.objs.size+1)) {s with heap:=h'}):wpAny @h A (call (.type "enumerate") [.ref l]) Q E s:=by
 obtain ⟨⟨c,z,R,sl⟩,W,I,n,J⟩:=O;replace I:c= .type "tuple":=I;replace J:R= .seq j n:=J;subst I J;rwa[callType_new F.called_enumerate @c (F.typeCall_enumerate_1 _) (F.newCall_enumerate_1 _) (λL=>F.args_object_init_2 L _) F.entry_enumerate_new (qV l j n z sl) ⟨W,?_⟩];have B:(s.heap.push {cls:= .type "tuple_iterator",data:= .fields #[.ref l,.int 0 0]}).objs.size=s.heap.objs.size+1:=Heap.size_push ..;show _/\_;rw [B]
 have U:IsEnum ((s.heap.push {cls:= .type "tuple_iterator",data:= .fields #[.ref l,.int 0 0]}).push {cls:= .type "enumerate",data:= .fields #[.none,.bool false,.ref s.heap.objs.size,rawInt 0,.none,.none]}) (s.heap.objs.size+1) s.heap.objs.size 0 .none:=by
  have:=Heap.get?_push_size (s.heap.push {cls:= .type "tuple_iterator",data:= .fields #[.ref l,.int 0 0]}) (o:= {cls:= .type "enumerate",data:= .fields #[.none,.bool false,.ref s.heap.objs.size,rawInt 0,.none,.none]}) rfl;rw [B] at this;exact this
 rwa[⟨⟨_,U,rfl⟩,h _ U ⟨_,Heap.get?_push_of_some _ (Heap.get?_push_size _ rfl),rfl,rfl⟩ (by rw [Heap.size_push,B]) λb o x=>Heap.get?_push_of_some _ (Heap.get?_push_of_some _ x)⟩]
theorem av.turnLaid {X:Cx}{pins:List (Addr×Obj)}{σ:St}{H:Hp}{s:Shared}{h':Heap}{t':Nat}{ch:List Addr}{a:Addr}{o:HO}(I:av X pins σ H s)(L:∀b∈ch,i8 X pins H b)(k:∀b u,b∉ch->s.heap.get? b=some u->h'.get? b=some u)
(R:s.heap.objs.size<=a)(J:be X.prog X.w @bp h' a o):av X pins σ @bp {s with heap:=h',toks:=t'}:=by
 have Y:H a=none:=I.hok.fresh R;have U:∀ {b:Addr} {u:Obj},s.heap.get? b=some u->b≠a:=λ{b u} e=>Nat.ne_of_lt (Nat.lt_of_lt_of_le @bW R)
 have O:∀ {b:Addr} {u:HO},H b=some u->b∉ch:=λ{b u} e z=>by have:=(L b z).1;rw [e] at this;cases this
 have B:ao H @bp:= .upd Y
 refine I.step (g':=s.gens) (d':=s.drawn) (ch:=ch) (λb F=> ?_) (λb u _ _ j e _=>k b u j e) (λb u _ _ j e _=>⟨u.slots,k b u j e⟩) (λb u _ e n=>by rw [ai (U e)];exact n) (λb u j e=>⟨u,k b u j e⟩)
  (λb xs e=>B _ _ e) (λb u v e=>B _ _ e) (λb ps e=>⟨#[],by rw [B _ _ e];simp⟩) (λm S=> ?_) (λb u e=> ?_) I.bare
 ·obtain ⟨_,W,_,f3,Z,f5⟩:=L b F;exact ⟨f3,W,Z,f5⟩
 ·obtain ⟨o,es,ep,ho,r⟩:=S;exact ⟨o,es,ep,k _ o (λz=>(L _ z).2.1 rfl) ho,r⟩
 ·by_cases F:b=a
  ·subst F;rw [ag] at e;cases e;exact J
  ·rw [ai F] at e;rwa[(I.hok b u e).stay (λc v j q=>k c v ?_ q) (λc q=>B _ _ q) λc xs q=>B _ _ q]
   rcases j with z|z
   ·rw [z];exact O e
   ·exact O z
noncomputable def Qm (K:Fg)(a:Addr):It:=⟨(GE K a).go,λi H x H'=>∃T y,x= .ref T/\H T=none/\H'=upd H T (.tup [.int i,y])/\∀xs,aA K H a xs->xs[i]? =some y,(GE K a).stop⟩
theorem Dh {P:Program}{w:World}{K:Fg}{L:List Expr}{k:Nat}{pos:Pos}(a it e:Addr):vL P w K (.Tuple L k pos) (Qm K a) [e,it] e (λi h=>(∃old,IsEnum h e it i old)/\h.IsListIter it a i) where
 mem:=by simp
 obj:=λi h st b J=>by
  obtain ⟨⟨old,U⟩,o,ho,c,d⟩:=st
  rcases mem_cons.mp J with rfl|J
  ·exact ⟨_,U,λv z=>by cases z⟩
  ·rw [mem_singleton.mp J];exact ⟨o,ho,λv z=>by rw [d] at z;cases z⟩
 keep:=λi h h' st kk=>by
  obtain ⟨⟨old,U⟩,j⟩:=st;exact ⟨⟨old,kk e @e _ U⟩,j.at λo z=>kk it @e o z⟩
 item:=by
  intro X hP hw hK hc i pins s σ H E I hf st hg;subst hP hw hK;obtain ⟨⟨old,U⟩,j⟩:=st;obtain ⟨xs,x,hq,hx⟩:=hg;obtain ⟨its,rv,p,hz⟩:=I.list hq;have hl:s.heap.IsList a its.toArray:=p.isList;obtain ⟨u,hu,ru⟩:=rv.get hx;obtain ⟨oi,B,ci,di⟩:=id j;obtain ⟨ol,as,Y,_⟩:=id hl
  have ab:e≠it:=λz=>by have h1:=B.symm.trans (z▸U);cases h1;exact absurd (Value.type.inj ci) @c
  have ah:e≠a:=λz=>by have h1:=as.symm.trans (z▸U);cases h1;exact absurd @bG @c
  have S:a≠it:=λz=>by rw [z,B] at as;cases as;rw [ci] at Y;exact absurd @bG @c
  have W:=WalksT.enumerateD (Draws.list (prog:=X.prog) (w:=X.w) (A:=X.A.in1) @bH it a S its.toArray) e ab (by simp [ab,ah]) @e
  have hi:i<its.toArray.size:=by rw [size_toArray];exact (List.getElem?_eq_some_iff.mp hu).1
  rwa[W.item i s _ _ hi ⟨⟨old,U⟩,j,hl⟩ λT ak h' tk hP hT ac R hk=>⟨.ref T,rfl,?_⟩];rwa[W.go L k pos i T _ _ _ R λh2 O aa=> ?_];obtain ⟨t,u',aq,rfl⟩:=hP
  have aq:its[i]? =some u':=by simpa using aq
  rw [hu] at aq;cases aq;have Z:T∉[e,it]:=W.apart i T h' R;have kk:∀b o,b∉[e,it]->s.heap.get? b=some o->h2.get? b=some o:=λb o nb z=>aa b o nb (hk b o nb z)
  have ad:IsTup h2 T (#[.int i t,u]:Array Value):=by
   obtain ⟨o,ho,c,r⟩:=ac;exact ⟨o,aa T o Z ho,c,r⟩
  have aj:be X.prog X.w (upd H T (.tup [.int i,x])) h2 T (.tup [.int i,x]):=⟨by show 2<=sizeLine;decide,[.int i t,u],.cons ⟨t,rfl⟩ (.cons ru .nil),ad⟩;rwa[⟨.ref T,upd H T (.tup [.int i,x]),I.turnLaid (t':=tk) hf kk hT aj,rfl,⟨T,x,rfl,I.hok.fresh hT,rfl,λys hy=>by rw [I.list_inj hy hq];exact hx⟩,⟨O.1,O.2.1⟩,λb J=> ?_⟩];have ne:b≠T:=λz=>Z (by rw [<-z];exact J);rw [ai ne];exact (hf b J).1
 done:=by
  intro X hP hw hK hc i pins s σ H E I hf st hg;subst hP hw hK;obtain ⟨⟨old,U⟩,j⟩:=st;obtain ⟨xs,hq,hx⟩:=hg;obtain ⟨its,rv,p,hz⟩:=I.list hq;have hl:s.heap.IsList a its.toArray:=p.isList;have al:=rv.length;obtain ⟨oi,B,ci,di⟩:=id j;obtain ⟨ol,as,Y,_⟩:=id hl
  have S:a≠it:=λz=>by rw [z,B] at as;cases as;rw [ci] at Y;exact absurd @bG @c
  have D:=Draws.list (prog:=X.prog) (w:=X.w) (A:=X.A.in1) @bH it a S its.toArray;have hT:s.TypeIs (.ref e) "enumerate":=⟨_,U,rfl⟩;obtain ⟨f0,f1,f2,f3,f4,f5⟩:=hf it @e;unfold pyNext;rwa[wpAny_bind (wpAny_attempt (wpAny_callSpecial?_slot (name:=s!"__next__") hT F.slot_enumerate_next (wpAny_call_entry F.slot_enumerate_next hT F.entry_enumerate_next ?_ (F.args_enumerate_next_1 _))))];show wpAny _ _ (field (.ref e) 2>>=_) _ _ _;rwa[wpAny_bind (wpAny_field U rfl (x:= .ref it) rfl ?_)];rwa[wpAny_bind (wpAny_nextOf_list_end @bH j hl (by simp;lia) λh' x ag ae=> ?_)];obtain ⟨o,ho,af⟩:=ae;rwa[wpAny_bind (wpAny_isInstance (T:="StopIteration") (b:=true) ⟨o,ho,af⟩ isSubtype_stop ?_)];exact wpAny_pure ⟨rfl,I.turned (t':=s.toks) (λb o J e=>ag b o J e) f0 f1 f3 f4 f5⟩
 self:=λ_ _ _ _ _ st h=>let ⟨⟨old,U⟩,_⟩:=st;wpAny_pyIter_enum U h
theorem F4 {K:Fg}{a:Addr}{xs:List V}{pk:List @C}{g:TG}{tt:TT}{te:TE}{σ:St}{H:Hp}{Q:VK}(j:Nat->List V->Hp->Prop)(S:xs.length<=sizeLine)(B:∀i ys H,j i ys H->ys.length<=i)(J:j 0 [] H)(I:∀i ys H,i<=xs.length->j i ys H->aA K H a xs)
(hs:∀(i:Nat) x ys H T H',xs[i]? =some x->j i ys H->ao H H'->H' T=some (.tup [.int i,x])->g (.ref T) @L H' λσ2 H2=>sR @L σ2/\tt σ2 H2 λb H3=>if b=true then te σ2 H3 λv H4=>j (i+1) (ys++[v]) H4 else j (i+1) ys H3)
(R:∀ys H,j @fs ys H->∀p,H p=none->Q (.ref p) @R):
 sL (Qm K a) pk g tt te σ H Q:=by
 rwa[⟨λi m ys H=>m=xs.length - i/\i<=xs.length/\j i ys H,⟨xs.length,by simp,Nat.zero_le _,J⟩,?_⟩];rintro i m ys H ⟨rfl,hi,p⟩;have W:=B _ _ _ p;by_cases F:i<xs.length
 ·rwa[.inr ⟨⟨xs,xs[i],I i ys H hi p,by simp [F]⟩,by lia,j (i+1),λzs H' L=>⟨xs.length - (i+1),by lia,rfl,F,L⟩,λx H' y=> ?_⟩];obtain ⟨T,z,rfl,O,rfl,y⟩:=y;exact hs i z ys _ T _ (y xs (I i ys _ hi p)) p (.upd O) ag
 ·have e:i=xs.length:=by lia
  subst e;exact .inl ⟨⟨xs,I _ ys H @f p,Nat.le_refl _⟩,by lia,R ys H p⟩
noncomputable def RR (K:Fg)(a:Addr):It:=⟨(GD K a).go,λi H x H'=>∃T y,x= .ref T/\H T=none/\H'=upd H T (.tup [.int i,y])/\∀xs,aB K H a xs->xs[i]? =some y,(GD K a).stop⟩
theorem Dg {P:Program}{w:World}{K:Fg}{L:List Expr}{k:Nat}{pos:Pos}(a it e:Addr):vL P w K (.Tuple L k pos) (RR K a) [e,it] e (λi h=>(∃old,IsEnum h e it i old)/\h.IsTupleIter it a i) where
 mem:=by simp
 obj:=λi h st b J=>by
  obtain ⟨⟨old,U⟩,o,ho,c,d⟩:=st
  rcases mem_cons.mp J with rfl|J
  ·exact ⟨_,U,λv z=>by cases z⟩
  ·rw [mem_singleton.mp J];exact ⟨o,ho,λv z=>by rw [d] at z;cases z⟩
 keep:=λi h h' st kk=>by
  obtain ⟨⟨old,U⟩,j⟩:=st;exact ⟨⟨old,kk e @e _ U⟩,j.at λo z=>kk it @e o z⟩
 item:=by
  intro X hP hw hK hc i pins s σ H E I hf st hg;subst hP hw hK;obtain ⟨⟨old,U⟩,j⟩:=st;obtain ⟨xs,x,hq,hx⟩:=hg;obtain ⟨its,rv,p,hz⟩:=I.tuple hq;have hl:s.heap.IsTuple a its.toArray:=p;obtain ⟨u,hu,ru⟩:=rv.get hx;obtain ⟨oi,B,ci,di⟩:=id j;obtain ⟨ol,as,Y,_⟩:=id hl
  have ab:e≠it:=λz=>by have h1:=B.symm.trans (z▸U);cases h1;exact absurd (Value.type.inj ci) @c
  have ah:e≠a:=λz=>by have h1:=as.symm.trans (z▸U);cases h1;exact absurd @bG @c
  have S:a≠it:=λz=>by rw [z,B] at as;cases as;rw [ci] at Y;exact absurd @bG @c
  have W:=WalksT.enumerateD (tX (prog:=X.prog) (w:=X.w) (A:=X.A.in1) @bH it a S its.toArray) e ab (by simp [ab,ah]) @e
  have hi:i<its.toArray.size:=by rw [size_toArray];exact (List.getElem?_eq_some_iff.mp hu).1
  rwa[W.item i s _ _ hi ⟨⟨old,U⟩,j,hl⟩ λT ak h' tk hP hT ac R hk=>⟨.ref T,rfl,?_⟩];rwa[W.go L k pos i T _ _ _ R λh2 O aa=> ?_];obtain ⟨t,u',aq,rfl⟩:=hP
  have aq:its[i]? =some u':=by simpa using aq
  rw [hu] at aq;cases aq;have Z:T∉[e,it]:=W.apart i T h' R;have kk:∀b o,b∉[e,it]->s.heap.get? b=some o->h2.get? b=some o:=λb o nb z=>aa b o nb (hk b o nb z)
  have ad:IsTup h2 T (#[.int i t,u]:Array Value):=by
   obtain ⟨o,ho,c,r⟩:=ac;exact ⟨o,aa T o Z ho,c,r⟩
  have aj:be X.prog X.w (upd H T (.tup [.int i,x])) h2 T (.tup [.int i,x]):=⟨by show 2<=sizeLine;decide,[.int i t,u],.cons ⟨t,rfl⟩ (.cons ru .nil),ad⟩;rwa[⟨.ref T,upd H T (.tup [.int i,x]),I.turnLaid (t':=tk) hf kk hT aj,rfl,⟨T,x,rfl,I.hok.fresh hT,rfl,λys hy=>by rw [I.tuple_inj hy hq];exact hx⟩,⟨O.1,O.2.1⟩,λb J=> ?_⟩];have ne:b≠T:=λz=>Z (by rw [<-z];exact J);rw [ai ne];exact (hf b J).1
 done:=by
  intro X hP hw hK hc i pins s σ H E I hf st hg;subst hP hw hK;obtain ⟨⟨old,U⟩,j⟩:=st;obtain ⟨xs,hq,hx⟩:=hg;obtain ⟨its,rv,p,hz⟩:=I.tuple hq;have hl:s.heap.IsTuple a its.toArray:=p;have al:=rv.length;obtain ⟨oi,B,ci,di⟩:=id j;obtain ⟨ol,as,Y,_⟩:=id hl
  have S:a≠it:=λz=>by rw [z,B] at as;cases as;rw [ci] at Y;exact absurd @bG @c
  have D:=tX (prog:=X.prog) (w:=X.w) (A:=X.A.in1) @bH it a S its.toArray;have hT:s.TypeIs (.ref e) "enumerate":=⟨_,U,rfl⟩;obtain ⟨f0,f1,f2,f3,f4,f5⟩:=hf it @e;unfold pyNext;rwa[wpAny_bind (wpAny_attempt (wpAny_callSpecial?_slot (name:=s!"__next__") hT F.slot_enumerate_next (wpAny_call_entry F.slot_enumerate_next hT F.entry_enumerate_next ?_ (F.args_enumerate_next_1 _))))];show wpAny _ _ (field (.ref e) 2>>=_) _ _ _;rwa[wpAny_bind (wpAny_field U rfl (x:= .ref it) rfl ?_)];rwa[wpAny_bind (iQ @bH j hl (by simp;lia) λh' x ag ae=> ?_)];obtain ⟨o,ho,af⟩:=ae;rwa[wpAny_bind (wpAny_isInstance (T:="StopIteration") (b:=true) ⟨o,ho,af⟩ isSubtype_stop ?_)];exact wpAny_pure ⟨rfl,I.turned (t':=s.toks) (λb o J e=>ag b o J e) f0 f1 f3 f4 f5⟩
 self:=λ_ _ _ _ _ st h=>let ⟨⟨old,U⟩,_⟩:=st;wpAny_pyIter_enum U h
theorem F0 {K:Fg}{a:Addr}{xs:List V}{pk:List @C}{g:TG}{tt:TT}{te:TE}{σ:St}{H:Hp}{Q:VK}(j:Nat->List V->Hp->Prop)(S:xs.length<=sizeLine)(B:∀i ys H,j i ys H->ys.length<=i)(J:j 0 [] H)(I:∀i ys H,i<=xs.length->j i ys H->aB K H a xs)
(hs:∀(i:Nat) x ys H T H',xs[i]? =some x->j i ys H->ao H H'->H' T=some (.tup [.int i,x])->g (.ref T) @L H' λσ2 H2=>sR @L σ2/\tt σ2 H2 λb H3=>if b=true then te σ2 H3 λv H4=>j (i+1) (ys++[v]) H4 else j (i+1) ys H3)
(R:∀ys H,j @fs ys H->∀p,H p=none->Q (.ref p) @R):
 sL (RR K a) pk g tt te σ H Q:=by
 rwa[⟨λi m ys H=>m=xs.length - i/\i<=xs.length/\j i ys H,⟨xs.length,by simp,Nat.zero_le _,J⟩,?_⟩];rintro i m ys H ⟨rfl,hi,p⟩;have W:=B _ _ _ p;by_cases F:i<xs.length
 ·rwa[.inr ⟨⟨xs,xs[i],I i ys H hi p,by simp [F]⟩,by lia,j (i+1),λzs H' L=>⟨xs.length - (i+1),by lia,rfl,F,L⟩,λx H' y=> ?_⟩];obtain ⟨T,z,rfl,O,rfl,y⟩:=y;exact hs i z ys _ T _ (y xs (I i ys _ hi p)) p (.upd O) ag
 ·have e:i=xs.length:=by lia
  subst e;exact .inl ⟨⟨xs,I _ ys H @f p,Nat.le_refl _⟩,by lia,R ys H p⟩
def Rr (K:Fg)(p:Addr)(H:Hp)(R:It->Hp->Prop):Prop:=(∃xs,aA K H p xs/\R (Qm K p) H)\/∃xs,aB K H p xs/\R (RR K p) H
def R4 (K:Fg)(te:TE):TI:=λσ H R=>te σ H λx H1=>match x with| .ref p=>Rr K p H1 R|_=>False
theorem Af {X:Cx}{K:Fg}(Y:X.K=K){L:List Expr}{k:Nat}{tpos p pos:Pos}{e:Expr}{te:TE}(hg:Gl X "enumerate")(U:X.mg "enumerate"=none)(Z:PE X e te)(hs:bB e=true:=by rfl):
 PI X (.Tuple L k tpos) (.Call (.Name "enumerate" p) [e] [] pos) (R4 K te):=by
 subst Y;intro pins s σ H R I h;have st:starEach [e] X.env=[(false,eval e X.env)]:=bg hs;rwa[Call_ (j8 I hg U boot_enumerate (PyProof.Rows.callWith_type1 ?_ st (b9 (by rfl))))];rw [st];show wpAny _ _ (spliced ((false,eval e X.env)::backTo pos (starEach [] X.env))) _ _ s;rwa[Calls.spliced_cons (br (Z pins s σ H _ I h) λu J ⟨x,H1,z,B,S⟩=> ?_)];rwa[Calls.spliced_nil ?_]
 cases x with
 |ref a=>
  have B:u=Value.ref a:=B;subst B
  have fp:∀b∈[J.heap.objs.size+1,J.heap.objs.size],i8 X pins H1 b:=λb O=>by
   rcases mem_cons.mp O with rfl|O
   ·exact z.fpOk @dR (z.hok.fresh @dR)
   ·rw [mem_singleton.mp O];exact z.fpOk @f (z.hok.fresh @f)
  rcases S with ⟨xs,F,q⟩|⟨xs,F,q⟩
  ·obtain ⟨its,rv,p,hz⟩:=z.list F;rwa[call_enumerate_list p.isList λh' h1 h2 W j=> ?_];exact wpAny_pyIter_enum h1 ⟨_,[J.heap.objs.size+1,J.heap.objs.size],_,_,H1,rfl,z.kept (t':=J.toks) j,Dh a _ _,⟨⟨_,h1⟩,h2⟩,fp,q⟩
  ·obtain ⟨its,rv,p,hz⟩:=z.tuple F;rwa[sO (show J.heap.IsTuple a its.toArray from p) λh' h1 h2 W j=> ?_];exact wpAny_pyIter_enum h1 ⟨_,[J.heap.objs.size+1,J.heap.objs.size],_,_,H1,rfl,z.kept (t':=J.toks) j,Dg a _ _,⟨⟨_,h1⟩,h2⟩,fp,q⟩
 |_=>exact False.elim S
section
variable {X:Cx}{K:Fg}
def QS:List V->Hp->VK->Prop:=λxs H Q=>match xs with|[.int i]=>Q (.int (if i<0 then -i else i)) H|_=>False
theorem NQ:bf X (.builtin "abs") QS:=Ga.imp λxs H Q h=>by
 match xs,h with
 |[.int i],h=>exact ⟨i,rfl,h⟩
theorem Jb {R:List Int}:∀ {us:List Value},aJ @fN us->IntsAre us R:=by
 induction R with
 |nil=>intro us r;cases r;exact .nil
 |cons a r ih=>
  intro us h
  cases h with
  |cons r1 r2=>
   obtain ⟨t,rfl⟩:=r1;exact .cons _ _ (ih r2)
def RB (K:Fg)(a:Addr)(j:Int)(H:Hp)(Q:VK):Prop:=∃ns:List Int,aA K H a @bV/\Q (.int (ns.count j:Nat)) H
def KJ (K:Fg):V->List V->Hp->VK->Prop:=λx xs H Q=>match x,xs with| .ref a,[.int j]=>RB K a j H Q|_,_=>False
theorem G1 (O:X.K=K):xO X "list.count" (KJ K):=by
 subst O;intro pins s σ H x xs v J Q I L z h
 match x,xs,h with
 | .ref a,[.int j],h=>
   obtain ⟨R,F,q⟩:=h;have L:v=Value.ref a:=L;subst L;obtain ⟨u,rfl,t,rfl⟩:=fR z;obtain ⟨its,B,p,S⟩:=I.list F;rwa[count_list_ints p.isList (Jb B) ?_];exact ⟨.int (R.count j:Nat),H,I.tok _,⟨_,rfl⟩,q⟩
end
theorem oU.two {X:Cx}{j O:Str}{W c1:Addr}{J L:Nat}{S:List (Str×Addr)}(B:(j==O)=false)(n0:X.N[J]? =some j)(n1:X.N[L]? =some O)(k0:X.env.scope.names.lookup j=some .cell)(k1:X.env.scope.names.lookup O=some .cell)
(e0:X.env.cells.lookup j=some W)(U:X.env.cells.lookup O=some c1)(h:S=[(j,W),(O,c1)]\/S=[(O,c1),(j,W)]):oU X [j,O] [J,L] S:=by
 have I:(O==j)=false:=by
  cases z:O==j with
  |false=>rfl
  |true=>rw [eq_of_beq z] at B;rw [beq_self_eq_true] at B;cases B
 have Y:S.lookup j=some W:=by
  rcases h with rfl|rfl
  ·simp [List.lookup]
  ·simp [List.lookup,B]
 have Z:S.lookup O=some c1:=by
  rcases h with rfl|rfl
  ·simp [List.lookup,I]
  ·simp [List.lookup]
 rwa[⟨λi x F=> ?_,λx c e=> ?_⟩]
 ·match i,F with
  |0,F=>cases F;exact ⟨J,W,rfl,n0,k0,e0,Y⟩
  |1,F=>cases F;exact ⟨L,c1,rfl,n1,k1,U,Z⟩
 ·have F:x=j\/x=O:=by
   rcases h with rfl|rfl
   ·cases z:x==j with
    |true=>exact .inl (eq_of_beq z)
    |false=>
     cases R:x==O with
     |true=>exact .inr (eq_of_beq R)
     |false=>simp [List.lookup,z,R] at e
   ·cases z:x==j with
    |true=>exact .inl (eq_of_beq z)
    |false=>
     cases R:x==O with
     |true=>exact .inr (eq_of_beq R)
     |false=>simp [List.lookup,z,R] at e
  rcases F with rfl|rfl
  ·rw [Y] at e;cases e;exact ⟨by simp,e0⟩
  ·rw [Z] at e;cases e;exact ⟨by simp,U⟩
theorem xk {P:Program}{w:World}{K:Frag}{mg:Str->Option Value}{base:Heap}{k:Nat}{f c:Addr}{x:Str}{st:Stmt}{Z U j Y J:Value}{W od:Option Addr}{aa:Array @J}{N ps:List Str}{sp:Sp}
(I:K.lookup f=some ⟨J,od,.func (fnOf x x @dS @cS @bI .none Z U j W (.ref c) Y),aa⟩)(B:codeIn K (.ref c) x=true)(S:af N ps @bI)(O:∀vs H Q E,sp vs H Q E->vs.length=ps.length)
(F:∀(A:Around) (outer:List Env) (s:Shared) (H:Hp) (vs:List V) (Q:VK) (E:XK),bE k (A.deeper (envOfC x @bI s.heap.objs.size f (.ref c)))->sp vs H Q E->
   ∃t,rT (rB aT P w K mg base N x @bI f (.ref c) A outer s H E).nox @cS t/\t {nx:=λ_ H'=>Q .non H',rt:=Q} @cC H):au P w K mg base aT (k+1) f (fnOf x x @dS @cS @bI .none Z U j W (.ref c) Y) ps sp:=by
 rwa[FI I B S O λA outer s H vs Q E z R=> ?_];obtain ⟨t,h,q⟩:=F A outer s H vs Q E z R;exact ⟨t,h.nox,q⟩
theorem cR {X:Cx}{s:Stmt}:PS X s @eE:=λ_ _ _ _ _ _ h=>h.elim
theorem FH {K:Fg}{a:Addr}{xs:List V}{g:TG}{tb:TS}{D:nR}{σ:St}{H:Hp}(j:Nat->St->Hp->Prop)(J:j 0 σ H)(F:∀i σ H,i<=xs.length->j i σ H->aA K H a xs)
(hs:∀(i:Nat) x σ H T H',xs[i]? =some x->j i σ H->ao H H'->H' T=some (.tup [.int i,x])->g (.ref T) σ H' λσ2 H2=>tb {D with nx:=j (i+1),ct:=j (i+1),bk:=D.nx} σ2 H2)(L:∀σ H,j xs.length σ H->D.nx σ H):zD (Qm K a) g tb D σ H:=by
 rwa[⟨λi m σ H=>m=xs.length - i/\i<=xs.length/\j i σ H,⟨xs.length,by simp,Nat.zero_le _,J⟩,?_⟩];rintro i m σ H ⟨rfl,hi,p⟩;by_cases B:i<xs.length
 ·rwa[.inr ⟨⟨xs,xs[i],F i σ H hi p,by simp [B]⟩,j (i+1),λR H' I=>⟨xs.length - (i+1),by lia,rfl,B,I⟩,λx H' y=> ?_⟩];obtain ⟨T,z,rfl,O,rfl,y⟩:=y;exact hs i z σ _ T _ (y xs (F i σ _ hi p)) p (.upd O) ag
 ·have e:i=xs.length:=by lia
  subst e;exact .inl ⟨⟨xs,F _ σ H @f p,Nat.le_refl _⟩,L σ H p⟩
theorem Em {X:Cx}(i:Nat){x:Str}{pos:Pos}(hi:X.N[i]? =some x:=by rfl)(z:X.N.Nodup:=by (conv=>arg 1;whnf);decide+kernel)(j:JC X.env.scope x:=by first|exact Or.inl rfl|exact Or.inr rfl)(B:X.fn x=true\/X.env.scope.names.lookup x=some .local:=by first|exact .inl rfl|exact .inr rfl|assumption):PG X (.Name x pos) (lG i):=vg z hi j B
theorem Ei {X:Cx}(i:Nat){x:Str}{e:Expr}{te:TE}{pos pos':Pos}(U:PE X e te)(hi:X.N[i]? =some x:=by rfl)(z:X.N.Nodup:=by (conv=>arg 1;whnf);decide+kernel)(j:JC X.env.scope x:=by first|exact Or.inl rfl|exact Or.inr rfl)(hs:swapsWith e (some (.Name x pos')) pos.line X.env=pure false:=by rfl)(B:X.fn x=true\/X.env.scope.names.lookup x=some .local:=by first|exact .inl rfl|exact .inr rfl|assumption):PS X (.Assign [.Name x pos'] e pos) (Dq te (lG i)):=bP z hi j U hs B
end L2
local macro_rules|`(tactic|walk_at "l3de")=>`(tactic|first|(show L2.PE _ (.Name _ _) _;first|exact L2.wv 0|exact L2.wv 1|exact L2.wv 2|exact L2.wv 3|exact L2.wv 4|exact L2.wv 5|exact L2.wv 6|exact L2.wv 7|exact L2.wv 8|exact L2.wv 9|exact L2.Ay rfl (by assumption) (by assumption)|exact L2.lm rfl (by assumption))|(show L2.PE _ (.Subscript _ (.Slice _ _ _ _) _) _;exact L2.Eo (L2.NE rfl) (by right) (by right) (by right))|(show L2.PE _ (.Subscript _ _ _) _;exact L2.eV (L2.jJ rfl) (by right) (by right) (fun _ _=>rfl))|(show L2.PE _ (.Constant _ _ _) _;first|exact L2.bz|exact L2.cN|exact L2.dQ|exact L2.vh)|(show L2.PE _ (.Call _ _ _ _) _;walk_at "l3dc")|(show L2.PE _ (.BinOp _ _ _ _) _;walk_at "l3db")|(show L2.PE _ (.Tuple _ _ _) _;exact L2.fJ (by right))|(show L2.PE _ (.List _ _) _;exact L2.CZ (by right))|(show L2.PE _ (.Attribute _ _ _) _;exact L2.Ku rfl (by right))|(show L2.PE _ (.Compare _ _ _ _) _;walk_at "l3dm")|(show L2.PE _ (.IfExp _ _ _ _) _;exact L2.C0 (by right) (by right) (by right))|(show L2.PE _ (.UnaryOp .Not _ _) _;exact L2.CW rfl (by right))|(show L2.PE _ (.UnaryOp .USub _ _) _;exact L2.OE L2.NH (by right))|(show L2.PE _ (.BoolOp _ [_] _) _;exact L2.yV (by right))|(show L2.PE _ (.BoolOp .And _ _) _;exact L2.pO (by right) (by right))|(show L2.PE _ (.BoolOp .Or _ _) _;exact L2.ND (by right) (by right)))
local macro_rules|`(tactic|walk_at "l3dc")=>Lean.wH "L2.PE _ (.Call (.Name \"len\" _) _ _ _) _~L2.bx (L2.Ah rfl) rfl !a PySem.boot_len !r|L2.PE _ (.Call (.Name _ _) _ _ _) _~L2.cO !a !a !d rfl !r|L2.PE _ (.Call (.Attribute _ \"append\" _) _ _ _) _~L2.ij rfl PySem.F.plainAttrs_list PySem.F.slot_list_append PySem.F.type_list_append L2.pQ !r !r|L2.PE _ (.Call (.Attribute _ \"extend\" _) _ _ _) _~L2.ij rfl PySem.F.plainAttrs_list PySem.F.slot_list_extend PySem.F.type_list_extend L2.pP !r !r|L2.PE _ (.Call (.Attribute _ \"split\" _) _ _ _) _~L2.ij rfl PySem.F.plainAttrs_str PySem.F.slot_str_split PySem.F.type_str_split L2.GZ !r !r|L2.PE _ (.Call (.Attribute _ \"join\" _) _ _ _) _~L2.ij rfl PySem.F.plainAttrs_str PySem.F.slot_str_join PySem.F.type_str_join (L2.ya rfl) !r !r"
local macro_rules|`(tactic|walk_at "l3db")=>Lean.wH "L2.PE _ (.BinOp _ .Add _ _) _~L2.dE (L2.iB rfl) !r !r|L2.PE _ (.BinOp _ .Sub _ _) _~L2.dE L2.C3 !r !r|L2.PE _ (.BinOp _ .Mult _ _) _~L2.dE L2.C5 !r !r|L2.PE _ (.BinOp _ .Mod _ _) _~L2.dE L2.NI !r !r|L2.PE _ (.BinOp _ .FloorDiv _ _) _~L2.dE L2.Ky !r !r|L2.PE _ (.BinOp _ .LShift _ _) _~L2.dE L2.NG !r !r|L2.PE _ (.BinOp _ .BitAnd _ _) _~L2.dE L2.NN !r !r|L2.PE _ (.BinOp _ .BitOr _ _) _~L2.dE L2.Qw !r !r"
local macro_rules|`(tactic|walk_at "l3dm")=>Lean.wH "L2.PE _ (.Compare _ [.Eq] _ _) _~L2.dG (L2.wg rfl !a) !r !r (L2.bF _)|L2.PE _ (.Compare _ [.NotEq] _ _) _~L2.dG (L2.Ag rfl !a) !r !r (L2.bF _)|L2.PE _ (.Compare _ [.Lt] _ _) _~L2.dG L2.w_lt !r !r (L2.bF _)|L2.PE _ (.Compare _ [.Gt] _ _) _~L2.dG L2.NL !r !r (L2.bF _)|L2.PE _ (.Compare _ [.LtE] _ _) _~L2.dG L2.we !r !r (L2.bF _)|L2.PE _ (.Compare _ [.GtE] _ _) _~L2.dG L2.Kx !r !r (L2.bF _)|L2.PE _ (.Compare _ [.In] _ _) _~L2.dG (L2.NK rfl) !r !r !w|L2.PE _ (.Compare _ [.Is] _ _) _~L2.dG L2.JI !r !r (L2.bF _)|L2.PE _ (.Compare _ [.LtE,.Lt] _ _) _~L2.wa L2.we L2.w_lt !r !r !r|L2.PE _ (.Compare _ [.LtE,.LtE] _ _) _~L2.wa L2.we L2.we !r !r !r"
local macro_rules|`(tactic|walk_at "l3dt")=>`(tactic|first|(show L2.PT _ (.Compare _ _ _ _) _;walk_at "l3dn")|(show L2.PT _ (.BoolOp _ _ _) _;exact L2.PW.pt (by right))|(show L2.PT _ (.UnaryOp .Not _ _) _;exact L2.b7 (by right))|(show L2.PT _ _ _;exact L2.kz rfl (by right)))
local macro_rules|`(tactic|walk_at "l3dn")=>Lean.wH "L2.PT _ (.Compare _ [.Eq] _ _) _~L2.bY (L2.wg rfl !a) !r !r (L2.bF _)|L2.PT _ (.Compare _ [.Lt] _ _) _~L2.bY L2.w_lt !r !r (L2.bF _)|L2.PT _ (.Compare _ [.Gt] _ _) _~L2.bY L2.NL !r !r (L2.bF _)|L2.PT _ (.Compare _ [.LtE] _ _) _~L2.bY L2.we !r !r (L2.bF _)|L2.PT _ (.Compare _ [.GtE] _ _) _~L2.bY L2.Kx !r !r (L2.bF _)|L2.PT _ (.Compare _ [.NotEq] _ _) _~L2.bY (L2.Ag rfl !a) !r !r (L2.bF _)|L2.PT _ (.Compare _ [.In] _ _) _~L2.bY (L2.NK rfl) !r !r !w|L2.PT _ (.Compare _ [.Is] _ _) _~L2.bY L2.JI !r !r (L2.bF _)|L2.PT _ (.Compare _ [.LtE,.Lt] _ _) _~L2.v8 L2.we L2.w_lt !r !r !r|L2.PT _ (.Compare _ [.LtE,.LtE] _ _) _~L2.v8 L2.we L2.we !r !r !r"
local macro_rules|`(tactic|walk_at "l3dd")=>`(tactic|first|(show L2.PE _ _ _;walk_at "l3de")| (show L2.PA _ _ _;first|exact L2.ap|exact L2.ar (by right) (by right))| (show L2.PT _ _ _;walk_at "l3dt")| (show L2.PS _ (.Assign [.Name _ _] _ _) _;first|(refine' L2.Ei 0 ?_;walk_at "l3dd")|(refine' L2.Ei 1 ?_;walk_at "l3dd")|(refine' L2.Ei 2 ?_;walk_at "l3dd")|(refine' L2.Ei 3 ?_;walk_at "l3dd")|(refine' L2.Ei 4 ?_;walk_at "l3dd")|(refine' L2.Ei 5 ?_;walk_at "l3dd")|(refine' L2.Ei 6 ?_;walk_at "l3dd")|(refine' L2.Ei 7 ?_;walk_at "l3dd")|(refine' L2.Ei 8 ?_;walk_at "l3dd")|(refine' L2.Ei 9 ?_;walk_at "l3dd")|(refine' L2.Ei 10 ?_;walk_at "l3dd"))| (show L2.PW _ (.BoolOp .And [_] _) _;exact L2.Ax (by right))| (show L2.PW _ (.BoolOp .Or [_] _) _;exact L2.iO (by right))| (show L2.PW _ (.BoolOp .And _ _) _;exact L2.x8 (by right) (by right))| (show L2.PW _ (.BoolOp .Or _ _) _;exact L2.jt (by right) (by right))| (show L2.PO _ none _;exact L2.HS)| (show L2.PO _ _ _;exact L2.GY (by right))| (show L2.PG _ (.Name _ _) _;first|exact L2.Em 0|exact L2.Em 1|exact L2.Em 2|exact L2.Em 3|exact L2.Em 4|exact L2.Em 5|exact L2.Em 6|exact L2.Em 7|exact L2.Em 8|exact L2.Em 9|exact L2.Em 10)| (show L2.PG _ (.Tuple _ _ _) _;exact L2.d7 rfl rfl (by right))| (show L2.CJ _ [] _;exact L2.cY)| (show L2.CJ _ _ _;exact L2.az (by right) (by right))| (show L2.PI _ _ _ _;exact L2.Kr rfl (by right)))
namespace L2
open PySem PySem.Spec PyProof.Rows
section
variable {κ:Type}[DecidableEq κ]
noncomputable def dJ (kvs:List (κ×V))(k:κ):Option V:=(kvs.find? λkv=>decide (kv.1=k)).map (·.2)
noncomputable def fW (kvs:List (κ×V))(k:κ)(v:V):List (κ×V):=
 if (kvs.any λkv=>decide (kv.1=k))=true then kvs.map (λkv=>if kv.1=k then (kv.1,v) else kv) else kvs++[(k,v)]
theorem bU {p:κ×V}{r:List (κ×V)}{k:κ}(e:p.1=k):dJ (p::r) k=some p.2:=by simp [dJ,find?_cons,e]
theorem bV {p:κ×V}{r:List (κ×V)}{k:κ}(e: ¬p.1=k):dJ (p::r) k=dJ r k:=by simp [dJ,find?_cons,e]
theorem kA (k:κ):∀kvs:List (κ×V),(kvs.any λkv=>decide (kv.1=k))=(dJ kvs k).isSome
 |[]=>rfl
 |p::r=>by
  rw [any_cons];by_cases e:p.1=k
  ·simp only [bU e,decide_eq_true e,Bool.true_or,Option.isSome_some]
  ·rw [bV e,decide_eq_false e,Bool.false_or];exact kA k r
theorem wm (k j:κ)(y:V):∀kvs:List (κ×V),dJ (kvs.map λkv=>if kv.1=k then (kv.1,y) else kv) j=(dJ kvs j).map λx=>if j=k then y else x
 |[]=>rfl
 |p::r=>by
  have B:=wm k j y r;rw [map_cons];by_cases h:p.1=k
  ·rw [if_pos h];by_cases e:p.1=j
   ·rw [bU (p:=(p.1,y)) e,bU e,Option.map_some,if_pos (e.symm.trans h)]
   ·rw [bV (p:=(p.1,y)) e,bV e,B]
  ·rw [if_neg h];by_cases e:p.1=j
   ·rw [bU (p:=p) e,bU e,Option.map_some,if_neg (λz=>h (e.trans z))]
   ·rw [bV (p:=p) e,bV e,B]
theorem sW (k j:κ)(y:V):∀kvs:List (κ×V),dJ kvs k=none->dJ (kvs++[(k,y)]) j=if j=k then some y else dJ kvs j
 |[],_=>by
  by_cases e:k=j
  ·rw [if_pos e.symm];exact bU (p:=(k,y)) e
  ·rw [if_neg (λz=>e z.symm)];exact bV (p:=(k,y)) e
 |p::r,hn=>by
  rw [cons_append]
  have R: ¬p.1=k:=λz=>by rw [bU z] at hn;cases hn
  rw [bV R] at hn;have B:=sW k j y r hn;by_cases e:p.1=j
  ·rw [bU e,bU e,if_neg (λz=>R (e.trans z))]
  ·rw [bV e,bV e,B]
theorem Dc (kvs:List (κ×V))(k j:κ)(y:V):dJ @fY j=if j=k then some y else dJ kvs j:=by
 unfold fW;by_cases a:(kvs.any λB=>decide (B.1=k))=true
 ·rw [if_pos a,wm];rw [kA] at a;by_cases e:j=k
  ·obtain ⟨x,z⟩:=Option.isSome_iff_exists.mp a;rw [if_pos e,e,z,Option.map_some,if_pos rfl]
  ·rw [if_neg e]
   cases dJ kvs j with
   |none=>rfl
   |some x=>rw [Option.map_some,if_neg e]
 ·rw [if_neg a];rwa[sW k j y kvs ?_];rw [kA] at a
  cases q:dJ kvs k with
  |none=>rfl
  |some x=>rw [q] at a;exact (a rfl).elim
theorem dg (kvs:List (κ×V))(k:κ)(v:V):(fW kvs k v).length<=kvs.length+1:=by
 unfold fW;split
 ·rw [length_map];lia
 ·rw [length_append,length_cons,length_nil];lia
theorem iu.isSome_eq {o:Option V}{u:Option Value}(r:iu o u):o.isSome=u.isSome:=by
 cases o with
 |none=>cases u with
  |none=>rfl
  |some _=>exact (show False from r).elim
 |some _=>cases u with
  |none=>exact (show False from r).elim
  |some _=>rfl
theorem iu.getD {o:Option V}{u:Option Value}{d:V}{d':Value}(r:iu o u)(j:ay d d'):ay (o.getD d) (u.getD d'):=by
 cases o with
 |none=>cases u with
  |none=>exact j
  |some _=>exact (show False from r).elim
 |some _=>cases u with
  |none=>exact (show False from r).elim
  |some _=>exact r
theorem KV.val {kvs:List (κ×V)}{vs:List (κ×Value)}(r:KV kvs vs)(k:κ):iu @gp (valueAt vs k):=by
 unfold KV at r
 induction r with
 |nil=>exact True.intro
 | @cons p q ps qs h t ih=>
   obtain ⟨h1,h2⟩:=h;by_cases e:p.1=k
   ·have j:q.1=k:=h1.symm.trans e
    have b:valueAt (q::qs) k=some q.2:=by simp [valueAt,find?_cons,j]
    rw [bU e,b];exact h2
   ·have j: ¬q.1=k:=λz=>e @fd
    have b:valueAt (q::qs) k=valueAt qs k:=by simp [valueAt,find?_cons,j]
    rw [bV e,b];exact ih
theorem KV.any {kvs:List (κ×V)}{vs:List (κ×Value)}(r:KV kvs vs)(k:κ):(kvs.any λkv=>decide (kv.1=k))=vs.any λkv=>decide (kv.1=k):=by
 unfold KV at r
 induction r with
 |nil=>rfl
 |cons h t ih=>rw [any_cons,any_cons,ih,h.1]
theorem KV.repl {kvs:List (κ×V)}{vs:List (κ×Value)}(r:KV kvs vs)(k:κ){y:V}{u:Value}(j:ay y u):
 KV (kvs.map λkv=>if kv.1=k then (kv.1,y) else kv) (vs.map λkv=>if kv.1=k then (kv.1,u) else kv):=by
 unfold KV at r ⊢
 induction r with
 |nil=>exact .nil
 | @cons p q ps qs h t ih=>
   rw [map_cons,map_cons];rwa[.cons ?_ ih];obtain ⟨h1,h2⟩:=h;by_cases e:p.1=k
   ·rw [if_pos e,if_pos (h1.symm.trans e)];exact ⟨h1,j⟩
   ·rw [if_neg e,if_neg (λz=>e @fd)];exact ⟨h1,h2⟩
theorem KV.put {kvs:List (κ×V)}{vs:List (κ×Value)}(r:KV kvs vs)(k:κ){y:V}{u:Value}(z:ay y u):KV @fY (stored vs k u):=by
 unfold fW stored;rw [r.any k];by_cases e:(vs.any λB=>decide (B.1=k))=true
 ·rw [if_pos e,if_pos e];exact r.repl k z
 ·rw [if_neg e,if_neg e];exact Paired.snoc r ⟨rfl,z⟩
theorem KV.length {kvs:List (κ×V)}{vs:List (κ×Value)}(r:KV kvs vs):kvs.length=vs.length:=Paired.length r
end
theorem AF {P:Program}{w:World}{k:du}{u:Value}(r:ay (kV k) u):(b8 P w).is k u=true:=by
 cases k with
 |inl i=>obtain ⟨t,e⟩:=(show ∃t,u=Value.int i t from r);subst e;exact xa P w i t
 |inr x=>obtain ⟨t,e⟩:=(show ∃t,u=Value.str x t from r);subst e;exact w9 P w x t
theorem tR {P:Program}{w:World}:∀ {ks:List du} {us:List Value},aJ @gj us->ItemsAre @di ks us
 |[],_,r=>by rw [map_nil] at r;cases r;exact .nil
 |k::ks,_,r=>by
  rw [map_cons] at r
  cases r with
  |cons h t=>exact .cons (AF h) (tR t)
abbrev KT (H:Hp):List (List du×V)->List (List du×Addr×Value)->Prop:=Paired λp q=>p.1=q.1/\H q.2.1=some (.tup (p.1.map kV))/\ay p.2 q.2.2
theorem KT.val {H:Hp}{kvs:List (List du×V)}{xs:List (List du×Addr×Value)}(r:KT H kvs xs)(k:List du):iu @gp ((atKey xs k).map (·.2)):=by
 induction r with
 |nil=>exact True.intro
 | @cons p q ps qs h t ih=>
   obtain ⟨h1,_,h2⟩:=h;by_cases e:p.1=k
   ·have j:q.1=k:=h1.symm.trans e
    have b:atKey (q::qs) k=some q.2:=by simp [atKey,find?_cons,j]
    rw [bU e,b];exact h2
   ·have j: ¬q.1=k:=λz=>e @fd
    have b:atKey (q::qs) k=atKey qs k:=by simp [atKey,find?_cons,j]
    rw [bV e,b];exact ih
theorem KT.repl {H:Hp}{kvs:List (List du×V)}{xs:List (List du×Addr×Value)}(r:KT H kvs xs)(k:List du){y:V}{u:Value}(j:ay y u):
 KT H (kvs.map λkv=>if kv.1=k then (kv.1,y) else kv) (xs.map (PySem.putAt k u)):=by
 induction r with
 |nil=>exact .nil
 | @cons p q ps qs h t ih=>
   rw [map_cons,map_cons];rwa[.cons ?_ ih];obtain ⟨h1,h2,L⟩:=h;unfold PySem.putAt;by_cases e:p.1=k
   ·rw [if_pos e,if_pos (h1.symm.trans e)];exact ⟨h1,h2,j⟩
   ·rw [if_neg e,if_neg (λz=>e @fd)];exact ⟨h1,h2,L⟩
theorem KT.put {H:Hp}{kvs:List (List du×V)}{xs:List (List du×Addr×Value)}(r:KT H kvs xs)(k:List du){b:Addr}{y:V}{u:Value}(B:H b=some (.tup (k.map kV)))(z:ay y u):
 KT H @fY (storedH xs k b u):=by
 have e:(kvs.any λj=>decide (j.1=k))=(atKey xs k).isSome:=by
  rw [kA,(r.val k).isSome_eq,Option.isSome_map]
 unfold fW storedH;rw [e];by_cases q:(atKey xs k).isSome=true
 ·rw [if_pos q,if_pos q];exact r.repl k z
 ·rw [if_neg q,if_neg q];exact Paired.snoc r ⟨rfl,B,z⟩
theorem KT.keeps {H H':Hp}{kvs:List (List du×V)}{xs:List (List du×Addr×Value)}(r:KT H kvs xs)(J:∀b ys,H b=some (.tup ys)->H' b=some (.tup ys)):KT H' kvs xs:=
 Paired.mapP r λ_ _ z=>⟨z.1,J _ _ z.2.1,z.2.2⟩
section
variable {P:Program}{w:World}{H:Hp}{h:Heap}{a:Addr}
theorem JN {u:HO}(W:fI P w H h)(e:Rd H a u):be P w H h a u:=e.ok W
theorem J0 {kvs:List (du×V)}(W:fI P w H h)(e:Rd H a (.dK kvs)):kvs.length<=sizeLine/\(a==sysModules)=false/\∃vs,KV kvs vs/\h.DictOf @di a vs:=
 show be P w H h a (.dK kvs) from JN W e
theorem J2 {kvs:List (du×V)}(W:fI P w H h)(e:H a=some (.dK kvs)):kvs.length<=sizeLine/\(a==sysModules)=false/\∃vs,KV kvs vs/\h.DictOf @di a vs:=J0 W (.inl e)
theorem zr {ks:List du}(W:fI P w H h)(e:H a=some (.tup @gj)):(tupleKind @di).is h ks a:=by
 obtain ⟨_,its,r,o,h1,h2,n,L⟩:=(show be P w H h a (.tup @gj) from W a _ e);exact ⟨o,its.toArray,n,h1,h2,L,by simpa using tR r⟩
theorem JZ {kvs:List (List du×V)}(W:fI P w H h)(e:Rd H a (.dT kvs)):kvs.length<=sizeLine/\(a==sysModules)=false/\
 ∃xs,KT H kvs xs/\h.DictOfH @fo a xs:=by
 obtain ⟨z,y,xs,r,o,es,I,h1,h2,L,F,U⟩:=(show be P w H h a (.dT kvs) from JN W e);rwa[⟨z,y,xs,r,o,es,I,h1,h2,L,F,λx j=> ?_,U⟩]
 have B:∀ {l:List (List du×V)} {m:List (List du×Addr×Value)},KT H l m->∀x∈m,(tupleKind @di).is h x.1 x.2.1:=by
  intro l m q
  induction q with
  |nil=>intro x j;exact nomatch j
  | @cons p q ps qs hq t ih=>
    intro x j
    rcases mem_cons.mp j with e|j
    ·subst e;exact zr W (by rw [<-hq.1];exact hq.2.1)
    ·exact ih x j
 exact B r x j
theorem Ph {kvs:List (List du×V)}(W:fI P w H h)(e:H a=some (.dT kvs)):kvs.length<=sizeLine/\(a==sysModules)=false/\
 ∃xs,KT H kvs xs/\h.DictOfH @fo a xs:=JZ W (.inl e)
end
def GL (H:Hp)(a:Addr)(y:V)(r:Option V):Prop:=
 (∃kvs k,Rd H a (.dK kvs)/\y=kV k/\r=dJ kvs k)\/∃kvs k b,Rd H a (.dT kvs)/\y= .ref b/\H b=some (.tup (k.map kV))/\r=dJ kvs k
def GK (H:Hp)(a:Addr)(y v:V)(H':Hp):Prop:=
 (∃kvs k,H a=some (.dK kvs)/\y=kV k/\kvs.length<sizeLine/\H'=upd H a (.dK @fZ))\/
 ∃kvs k b,H a=some (.dT kvs)/\y= .ref b/\H b=some (.tup (k.map kV))/\kvs.length<sizeLine/\H'=upd H a (.dT @fZ)
theorem GL.k {H:Hp}{a:Addr}{kvs:List (du×V)}{k:du}(e:H a=some (.dK kvs)):GL H a (kV k) @gp:= .inl ⟨kvs,k,.inl e,rfl,rfl⟩
theorem GK.k {H:Hp}{a:Addr}{kvs:List (du×V)}{k:du}{v:V}(e:H a=some (.dK kvs))(W:kvs.length<sizeLine):GK H a (kV k) v (upd H a (.dK @fZ)):= .inl ⟨kvs,k,e,rfl,W,rfl⟩
section
variable {X:Cx}{pins:List (Addr×Obj)}{σ:St}{H:Hp}{s:Shared}{a:Addr}{y v:V}{u r:Value}{o:Option V}{A:Around}{E:Value->Shared->Prop}
theorem av.big (I:av X pins σ H s):sysModules<s.heap.objs.size:=by
 have h:mainGlobals<s.heap.objs.size:=(I.mod.glob.keeps I.bk).lt;exact Nat.lt_trans @c h
theorem RA {Q:Value->Shared->Prop}(L:A.units+1<cLine)(I:av X pins σ H s)(g:GL H a y o)(F:ay y u)(h:∀s',av X pins σ H s'->Q (.bool o.isSome) s'):
 wpAny @d A (compareOp .In u (.ref a)) Q E s:=by
 rcases g with ⟨kvs,k,e,B,l⟩|⟨kvs,k,b,e,B,O,l⟩
 ·subst B;obtain ⟨z,J,R,j,Z⟩:=J0 I.hok e;rwa[wpAny_in_of (AF F) J Z.mapOf ?_];rw [<-(j.val k).isSome_eq,<-l];exact h _ @dQ
 ·subst B;cases (show u=Value.ref b from F);obtain ⟨z,J,xs,j,Z⟩:=JZ I.hok e;rwa[wpAny_in_heap (tupleKind_room_in1 L) (zr I.hok O) J Z ?_];have q:=(j.val k).isSome_eq;rw [Option.isSome_map] at q;rw [<-q,<-l];exact h _ @dQ
theorem pL {h':Heap}{t':Nat}{j:HO}(I:av X pins σ H s)(J:PN (H a))(hs:Heap.SameBut a s.heap h')(U:∃q,h'.get? a=some q)(B:be X.prog X.w (upd H a j) h' a j):
 av X pins σ (upd H a j) {s with heap:=h',toks:=t'}:=
 I.write (x:=a) (e:=a) J (.inl rfl) (λb q F z=>(hs.2 b F).trans z) U B
theorem zM {P:Program}{w:World}{H':Hp}{h':Heap}{kvs:List (du×V)}{vs:List (du×Value)}(z:kvs.length<=sizeLine)(J:(a==sysModules)=false)(j:KV kvs vs)(dd:h'.DictOf @di a vs):
 be P w H' h' a (.dK kvs):=⟨z,J,vs,j,dd⟩
theorem Cs {H':Hp}{Q:Unit->Shared->Prop}(hu:A.units+1<cLine)(I:av X pins σ H s)(g:GK H a y v H')(S:ay y u)(U:ay v r)(h:∀s',av X pins σ H' s'->Q () s'):
 wpAny @d A (setItem (.ref a) u r) Q E s:=by
 rcases g with ⟨kvs,k,e,R,l,J⟩|⟨kvs,k,b,e,R,Y,l,J⟩
 ·subst R J;obtain ⟨z,L,vs,j,Z⟩:=J2 I.hok e
  have O:vs.length<=sizeLine:=by rw [<-j.length];exact z
  have W:(fW kvs k v).length<=sizeLine:=by have:=dg kvs k v;lia
  rwa[wpAny_setItem_pairs (hsz:=O) (AF S) Z λh' B hs=>h _ ?_];have he:∃q,h'.get? a=some q:=let ⟨q,_,_,F,_⟩:=B;⟨q,F⟩;exact pL I (by rw [e];exact True.intro) hs he (zM W L (j.put k U) B)
 ·subst R J;cases (show u=Value.ref b from S);obtain ⟨z,L,xs,j,Z⟩:=Ph I.hok e
  have O:xs.length<=sizeLine:=by rw [<-Paired.length j];exact z
  have W:(fW kvs k v).length<=sizeLine:=by have:=dg kvs k v;lia
  rwa[wpAny_setItem_heap (hsz:=O) (tupleKind_room_in1 hu) (zr I.hok Y) Z λh' B hs=>h _ ?_];obtain ⟨q,es,ep,F,h2,h3,h4,_,h5⟩:=B;rwa[pL I (by rw [e];exact True.intro) hs ⟨q,F⟩ ⟨W,L,_,(j.put k Y U).keeps λc ys ec=> ?_,q,es,ep,F,h2,h3,h4,h5⟩];rw [ai (OX ec e (λz=>nomatch z))];exact ec
end
def PM (i:Expr):Prop:=∀ov iv,subscripted i false ov iv=operate [ov,iv] (getItem ov iv)
theorem Hf {prog:Program}{w:World}{A:Around}{E:Value->Shared->Prop}{s:Shared}{env:Env}{value J:Expr}{pos:Pos}{T id:String}{Q:Value->Shared->Prop}
(W:typeLookup (.type T) "__getitem__"=pure (some (.builtin id)))(hs:PM J)
(h:wpAny @h A (eval value env) (λo s₁=>wpAny @h A (eval J env) (λi s₂=>s₂.TypeIs o T/\wpAny @h A (getItem o i) Q E s₂) E s₁) E s):
 wpAny @h A (eval (.Subscript value J pos) env) Q E s:=by
 rwa[Subscript_ (wpAny_mono h (λo s₁ F=>wpAny_mono F (λi s₂ j=> ?_) λ_ _ x=>x) λ_ _ x=>x)];obtain ⟨L,j⟩:=j;unfold subscriptTail;rwa[wpAny_bind ?_];rw [getitemInPython_of_ne L.not_modules];rwa[wpAny_bind (wpAny_specialOf L W ?_)]
 have z:wpAny @h A (subscripted J false o i) (λr B=>wpAny @h A (letTemporaryGo value o r>>=λ_=>pure r) Q E B) E s₂:=by
  rw [hs o i];exact wpAny_operating (wpAny_mono j (λr B I=>wpAny_bind (wpAny_letTemporaryGo (wpAny_pure I))) λ_ _ x=>x)
 first
  |exact wpAny_pure (wpAny_bind z)
  |exact wpAny_bind (wpAny_pure (wpAny_bind z))
  |exact wpAny_bind z
def Q4 (ty td:TE):TE:=λσ H Q=>ty σ H λy H1=>td σ H1 λx H2=>∃a o,x= .ref a/\GL H2 a y o/\Q (.bl o.isSome) H2
def Ot (td ty tv:TE):TS:=λD σ H=>tv σ H λv H1=>td σ H1 λx H2=>ty σ H2 λy H3=>∃a H4,x= .ref a/\GK H3 a y v H4/\D.nx σ H4
section
variable {X:Cx}{o i e value:Expr}{pos pos' tpos:Pos}{td ty tv:TE}
theorem LJ (z:X.A.units+1<cLine)(hi:PE X i ty)(j:PE X o td):PC X .In i o (Q4 ty td):=by
 intro pins s σ H Q I h;rwa[br @bE λW J ⟨y,H1,O,R,F⟩=>br (j pins J σ H1 _ O F) λu s2 ⟨x,H2,B,L,a,S,ex,g,U⟩=> ?_];subst ex;obtain rfl:u=Value.ref a:=L;exact RA z B g R λY Z=>⟨.bl S.isSome,H2,Z,rfl,U⟩
theorem HQ (S:X.A.units+1<cLine)(j:PE X o td)(hi:PE X i ty)(hv:PE X value tv)(hs:swapsWith value (some (.Subscript o i pos')) pos.line X.env=pure false):
 PS X (.Assign [.Subscript o i pos'] value pos) (Ot td ty tv):=by
 intro pins s σ H D I h;rwa[wpAny_Assign_Subscript (br (hv pins s σ H _ I h) λr J ⟨v,H1,I1,R,Y⟩=>br (j pins J σ H1 _ I1 Y) λu O ⟨x,H2,B,L,F⟩=>br (hi pins O σ H2 _ B F) λiv s3 ⟨y,H3,Z,z,a,W,ex,g,q3⟩=> ?_) hs];subst ex;obtain rfl:u=Value.ref a:=L;exact Cs S Z g z R λs4 U=>⟨σ,W,U,q3⟩
end
structure M1 (X:Cx)(o:Expr)(m:Str)(apos:Pos)(e:Expr)(cpos:Pos):Prop where
 base:attributeBase o m X.env @fE=eval o X.env
 few:((backTo cpos (starEach [e] X.env)).all (λx=> !x.1)&&(backToKw cpos @dA).all @eq
  &&decide (([e]:List Expr).length+([]:List Keyword).length+(if ([]:List Keyword).isEmpty then 0 else 1)<30))=true
 line:(apos.endLine==cpos.line)=true
 trees:backTo cpos (starEach [e] X.env)=[(false,eval e X.env)]
structure M2 (X:Cx)(o:Expr)(m:Str)(apos:Pos)(e f:Expr)(cpos:Pos):Prop where
 base:attributeBase o m X.env @fE=eval o X.env
 few:((backTo cpos (starEach [e,f] X.env)).all (λx=> !x.1)&&(backToKw cpos @dA).all @eq
  &&decide (([e,f]:List Expr).length+([]:List Keyword).length+(if ([]:List Keyword).isEmpty then 0 else 1)<30))=true
 line:(apos.endLine==cpos.line)=true
 trees:backTo cpos (starEach [e,f] X.env)=[(false,eval e X.env),(false,eval f X.env)]
end L2
namespace PySem
namespace F
theorem lk_list_keys:typeLookup (.type "list") "keys"=pure none:=by rw [typeLookup_type,builtinLookup_eq_fast];kernel_rfl
theorem lk_list_hook:typeLookup (.type "list") "__getattr__"=pure none:=by rw [typeLookup_type,builtinLookup_eq_fast];kernel_rfl
theorem sub_attr_attr:isSubtype (.type "AttributeError") (.type "AttributeError")=pure true:=by rw [isSubtype_type];kernel_rfl
theorem attr_first:((Manifest.find? "AttributeError").elim false λt=>t.mro.contains "StopIteration"||t.mro.contains "SystemExit")=false:=by decide+kernel
end F
section
variable {α:Type}{prog:Program}{w:World}{A:Around}{E:Value->Shared->Prop}{s:Shared}
theorem B0 {e:Addr}{o name:Value}{vs:Array Value}{z:Option Addr}{sl:Array @J}{Q:Unit->Shared->Prop}(U:s.heap.get? e=some ⟨.type "AttributeError",z,.fields vs,sl⟩)(I:vs[6]? =some unsetMember)(R:vs[7]? =some unsetMember)
(j:Q () {s with heap:=s.heap.update e (Obj.mapFields λvs=>vs.extract 0 6++ #[name,o])}):wpAny @h A (noteAttr (.ref e) o name) Q E s:=by
 have L:s.TypeIs (.ref e) "AttributeError":=⟨_,U,rfl⟩;unfold noteAttr lacksNameAndObj;rwa[wpAny_bind ?_];rwa[wpAny_bind (wpAny_isInstance L F.sub_attr_attr ?_)];simp only [Bool.not_true,Bool.false_eq_true,if_false];rwa[wpAny_bind (wpAny_load U ?_)];simp only [I,R];have B:unsetMember=Value.int 0 0:=rfl;rw [B];simp only [Bool.or_self,Bool.false_eq_true,if_false];rw [if_neg @c];rwa[wpAny_pure ?_];simp only [if_true];rwa[wpAny_bind (wpAny_rule ?_)];rwa[wpAny_bind (wpAny_typeOf L ?_)];exact wpAny_layMembers U rfl j
theorem yR {o:Value}{name j:Str}{Q:α->Shared->Prop}(R:A.handled=none)(I:j.length<=sizeLine)(O:∀e h' t',(∀b ob,s.heap.get? b=some ob->h'.get? b=some ob)->(∃ob,h'.get? e=some ob/\ob.cls= .type "AttributeError")->E (.ref e) {s with heap:=h',toks:=t'}):
 wpAny @h A (raiseAttrError o name j:Sem α) Q E s:=by
 unfold raiseAttrError;rwa[wpAny_bind (wpAny_mkStr ?_ I)];rwa[wpAny_bind ?_];unfold newExc newTuple;rwa[wpAny_bind (wpAny_newObj_type ?_ (by show (1:Nat)<=sizeLine;exact L2.bA @c))];rwa[wpAny_bind (m:=firstArgMember _ _) (wpAny_of_eq (a:=Value.none) (by simp only [firstArgMember,F.attr_first];rfl) ?_)];rwa[wpAny_newObj_type ?_];rwa[wpAny_bind (wpAny_mkText ?_)];rwa[wpAny_bind ?_];generalize B:(s.heap.push {cls:= .type "tuple",data:= .seq #[Value.str j s.toks]})=h1
 have L:∀b ob,s.heap.get? b=some ob->h1.get? b=some ob:=λb ob z=>by rw [<-B];exact Heap.get?_push_of_some _ z
 show wpAny @h A (noteAttr (.ref h1.objs.size) o _) _ _ {s with heap:=h1.push {cls:= .type "AttributeError",data:= .fields #[Value.ref s.heap.objs.size,.none,.none,.none,.bool false,.none,unsetMember,unsetMember]},toks:=s.toks+1+1};rwa[B0 (vs:= #[Value.ref s.heap.objs.size,.none,.none,.none,.bool false,.none,unsetMember,unsetMember]) (Heap.get?_push_size _ rfl) rfl rfl ?_];rwa[wpAny_raiseNew_none R ?_];have J:=Heap.SameBut.update (h1.push {cls:= .type "AttributeError",data:= .fields #[Value.ref s.heap.objs.size,.none,.none,.none,.bool false,.none,unsetMember,unsetMember]}) h1.objs.size (Obj.mapFields λS=>S.extract 0 6++ #[Value.str name (s.toks+1),o]);rwa[O h1.objs.size _ _ (λb ob z=> ?_) ?_]
 ·rw [J.2 b (Nat.ne_of_lt (Heap.lt_size (L b ob z)))];exact Heap.get?_push_of_some _ (L b ob z)
 ·exact ⟨_,Heap.get?_update_self _ (Heap.get?_push_size _ rfl) rfl,rfl⟩
end
section
variable {prog:Program}{w:World}{A:Around}{E:Value->Shared->Prop}{h:Heap}{g:Array GenState}{d:Drawn}{t:Nat}{os:OsState}{a:Addr}{its:Array Value}{n:Nat}{sl:Array @J}
theorem oZ {tk:Tok}{Q:Fin->Shared->Prop}(B:A.handled=none)(z:h.get? a=some ⟨.type "list",none,.seq its n,sl⟩)(j:∀e h' t',(∀b ob,h.get? b=some ob->h'.get? b=some ob)->(∃ob,h'.get? e=some ob/\ob.cls= .type "AttributeError")->E (.ref e) ⟨h',g,d,t',os⟩):
 wpAny @h A (Builtin.«object.__getattribute__» ⟨[.ref a,.str "keys" tk],[]⟩) Q E ⟨h,g,d,t,os⟩:=by
 have L:(⟨h,g,d,t,os⟩:Shared).TypeIs (.ref a) "list":=⟨_,z,rfl⟩;have R:=F.lk_list_keys
 repeat (any_goals (first|assumption|with_reducible refine yR B ?_ ?_|wp_step))
 all_goals first|exact L2.bA @A|exact j
theorem qZ {tk:Tok}{R:Result->Shared->Prop}(j:A.handled=none)(z:h.get? a=some ⟨.type "list",none,.seq its n,sl⟩)(B:∀e h' t',(∀b ob,h.get? b=some ob->h'.get? b=some ob)->(∃ob,h'.get? e=some ob/\ob.cls= .type "AttributeError")->R (.error (.ref e)) ⟨h',g,d,t',os⟩):
 codeAny @h A (.call (.builtin "list.__getattribute__") ⟨[.ref a,.str "keys" tk],[]⟩) R ⟨h,g,d,t,os⟩:=
 codeAny_call_builtin F.slot_list_getattribute.plain F.entry_list_ga (F.slot_list_getattribute.check _ _ _ _ _ _ _ _ (show (⟨h,g,d,t,os⟩:Shared).TypeIs (.ref a) "list" from ⟨_,z,rfl⟩) (F.args_list_getattribute_2 _ _) (oZ j z B))
theorem q8 {Q:Option Value->Shared->Prop}(J:A.handled=none)(j:h.get? a=some ⟨.type "list",none,.seq its n,sl⟩)(I:∀h' t',(∀b ob,h.get? b=some ob->h'.get? b=some ob)->Q none ⟨h',g,d,t',os⟩):wpAny @h A (getAttr? (.ref a) "keys") Q E ⟨h,g,d,t,os⟩:=by
 have O:(⟨h,g,d,t,os⟩:Shared).TypeIs (.ref a) "list":=⟨_,j,rfl⟩;have S:=F.slot_list_getattribute.lookup;have U:=F.slot_list_getattribute.bind (.ref a);have Z:=F.lk_list_hook;unfold getAttr? getAttrBy?
 repeat (any_goals (first|assumption|wp_step))
 rwa[qZ J j (λe h' t' k x=> ?_)];have L:(⟨h',g,d,t',os⟩:Shared).TypeIs (.ref e) "AttributeError":=x;have B:=F.sub_attr_attr;have z:=I h' t' k;show wpAny _ _ (getattributeRaised _ _ _ _ _ _ _) _ _ _;unfold getattributeRaised;rwa[wpAny_bind (wpAny_isInstance L B ?_)];simp only [if_true]
 have R:hookBehind (.type "list") none=pure none:=by unfold hookBehind;rw [if_neg @c,Z]
 rwa[wpAny_bind ?_];show wpAny _ _ (hookBehind (.type "list") none) _ _ _;rw [R];rwa[wpAny_pure ?_];unfold hookOrError attributeErrorLeaves;simp only [Bool.not_false,if_true];rwa[wpAny_throw ?_];rwa[wpAny_bind (wpAny_isInstance L B ?_)];simp only [if_true];exact wpAny_pure z
end
end PySem
namespace PySem
namespace F
theorem entry_dul:entryFor table "dict.update.loop"=some Builtin.«dict.update.loop»:=entryFor_of_tree @m
theorem plain_dul:plainId "dict.update.loop"=true:=by decide+kernel
end F
end PySem
namespace L2
open PySem PySem.Spec PyProof.Rows
noncomputable def gb (kvs ps:List (du×V)):List (du×V):=ps.foldl (λa p=>fW a p.1 p.2) kvs
theorem Jl {X:Cx}{pins:List (Addr×Obj)}{σ:St}{l It dd:Addr}{xs:List V}{R:Result->Shared->Prop}{A:Around}(hh:A.handled=none)
(aD:X.s₀.heap.objs.size<=It)(ak:∀p∈X.pn++pins,p.1≠It):
 ∀(r j:Nat) (s:Shared) (H:Hp) (kvs ps:List (du×V)) (t:Tok) (oI:Obj),xs.length - j=r->j<=xs.length->
  av X ((It,oI)::pins) σ H s->H l=some (.lst xs)->s.heap.IsListIter It l j->H dd=some (.dK kvs)->Paired (λx (p:du×V)=>∃b,x=V.ref b/\H b=some (.tup [kV p.1,p.2])) (xs.drop j) ps->kvs.length+ps.length<sizeLine->
  (∀s',av X pins σ (upd H dd (.dK (gb kvs ps))) s'->R (.ok (.ret .none)) s')->
  codeAny @d A (.builtin "dict.update.loop" ⟨[.ref dd,.ref It,.int j t,.none],[]⟩) R s:=by
 intro r
 induction r with
 |zero=>
  intro j s H kvs ps t oI hr hj I L ae hd Z hz hR
  have ej:j=xs.length:=by lia
  subst ej;rw [drop_length] at Z;cases Z;obtain ⟨us,ad,S⟩:=jc I L
  have O:us.toArray.size=xs.length:=by rw [size_toArray,ad.length]
  have nI:=I.pin (It,oI) @x
  have ac:l≠It:=λz=>by have:=nI.2.1;rw [<-z,L] at this;cases this
  have W:=Walks.list (prog:=X.prog) (w:=X.w) (A:=A.in1) hh It l ac us.toArray;rwa[codeAny_builtin PySem.F.entry_dul ?_];rw [Around.under_plainId PySem.F.plain_dul _];show wpAny _ A.in1 (pyNext (.ref It)>>=_) _ _ _;rwa[wpAny_bind (W.done _ _ _ ⟨by rw [O];exact ae,S⟩ λh1 aa B=> ?_)];have B:∀b u,b≠It->s.heap.get? b=some u->h1.get? b=some u:=λb u n e=>B b u (by simpa using n) e;have I0:av X pins σ H s:=I.sub λp Z=> .tail _ Z
  have ao:∀x c,X.env.cells.lookup x=some c->c≠It:=λx c e z=>by
   obtain ⟨v,oc,h1,h2⟩:=I.cell x c e;rw [z,nI.1] at h1;cases h1;exact nI.2.2.2.2 v h2
  have I1:av X pins σ H {s with heap:=h1,toks:=aa}:=I0.turned (it:=It) B nI.2.1 nI.2.2.1 (.inr aD) ao ak
  have eH:upd H dd (.dK (gb kvs []))=H:=by
   funext b
   unfold upd gb;split
   ·rename_i e;rw [e,hd];rfl
   ·rfl
  rw [eH] at hR;exact wpAny_bind (wpAny_pure (wpAny_pure (hR _ I1)))
 |succ r ih=>
  intro j s H kvs ps t oI hr hj I L ae hd Z hz hR
  have ab:j<xs.length:=by lia
  obtain ⟨us,ad,S⟩:=jc I L
  have O:us.toArray.size=xs.length:=by rw [size_toArray,ad.length]
  have nI:=I.pin (It,oI) @x
  have ac:l≠It:=λz=>by have:=nI.2.1;rw [<-z,L] at this;cases this
  have W:=Walks.list (prog:=X.prog) (w:=X.w) (A:=A.in1) hh It l ac us.toArray;rw [drop_eq_getElem_cons ab] at Z
  obtain ⟨U,J,rfl,⟨b,eb,hb⟩,az⟩:∃U J,ps=U::J/\(∃b,xs[j]=V.ref b/\H b=some (.tup [kV U.1,U.2]))/\Paired (λx (p:du×V)=>∃b,x=V.ref b/\H b=some (.tup [kV p.1,p.2])) (xs.drop (j+1)) J:=by
   cases Z with
   |cons a c=>exact ⟨_,_,rfl,a,c⟩
  rwa[codeAny_builtin PySem.F.entry_dul ?_];rw [Around.under_plainId PySem.F.plain_dul _];show wpAny _ A.in1 (pyNext (.ref It)>>=_) _ _ _;rwa[wpAny_bind (W.item j _ _ _ (by rw [O];exact ab) ⟨ae,S⟩ λu h1 aa hP ax B=> ?_)]
  have hu:us[j]? =some u:=by simpa using hP
  have ru:ay (V.ref b) u:=by
   obtain ⟨u',aq,ru⟩:=ad.get (show xs[j]? =some (V.ref b) by rw [getElem?_eq_getElem ab,eb]);rw [hu] at aq;cases aq;exact ru
  cases (show u=Value.ref b from ru);obtain ⟨Y,aA,as,am⟩:=id ax.1;have B:∀b u,b≠It->s.heap.get? b=some u->h1.get? b=some u:=λb u n e=>B b u (by simpa using n) e
  have I1:av X ((It,Y)::pins) σ H {s with heap:=h1,toks:=aa}:=
   I.repin (t':=aa) aD ak B aA λv e=>by rw [am] at e;cases e
  obtain ⟨its,aC,ht,aI⟩:=I1.tuple (aB.of hb)
  obtain ⟨ku,vu,af,rk,rv⟩:∃ku vu,its=[ku,vu]/\ay (kV U.1) ku/\ay U.2 vu:=by
   cases aC with|cons a t1=>cases t1 with|cons b t2=>cases t2;exact ⟨_,_,rfl,a,b⟩
  subst af;show wpAny _ A.in1 (holding [Value.ref b] _>>=_) _ _ _;rwa[wpAny_bind (wpAny_holding ?_)];rwa[wpAny_bind (wpAny_tryCatch ?_)];unfold Builtin.Dict.pairItems;rwa[wpAny_bind (wpAny_typeOf ht.typeIs ?_)];rw [if_pos @c];obtain ⟨ot,ar,aH,nt,ap⟩:=id ht;rwa[wpAny_bind (wpAny_seqItems ar ap @V)];show wpAny _ A.in1 (holding [ku,vu] (dictSet dd ku vu)) _ _ _;rwa[wpAny_holding ?_];obtain ⟨zk,aG,vs,ah,an⟩:=J2 I1.hok hd
  have au:vs.length<=sizeLine:=by rw [<-ah.length];exact zk
  have aF:(fW kvs U.1 U.2).length<=sizeLine:=by have:=dg kvs U.1 U.2;rw [length_cons] at hz;lia
  rwa[wpAny_dictSet_pairs (hsz:=au) (AF rk) an λh2 aj aw=> ?_];have he:∃q,h2.get? dd=some q:=let ⟨q,_,_,hq,_⟩:=aj;⟨q,hq⟩;have I2:=pL (t':=aa+1) I1 (by rw [hd];exact True.intro) aw he (zM aF aG (ah.put U.1 rv) aj);have aE:=I2.pin (It,Y) @x
  have al:l≠dd:=λz=>by rw [z,hd] at L;cases L
  rwa[wpAny_pure ⟨plainId_quiet PySem.F.plain_dul _,?_⟩];rwa[ih (j+1) _ (upd H dd (.dK @gs)) @gs J _ Y @b @b I2 (by rw [ai al];exact L) ⟨Y,aE.1,as,am⟩ ag (Paired.imp' (λx p ⟨c,ec,hc⟩=>⟨c,ec,by rw [ai (λz=>by rw [z,hd] at hc;cases hc)];exact hc⟩) az) ?_ ?_]
  ·have:=dg kvs U.1 U.2;rw [length_cons] at hz;lia
  ·intro s' I';rw [Al] at I';exact hR s' I'
def J3 (l:Addr)(H:Hp)(Q:VK):Prop:=∃(xs:List V) (ps:List (du×V)),H l=some (.lst xs)/\Paired (λx (p:du×V)=>∃b,x=V.ref b/\H b=some (.tup [kV p.1,p.2])) xs ps/\ps.length<sizeLine/\∀d,H d=none->Q (.ref d) (upd H d (.dK (gb [] ps)))
theorem Ct {X:Cx}{pins:List (Addr×Obj)}{σ:St}{H:Hp}{s:Shared}{l:Addr}{Q:VK}(hh:X.A.handled=none)(I:av X pins σ H s)(hP:J3 l H Q){E:Value->Shared->Prop}:
 wpAny @d X.A (call (.type "dict") [.ref l]) @p E s:=by
 obtain ⟨xs,ps,W,U,hz,q⟩:=hP;rwa[callType_codes (Q₁:=λL s₁=>L= .ref s.heap.objs.size/\s₁= {s with heap:=s.heap.push {cls:= .type "dict",data:= .dict #[]}}) PySem.F.kt_called_dict (PySem.F.kt_typeCall_dict_1 _) PySem.F.entry_dict_init (kt_code_dict_new _ ⟨rfl,rfl⟩) ?_];rintro L s₁ ⟨rfl,rfl⟩;generalize S:s.heap.objs.size=Z
 have nd:H Z=none:=by rw [<-S];exact I.hok.fresh @f
 have j:(s.heap.push {cls:= .type "dict",data:= .dict #[]}).DictOf (b8 X.prog X.w) Z []:=by rw [<-S];exact Heap.DictOf.new s.heap
 have I1:av X pins σ @cY {s with heap:=s.heap.push {cls:= .type "dict",data:= .dict #[]}}:=by
  have z:=I.laid (a:=s.heap.objs.size) (o:= .dK []) (t':=s.toks) (h':=s.heap.push {cls:= .type "dict",data:= .dict #[]}) (λb q hq=>Heap.get?_push_of_some _ hq) @f (zM @fv (beq_eq_false_iff_ne.mpr @cw) .nil (Heap.DictOf.new s.heap));rw [S] at z;exact z
 rwa[⟨j.typeIs,PySem.F.args_dict_init_2 _ _,?_⟩];unfold Builtin.«dict.__init__»;rwa[wpAny_bind ?_];unfold Builtin.Dict.selfAndRest;rwa[wpAny_bind (wpAny_notOrdered_dict j.typeIs ?_)];show wpAny _ _ (pure (Z,[Value.ref l])) _ _ _;rwa[wpAny_pure ?_];show wpAny _ _ (Builtin.Dict.updateFrom "dict.__init__" Z (.ref l) [] .none) _ _ _;unfold Builtin.Dict.updateFrom
 have al:l≠Z:=λz=>by rw [z,nd] at W;cases W
 have B:upd H Z (.dK []) l=some (.lst xs):=by rw [ai al];exact W
 obtain ⟨_,us,n,ac,ad⟩:=(show be X.prog X.w _ _ l (.lst xs) from I1.hok l _ B);have aa:({s with heap:=s.heap.push {cls:= .type "dict",data:= .dict #[]}}:Shared).TypeIs (.ref l) "list":=⟨_,ad,rfl⟩;rwa[wpAny_bind (wpAny_typeOf aa ?_)];rw [if_pos @c];rwa[wpAny_bind (q8 (by exact hh) ad λh' O k=> ?_)];rw [if_pos (show (none:Option Value).isNone=true from rfl)];rwa[wpAny_bind (wpAny_rule ?_)];have J:av X pins σ @cY {s with heap:=h',toks:=O}:=I1.kept (t':=O) k;obtain ⟨ae,ab,R⟩:=jc J B;rwa[wpAny_bind (wpAny_pyIter_list R ?_)]
 have I3:av X ((h'.objs.size,{cls:= .type "list_iterator",data:= .fields #[.ref l,.int 0 0]})::pins) σ @cY {s with heap:=h'.push {cls:= .type "list_iterator",data:= .fields #[.ref l,.int 0 0]},toks:=O}:=
  J.pinNew (t':=O) (a:=h'.objs.size) @f (λb u e=>Heap.get?_push_of_some _ e) (Heap.get?_push_size _ rfl) λv e=>by cases e
 rwa[wpAny_pure ⟨plainId_quiet PySem.F.plain_dul _,?_⟩];rwa[Jl (A:=X.A.in1) (xs:=xs) (l:=l) (It:=h'.objs.size) (dd:=Z) hh J.sz (λp U=>Nat.ne_of_lt (Heap.lt_size (J.pin p U).1)) _ 0 _ @cY [] ps _ _ rfl @fv I3 B ⟨_,Heap.get?_push_size _ rfl,rfl,rfl⟩ ag ?_ ?_ ?_]
 ·exact Paired.imp' (λx p ⟨c,ec,Y⟩=>⟨c,ec,by rw [ai (λz=>by rw [z,nd] at Y;cases Y)];exact Y⟩) U
 ·rw [length_nil,Nat.zero_add];exact hz
 ·intro s' I';rw [Al] at I';exact ⟨rfl,V.ref Z,_,I',rfl,q Z nd⟩
def KH:List V->Hp->VK->Prop:=λxs H Q=>match xs with|[.ref l]=>J3 l H Q|_=>False
theorem G0 {X:Cx}(j:X.calm=true):bf X (.type "dict") KH:=by
 intro pins s σ H xs z Q I r h
 match xs,h,r with
 |[.ref l],h,r=>
  cases r with
  |cons a t=>
   cases t;cases (show _=Value.ref l from a);exact Ct @ep I h
end L2
namespace My
open PySem L2 PyProof.Rows
theorem Jy (a b:Nat):Builtin.bitAnd (a:Int) (b:Int)=((a&&&b:Nat):Int):=by
 unfold Builtin.bitAnd;simp
theorem LK (a b:Nat):Builtin.bitOr (a:Int) (b:Int)=((a|||b:Nat):Int):=by
 unfold Builtin.bitOr Builtin.bitAnd Builtin.bitNot
 have h1: ¬(0:Int)<= -(a:Int) - 1:=by lia
 have h2: ¬(0:Int)<= -(b:Int) - 1:=by lia
 simp only [h1,h2,decide_false]
 have R:(-(-(a:Int) - 1) - 1).toNat=a:=by lia
 have O:(-(-(b:Int) - 1) - 1).toNat=b:=by lia
 rw [R,O];lia
theorem testBit_and (M k:Nat):decide (M&&&2^k=0)= !M.testBit k:=by
 have e:(M&&&2^k).testBit k=M.testBit k:=by rw [Nat.testBit_and,Nat.testBit_two_pow_self,Bool.and_true]
 cases h:M.testBit k with
 |true=>
  rw [h] at e;rwa[decide_eq_false λz=> ?_];rw [z] at e;simp at e
 |false=>
  rwa[decide_eq_true (Nat.eq_of_testBit_eq λi=> ?_)];rw [Nat.testBit_and,Nat.zero_testBit];by_cases hi:k=i
  ·subst hi;rw [h];rfl
  ·rw [Nat.testBit_two_pow_of_ne hi,Bool.and_false]
noncomputable def jC (M n:Nat):List Nat:=(List.range n).filter λi=>M.testBit i
theorem km (M n:Nat):jC M (n+1)=jC M n++if M.testBit n then [n] else []:=by
 unfold jC;rw [range_succ,filter_append];congr 1;cases h:M.testBit n<;>simp [h]
theorem tO {M n i:Nat}:i∈jC M n↔i<n/\M.testBit i=true:=by
 unfold jC;rw [mem_filter,mem_range]
noncomputable def L (M:Nat):Nat:=Builtin.Int.intBits (M:Int)
theorem Gv (M:Nat):L M=if M=0 then 0 else M.log2+1:=by
 unfold L Builtin.Int.intBits;by_cases h:M=0
 ·subst h;rfl
 ·have:((M:Int)==0)=false:=beq_eq_false_iff_ne.mpr @b;rw [this,if_neg h];simp
theorem PQ (M:Nat):M<2^L M:=by
 rw [Gv];split
 ·rename_i h;subst h;decide
 ·exact Nat.lt_log2_self
theorem PR {M n:Nat}(h:M<2^n):L M<=n:=by
 rw [Gv];split
 ·lia
 ·rename_i B;have:=(Nat.log2_lt B).mpr h;lia
theorem Am {M:Nat}(h:M≠0):M.testBit (L M - 1)=true:=by
 rw [Gv,if_neg h];have h1:=Nat.log2_self_le h;have h2:=Nat.lt_log2_self (n:=M);rw [Nat.add_sub_cancel,Nat.testBit_eq_decide_div_mod_eq];rwa[decide_eq_true ?_]
 have e:M / 2^M.log2=1:=by
  rwa[Nat.div_eq_of_lt_le @b ?_];rw [Nat.pow_succ] at h2;lia
 rw [e]
noncomputable def jr (M:Nat):List Nat:=jC M (L M)
theorem lv {M i:Nat}:i∈jr M↔M.testBit i=true:=by
 unfold jr;rw [tO];rwa[⟨λh=>h.2,λh=>⟨?_,h⟩⟩];rwa[Nat.lt_of_not_le λj=> ?_];have:=Nat.testBit_lt_two_pow (Nat.lt_of_lt_of_le (PQ M) (Nat.pow_le_pow_right @c j));rw [this] at h;cases h
theorem A7 {M n i:Nat}(h:M<2^n)(hi:i∈jr M):i<n:=by
 have:=(tO.mp hi).1;have:=PR h;lia
theorem CF {M:Nat}(h:M≠0):∃l,jr M=l++[L M - 1]:=by
 have F:L M=(L M - 1)+1:=by
  have:=Gv M;rw [if_neg h] at this;lia
 rwa[⟨jC M (L M - 1),?_⟩]
 have e:jr M=jC M ((L M - 1)+1):=by rw [<-F];rfl
 rw [e,km,Am h];rfl
theorem Gh {M:Nat}:jr M=[]↔M=0:=by
 constructor
 ·intro h;rwa[Classical.byContradiction λz=> ?_];obtain ⟨l,e⟩:=CF z;rw [h] at e;simp at e
 ·rintro rfl;rfl
noncomputable def om (ks:List Nat):Nat:=ks.foldl (λacc k=>acc|||2^k) 0
theorem qK:∀(ks:List Nat) (acc i:Nat),(ks.foldl (λacc k=>acc|||2^k) acc).testBit i=(acc.testBit i||decide (i∈ks))
 |[],acc,i=>by simp
 |k::ks,acc,i=>by
  rw [foldl_cons,qK ks,Nat.testBit_or];by_cases h:k=i
  ·subst h;simp [Nat.testBit_two_pow_self]
  ·rw [Nat.testBit_two_pow_of_ne h];have h': ¬i=k:=λz=>h z.symm;simp [h']
end My
namespace L2
open PySem PySem.Spec PyProof.Rows
def aH (H H':Hp):Prop:=∀b o,(∀xs,o≠ .lst xs)->(∀C dx fs,o≠ .ins C dx fs)->H b=some o->H' b=some o
theorem aH.refl (H:Hp):aH H H:=λ_ _ _ _ e=>e
theorem aH.trans {H H1 H2:Hp}(a:aH H H1)(b:aH H1 H2):aH H H2:=λc o j W e=>b c o j W (a c o j W e)
theorem ao.st {H H':Hp}(s:ao H H'):aH H H':=λb o _ _ e=>s b o e
theorem aH.updL {H:Hp}{a:Addr}{xs:List V}{o:HO}(h:H a=some (.lst xs)):aH H @bp:=λb u j _ e=>by
 rw [ai (λz=>by rw [z,h] at e;cases e;exact j _ rfl)];exact e
theorem aH.updI {H:Hp}{a C dx:Addr}{fs:List (Str×V)}{o:HO}(h:H a=some (.ins C dx fs)):aH H @bp:=λb u _ W e=>by
 rw [ai (λz=>by rw [z,h] at e;cases e;exact W _ _ _ rfl)];exact e
theorem aH.tup {H H':Hp}(s:aH H H'){a:Addr}{xs:List V}(h:H a=some (.tup xs)):H' a=some (.tup xs):=s a _ (λ_ z=>by cases z) (λ_ _ _ z=>by cases z) h
theorem aH.sqT {K:Fg}{H H':Hp}(s:aH H H'){a:Addr}{xs:List V}(h:aB K H a xs):aB K H' a xs:=by
 rcases h with (h|⟨u,h⟩)|h
 ·exact .inl (.inl (s.tup h))
 ·exact .inl (.inr ⟨u,s _ _ (λ_ z=>by cases z) (λ_ _ _ z=>by cases z) h⟩)
 ·exact .inr h
theorem aH.den {K:Fg}{H H':Hp}(s:aH H H'){x:V}{d:D}(h:bv K H x d)(j:L2.noL d=true):bv K H' x d:=by
 induction h with
 |non=>exact .non
 |bl b=>exact .bl b
 |int i=>exact .int i
 |str z=>exact .str z
 |lst h hl hi ih=>rw [L2.noL] at j;cases j
 |tup h hl hi ih=>
  rw [L2.noL] at j;exact .tup @ga hl λi x d h1 h2=>ih i x d h1 h2 @fX
theorem aH.dens {K:Fg}{H H':Hp}(s:aH H H'){xs:List V}{ds:List D}(h:aC K H xs ds)(z:noLs ds=true):aC K H' xs ds:=
 PySem.Paired.of h.len λi x d h1 h2=>by
  obtain ⟨e,L,r⟩:=h.get1 h1;rw [h2] at L;cases L;exact s.den r (fb z h2)
theorem none_of {H H':Hp}(s:ao H H'){a:Addr}(h:H' a=none):H a=none:=by
 cases y:H a with
 |none=>rfl
 |some o=>rw [s _ _ y] at h;cases h
theorem E5 {a b:List D}(h1:noLs a=true)(h2:noLs b=true):noLs (a++b)=true:=by
 induction a with
 |nil=>exact h2
 |cons d a ih=>
  rw [noLs,Bool.and_eq_true] at h1;rw [cons_append,noLs,h1.1,ih h1.2];rfl
theorem qJ {α β:Type}{R:α->β->Prop}{xs:List α}{ys:List β}{i:Nat}{x:α}{y:β}(h:Paired R xs ys)(r:R x y):Paired R (xs.set i x) (ys.set i y):=by
 have W:=h.len;rwa[PySem.Paired.of (by simp [W]) λj a b B O=> ?_];by_cases Z:i=j
 ·subst Z
  have hi:i<xs.length:=by
   have:=(List.getElem?_eq_some_iff.mp B).1;rwa [length_set] at this
  rw [getElem?_set_self hi] at B;rw [getElem?_set_self @b] at O;cases B;cases O;exact r
 ·rw [getElem?_set_ne Z] at B O;obtain ⟨L,h2,z⟩:=h.get1 B;rw [O] at h2;cases h2;exact z
theorem aI.sqT {K:Fg}{H H':Hp}(s:aI H H'){a:Addr}{xs:List V}(h:aB K H a xs):aB K H' a xs:=by
 rcases h with (h|⟨u,h⟩)|h
 ·exact .inl (.inl (s _ _ (λ_ z=>by cases z) h))
 ·exact .inl (.inr ⟨u,s _ _ (λ_ z=>by cases z) h⟩)
 ·exact .inr h
theorem aI.sqL {K:Fg}{H H':Hp}(s:aI H H'){a:Addr}{xs:List V}(h:aA K H a xs):aA K H' a xs:=by
 rcases h with (h|⟨u,h⟩)|h
 ·exact .inl (.inl (s _ _ (λ_ z=>by cases z) h))
 ·exact .inl (.inr ⟨u,s _ _ (λ_ z=>by cases z) h⟩)
 ·exact .inr h
theorem aI.den {K:Fg}{H H':Hp}(s:aI H H'){x:V}{d:D}(h:bv K H x d):bv K H' x d:=by
 induction h with
 |non=>exact .non
 |bl b=>exact .bl b
 |int i=>exact .int i
 |str z=>exact .str z
 |lst h hl hi ih=>exact .lst (s.sqL h) hl ih
 |tup h hl hi ih=>exact .tup @ga hl ih
theorem aI.dens {K:Fg}{H H':Hp}(s:aI H H'){xs:List V}{ds:List D}(h:aC K H xs ds):aC K H' xs ds:=Paired.imp' (λ_ _ z=>s.den z) h
def dM (H H':Hp):Prop:=∀b o,(∀xs,o≠ .lst xs)->(∀C dx fs,o≠ .ins C dx fs)->(∀ps,o≠ .tbl ps)->H b=some o->H' b=some o
theorem dM.refl (H:Hp):dM H H:=λ_ _ _ _ _ e=>e
theorem dM.trans {H H1 H2:Hp}(a:dM H H1)(b:dM H1 H2):dM H H2:=λc o j W S e=>b c o j W S (a c o j W S e)
theorem aH.sx {H H':Hp}(s:aH H H'):dM H H':=λb o j W _ e=>s b o j W e
theorem aI.sx {H H':Hp}(s:aI H H'):dM H H':=λb o _ _ S e=>s b o S e
theorem dM.sqT {K:Fg}{H H':Hp}(s:dM H H'){a:Addr}{xs:List V}(h:aB K H a xs):aB K H' a xs:=by
 rcases h with (h|⟨u,h⟩)|h
 ·exact .inl (.inl (s _ _ (λ_ z=>by cases z) (λ_ _ _ z=>by cases z) (λ_ z=>by cases z) h))
 ·exact .inl (.inr ⟨u,s _ _ (λ_ z=>by cases z) (λ_ _ _ z=>by cases z) (λ_ z=>by cases z) h⟩)
 ·exact .inr h
theorem dM.den {K:Fg}{H H':Hp}(s:dM H H'){x:V}{d:D}(h:bv K H x d)(j:L2.noL d=true):bv K H' x d:=by
 induction h with
 |non=>exact .non
 |bl b=>exact .bl b
 |int i=>exact .int i
 |str z=>exact .str z
 |lst h hl hi ih=>rw [L2.noL] at j;cases j
 |tup h hl hi ih=>
  rw [L2.noL] at j;exact .tup @ga hl λi x d h1 h2=>ih i x d h1 h2 @fX
def GT (G:Hp->Prop):Prop:=∀H H',aH H H'->G H->G H'
def NT (H:Hp):Prop:=∀b ps,H b≠some (.tbl ps)
noncomputable def xX (H:Hp):Hp:=λb=>match H b with|some (.tbl _)=>none|o=>o
theorem E2 (H:Hp):NT (xX H):=λb ps h=>by
 unfold xX at h;split at h
 ·cases h
 ·rename_i x z;rw [h] at z;exact z _ rfl
theorem qO (H:Hp):ao (xX H) H:=λb o h=>by
 unfold xX at h;split at h
 ·cases h
 ·exact h
theorem qP {H:Hp}{b:Addr}{o:HO}(h:H b=some o)(n:∀ps,o≠ .tbl ps):xX H b=some o:=by
 unfold xX;rw [h]
 cases o<;>first|rfl|exact absurd rfl (n _)
theorem E3 (H:Hp):aI H (xX H):=λ_ _ n h=>qP h n
theorem Mn {H H':Hp}(s:ao (xX H) H'):aI H H':=λb o n h=>s _ _ (qP h n)
theorem aI.onto {H0 H H':Hp}(j:NT H0)(s:ao H0 H)(s':aI H H'):ao H0 H':=λb o h=>s' b o (λps z=>j b ps (by rw [h,z])) (s b o h)
theorem lu {H:Hp}{b:Addr}(h:H b=none):xX H b=none:=by unfold xX;rw [h]
theorem cF.st {H H':Hp}{P:Addr}{q:Str}(s:aH H H')(t:cF H P q):cF H' P q:=by
 obtain ⟨ps,h1,h2,L⟩:=t;rwa[⟨ps,s _ _ (λ_ z=>by cases z) (λ_ _ _ z=>by cases z) h1,h2,λpos B I=> ?_⟩];obtain ⟨j,e,h⟩:=L pos B I;exact ⟨j,e,s _ _ (λ_ z=>by cases z) (λ_ _ _ z=>by cases z) h⟩
open PySem.Calls PySem.W
def JT (K:Fg)(a:Addr)(c:V)(H:Hp)(Q:VK):Prop:=nj K a c H Q\/∃xs cv b,aB K H a xs/\cV c=some cv/\W.kitOne K (.type "tuple") cv=some b/\Q (.bl b) H
def N3 (K:Fg):List V->Hp->VK->Prop:=λxs H Q=>match xs with
 |[.ref a,c]=>JT K a c H Q
 |xs=>Da K xs H Q
theorem Fo {K:Fg}{H:Hp}{a:Addr}{c:V}{xs:List V}{z:Value}{b:Bool}{Q:VK}(h:aB K H a xs)(h1:cV c=some z)(L:W.kitOne K (.type "tuple") z=some b)(g:Q (.bl b) H):JT K a c H Q:= .inr ⟨xs,z,b,h,h1,L,g⟩
theorem Ai {X:Cx}{K:Fg}(O:X.K=K):bf X (.builtin "isinstance") (N3 K):=by
 intro pins s σ H xs j Q I r h;have B:Da K xs H Q->wpAny @d X.A (call (.builtin "isinstance") j) @p X.xe s:=λh=>mf O pins s σ H xs j Q I r h
 match xs,h with
 |[.ref a,c],h=>
  rcases h with h|⟨ys,U,b,e,F,R,q⟩
  ·exact B h
  ·subst O;obtain ⟨u,S,rfl,J,L⟩:=Db r;cases Gf F L;obtain rfl:u=Value.ref a:=J;obtain ⟨its,_,p,_⟩:=I.tuple e;obtain ⟨o,h1,h2,_⟩:=p;exact W.kia_one W.kitx_tuple I.kIn ⟨o,h1,h2⟩ R (λz=>nomatch z) λtk=>⟨.bl b,H,I.tok _,rfl,q⟩
 |[],h=>exact B h
 |[.non],h=>exact B h
 |[.bl _],h=>exact B h
 |[.int _],h=>exact B h
 |[.str _],h=>exact B h
 |[.byt _],h=>exact B h
 |[.flt _],h=>exact B h
 |[.ty _],h=>exact B h
 |[.ref _],h=>exact B h
 |[.non,c],h=>exact B h
 |[.bl _,c],h=>exact B h
 |[.int _,c],h=>exact B h
 |[.str _,c],h=>exact B h
 |[.byt _,c],h=>exact B h
 |[.flt _,c],h=>exact B h
 |[.ty _,c],h=>exact B h
 |x::y::z::r,h=>exact B (by cases x<;>exact h)
theorem Kt {c:TT}{tb:TS}{D:nR}{σ:St}{H:Hp}(W:Nat->St->Hp->Prop)(B:∃m,W m σ H)(hs:∀m σ H,W m σ H->c σ H λb H1=>rY b (∃N:St->Hp->Prop,(∀σ' H',N σ' H'->∃m',m'<m/\W m' σ' H')/\tb {D with nx:=N,ct:=N,bk:=D.nx} σ H1) (D.nx σ H1)):uu c tb D σ H:=⟨W,B,hs⟩
theorem ko.imp {P:Program}{w:World}{K:Frag}{mg:Str->Option Value}{base:Heap}{n m:Nat}{f:Addr}{sp j:Sp}(c:ko P w K mg base n f sp)(I:n<=m)(h:∀vs H Q E,j vs H Q E->sp vs H Q E):ko P w K mg base m f j:=
 ⟨λA outer s H z vs Q E S B r g=>c.run A outer s H z vs Q E (S.mono I) B r (h _ _ _ _ g),λvs H Q E F g=>c.keep vs H Q E F (h _ _ _ _ g)⟩
end L2
namespace My
open PySem L2 PyProof.Rows
noncomputable def lk (fl:Nat):List Nat->Nat->Nat->Option Nat
 |[],_,lo=>some lo
 |k::ks,last,lo=>if last<k/\k<fl then lk fl ks k (lo+2^k) else none
structure iq where
 start:Int
 room:Int
 turns:Int
 kind:Str
noncomputable def iq.ok (fl:Int)(l:iq):Bool:=decide (0<=l.start/\l.start<fl/\1<=l.room/\l.room<=6/\1<=l.turns/\l.turns<=4/\(l.kind=s!"plain"\/l.kind=s!"hasty"\/l.kind=s!"slow"))
noncomputable def Nn (fl:Int)(ls:List iq)(lo:Int)(so:Str):Bool:=decide (2<=fl/\fl<=8)&&decide (1<=ls.length/\ls.length<=3)&&ls.all @dt&&decide (0<=lo/\lo<2^fl.toNat/\lo% 2=0)&&decide (so=s!"free"\/so=s!"way")
theorem zd {fl:Int}{j:List iq}{lo:Int}{so:Str}:Nn fl j lo so=true↔(2<=fl/\fl<=8)/\(1<=j.length/\j.length<=3)/\j.all @dt=true/\(0<=lo/\lo<2^fl.toNat/\lo% 2=0)/\(so=s!"free"\/so=s!"way"):=by
 unfold Nn;simp only [Bool.and_eq_true,decide_eq_true_eq,and_assoc]
end My
namespace My
open PySem L2 PyProof.Rows
noncomputable def Lh (bs:List Bool)(first:Int):Nat->Nat->Int
 |_,0=> -1
 |k,r+1=>if bs.getD ((first+k)% bs.length).toNat false=true then (first+k)% bs.length else Lh bs first (k+1) r
noncomputable def sf (bs:List Bool)(first:Int):Int:=Lh bs first 0 bs.length
structure lZ where
 pl:Int
 li:Int
 dr:Int
 mr:Int
 ab:List (Int×Int)
noncomputable def lZ.d (c:lZ):D:= .tup [.int c.pl,.int c.li,.int c.dr,.int c.mr,.tup (c.ab.map λq=> .tup [.int q.1,.int q.2])]
noncomputable def lZ.srv (c:lZ):Bool:=decide (c.mr=0)
structure Rd where
 t:Int
 s:Int
 g:Int
 l:Int
noncomputable def Rd.d (r:Rd):D:= .tup [.int r.t,.int r.s,.int r.g,.int r.l]
end My
namespace L2
open PySem PySem.Spec PyProof.Rows
noncomputable def jm (bs:List Bool)(n:Nat):List Nat:=(List.range n).filter λi=>bs.getD i false
noncomputable abbrev srv (bs:List Bool):List Nat:=jm bs bs.length
theorem Bl {bs:List Bool}{n:Nat}:jm bs (n+1)=jm bs n++(if bs.getD n false=true then [n] else []):=by
 unfold jm;rw [range_succ,filter_append];congr 1;simp only [filter_cons,filter_nil]
theorem wz {bs:List Bool}{n:Nat}:(jm bs n).length<=n:=by
 unfold jm;rwa[Nat.le_trans @bf ?_];rw [length_range];exact Nat.le_refl _
theorem pq {bs:List Bool}{j:Nat}:j∈srv bs↔j<bs.length/\bs.getD j false=true:=by
 unfold srv jm;rw [mem_filter,mem_range]
theorem K6 {bs:List Bool}{i B j I:Nat}(h:(srv bs)[i]? =some j)(h':(srv bs)[B]? =some I)(Z:j<I):i<B:=by
 have J:(srv bs).Pairwise (· < ·):=List.Pairwise.filter _ pairwise_lt_range;obtain ⟨l,e⟩:=List.getElem?_eq_some_iff.mp h;obtain ⟨L,F⟩:=List.getElem?_eq_some_iff.mp h';have:=pairwise_iff_getElem.mp J
 rcases Nat.lt_trichotomy i B with z|z|z
 ·exact z
 ·subst z;rw [e] at F;lia
 ·have:=this B i L l z;rw [e,F] at this;lia
def P0 (bs:List Bool)(ws:Nat->Int)(n:Nat)(r:Int):Prop:=(r= -1/\∀j,j<n->bs.getD j false=false)\/∃i:Nat,r=i/\i<n/\bs.getD i false=true/\∀j,j<n->bs.getD j false=true->ws i<=ws j/\(j<i->ws i<ws j)
abbrev c7 (bs:List Bool)(ws:Nat->Int)(r:Int):Prop:=P0 bs ws bs.length r
theorem c7.uniq {bs:List Bool}{ws:Nat->Int}{r R:Int}(h:c7 bs ws r)(h':c7 bs ws R):r=R:=by
 rcases h with ⟨rfl,h⟩|⟨i,rfl,hi,F,h⟩<;>rcases h' with ⟨rfl,h'⟩|⟨B,rfl,ak,j,h'⟩
 ·rfl
 ·rw [h B ak] at j;cases j
 ·rw [h' i hi] at F;cases F
 ·have a:=h B ak j;have b:=h' i hi F
  rcases Nat.lt_trichotomy i B with z|z|z
  ·have:=b.2 z;lia
  ·rw [z]
  ·have:=a.2 z;lia
theorem vH {bs:List Bool}{ws:Nat->Int}(h:srv bs=[]):c7 bs ws (-1):= .inl ⟨rfl,λj Z=>by
 cases z:bs.getD j false with
 |false=>rfl
 |true=>
  have:=pq.mpr ⟨Z,z⟩
  rw [h] at this;cases this⟩
theorem vG {bs:List Bool}{ws:Nat->Int}{i j:Nat}(hi:(srv bs)[i]? =some j)(I:∀i',i'<(srv bs).length->ws ((srv bs).getD i 0)<=ws ((srv bs).getD i' 0)/\(i'<i->ws ((srv bs).getD i 0)<ws ((srv bs).getD i' 0))):c7 bs ws (j:Int):=by
 have L:(srv bs).getD i 0=j:=by rw [getD_eq_getElem?_getD,hi];rfl
 have F:=pq.mp (mem_of_getElem? hi);rwa[.inr ⟨j,rfl,F.1,F.2,λk R J=> ?_⟩];obtain ⟨i',ak⟩:=mem_iff_getElem?.mp (pq.mpr ⟨R,J⟩)
 have B:(srv bs).getD i' 0=k:=by rw [getD_eq_getElem?_getD,ak];rfl
 have:=I i' (List.getElem?_eq_some_iff.mp ak).1;rw [L,B] at this;exact ⟨this.1,λz=>this.2 (K6 ak hi z)⟩
noncomputable def PF (i:Int):Int:=if i<0 then -i else i
end L2
namespace My
open PySem L2
noncomputable def LD (cs:List lZ)(i:Nat):Int:=match cs[i]? with|some c=>c.pl|none=>0
noncomputable def Nd (cs:List lZ)(i:Nat):Nat:=match cs[i]? with|some c=>c.ab.length|none=>0
noncomputable def tI (cs:List lZ)(s:Int)(i:Nat):Int:=PF (LD cs i - 2*s)
noncomputable def fM (cs:List lZ)(ls:List Int)(i:Nat):Int:=(Nd cs i:Int)+(ls.count (i:Int):Nat)
end My
namespace My
open PySem L2 PyProof.Rows
abbrev d0:Str:=s!"0"
abbrev d1:Str:=s!"1"
abbrev d2:Str:=s!"2"
abbrev Ol:Str:=s!"near"
abbrev K0:Str:=s!"least"
abbrev KW:Str:=s!"turns"
abbrev Oh:Str:=s!"zone"
abbrev K1:Str:=s!"fixed"
inductive Kd where
 |near
 |least
 |turns
 |zone (is:List Int)
 |fixed (is:List Int)
noncomputable def Kd.nm:Kd->Str
 | .near=>Ol
 | .least=>K0
 | .turns=>KW
 | .zone _=>Oh
 | .fixed _=>K1
noncomputable def Kd.is:Kd->List Int
 | .zone is=>is
 | .fixed is=>is
 |_=>[]
def Kd.ok (fl:Int)(n:Nat):Kd->Prop
 | .zone is=>(is.length:Int)=fl/\∀i∈is,0<=i/\i<(n:Int)
 | .fixed is=>1<=is.length/\is.length<=9/\∀i∈is,0<=i/\i<(n:Int)
 |_=>True
end My
namespace L2
open PySem PySem.Spec PyProof.Rows
mutual
def pF:D->Bool
 | .int _=>true
 | .tup ds=>nbDs ds
 |_=>false
def nbDs:List D->Bool
 |[]=>true
 |d::ds=>pF d&&nbDs ds
end
mutual
theorem AA:∀d e:D,pF d=true->pF e=true->iz d e=true->d=e
 | .int i,.int j,_,_,h=>by rw [iz] at h;rw [eq_of_beq h]
 | .tup xs,.tup ys,h1,h2,h=>by
   rw [pF] at h1 h2;rw [iz] at h;rw [nbs_eq xs ys h1 h2 h]
 | .int _,.tup _,_,_,h=>by simp [iz] at h
 | .tup _,.int _,_,_,h=>by simp [iz] at h
 | .non,_,h1,_,_| .bl _,_,h1,_,_| .str _,_,h1,_,_| .lst _,_,h1,_,_=>by simp [pF] at h1
 |_,.non,_,h1,_|_,.bl _,_,h1,_|_,.str _,_,h1,_|_,.lst _,_,h1,_=>by simp [pF] at h1
theorem nbs_eq:∀xs ys:List D,nbDs xs=true->nbDs ys=true->eqDs xs ys=true->xs=ys
 |[],[],_,_,_=>rfl
 |x::xs,y::ys,h1,h2,h=>by
  rw [nbDs,Bool.and_eq_true] at h1 h2;rw [eqDs,Bool.and_eq_true] at h;rw [AA x y h1.1 h2.1 h.1,nbs_eq xs ys h1.2 h2.2 h.2]
 |[],_::_,_,_,h=>by simp [eqDs] at h
 |_::_,[],_,_,h=>by simp [eqDs] at h
end
def AS (d:D):Prop:=gu d<=7/\∃a b c,d= .tup [a,b,c,.bl false]/\pF a=true/\pF b=true/\pF c=true
noncomputable instance decD:DecidableEq D:=λ_ _=>Classical.propDecidable _
theorem O8 {d e:D}(h1:AS d)(h2:AS e):iz d e=decide (d=e):=by
 obtain ⟨_,a,b,c,rfl,J,O,I⟩:=h1;obtain ⟨_,F,L,B,rfl,j,an,af⟩:=h2
 cases z:iz (.tup [a,b,c,.bl false]) (.tup [F,L,B,.bl false]) with
 |true=>
  simp only [iz,eqDs,Bool.and_eq_true] at z;rw [AA a F J j z.1,AA b L O an z.2.1,AA c B I af z.2.2.1];simp
 |false=>
  rwa[(decide_eq_false λy=> ?_).symm];rw [y,fc] at z;cases z
mutual
inductive vM (h:Heap):D->Value->Prop
 |int (i:Int) (t:Tok):vM h (.int i) (.int i t)
 |fls:vM h (.bl false) (.bool false)
 |tup {a:Addr} {its:List Value} {ds:List D}:IsTup h a its.toArray->TrHs h ds its->vM h (.tup ds) (.ref a)
inductive TrHs (h:Heap):List D->List Value->Prop
 |nil:TrHs h [] []
 |cons {d:D} {v:Value} {ds:List D} {vs:List Value}:vM h d v->TrHs h ds vs->TrHs h (d::ds) (v::vs)
end
mutual
def JW:D->Int
 | .int i=>hashInt i
 | .tup ds=>reduceHash (Builtin.Tuple.tupleHashOf (hsDs ds))
 |_=>reduceHash 0
def hsDs:List D->List Int
 |[]=>[]
 |d::ds=>JW d::hsDs ds
end
mutual
def Qd:D->Nat
 | .tup ds=>dwDs ds+1
 |_=>1
def dwDs:List D->Nat
 |[]=>0
 |d::ds=>Qd d+dwDs ds
end
section
variable {prog:Program}{w:World}{E:Value->Shared->Prop}
mutual
theorem AQ:∀(d:D) (v:Value) (A:Around) (s:Shared) (Q:Int->Shared->Prop),vM s.heap d v->A.units+gu d<cLine->Q (JW d) {s with toks:=s.toks+Qd d}->wpAny @h A (pyHash v) Q E s
 | .int i,_,A,s,Q,x,_,h=>by cases x;exact wpAny_pyHash_int h
 | .bl _,_,A,s,Q,x,hu,h=>by
   cases x;rwa[W.pyHash_slot (T:="bool") rfl F.slot_bool_hash entry_int_hash (args_int_hash _) (beq_builtin_none _) (.inr @b) ?_];exact (show wpAny _ _ (do ret (<-mkInt 0)) _ _ s from wpAny_bind (wpAny_mkInt (wpAny_pure ⟨_,_,rfl,h⟩)))
 | .tup ds,_,A,s,Q,x,hu,h=>by
   cases x with
   | @tup a its _ hg hw=>
     obtain ⟨o,h1,h2,n,L⟩:=hg;rw [gu] at hu;rwa[W.pyHash_slot (T:="tuple") ⟨o,h1,h2⟩ F.slot_tuple_hash F.entry_tuple_hash (F.args_tuple_hash_1 _) (beq_builtin_none _) (.inr @b) ?_];show wpAny _ _ (Builtin.Tuple.tupleItemsOf (.ref a)>>=_) _ _ s;rwa[wpAny_bind (wpAny_tupleItemsOf h1 L ?_)];rwa[wpAny_bind ?_];rw [<-Array.forIn_toList];rwa[hash_trs ds its A.in1 s #[] _ hw (by show A.units+1+deps ds<cLine;lia) λb B=> ?_];show wpAny _ _ (retInt (Builtin.Tuple.tupleHashOf b.toList)) _ _ _;rw [B];rwa[wpAny_bind (wpAny_mkInt (wpAny_pure ⟨_,_,rfl,?_⟩))];rw [JW,Qd] at h;simpa [Nat.add_assoc] using h
 | .non,_,_,_,_,x,_,_| .str _,_,_,_,_,x,_,_| .lst _,_,_,_,_,x,_,_=>by cases x
theorem hash_trs:∀(ds:List D) (vs:List Value) (A:Around) (s:Shared) (b:Array Int) (Q:Array Int->Shared->Prop),TrHs s.heap ds vs->A.units+deps ds<cLine->
 (∀b',b'.toList=b.toList++hsDs ds->Q b' {s with toks:=s.toks+dwDs ds})->
 wpAny @h A (forIn vs b λx r=>do let h<-pyHash x;pure PUnit.unit;pure (ForInStep.yield (r.push h))) Q E s
 |[],_,A,s,b,Q,x,_,h=>by cases x;exact wpAny_pure (h b (by simp [hsDs]))
 |d::ds,_,A,s,b,Q,x,hu,h=>by
  cases x with
  |cons x1 x2=>
   rw [deps] at hu;rw [forIn_cons];rwa[wpAny_bind (wpAny_bind (AQ d _ A s _ x1 @b ?_))];rwa[wpAny_bind (wpAny_pure @V)];rwa[hash_trs ds _ A _ _ Q x2 @b λb' B=> ?_];have:=h b' (by simp [B,hsDs]);rw [dwDs,<-Nat.add_assoc] at this;exact this
end
end
section
variable {h h':Heap}
mutual
theorem vM.inj:∀ {d e:D} {v:Value},vM h d v->vM h e v->d=e
 |_,_,_,.int i t,y=>by cases y;rfl
 |_,_,_,.fls,y=>by cases y;rfl
 |_,_,_,.tup p q,y=>by
  cases y with
  |tup p' q'=>
   obtain ⟨o,h1,_,n,L⟩:=p;obtain ⟨o',j,_,F,R⟩:=p';rw [h1] at j;cases j;rw [L] at R;injection R with z e2;have z:=congrArg Array.toList z;simp only at z;subst z;rw [q.inj q']
theorem TrHs.inj:∀ {ds es:List D} {vs:List Value},TrHs h ds vs->TrHs h es vs->ds=es
 |_,_,_,.nil,y=>by cases y;rfl
 |_,_,_,.cons a b,y=>by
  cases y with
  |cons a' b'=>rw [a.inj a',b.inj b']
end
mutual
theorem vM.keeps (k:∀a its,IsTup h a its->IsTup h' a its):∀ {d:D} {v:Value},vM h d v->vM h' d v
 |_,_,.int i t=> .int i t
 |_,_,.fls=> .fls
 |_,_,.tup p q=> .tup (k _ _ p) (q.keeps k)
theorem TrHs.keeps (k:∀a its,IsTup h a its->IsTup h' a its):∀ {ds:List D} {vs:List Value},TrHs h ds vs->TrHs h' ds vs
 |_,_,.nil=> .nil
 |_,_,.cons a b=> .cons (a.keeps k) (b.keeps k)
end
theorem TrHs.len:∀ {ds:List D} {vs:List Value},TrHs h ds vs->ds.length=vs.length
 |_,_,.nil=>rfl
 |_,_,.cons _ b=>by simp [b.len]
theorem TrHs.get:∀ {ds:List D} {vs:List Value} {i:Nat} {v:Value},TrHs h ds vs->vs[i]? =some v->∃d,ds[i]? =some d/\vM h d v
 |_,_,0,_,.cons a _,e=>⟨_,rfl,by simp at e;exact e▸a⟩
 |_,_,i+1,_,.cons _ b,e=>by simpa using b.get (by simpa using e)
 |_,_,i,_,.nil,e=>by simp at e
end
section
variable {prog:Program}{w:World}
open PySem.SeqAt in
theorem Pf {s:Shared}:∀(n:Nat) {d e:D} {u v:Value} {A:Around},gu d<=n->vM s.heap d u->vM s.heap e v->A.units+gu d<cLine->EqAt A s u v (iz d e):=by
 intro n
 induction n with
 |zero=>
  intro d e u v A F x y I
  cases x with
  |int i t=>
   cases y with
   |int j t'=>exact fO (y:= .int i) (x:= .int j) ⟨_,rfl⟩ ⟨_,rfl⟩ rfl rfl
   |fls=>exact fO (y:= .int i) (x:= .bl false) ⟨_,rfl⟩ rfl rfl rfl
   |tup p _=>exact EqAt.int_tuple i t p @b
  |fls=>
   cases y with
   |int j t'=>exact fO (y:= .bl false) (x:= .int j) rfl ⟨_,rfl⟩ rfl rfl
   |fls=>exact fO (x:= .bl false) (y:= .bl false) rfl rfl rfl rfl
   |tup p _=>exact EqAt.bool_tuple false p @b
  |tup p q=>rw [gu] at F;lia
 |succ n ih=>
  intro d e u v A F x y I
  cases x with
  |int i t=>
   cases y with
   |int j t'=>exact fO (y:= .int i) (x:= .int j) ⟨_,rfl⟩ ⟨_,rfl⟩ rfl rfl
   |fls=>exact fO (y:= .int i) (x:= .bl false) ⟨_,rfl⟩ rfl rfl rfl
   |tup p _=>exact EqAt.int_tuple i t p @b
  |fls=>
   cases y with
   |int j t'=>exact fO (y:= .bl false) (x:= .int j) rfl ⟨_,rfl⟩ rfl rfl
   |fls=>exact fO (x:= .bl false) (y:= .bl false) rfl rfl rfl rfl
   |tup p _=>exact EqAt.bool_tuple false p @b
  | @tup a its ds p q=>
    rw [gu] at F I
    cases y with
    |int j t'=>exact EqAt.tuple_int j t' p @b
    |fls=>exact EqAt.tuple_bool false p @b
    | @tup b its2 es p2 q2=>
      by_cases R:a=b
      ·subst R
       rw [(vM.tup p q).inj (.tup p2 q2),fc]
       exact EqAt.same _
      rw [iz]
      have l1:=q.len
      have l2:=q2.len
      have ad:eqDs ds es=((List.range (min its.toArray.size its2.toArray.size)).all @bc&&its.toArray.size==its2.toArray.size):=by
       by_cases z:ds.length=es.length
       ·have B:its.toArray.size=ds.length:=by rw [size_toArray];lia
        have O:its2.toArray.size=ds.length:=by rw [size_toArray];lia
        rw [B,O,Nat.min_self,d3 z];simp
       ·rw [dZ z]
        have:(its.toArray.size==its2.toArray.size)=false:=beq_eq_false_iff_ne.mpr (by simp only [size_toArray];lia)
        rw [this,Bool.and_false]
      rw [ad]
      rwa[EqAt.of_refs R (RcAt.tuples p p2 @b λj h1 h2=> ?_)]
      obtain ⟨Y,B,S⟩:=q.get (i:=j) (v:=its.toArray[j]) @e
      obtain ⟨J,O,L⟩:=q2.get (i:=j) (v:=its2.toArray[j]) @e
      rw [show ds.getD j .non=Y by simp [List.getD,B],show es.getD j .non=J by simp [List.getD,O]]
      have aa:=iW B
      rwa[ih @b S L ?_]
      have:A.in1.units=A.units+1:=rfl
      lia
theorem Eg {s:Shared}{A:Around}{E:Value->Shared->Prop}:∀(n:Nat) {d:D} {v:Value} {Q:Bool->Shared->Prop},gu d<=n->vM s.heap d v->Q true s->wpAny @h A (eqIsQuiet n v) Q E s:=by
 intro n
 induction n with
 |zero=>
  intro d v Q B x h
  cases x with
  |int i t=>rw [eqIsQuiet_byValue _ rfl];exact wpAny_pure h
  |fls=>rw [eqIsQuiet_byValue _ rfl];exact wpAny_pure h
  |tup p q=>rw [gu] at B;lia
 |succ n ih=>
  intro d v Q B x h
  cases x with
  |int i t=>rw [eqIsQuiet_byValue _ rfl];exact wpAny_pure h
  |fls=>rw [eqIsQuiet_byValue _ rfl];exact wpAny_pure h
  | @tup a its ds p q=>
    rw [gu] at B;obtain ⟨o,h1,h2,m,I⟩:=p;have L:s.TypeIs (.ref a) "tuple":=⟨o,h1,h2⟩;unfold eqIsQuiet;rwa[wpAny_bind (wpAny_specialOf L F.slot_tuple_eq.lookup ?_)];show wpAny _ _ (isInstance (.ref a) (.type "tuple")>>=_) _ _ s;rwa[wpAny_bind (wpAny_isInstance L isSubtype_tuple_tuple ?_)];simp only [Bool.not_true,Bool.false_eq_true,if_false];rwa[wpAny_bind (wpAny_seqItems h1 I ?_)];rwa[wpAny_bind ?_];show wpAny _ _ (forIn its.toArray _ _) _ _ s;rw [<-Array.forIn_toList];rwa[wpAny_forIn_list _ (λeU r s'=>r.1=none/\s'=s/\∃z,TrHs s.heap z eU/\deps z<=n) _ ?_ ?_ _ _ ⟨rfl,rfl,ds,q,by lia⟩]
    ·rintro v eU r s' ⟨S,rfl,z,j,J⟩
     cases j with
     |cons t1 t2=>
      rw [deps] at J;rwa[wpAny_bind (ih @b t1 ?_)];simp only [Bool.not_true,Bool.false_eq_true,if_false];exact wpAny_pure ⟨rfl,rfl,_,t2,by lia⟩
    ·rintro ⟨R,O⟩ s' ⟨S,rfl,_⟩;simp only at S;subst S;exact wpAny_pure h
noncomputable def jM (prog:Program)(w:World):HeapKind prog w D where
 is:=λh d a=>AS d/\vM h d (.ref a)
 hash:=JW
 draws:=Qd
 room:=λA=>A.units+7<cLine
 inj:=λhx hy=>hx.2.inj hy.2
 keeps:=λx ho hd hs=>⟨x.1,x.2.keeps λa its ⟨o,h1,h2,n,h3⟩=>by
  rwa[⟨o,?_,h2,n,h3⟩]
  rw [hs.2 a (λz=>by subst z;rw [h1] at ho;cases ho;rw [h3] at hd;cases hd)];exact h1⟩
 pyHash:=λhu hk h=>AQ _ _ _ _ _ hk.2 (by have:=hk.1.1;lia) h
 eqBool:=λhu hx hy h=>Pf _ @f hx.2 hy.2 (by have:=hx.1.1;lia) _ _ _ _ (by rw [O8 hx.1 hy.1];exact h)
 quiet:=λhk h=>Eg 8 (Nat.le_trans hk.1.1 @c) hk.2 h
end
def bI (a:Addr)(xs:List (D×Addr×Value)):HO:= .ext λh=>∃o es ep,h.get? a=some o/\o.ExactDict/\o.data= .dict es ep/\es.toList=xs.map (λx=>(⟨JW x.1,.ref x.2.1,x.2.2⟩:DictEntry))/\(xs.map (·.1)).Nodup/\(a==sysModules)=false
theorem xp {P:Program}{w:World}{H:Hp}{h:Heap}{a:Addr}{xs:List (D×Addr×Value)}(z:∃o es ep,h.get? a=some o/\o.ExactDict/\o.data= .dict es ep/\es.toList=xs.map (λx=>(⟨JW x.1,.ref x.2.1,x.2.2⟩:DictEntry))/\(xs.map (·.1)).Nodup/\(a==sysModules)=false):be P w H h a @eG:=by
 rwa[⟨z,?_,λh1 h2 L J=> ?_⟩]
 ·obtain ⟨o,_,_,e,_⟩:=z;exact ⟨o,e⟩
 ·obtain ⟨o,es,ep,e,r⟩:=L;exact ⟨o,es,ep,J _ e,r⟩
def cX (K:Fg)(H:Hp)(a:Addr)(kvs:List (D×V)):Prop:=∃xs,H a=some @eG/\(xs.map (·.1)).Nodup/\(a==sysModules)=false/\Paired (λ(p:D×V) (q:D×Addr×Value)=>p.1=q.1/\AS p.1/\bv K H (.ref q.2.1) p.1/\ay p.2 q.2.2) kvs xs
section
variable {X:Cx}{pins:List (Addr×Obj)}{σ:St}{H:Hp}{s:Shared}{a b:Addr}{d:D}{v:V}{u r:Value}{A:Around}{E:Value->Shared->Prop}{kvs:List (D×V)}
theorem Of (I:av X pins σ H s){x:V}{d:D}(O:bv X.K H x d):∀ {u:Value},ay x u->(pF d=true\/d= .bl false\/AS d)->vM s.heap d u:=by
 induction O with
 |int i=>intro u j _;obtain ⟨t,rfl⟩:=j;exact .int i t
 |bl b=>
  intro u j g;cases j
  rcases g with g|g|⟨_,_,_,_,g,_⟩
  ·simp [pF] at g
  ·cases g;exact .fls
  ·cases g
 | @tup a xs ds h W hi ih=>
   intro u j g;cases j;obtain ⟨its,Z,S,z1⟩:=I.tuple h;rwa[.tup S ?_]
   have B:∀(i:Nat) (e:D),ds[i]? =some e->pF e=true\/e= .bl false\/AS e:=by
    rcases g with g|g|⟨_,p,q,c,g,g1,g2,U⟩
    ·rw [pF] at g
     have J:∀(ds:List D) (i:Nat) (e:D),nbDs ds=true->ds[i]? =some e->pF e=true:=by
      intro ds
      induction ds with
      |nil=>intro i e _ z;simp at z
      |cons x xs ih=>
       intro i e y z;rw [nbDs,Bool.and_eq_true] at y
       cases i with
       |zero=>simp at z;exact z▸y.1
       |succ i=>exact ih i e y.2 (by simpa using z)
     exact λi e z=> .inl (J ds i e g z)
    ·cases g
    ·cases g;intro i e z
     match i,z with
     |0,z=>simp at z;exact .inl (z▸g1)
     |1,z=>simp at z;exact .inl (z▸g2)
     |2,z=>simp at z;exact .inl (z▸U)
     |3,z=>simp at z;exact .inr (.inl z.symm)
   have R:∀(xs:List V) (ds:List D) (its:List Value),aJ xs its->xs.length=ds.length->(∀(i:Nat) x e u,xs[i]? =some x->ds[i]? =some e->ay x u->vM s.heap e u)->TrHs s.heap ds its:=by
    intro xs
    induction xs with
    |nil=>intro ds its Y W _;cases Y;cases ds with|nil=>exact .nil|cons _ _=>simp at W
    |cons x xs ih=>
     intro ds its Y W f
     cases Y with
     |cons rv Y=>
      cases ds with
      |nil=>simp at W
      |cons e ds=>exact .cons (f 0 x e _ rfl rfl rv) (ih ds _ Y (by simpa using W) λi y F u h1 h2 L=>f (i+1) y F u (by simpa using h1) (by simpa using h2) L)
   exact R xs ds its Z W λi x e u h1 h2 L=>ih i x e h1 h2 L (B i e h2)
 |non=>intro u j g;rcases g with g|g|⟨_,_,_,_,g,_⟩<;>simp [pF] at g
 |str x=>intro u j g;rcases g with g|g|⟨_,_,_,_,g,_⟩<;>simp [pF] at g
 |lst h W hi ih=>intro u j g;rcases g with g|g|⟨_,_,_,_,g,_⟩<;>simp [pF] at g
theorem nh (I:av X pins σ H s)(J:bv X.K H (.ref b) d)(g:AS d):(jM X.prog X.w).is s.heap d b:=⟨g,Of I J rfl (.inr (.inr g))⟩
theorem oC (I:av X pins σ H s)(h:cX X.K H a kvs):(a==sysModules)=false/\∃xs,Paired (λ(p:D×V) (q:D×Addr×Value)=>p.1=q.1/\AS p.1/\bv X.K H (.ref q.2.1) p.1/\ay p.2 q.2.2) kvs xs/\s.heap.DictOfH @gv a xs/\H a=some @eG:=by
 obtain ⟨xs,e,_,_,j⟩:=h;obtain ⟨⟨o,es,B,h1,h2,L,J,U,z⟩,_,_⟩:=(show be X.prog X.w H s.heap a @eG from I.hok a _ e);rwa[⟨z,xs,j,⟨o,es,B,h1,h2,L,J,λx F=> ?_,U⟩,e⟩];obtain ⟨i,hi⟩:=mem_iff_getElem?.mp F;obtain ⟨p,O,R,g,dn,_⟩:=j.get2 hi;rw [<-R];exact nh I dn g
theorem rA {xs:List (D×Addr×Value)}:∀ {kvs:List (D×V)},Paired (λ(p:D×V) (q:D×Addr×Value)=>p.1=q.1/\AS p.1/\bv X.K H (.ref q.2.1) p.1/\ay p.2 q.2.2) kvs xs->iu (dJ kvs d) ((atKey xs d).map (·.2)):=by
 induction xs with
 |nil=>intro kvs r;cases r;trivial
 |cons q xs ih=>
  intro kvs r
  cases r with
  | @cons p _ kvs _ hpq r=>
    obtain ⟨e,_,_,B⟩:=hpq;by_cases z:p.1=d
    ·rw [bU z]
     have:atKey (q::xs) d=some q.2:=by simp [atKey,find?_cons,<-e,z]
     rw [this];exact B
    ·rw [bV z]
     have:atKey (q::xs) d=atKey xs d:=by
      have: ¬q.1=d:=λy=>z (e.trans y);simp [atKey,find?_cons,this]
     rw [this];exact ih r
end
def oV (K:Fg)(H:Hp)(a:Addr)(y:V)(o:Option V):Prop:=∃kvs b d,y= .ref b/\cX K H a kvs/\bv K H (.ref b) d/\AS d/\o=dJ kvs d
def Kg (K:Fg)(H:Hp)(a:Addr)(y v:V)(Q:Hp->Prop):Prop:=∃kvs b d,y= .ref b/\cX K H a kvs/\bv K H (.ref b) d/\AS d/\kvs.length<sizeLine/\dJ kvs d=none/\∀xs,(∀H',H'=upd H a @eG->cX K H' a (kvs++[(d,v)]))->Q (upd H a @eG)
theorem No {A:Around}{k:Nat}(S:bE k A):A.units+8<cLine:=Nat.lt_of_le_of_lt (Nat.add_le_add_left (by decide:8<=64) _) S.units
section
variable {X:Cx}{pins:List (Addr×Obj)}{σ:St}{H:Hp}{s:Shared}{a b:Addr}{y v:V}{u r:Value}{A:Around}{E:Value->Shared->Prop}{o:Option V}
theorem zO {Q:Value->Shared->Prop}(S:A.units+8<cLine)(I:av X pins σ H s)(g:oV X.K H a y @bs)(O:ay y u)(h:∀w' s',av X pins σ H s'->ay v w'->Q w' s'):wpAny @d A (getItem (.ref a) u) Q E s:=by
 obtain ⟨kvs,b,d,rfl,R,L,B,l⟩:=g;cases (show u=Value.ref b from O);obtain ⟨_,xs,j,Z,_⟩:=oC I R;obtain ⟨w',J,F⟩:=iu.some_of (v:=v) (o:=(atKey xs d).map (·.2)) (by rw [l];exact rA (X:=X) (H:=H) j);obtain ⟨p,z,aC⟩:=Option.map_eq_some_iff.mp J;rwa[wpAny_getItem_heap (knd:=jM X.prog X.w) (show A.in1.units+7<cLine from by show A.units+1+7<cLine;lia) (nh I L B) Z z ?_];rw [aC];exact h w' _ @dQ F
theorem Po {Q:Value->Shared->Prop}(L:A.units+8<cLine)(I:av X pins σ H s)(g:oV X.K H a y o)(z:ay y u)(h:∀s',av X pins σ H s'->Q (.bool o.isSome) s'):wpAny @d A (compareOp .In u (.ref a)) Q E s:=by
 obtain ⟨kvs,b,d,rfl,F,J,B,l⟩:=g;cases (show u=Value.ref b from z);obtain ⟨hs,xs,j,Z,_⟩:=oC I F;rwa[wpAny_in_heap (knd:=jM X.prog X.w) (show A.in1.units+7<cLine from by show A.units+1+7<cLine;lia) (nh I J B) hs Z ?_];have q:=(rA (X:=X) (H:=H) (d:=d) j).isSome_eq;rw [Option.isSome_map] at q;rw [<-q,<-l];exact h _ @dQ
theorem FV {Q:Value->Shared->Prop}(L:A.units+8<cLine)(I:av X pins σ H s)(g:oV X.K H a y o)(z:ay y u)(h:∀s',av X pins σ H s'->Q (.bool (!o.isSome)) s'):wpAny @d A (compareOp .NotIn u (.ref a)) Q E s:=by
 obtain ⟨kvs,b,d,rfl,F,J,B,l⟩:=g;cases (show u=Value.ref b from z);obtain ⟨hs,xs,j,Z,_⟩:=oC I F;rwa[wpAny_notIn_heap (knd:=jM X.prog X.w) (show A.in1.units+7<cLine from by show A.units+1+7<cLine;lia) (nh I J B) hs Z ?_];have q:=(rA (X:=X) (H:=H) (d:=d) j).isSome_eq;rw [Option.isSome_map] at q;rw [<-q,<-l];exact h _ @dQ
theorem Jp {Q:Value->Shared->Prop}(O:A.units+8<cLine)(I:av X pins σ H s)(g:oV X.K H a y o)(z:ay y u)(h:∀w' s',av X pins σ H s'->ay (o.getD .non) w'->Q w' s'):wpAny @d A (call (.builtin "dict.get") [.ref a,u]) Q E s:=by
 obtain ⟨kvs,b,d,rfl,J,L,B,l⟩:=g;cases (show u=Value.ref b from z);obtain ⟨hs,xs,j,Z,_⟩:=oC I J;rwa[call_meetsIn PySem.F.slot_dict_get Z.typeIs PySem.F.entry_dict_get (PySem.F.args_dict_get_2 _ _) (meetsH_dict_get @gv a b hs) ⟨(show A.in1.units+7<cLine from by show A.units+1+7<cLine;lia),d,xs,nh I L B,Z,h _ _ @dQ ?_⟩];rw [l];exact (rA (X:=X) (H:=H) j).getD rfl
theorem zN {Y:Hp->Prop}{Q:Unit->Shared->Prop}(hu:A.units+8<cLine)(I:av X pins σ H s)(g:Kg X.K H a y v Y)(ry:ay y u)(rv:ay v r)(h:∀H' s',Y H'->av X pins σ H' s'->Q () s'):wpAny @d A (setItem (.ref a) u r) Q E s:=by
 obtain ⟨kvs,b,d,rfl,hD,hd,R,l,nw,q⟩:=g;cases (show u=Value.ref b from ry);obtain ⟨hs,xs,J,dd,e⟩:=oC I hD
 have hz:xs.length<=sizeLine:=by rw [<-J.len];lia
 have hn:atKey xs d=none:=by
  have z:=rA (X:=X) (H:=H) (d:=d) J;rw [nw] at z
  cases y:atKey xs d with
  |none=>rfl
  |some p=>rw [y] at z;exact False.elim z
 rwa[wpAny_setItem_heap (knd:=jM X.prog X.w) (hsz:=hz) (show A.in1.units+7<cLine from by show A.units+1+7<cLine;lia) (nh I hd R) dd λh' L ae=> ?_];rw [storedH_new hn] at L;obtain ⟨W,es,ep,U,h2,h3,h4,_,h5⟩:=L;rwa[h (upd H a (bI a (xs++[(d,b,r)]))) _ (q _ λH' eH=> ?_) ?_]
 ·subst eH
  have S:∀ {c:Addr} {B:D},AS B->bv X.K H (.ref c) B->bv X.K (upd H a (bI a (xs++[(d,b,r)]))) (.ref c) B:=by
   have O:∀ {x:V} {B:D},bv X.K H x B->(pF B=true\/B= .bl false\/AS B)->bv X.K (upd H a (bI a (xs++[(d,b,r)]))) x B:=by
    intro x B hx
    induction hx with
    |non=>exact λ_=> .non
    |bl b=>exact λ_=> .bl b
    |int i=>exact λ_=> .int i
    |str z=>exact λ_=> .str z
    |lst _ _ _ _=>intro g;rcases g with g|g|⟨_,_,_,_,g,_⟩<;>simp [pF] at g
    | @tup c xs' ds j hl hi ih=>
      intro g
      have hT:aB X.K (upd H a (bI a (xs++[(d,b,r)]))) c xs':=by
       rcases j with (j|⟨u0,j⟩)|j
       ·exact .inl (.inl (by rw [ai (λz=>by rw [z,e] at j;cases j)];exact j))
       ·exact .inl (.inr ⟨u0,by rw [ai (λz=>by rw [z,e] at j;cases j)];exact j⟩)
       ·exact .inr j
      rwa[.tup hT hl λi x Z h1 F=>ih i x Z h1 F ?_]
      rcases g with g|g|⟨_,p,q',c',g,g1,g2,g3⟩
      ·rw [pF] at g
       have go:∀(ds:List D) (i:Nat) (e:D),nbDs ds=true->ds[i]? =some e->pF e=true:=by
        intro ds
        induction ds with
        |nil=>intro i e _ z;simp at z
        |cons x xs ih=>
         intro i e y z;rw [nbDs,Bool.and_eq_true] at y
         cases i with
         |zero=>simp at z;exact z▸y.1
         |succ i=>exact ih i e y.2 (by simpa using z)
       exact .inl (go ds i Z g F)
      ·cases g
      ·cases g
       match i,F with
       |0,z=>simp at z;exact .inl (z▸g1)
       |1,z=>simp at z;exact .inl (z▸g2)
       |2,z=>simp at z;exact .inl (z▸g3)
       |3,z=>simp at z;exact .inr (.inl z.symm)
   exact λ{c B} g h=>O h (.inr (.inr g))
  exact ⟨_,ag,h5,hs,Paired.app (Paired.imp' (λp q z=>⟨z.1,z.2.1,S z.2.1 z.2.2.1,z.2.2.2⟩) J) (.cons ⟨rfl,R,S R hd,rv⟩ .nil)⟩
 ·exact pL I (by rw [e];exact True.intro) ae ⟨W,U⟩ (xp ⟨W,es,ep,U,h2,h3,h4,h5,hs⟩)
theorem Cr (I:av X pins σ H s){kvs:List (D×V)}(g:cX X.K H a kvs):s.TypeIs (.ref a) "dict":=by
 obtain ⟨_,xs,_,Z,_⟩:=oC I g;exact Z.typeIs
theorem Pm (I:av X pins σ H s){kvs:List (D×V)}(g:cX X.K H a kvs):s.TypeIs (.ref a) "dict"/\(∀b,Value.ref a= .ref b->∃ob,s.heap.get? b=some ob/\ob.dict=none):=by
 obtain ⟨_,xs,_,Z,_⟩:=oC I g;rwa[⟨Z.typeIs,λb q=> ?_⟩];cases q;obtain ⟨ob,_,_,h1,h2,_⟩:=Z;exact ⟨ob,h1,h2.2.1⟩
end
def K3 (K:Fg)(td ty:TE):TE:=λσ H Q=>td σ H λx H1=>ty σ H1 λy H2=>∃a v,x= .ref a/\oV K H2 a y @bs/\Q v H2
def Oo (K:Fg)(ty td:TE):TE:=λσ H Q=>ty σ H λy H1=>td σ H1 λx H2=>∃a o,x= .ref a/\oV K H2 a y o/\Q (.bl o.isSome) H2
def Dn (K:Fg)(ty td:TE):TE:=λσ H Q=>ty σ H λy H1=>td σ H1 λx H2=>∃a o,x= .ref a/\oV K H2 a y o/\Q (.bl (!o.isSome)) H2
def Lq (K:Fg)(td ty tv:TE):TS:=λD σ H=>tv σ H λv H1=>td σ H1 λx H2=>ty σ H2 λy H3=>∃a,x= .ref a/\Kg K H3 a y v (D.nx σ)
def Hd (K:Fg)(td ty:TE):TE:=λσ H Q=>td σ H λx H1=>∃a kvs,x= .ref a/\cX K H1 a kvs/\ty σ H1 λy H2=>∃o,oV K H2 a y o/\Q (o.getD .non) H2
def K2:TE:=λ_ H Q=>∀p,H p=none->(p==sysModules)=false->Q (.ref p) (upd H p (bI p []))
def N5 (K:Fg):R2:=λx y H Q=>∃a b kvs,x= .ref a/\y= .ref b/\cX K H a kvs/\kvs≠[]/\H b=some (bI b [])/\Q (.bl false) H
section
variable {X:Cx}{o i e value:Expr}{pos pos' apos cpos:Pos}{td ty tv:TE}{K:Fg}{m:Nat}
theorem Et (R:X.K=K)(z:X.A.units+8<cLine)(S:PE X o td)(hi:PE X i ty)(hs:PM i):PE X (.Subscript o i pos) (K3 K td ty):=by
 subst R;intro pins s σ H Q I h;rwa[Hf PySem.F.slot_dict_getitem.lookup hs (br (S pins s σ H _ I h) λu J ⟨x,H1,U,L,O⟩=>br (hi pins J σ H1 _ U O) λiv s2 ⟨y,H2,B,W,a,v,ex,g,q2⟩=> ?_)];subst ex;obtain rfl:u=Value.ref a:=L;exact ⟨(by obtain ⟨kvs,_,_,_,Z,_⟩:=g;exact Cr B Z),zO z B g W λw' s3 Y j=>⟨v,H2,Y,j,q2⟩⟩
theorem Ie (O:X.K=K)(z:X.A.units+8<cLine)(hi:PE X i ty)(j:PE X o td):PC X .In i o (Oo K ty td):=by
 subst O;intro pins s σ H Q I h;rwa[br @bE λY J ⟨y,H1,R,S,F⟩=>br (j pins J σ H1 _ R F) λu s2 ⟨x,H2,B,L,a,U,ex,g,W⟩=> ?_];subst ex;obtain rfl:u=Value.ref a:=L;exact Po z B g S λs3 Z=>⟨.bl U.isSome,H2,Z,rfl,W⟩
theorem yX (O:X.K=K)(z:X.A.units+8<cLine)(hi:PE X i ty)(j:PE X o td):PC X .NotIn i o (Dn K ty td):=by
 subst O;intro pins s σ H Q I h;rwa[br @bE λY J ⟨y,H1,R,S,F⟩=>br (j pins J σ H1 _ R F) λu s2 ⟨x,H2,B,L,a,U,ex,g,W⟩=> ?_];subst ex;obtain rfl:u=Value.ref a:=L;exact FV z B g S λs3 Z=>⟨.bl (!U.isSome),H2,Z,rfl,W⟩
theorem wU (O:X.K=K)(U:X.A.units+8<cLine)(j:PE X o td)(hi:PE X i ty)(hv:PE X value tv)(hs:swapsWith value (some (.Subscript o i pos')) pos.line X.env=pure false):
 PS X (.Assign [.Subscript o i pos'] value pos) (Lq K td ty tv):=by
 subst O;intro pins s σ H D I h;rwa[wpAny_Assign_Subscript (br (hv pins s σ H _ I h) λr J ⟨v,H1,I1,S,q1⟩=>br (j pins J σ H1 _ I1 q1) λu F ⟨x,H2,B,L,R⟩=>br (hi pins F σ H2 _ B R) λiv s3 ⟨y,H3,Z,z,a,ex,g⟩=> ?_) hs];subst ex;obtain rfl:u=Value.ref a:=L;exact zN U Z g z S λY s4 q4 W=>⟨σ,Y,W,q4⟩
theorem BJ (O:X.K=K)(hu:X.A.units+8<cLine)(R:PE X o td)(he:PE X e ty)(m:M1 X o "get" apos e cpos):PE X (.Call (.Attribute o "get" apos) [e] [] cpos) (Hd K td ty):=by
 subst O;intro pins s σ H Q I h;rwa[wpAny_Call_method m.base m.few m.line PySem.F.plainAttrs_dict PySem.F.slot_dict_get PySem.F.type_dict_get (br @dO λu J ⟨x,H1,z,L,a,kvs,ex,d,q1⟩=> ?_)];subst ex;obtain rfl:u=Value.ref a:=L;obtain ⟨W,U⟩:=Pm z d;rwa[⟨W,U,?_⟩];rw [m.trees];rwa[Calls.callWith_builtin rfl (Calls.evalArgs_plain (Calls.spliced_cons (br (he pins J σ H1 _ z q1) λiv s2 ⟨y,H2,B,S,ov,g,Y⟩=>Calls.spliced_nil ?_)))];exact Jp hu B g S λw' s3 Z j=>⟨_,H2,Z,j,Y⟩
theorem lq:PE X (.Dict [] [] pos) K2:=λpins s σ H Q I h=>
 wpAny_Dict_empty ⟨.ref s.heap.objs.size,_,I.laid (a:=s.heap.objs.size) (o:=bI s.heap.objs.size []) (t':=s.toks) (λ_ _ q=>Heap.get?_push_of_some _ q) @f
  (xp ⟨_,#[],0,Heap.get?_push_size _ rfl,⟨rfl,rfl,rfl⟩,rfl,rfl,List.nodup_nil,beq_eq_false_iff_ne.mpr @cw⟩),rfl,h _ @br (beq_eq_false_iff_ne.mpr @cw)⟩
theorem FW {H:Hp}{p:Addr}(F:(p==sysModules)=false):cX K (upd H p (bI p [])) p []:=⟨[],ag,List.nodup_nil,F,.nil⟩
theorem Kz (hK:X.K=K)(hr:bE m X.A):cG X @fq (N5 K):=by
 subst hK;intro pins s σ H x y v u Q I W ry h;obtain ⟨a,b,kvs,rfl,rfl,hD,j,hb,q⟩:=h;cases (show v=Value.ref a from W);cases (show u=Value.ref b from ry);obtain ⟨hs,xs,B,Z,_⟩:=oC I hD;obtain ⟨⟨ob,es,ep,O,b2,b3,b4,_,b6⟩,_,_⟩:=(show be X.prog X.w H s.heap b (bI b []) from I.hok b _ hb);have L:=Z.typeIs;have ag:s.TypeIs (.ref b) "dict":=⟨ob,O,b2.1⟩;obtain ⟨oa,R,aa,U,a2,S,a4,_,_⟩:=Z;have J:EP X pins σ Q (.bool false) s:=⟨.bl false,H,I,rfl,q⟩;have hu:=hr.units;rwa[wpAny_richCompare_same_room (op:= .Eq) L ag F.slot_dict_eq (wpAny_call_entry F.slot_dict_eq L F.entry_dict_eq ?_ (F.args_dict_eq_2 _ _)) @b];show wpAny _ _ (Builtin.Dict.dictSlotArgs "__eq__" ⟨[.ref a,.ref b],[]⟩>>=_) _ _ s;rwa[wpAny_bind ?_];unfold Builtin.Dict.dictSlotArgs;rwa[wpAny_bind (wpAny_notOrdered_dict L ?_)];rwa[wpAny_bind (wpAny_of_eq (show slotArgs "__eq__" 1 ⟨[.ref a,.ref b],[]⟩=pure (.ref a,[.ref b]) from rfl) @V)];show wpAny _ _ (isInstance (.ref b) (.type "dict")>>=_) _ _ s;rwa[wpAny_bind (wpAny_isInstance ag isSubtype_dict_dict ?_)];simp only [Bool.not_true,Bool.false_eq_true,if_false];show wpAny _ _ (pure a>>=_) _ _ s;rwa[wpAny_bind @V];show wpAny _ _ (pure b>>=_) _ _ s;rwa[wpAny_bind @V];rwa[wpAny_bind ?_];unfold Builtin.Dict.samePairs Builtin.Dict.showsAll;rw [hs,b6];simp only [Bool.false_eq_true,if_false];rwa[wpAny_bind (wpAny_pure (wpAny_bind (wpAny_pure (wpAny_bind (wpAny_dictEntries U S (wpAny_bind (wpAny_dictEntries O b3 ?_)))))))]
 have n1:(R.size != es.size)=true:=by
  have Y:R.size=xs.length:=by rw [<-Array.length_toList,a4,length_map]
  have e2:es.size=0:=by rw [<-Array.length_toList,b4];rfl
  have e3:xs≠[]:=λz=>by subst z;cases B;exact j rfl
  rw [Y,e2,bne_iff_ne];exact λz=>e3 (length_eq_zero_iff.mp z)
 rw [if_pos n1];rwa[wpAny_bind (wpAny_rule @V)];exact wpAny_pure ⟨_,rfl,(λz=>nomatch z),J⟩
theorem Jn {H:Hp}{a c:Addr}{kvs:List (D×V)}{q:Str}(h:cX K H a kvs)(e:H c=some (xT c q)):c≠a:=by
 rintro rfl;obtain ⟨xs,h1,h2,L,_⟩:=h;rw [h1] at e;injection e with e;injection e with e;have y:=congrFun e ⟨Array.replicate (c+1) {cls:= .type "dict",data:= .dict (xs.map (λx=>(⟨JW x.1,.ref x.2.1,x.2.2⟩:DictEntry))).toArray 0},{}⟩;have z:=y.mp ⟨{cls:= .type "dict",data:= .dict (xs.map (λx=>(⟨JW x.1,.ref x.2.1,x.2.2⟩:DictEntry))).toArray 0},_,0,by simp [Heap.get?],⟨rfl,rfl,rfl⟩,rfl,by simp,h2,L⟩;obtain ⟨W,j,R,Z,I,ae,J,F⟩:=z;cases I;simp [Heap.get?] at ae;subst ae;cases J
end
section
variable {X:Cx}{K:Fg}
def Hr (K:Fg)(x:V)(p:Addr)(H:Hp)(Q:VK):Prop:=∃xs ds e,aA K H p xs/\aC K H xs ds/\bv K H x e/\(∀d∈ds,gu d<=50)/\e∈ds/\Q (.bl false) H
def C8 (K:Fg):R2:=λx y H Q=>match y with| .ref p=>Hr K x p H Q|_=>False
theorem Kw {m:Nat}(O:X.K=K)(S:bE m X.A):cG X @cm (C8 K):=by
 subst O;intro pins s σ H x y v u Q I L J h;unfold C8 at h;split at h
 ·rename_i p;obtain ⟨xs,ds,e,F,dx,R,U,B,q⟩:=h;cases J
  have z:∀d∈ds,X.A.units+1+gu d<cLine:=λd B=>by have:=S.un;have:=U d B;lia
  obtain ⟨its,r,pl,W⟩:=I.list F;rwa[SeqAt.notIn_listAt @fc pl.isList (λw j=>tM I L R r dx z w (by simpa using j)) ⟨.bl false,H,I,?_,q⟩];rw [show its.toArray.any @fc=its.any @fc by simp,xM I r dx,show (ds.any λd=>iz d e)=true from any_eq_true.mpr ⟨e,B,fc e⟩];rfl
 ·exact h.elim
theorem Rm {x:V}{p:Addr}{H:Hp}{Q:VK}{xs:List V}{ds:List D}{e:D}(h:aA K H p xs)(h1:aC K H xs ds)(h2:bv K H x e)(L:∀d∈ds,gu d<=50)(B:e∈ds)(g:Q (.bl false) H):C8 K x (.ref p) H Q:=⟨xs,ds,e,h,h1,h2,L,B,g⟩
end
open PySem.W
def NF (K:Frag)(x:Str)(st:Stmt)(f:Addr):Prop:=nsIn K mainGlobals x=some @bb/\∃fd,bo K x x st f fd
def MF (K:Frag)(C:Addr)(x q:Str)(st:Stmt)(f:Addr):Prop:=Gu K C x f/\∃fd,bo K x q st f fd
theorem OU {K:Frag}{x:Str}{st:Stmt}{f:Addr}{J:Value}{od W:Option Addr}{aa:Array @J}{Z U B j Y:Value}(a:nsIn K mainGlobals x=some @bb)(l:K.lookup f=some ⟨J,od,.func (fnOf x x @dS @cS @bI .none Z U B W j Y),aa⟩)(c:codeIn K j x=true)(k:keepIn K (.ref f)=true):NF K x st f:=⟨a,_,vz l c k⟩
theorem OY {K:Frag}{C:Addr}{x q:Str}{st:Stmt}{f:Addr}{J:Value}{od W:Option Addr}{aa:Array @J}{Z U B j Y:Value}(a:findIn K (.ref C) x=some @bb)(l:K.lookup f=some ⟨J,od,.func (fnOf x q @dS @cS @bI .none Z U B W j Y),aa⟩)(c:codeIn K j q=true)(k:keepIn K (.ref f)=true)(n:isFn K (.ref f)=true):MF K C x q st f:=⟨⟨a,n,k⟩,_,vz l c k⟩
structure sQ (P:Program)(w:World)(K:Frag)(mg:Str->Option Value)(base:Heap)(h:Heap):Prop where
 X:K.In h
 G:h.Ns mainGlobals mg
def BA (x q:Str)(st:Stmt)(us:List Value)(ps:List Str):Prop:=∀(kV doc pm:Value) (an:Option Addr) (cdv ct:Value),bindArgs (fnOf x q @dS @cS @bI .none kV doc pm an cdv ct) ⟨us,[]⟩=pure @cu
def Nu (x q:Str)(st:Stmt)(ps0:List Str):List Str->List Value->Prop
 |[],us=>BA x q st us ps0
 |_::ps,us=>∀a,Nu x q st ps0 ps (us++[a])
def BN (x q:Str)(st:Stmt)(ps:List Str):Prop:=Nu x q st ps ps []
theorem Nu.all {x q:Str}{st:Stmt}{j:List Str}:∀ {ps:List Str} {us vs:List Value},Nu x q st j ps us->vs.length=ps.length->BA x q st (us++vs) j
 |[],us,[],h,_=>by rw [append_nil];exact h
 |_::ps,us,v::vs,h,hl=>by
  have z:=Nu.all (h v) (Nat.succ.inj hl);rw [append_assoc] at z;exact z
theorem BN.all {x q:Str}{st:Stmt}{ps:List Str}(h:BN x q st ps)(us:List Value)(W:us.length=ps.length):BA x q st us ps:=Nu.all (us:=[]) h W
section
variable {P:Program}{w:World}{K:Frag}{mg:Str->Option Value}{base h:Heap}{x q:Str}{st:Stmt}{f C:Addr}{fd:FuncData}{ps:List Str}{n:Nat}{sp:Sp}
theorem bo.bn (F:bo K x q st f fd)(b:BN x q st ps):eG K fd ps []:=F.binds λZ U I W j Y z B=>b.all z B Z U I W j Y
theorem sQ.gl (T:sQ P w K mg base h){v:Value}(a:nsIn K mainGlobals x=some @bs):mg x=some v:=mg_of T.X T.G a
theorem sQ.no (T:sQ P w K mg base h)(a:nsIn K mainGlobals x=some none):mg x=none:=mg_none_of T.X T.G a
theorem sQ.ok {CX:nV}(T:sQ P w K mg base h)(o:au P w K mg base CX n f fd ps sp):au P w K mg base CX n f fd ps sp:=o
theorem sQ.cal (T:sQ P w K mg base h)(a:nsIn K mainGlobals x=some @bb)(F:bo K x x st f fd)(o:au P w K mg base aT n f fd ps sp)(b:BN x x st ps:=by (repeat intro _);rfl):aU P w K mg base n x ps sp:=⟨_,_,o,F.bn b,F.kp,T.gl a⟩
theorem sQ.calX (T:sQ P w K mg base h)(a:nsIn K mainGlobals x=some @bb)(F:bo K x x st f fd)(o:au P w K mg base @co n f fd ps sp)(b:BN x x st ps:=by (repeat intro _);rfl):JE P w K mg base n x ps sp:=⟨_,_,o,F.bn b,F.kp,T.gl a⟩
theorem Rp {CX:nV}(F:bo K x q st f fd)(c:um K C)(m:Gu K C x f)(o:au P w K mg base CX n f fd ps sp)(b:BN x q st ps:=by (repeat intro _);rfl):iy P w K mg base CX n x C sp:=⟨_,_,_,c,m,o,F.bn b⟩
theorem sQ.mkc {CX:nV}{y:Str}(T:sQ P w K mg base h)(F:bo K x q st f fd)(m:Mk K C f)(g:mg y=some (.ref C))(o:au P w K mg base CX n f fd ps sp)(b:BN x q st ps:=by (repeat intro _);rfl):i6 P w K mg base CX n y C sp:=⟨_,_,_,m,o,F.bn b,g⟩
theorem sQ.cal' (T:sQ P w K mg base h)(a:NF K x st f)(o:∀ {fd},bo K x x st f fd->au P w K mg base aT n f fd ps sp)(b:BN x x st ps:=by (repeat intro _);rfl):aU P w K mg base n x ps sp:=let ⟨a,_,F⟩:=a;T.cal a F (o F) b
theorem sQ.calX' (T:sQ P w K mg base h)(a:NF K x st f)(o:∀ {fd},bo K x x st f fd->au P w K mg base @co n f fd ps sp)(b:BN x x st ps:=by (repeat intro _);rfl):JE P w K mg base n x ps sp:=let ⟨a,_,F⟩:=a;T.calX a F (o F) b
theorem sQ.mcal' {D:Addr}{CX:nV}(T:sQ P w K mg base h)(a:MF K D x q st f)(c:um K C)(m:Gu K C x f)(o:∀ {fd},bo K x q st f fd->au P w K mg base CX n f fd ps sp)(b:BN x q st ps:=by (repeat intro _);rfl):iy P w K mg base CX n x C sp:=let ⟨_,_,F⟩:=a;Rp F c m (o F) b
theorem sQ.mkc' {D:Addr}{CX:nV}{y:Str}(T:sQ P w K mg base h)(a:MF K D x q st f)(m:Mk K C f)(g:mg y=some (.ref C))(o:∀ {fd},bo K x q st f fd->au P w K mg base CX n f fd ps sp)(b:BN x q st ps:=by (repeat intro _);rfl):i6 P w K mg base CX n y C sp:=let ⟨_,_,F⟩:=a;T.mkc F m g (o F) b
theorem bo.law {y:Str}(F:bo K x q st f fd)(b:BN x q st [y]:=by (repeat intro _);rfl)(s:Shared)(v:Value):BindsTo s fd ⟨[v],[]⟩ [(y,v)]:=by
 obtain ⟨J,L,Z,U,z,W,j,Y,aa,rfl,I,B⟩:=F.ex;exact .of_eq (b v Z U z W j Y)
end
theorem Sd {p:Prop}(h:p):p:=h
end L2
namespace My
open PySem L2 PyProof.Rows
seal PE PT PS rT PA PI PG CJ GP PW PO cG Nq bf CN xO Nh Gs
seal rY iG k7 uO Js qd Fq ke qb Au AH Jw JA xb Bg xh setL Be zD sL uu rX CK GM nW FK He xn
seal F9 nj zt L2.xm L2.putAt L2.vo fY Ji MY Mt Qc Jt Jx Dm
def top (i:Nat):Stmt:=PySem.Challenge.pw_liftcourt_k61_graph_closed.main.body.getD i (.Pass ⟨0,0,0,0⟩)
abbrev Lr:Stmt:=top 1
theorem Os:af ["k"] ["k"] (ae Lr):=by ac_rfl
abbrev Lp:Stmt:=top 2
theorem Oq:af ["mask","k"] ["mask","k"] (ae Lp):=by ac_rfl
abbrev qj:Stmt:=top 3
theorem Bo:af ["mask","k"] ["mask","k"] (ae qj):=by ac_rfl
abbrev yN:Stmt:=top 5
theorem Hx:af ["mask","k"] ["mask","k"] (ae yN):=by ac_rfl
abbrev yO:Stmt:=top 6
theorem Hy:af ["mask","k"] ["mask","k"] (ae yO):=by ac_rfl
abbrev u1:Stmt:=top 7
theorem DT:af ["numbers","mask","k"] ["numbers"] (ae u1):=by ac_rfl
abbrev u3:Stmt:=top 8
theorem DV:af ["mask"] ["mask"] (ae u3):=by ac_rfl
abbrev u2:Stmt:=top 9
theorem DU:af ["mask","numbers"] ["mask"] (ae u2):=by ac_rfl
abbrev qx:Stmt:=top 10
theorem Bw:af ["mask"] ["mask"] (ae qx):=by ac_rfl
abbrev qC:Stmt:=top 12
theorem BD:af ["lift"] ["lift"] (ae qC):=by ac_rfl
abbrev qz:Stmt:=top 13
theorem Bx:af ["cabin"] ["cabin"] (ae qz):=by ac_rfl
abbrev gM:Stmt:=top 14
theorem ss:af ["cabin"] ["cabin"] (ae gM):=by ac_rfl
abbrev yI:Stmt:=top 15
theorem Ht:af ["start","goal"] ["start","goal"] (ae yI):=by ac_rfl
abbrev qm:Stmt:=top 16
theorem Bq:af ["room","cabin","riders","goals"] ["room","cabin","riders"] (ae qm):=by ac_rfl
abbrev jZ:Stmt:=top 17
theorem oh:af ["floor","light","riders","ways"] ["floor","light","riders"] (ae jZ):=by ac_rfl
abbrev va:Stmt:=top 18
theorem D3:af ["sort","cabin","tasks","riders","floor","light"] ["sort","cabin","tasks","riders"] (ae va):=by ac_rfl
abbrev D9:Stmt:=top 19
theorem Lk:af ["sort","room","cabin","riders","floor","tasks","next_up","next_down","up","down"] ["sort","room","cabin","riders"] (ae D9):=by ac_rfl
abbrev uV:Stmt:=top 20
theorem DP:af ["sort","cabin","word","goals","light"] ["sort","cabin","word"] (ae uV):=by ac_rfl
abbrev qE:Stmt:=top 21
theorem BF:af ["floors","cabin","word"] ["floors","cabin","word"] (ae qE):=by ac_rfl
abbrev gC:Stmt:=top 22
theorem si:af ["cabin","place","light","door"] ["cabin","place","light","door"] (ae gC):=by ac_rfl
abbrev qo:Stmt:=top 23
theorem Br:af ["sort","floors","turns","cabin","word","place","light","door","done"] ["sort","floors","turns","cabin","word"] (ae qo):=by ac_rfl
abbrev jV:Stmt:=top 24
theorem wK:af ["sort","light","start","goal"] ["sort","light","start","goal"] (ae jV):=by ac_rfl
abbrev j4:Stmt:=top 25
theorem c8:af ["sort","room","cabin","riders","floor","light","outs","ins","aboard","tag","start","goal","lift"] ["sort","room","cabin","riders"] (ae j4):=by ac_rfl
abbrev jX:Stmt:=top 44
theorem wN:af ["cabin"] ["cabin"] (ae jX):=by ac_rfl
abbrev qq:Stmt:=top 45
theorem Bt:af ["cabins"] ["cabins"] (ae qq):=by ac_rfl
abbrev gH:Stmt:=top 46
theorem sq:af ["cabins","first","many","step","lift"] ["cabins","first"] (ae gH):=by ac_rfl
abbrev ez:Stmt:=top 47
theorem Ll:af ["cabins","waiting","rider","last","place"] ["cabins","waiting","rider","last"] @gw:=by ac_rfl
abbrev cK:Stmt:=top 48
theorem uQ:af ["cabins","waiting","rider","last","dealt","fewest"] ["cabins","waiting","rider","last"] @gx:=by ac_rfl
abbrev qD:Stmt:=top 49
theorem BE:af ["cabins","waiting","rider","last","lift"] ["cabins","waiting","rider","last"] (ae qD):=by ac_rfl
abbrev mZ:Stmt:=top 53
theorem yH:af ["text","house","words","lifts"] ["text","house"] (ae mZ):=by ac_rfl
abbrev jT:Stmt:=top 55
theorem wJ:af ["house","floor"] ["house","floor"] (ae jT):=by ac_rfl
abbrev mN:Stmt:=top 56
theorem yA:af ["house","lift"] ["house","lift"] (ae mN):=by ac_rfl
abbrev mM:Stmt:=top 57
theorem yz:af ["house","start","goal"] ["house","start","goal"] (ae mM):=by ac_rfl
abbrev mP:Stmt:=top 58
theorem yB:af ["house","deed"] ["house","deed"] (ae mP):=by ac_rfl
abbrev vc:Stmt:=top 63
theorem D4:af ["kind","turns"] ["kind","turns"] (ae vc):=by ac_rfl
abbrev mV:Stmt:=top 72
theorem yE:af ["floors","start","room","turns","kind"] ["floors","start","room","turns","kind"] (ae mV):=by ac_rfl
abbrev j3:Stmt:=top 73
theorem wP:af ["floors","lifts"] ["floors","lifts"] (ae j3):=by ac_rfl
abbrev iL:Stmt:=top 74
theorem uU:af ["floors","locked"] ["floors","locked"] (ae iL):=by ac_rfl
abbrev jW:Stmt:=top 75
theorem wL:af ["floors","lifts","locked","sort"] ["floors","lifts","locked","sort"] (ae jW):=by ac_rfl
abbrev uZ:Stmt:=top 76
theorem DS:af ["house","lift"] ["house","lift"] (ae uZ):=by ac_rfl
abbrev ql:Stmt:=top 77
theorem Bp:af ["house","lift"] ["house","lift"] (ae ql):=by ac_rfl
abbrev u9:Stmt:=top 78
theorem D2:af ["house","lift"] ["house","lift"] (ae u9):=by ac_rfl
abbrev qp:Stmt:=top 83
theorem Bs:af ["moment"] ["moment"] (ae qp):=by ac_rfl
abbrev uW:Stmt:=top 84
theorem wE:af ["state","tags","place","light","door","marks","aboard"] ["state"] (ae uW):=by ac_rfl
abbrev jU:Stmt:=top 85
theorem og:af ["house","state","deeds","taken","deed"] ["house","state","deeds"] (ae jU):=by ac_rfl
abbrev ve:Stmt:=top 86
theorem D6:af ["moment","tag","start","goal","key"] ["moment","tag","start","goal","key"] (ae ve):=by ac_rfl
abbrev qA:Stmt:=top 87
theorem By:af ["rider","lift"] ["rider","lift"] (ae qA):=by ac_rfl
abbrev vd:Stmt:=top 94
theorem D5:af ["moment","deed","name"] ["moment","deed"] (ae vd):=by ac_rfl
abbrev Aw:Stmt:=top 95
theorem D7:af ["moment","dealer","place","rider","told"] ["moment","dealer","place","rider"] (ae Aw):=by ac_rfl
abbrev lh:Stmt:=top 96
theorem Bz:af ["moment","dealer","place","rider"] ["moment","dealer"] (ae lh):=by ac_rfl
abbrev mQ:Stmt:=top 97
theorem yC:af ["moment","word","tags","lift","floor"] ["moment","word","tags","lift"] (ae mQ):=by ac_rfl
abbrev mW:Stmt:=top 100
theorem qi:af ["moment","lift","riders","house","told","cabin","outs","ins","door","count"] ["moment","lift","riders"] (ae mW):=by ac_rfl
abbrev mU:Stmt:=top 101
theorem qh:af ["moment","rule","lift","riders","house","cabin","word"] ["moment","rule","lift","riders"] (ae mU):=by ac_rfl
abbrev eQ:Stmt:=top 102
theorem ik:af ["moment","rule","lift","cabin","riders"] ["moment","rule","lift"] (ae eQ):=by ac_rfl
abbrev Rb:Stmt:=top 103
theorem Ra:af ["moment","rule","lift"] ["moment","rule","lift"] (ae Rb):=by ac_rfl
abbrev qr:Stmt:=top 107
theorem Bu:af ["state","kind"] ["state","kind"] (ae qr):=by ac_rfl
abbrev qB:Stmt:=top 108
theorem BC:af ["state","kinds"] ["state","kinds"] (ae qB):=by ac_rfl
abbrev Lm:Stmt:=top 109
theorem Op:af ["court","kinds","state","choice","deeds"] ["court","kinds","state","choice"] (ae Lm):=by ac_rfl
abbrev jS:Stmt:=top 110
theorem wH:af ["house","kinds","start","goal"] ["house","kinds"] (ae jS):=by ac_rfl
abbrev mL:Stmt:=top 111
theorem yy:af ["graph","numbers","state","first","most","number"] ["graph","numbers","state","first","most"] (ae mL):=by ac_rfl
abbrev qy:Stmt:=top 112
theorem mG:af ["court","kinds","most","graph","numbers","number","state","choice","behind"] ["court","kinds","most"] (ae qy):=by ac_rfl
abbrev yJ:Stmt:=top 117
theorem Hu:af ["light","here","up","down"] ["light","here","up","down"] (ae yJ):=by ac_rfl
abbrev qu:Stmt:=top 118
theorem Bv:af ["here","up","down"] ["here","up","down"] (ae qu):=by ac_rfl
abbrev mJ:Stmt:=top 119
theorem yw:af ["top","floor","light","here","at_end"] ["top","floor","light","here"] (ae mJ):=by ac_rfl
abbrev fL:Stmt:=top 120
theorem qe:af ["light","here","up","down"] ["light","here","up","down"] (ae fL):=by ac_rfl
abbrev uX:Stmt:=top 121
theorem DQ:af ["place"] ["place"] (ae uX):=by ac_rfl
abbrev qF:Stmt:=top 127
theorem BG:af ["rule"] ["rule"] (ae qF):=by ac_rfl
abbrev uY:Stmt:=top 128
theorem DR:af ["text","floors"] ["text","floors"] (ae uY):=by ac_rfl
abbrev yM:Stmt:=top 130
theorem Hw:af ["_law_script","_law_k","_law_many","_law_cell"] ["_law_script","_law_k","_law_many"] (ae yM):=by ac_rfl
abbrev yK:Stmt:=top 131
theorem uS:af ["_law_script","_law_floors","_law_way","_law_letters","_law_at"] ["_law_script","_law_floors"] (ae yK):=by ac_rfl
abbrev u7:Stmt:=top 132
theorem qg:af ["_law_script","_law_two","_law_floors","_law_turns","_law_lifts","_law_k","_law_door","_law_locked"] ["_law_script","_law_two"] (ae u7):=by ac_rfl
abbrev u8:Stmt:=top 133
theorem wM:af ["_law_script","_law_two","_law_house_here","_law_rule_here"] ["_law_script"] (ae u8):=by ac_rfl
abbrev u6:Stmt:=top 134
theorem DZ:af ["_law_script","_law_house_here","_law_kinds_here","_law_k","_law_start"] ["_law_script","_law_house_here"] (ae u6):=by ac_rfl
abbrev qv:Stmt:=top 135
theorem mF:af ["_law_state","_law_kind","_law_tags","_law_cabin"] ["_law_state","_law_kind"] (ae qv):=by ac_rfl
abbrev mT:Stmt:=top 136
theorem yD:af ["_law_state","_law_kinds_here"] ["_law_state","_law_kinds_here"] (ae mT):=by ac_rfl
abbrev u4:Stmt:=top 137
theorem DX:af ["_law_thing"] ["_law_thing"] (ae u4):=by ac_rfl
abbrev u5:Stmt:=top 138
theorem DY:af ["_law_graph","_law_some"] ["_law_graph"] (ae u5):=by ac_rfl
abbrev yL:Stmt:=top 139
theorem Hv:af ["_law_thing"] ["_law_thing"] (ae yL):=by ac_rfl
abbrev mR:Stmt:=top 140
theorem qf:af ["_law_states","_law_numbers_here","_law_number"] ["_law_states"] (ae mR):=by ac_rfl
abbrev iJ:Stmt:=top 141
theorem uR:af ["_law_court_here","_law_kinds_here","_law_numbers_here","_law_state","_law_some","_law_due","_law_k"] ["_law_court_here","_law_kinds_here","_law_numbers_here","_law_state","_law_some"] (ae iJ):=by ac_rfl
abbrev gL:Stmt:=top 142
theorem jw:af ["_law_ways","_law_firsts","_law_number","_law_one"] ["_law_ways","_law_firsts"] (ae gL):=by ac_rfl
abbrev Ln:Stmt:=top 143
theorem DW:af ["_law_script","_law_court_here","_law_kinds_here","_law_handed","_law_graph","_law_states","_law_ways","_law_firsts","_law_numbers_here","_law_number","_law_kept"] ["_law_script"] (ae Ln):=by ac_rfl
noncomputable abbrev mY:Stmt:=fm (top 60) 0
theorem yG:af ["self","turns"] ["self","turns"] (ae mY):=by ac_rfl
noncomputable abbrev mX:Stmt:=fm (top 60) 1
theorem yF:af ["self","count","blocked","stepped"] ["self","count","blocked","stepped"] (ae mX):=by ac_rfl
noncomputable abbrev jY:Stmt:=fm (top 61) 0
theorem wO:af ["self","count","blocked","stepped"] ["self","count","blocked","stepped"] (ae jY):=by ac_rfl
noncomputable abbrev mI:Stmt:=fm (top 62) 0
theorem yv:af ["self","count","blocked","stepped"] ["self","count","blocked","stepped"] (ae mI):=by ac_rfl
noncomputable abbrev iI:Stmt:=fm (top 82) 0
theorem uP:af ["self","house","state"] ["self","house","state"] (ae iI):=by ac_rfl
noncomputable abbrev j5:Stmt:=fm (top 104) 0
theorem wQ:af ["self","house","rule","dealer"] ["self","house","rule","dealer"] (ae j5):=by ac_rfl
noncomputable abbrev iM:Stmt:=fm (top 104) 1
theorem k9:af ["self","cabins"] ["self"] (ae iM):=by ac_rfl
noncomputable abbrev gN:Stmt:=fm (top 104) 2
theorem oj:af ["self","state","deeds","moment","deed","lift"] ["self","state","deeds"] (ae gN):=by ac_rfl
noncomputable abbrev mK:Stmt:=fm (top 122) 0
theorem yx:af ["self","seen"] ["self","seen"] (ae mK):=by ac_rfl
noncomputable abbrev iK:Stmt:=fm (top 123) 0
theorem uT:af ["self","seen","told"] ["self","seen"] (ae iK):=by ac_rfl
noncomputable abbrev gI:Stmt:=fm (top 124) 0
theorem sr:af ["self","seen"] ["self","seen"] (ae gI):=by ac_rfl
noncomputable abbrev gG:Stmt:=fm (top 125) 0
theorem sk:af ["self","top"] ["self","top"] (ae gG):=by ac_rfl
noncomputable abbrev gE:Stmt:=fm (top 125) 1
theorem sj:af ["self","seen"] ["self","seen"] (ae gE):=by ac_rfl
noncomputable abbrev jR:Stmt:=fm (top 126) 0
theorem wG:af ["self","letters"] ["self","letters"] (ae jR):=by ac_rfl
noncomputable abbrev jQ:Stmt:=fm (top 126) 1
theorem wF:af ["self","seen"] ["self","seen"] (ae jQ):=by ac_rfl
section
variable {P:Program}{w:World}{K:Fg}{mg:Str->Option Value}{base:Heap}{f:Addr}{fd:FuncData}
theorem vW {n:Nat}(h:n<1000000):n<sizeLine:=by rw [sizeLine_eq];lia
inductive se (K:Fg)(vs:List V)(H:Hp)(Q:VK)(_e:XK):Prop
 |mk (a ns k many:_) (_:vs=[.ref a,.int k,.int many]) (_:GO K H a ns) (_:0<=k) (_:k<100000) (_:0<many) (_:∀i:Int,0<=i->i<many->Q (.int i) H)
abbrev Z0:=λK n s f fd=>bo K n n s f fd
theorem Rl (F:Z0 K "_law_draw" yM f fd)(bp:mg "len"=none):au P w K mg base aT 1 f fd ["_law_script","_law_k","_law_many"] (se K):=by
 rwa[F.ok Hw (by symm) (λL A outer s H vs Q E hr h=> ?_)];obtain ⟨a,R,k,j,rfl,⟨O,Y⟩,J,U,I,q⟩:=h;have B:rX 31 k:=hV @c @c;have z:rX (31*k) k:=F5 @b @b;rwa[⟨_,(aa @a (gP @es @g)),?_⟩];rwa[zP (λσ H'=>H'=H/\∃i:Int,σ=[some (.ref a),some (.int k),some (.int j),some (.int i)]/\0<=i/\i<2147483629) ?_ ?_]
 ·ext;erw[bH O ?_];rw [length_map];rwa[jy (λW=> ?_) (λW=> ?_)]
  ·have S:0<R.length:=by lia
   have h1:=Int.emod_nonneg k (show (R.length:Int)≠0 by lia);have h2:=Int.emod_lt_of_pos k (show (0:Int)<R.length by lia);erw[bH O ?_];rw [length_map];rwa[⟨W,bb O (Gk h1 h2) ⟨by decide,rfl,_,rfl,Int.emod_nonneg _ @c,Int.emod_lt_of_pos _ @c⟩⟩]
  ·exact ⟨rfl,_,rfl,by decide,by decide⟩
 ·rintro Z H' ⟨rfl,i,rfl,h0,h1⟩;rwa[⟨B,z,hV @b @b,by decide,F5 @c @c,by decide,I,?_⟩];exact q _ (Int.emod_nonneg _ @b) (Int.emod_lt_of_pos _ I)
noncomputable def vN (ks:List Nat):List V:=ks.map λk:Nat=>V.int (k:Int)
noncomputable def OG:Option Nat->V
 |none=> .non
 |some n=> .int (n:Int)
theorem HR (n:Nat):(1:Int)*2^((n:Int)).toNat=((2^n:Nat):Int):=by rw [Int.toNat_natCast,Int.natCast_pow];simp
inductive kU (vs:List V)(H:Hp)(Q:VK)(_e:XK):Prop
 |mk (n:Nat) (_:vs=[.int (n:Int)]) (_:n<=1000) (_:Q (.int ((2^n:Nat):Int)) H)
theorem Ml (F:Z0 K "bit" Lr f fd):au P w K mg base aT 1 f fd ["k"] kU:=by
 rwa[F.ok Os (by symm) @y];obtain ⟨n,rfl,z,q⟩:=h;rwa[⟨_,@g,?_⟩];rwa[⟨Pq @b @b @c,?_⟩];rw [<-HR] at q;exact q
inductive fB (vs:List V)(H:Hp)(Q:VK)(_e:XK):Prop
 |mk (M n:Nat) (_:vs=[.int (M:Int),.int (n:Int)]) (_:n<=1000) (_:Q (.bl (M.testBit n)) H)
theorem Mc (F:Z0 K "has" Lp f fd)(B:aU P w K mg base 1 "bit" ["k"] kU):au P w K mg base aT 2 f fd ["mask","k"] fB:=by
 rwa[F.ok Oq (by symm) @y];obtain ⟨M,n,rfl,z,q⟩:=h;rwa[⟨_,@g,?_⟩];rwa[pc @b ?_];rwa[kU.mk _ rfl z ?_];show Q (.bl (!decide (Builtin.bitAnd (M:Int) ((2^n:Nat):Int)=0))) H;rw [Jy]
 have e:decide (((M&&&2^n:Nat):Int)=0)= !M.testBit n:=by
  rw [<-testBit_and];exact decide_eq_decide.mpr @b
 rw [e,Bool.not_not];exact q
inductive kG (vs:List V)(H:Hp)(Q:VK)(_e:XK):Prop
 |mk (M n:Nat) (_:vs=[.int (M:Int),.int (n:Int)]) (_:n<=1000) (_:Q (.int ((M|||2^n:Nat):Int)) H)
theorem Ex (F:Z0 K "with_bit" qj f fd)(B:aU P w K mg base 1 "bit" ["k"] kU):au P w K mg base aT 2 f fd ["mask","k"] kG:=by
 rwa[F.ok Bo (by symm) @y];obtain ⟨M,n,rfl,z,q⟩:=h;rwa[⟨_,@g,?_⟩];rwa[kU.mk _ rfl z ?_];rw [<-LK] at q;exact q
inductive kW (vs:List V)(H:Hp)(Q:VK)(_e:XK):Prop
 |mk (M n:Nat) (_:vs=[.int (M:Int),.int (n:Int)]) (_:n<=1000) (_:Q (.int ((M% 2^n:Nat):Int)) H)
theorem EX (F:Z0 K "below" yN f fd)(B:aU P w K mg base 1 "bit" ["k"] kU):au P w K mg base aT 2 f fd ["mask","k"] kW:=by
 rwa[F.ok Hx (by symm) @y];obtain ⟨M,n,rfl,z,q⟩:=h;rwa[⟨_,(aa (ax @a @fU aq) @g),?_⟩];rwa[iT @b ?_];rwa[kU.mk _ rfl z ⟨?_,?_⟩]
 ·have:=Nat.two_pow_pos n;lia
 ·rw [Int.natCast_emod] at q;exact q
inductive uL (vs:List V)(H:Hp)(Q:VK)(_e:XK):Prop
 |mk (M n:Nat) (_:vs=[.int (M:Int),.int (n:Int)]) (_:n<1000) (_:Q (.int ((M - M% 2^(n+1):Nat):Int)) H)
theorem E1 (F:Z0 K "above" yO f fd)(B:aU P w K mg base 2 "below" ["mask","k"] kW):au P w K mg base aT 3 f fd ["mask","k"] uL:=by
 rwa[F.ok Hy (by symm) @y];obtain ⟨M,n,rfl,z,q⟩:=h;rwa[⟨_,@g,?_⟩];rwa[kW.mk _ (n+1) rfl z ?_]
 have e:((M - M% 2^(n+1):Nat):Int)=(M:Int) - ((M% 2^(n+1):Nat):Int):=by
  have:=Nat.mod_le M (2^(n+1));lia
 rw [e] at q;exact q
inductive kO (K:Fg)(vs:List V)(H:Hp)(Q:VK)(_e:XK):Prop
 |mk (p:Addr) (ks:List Nat) (_:vs=[.ref p]) (_:aA K H p (vN ks)) (_:(∀k∈ks,k<=1000)) (_:Q (.int (om ks:Int)) H)
theorem KN {ks:List Nat}{i:Nat}{x:V}(h:(vN ks)[i]? =some x):∃k,ks[i]? =some k/\x=V.int (k:Int):=by
 unfold vN at h;rw [getElem?_map] at h
 cases e:ks[i]? with
 |none=>rw [e] at h;cases h
 |some k=>rw [e] at h;exact ⟨k,rfl,(Option.some.inj h).symm⟩
theorem De (ks:List Nat):(vN ks).length=ks.length:=length_map _
theorem BS (F:Z0 K "mask_of" u1 f fd)(I:aU P w K mg base 2 "with_bit" ["mask","k"] kG):au P w K mg base aT 3 f fd ["numbers"] (kO K):=by
 rwa[F.ok DT (by symm) (λB A outer s H J Q E S h=> ?_)];obtain ⟨p,ks,rfl,O,R,q⟩:=h;rwa[⟨_,(aa @a (aa (cf PassesOwn.never rfl @a @a (ac @a)) @eU)),?_⟩];rwa[cZ O ?_];rwa[eN (xs:=vN ks) (λi σ H'=>H'=H/\∃o,σ=[some (.ref p),some (.int (om (ks.take i):Int)),o]) ⟨rfl,_,by rfl⟩ (λi σ H' _ h=>by rw [h.1];exact O) ?_ ?_]
 ·rintro i x σ H' j ⟨rfl,o,rfl⟩;obtain ⟨k,z,rfl⟩:=KN j;rwa[kG.mk _ _ rfl (R k (mem_of_getElem? z)) ⟨rfl,some (.int (k:Int)),?_⟩]
  have e:om (ks.take (i+1))=om (ks.take i)|||2^k:=by
   unfold om;rw [take_add_one,z,foldl_append];rfl
  rw [e];rfl
 ·rintro σ H' ⟨rfl,o,rfl⟩;rw [De,take_of_length_le @f];exact q
inductive ym (vs:List V)(H:Hp)(Q:VK)(_e:XK):Prop
 |mk (M:Nat) (_:vs=[.int (M:Int)]) (_:M<2^200) (_:∀p,H p=none->Q (.ref p) (upd H p (.lst (vN (jr M)))))
abbrev Z03:=λP w K mg base=>aU P w K mg base 2 "has" ["mask","k"] fB
theorem BV (F:Z0 K "listed" u3 f fd)(J:mg "range"=none)(R:Z03 P w K mg base):au P w K mg base aT 3 f fd ["mask"] ym:=by
 rwa[F.ok DV (by symm) (λz A outer s H U Q E S h=> ?_)];obtain ⟨M,rfl,B,q⟩:=h;have O:=PR B;have I:=sizeLine_eq;rwa[⟨_,(ac (aj (bG rfl (aD (N':=["k","mask"]) (pk:=[none,some 0]) @m) (bK rfl J (ar (C1 rfl PySem.F.plainAttrs_int PySem.F.slot_int_bit_length PySem.F.type_int_bit_length C6 (wv 0)) ap)) @k @bm @Q))),?_⟩];rwa[⟨rfl,⟨by show -4611686018427387904<=((L M:Nat):Int);lia,by show ((L M:Nat):Int)<4611686018427387904;lia⟩,?_⟩];show sL (GQ 0 (L M)) _ _ _ _ _ _ _
 refine fi (λi ys H'=>H'=H/\ys=vN (jC M i)) @b (λi ys H' p=>by
  rw [p.2,De];unfold jC;exact Nat.le_trans @bf @e) ⟨rfl,rfl⟩ ?_ ?_
 ·rintro i ys H' hi ⟨rfl,rfl⟩;erw[⟨Q7,?_⟩];show fB [.int (M:Int),.int (0+(i:Int))] _ _ _;rw [Int.zero_add];rwa[fB.mk _ _ rfl @b ?_];show if M.testBit i=true then _ else _
  cases h:M.testBit i with
  |true=>
   rw [if_pos rfl];rwa[⟨rfl,?_⟩];rw [km,h];unfold vN;rw [map_append];rfl
  |false=>
   rw [if_neg Bool.false_ne_true];rwa[⟨rfl,?_⟩];rw [km,h];simp
 ·rintro ys H' ⟨rfl,rfl⟩ p j;exact q p j
inductive pY (vs:List V)(H:Hp)(Q:VK)(_e:XK):Prop
 |mk (M:Nat) (_:vs=[.int (M:Int)]) (_:M<2^200) (_:∀H',ao H H'->Q (OG (jr M)[0]?) H')
theorem D8 {H:Hp}{p:Addr}(h:H p=none)(o:HO):ao H @er:=λb u q=>by rw [ai (bt q h)];exact q
theorem BU (F:Z0 K "lowest" u2 f fd)(O:aU P w K mg base 3 "listed" ["mask"] ym):au P w K mg base aT 4 f fd ["mask"] pY:=by
 rwa[F.ok DU (by symm) (λJ A outer s H R Q E S h=> ?_)];obtain ⟨M,rfl,L,q⟩:=h;rwa[⟨_,@fJ,?_⟩];erw[ym.mk _ rfl L λp I=> ?_];have z:=q _ (D8 I (.lst (vN (jr M))));rwa[Hq @eV ?_]
 cases B:jr M with
 |nil=>
  rw [B] at z;exact aY rfl z
 |cons k ks=>
  rw [B] at z;rwa[bO rfl ?_];exact bb @eV (bD (j:=0) (v:=V.int (k:Int)) rfl) z
inductive my (vs:List V)(H:Hp)(Q:VK)(_e:XK):Prop
 |mk (M:Nat) (_:vs=[.int (M:Int)]) (_:Q (OG (if M=0 then none else some (L M - 1))) H)
theorem za (F:Z0 K "highest" qx f fd):au P w K mg base aT 1 f fd ["mask"] my:=by
 rwa[F.ok Bw (by symm) @y];obtain ⟨M,rfl,q⟩:=h;rwa[⟨_,(ac (aj (C0 @a (dE C3 (C1 rfl PySem.F.plainAttrs_int PySem.F.slot_int_bit_length PySem.F.type_int_bit_length C6 (wv 0)) bz) vh))),?_⟩];rwa[jy @bx @bx]
 ·rwa[⟨rfl,?_⟩]
  have B:M≠0:=by lia
  rw [if_neg B] at q
  have e:((L M - 1:Nat):Int)=((L M:Nat):Int) - 1:=by
   have:=Gv M;rw [if_neg B] at this;lia
  show Q (.int (((L M:Nat):Int) - 1)) H;rw [<-e];exact q
 ·have B:M=0:=by lia
  rw [if_pos B] at q;exact q
noncomputable def cB (p:Int×Int):D:= .tup [.int p.1,.int p.2]
noncomputable def Gc (pl li dr mk:Int)(ps:List (Int×Int)):List D:=[.int pl,.int li,.int dr,.int mk,.tup @dC]
inductive bR (K:Fg)(H:Hp)(t:Addr)(pl li dr mk:Int)(ps:List (Int×Int)):Prop
 |mk (b xs:_) (_:H t=some (.tup [.int pl,.int li,.int dr,.int mk,.ref b])) (_:H b=some (.tup xs)) (_:aC K H xs @dC)
theorem bR.same {H H':Hp}{t:Addr}{pl li dr R:Int}{ps:List (Int×Int)}(h:bR K H t pl li dr R ps)(s:ao H H'):bR K H' t pl li dr R ps:=by
 obtain ⟨b,xs,j,O,d⟩:=h;exact ⟨b,xs,s.get j,s.get O,aC.same d s⟩
theorem bR.den {H:Hp}{t:Addr}{pl li dr R:Int}{ps:List (Int×Int)}(h:bR K H t pl li dr R ps):bv K H (.ref t) (.tup (Gc pl li dr R ps)):=by
 obtain ⟨b,xs,j,O,d⟩:=h;exact fg (aB.of j) (.cons (.int _) (.cons (.int _) (.cons (.int _) (.cons (.int _) (.cons (fg (aB.of O) d) .nil)))))
theorem P9:5<=sizeLine:=by rw [sizeLine_eq];lia
noncomputable def bw (so:Str)(pl li:Int)(ps:List (Int×Int))(wd:Str):Str:=
 if so=s!"free"\/ps=[] then wd else if ps.any (λp=>decide (2*p.2=pl))=true then s!"o" else if wd=s!"x" then s!"o" else
 if (wd=s!"u"/\li<0)\/(wd=s!"d"/\0<li) then s!"s" else wd
noncomputable def cJ:List Str:=[s!"o",s!"x",s!"u",s!"d",s!"s"]
theorem MW {x:Str}(h:x∈cJ):x=s!"o"\/x=s!"x"\/x=s!"u"\/x=s!"d"\/x=s!"s":=by
 simpa [cJ] using h
theorem iC {so:Str}{pl li:Int}{ps:List (Int×Int)}{j:Str}(h:j∈cJ):bw so pl li ps j∈cJ:=by
 unfold bw;split
 ·exact h
 split
 ·exact .head _
 split
 ·exact .head _
 split
 ·exact .tail _ (.tail _ (.tail _ (.tail _ (.head _))))
 ·exact h
noncomputable def dL (fl tu pl li dr:Int)(ps:List (Int×Int))(x:Str):Int×Int×Int:=
 if x=s!"o" then (pl,li,tu) else if x=s!"x" then (pl,0,tu) else if x=s!"u"/\pl / 2<fl - 1 then (pl+1,1,dr) else if x=s!"d"/\0<pl then (pl - 1,-1,dr) else (pl,if ps=[] then 0 else li,dr)
section
variable {fl tu pl li dr:Int}{ps:List (Int×Int)}
theorem FQ:dL fl tu pl li dr ps "o"=(pl,li,tu):=if_pos rfl
theorem FN:dL fl tu pl li dr ps "x"=(pl,0,tu):=by unfold dL;rw [if_neg @c,if_pos rfl]
theorem zI (h:pl / 2<fl - 1):dL fl tu pl li dr ps "u"=(pl+1,1,dr):=by unfold dL;rw [if_neg @c,if_neg @c,if_pos ⟨rfl,h⟩]
theorem zJ (h: ¬pl / 2<fl - 1):dL fl tu pl li dr ps "u"=(pl,if ps=[] then 0 else li,dr):=by unfold dL;rw [if_neg @c,if_neg @c,if_neg @ej,if_neg @t]
theorem zK (h:0<pl):dL fl tu pl li dr ps "d"=(pl - 1,-1,dr):=by unfold dL;rw [if_neg @c,if_neg @c,if_neg @t,if_pos ⟨rfl,h⟩]
theorem zL (h: ¬0<pl):dL fl tu pl li dr ps "d"=(pl,if ps=[] then 0 else li,dr):=by unfold dL;rw [if_neg @c,if_neg @c,if_neg @t,if_neg @ej]
theorem FO:dL fl tu pl li dr ps "s"=(pl,if ps=[] then 0 else li,dr):=by unfold dL;rw [if_neg @c,if_neg @c,if_neg @t,if_neg @t]
end
def pN (ps:List (Int×Int)):Prop:=ps.length<=100/\∀p∈ps,0<=p.2/\p.2<100
theorem tY (ps:List (Int×Int)):deps @dC<=1:=by
 induction ps with
 |nil=>decide
 |cons p ps ih=>show max (gu (cB p)) (deps @dC)<=1;exact Nat.max_le.mpr ⟨(by show max 0 @eH+1<=1;lia),ih⟩
inductive cg (K:Fg)(vs:List V)(H:Hp)(Q:VK)(_e:XK):Prop
 |mk (c pl li dr mk ps:_) (_:vs=[.ref c]) (_:bR K H c pl li dr mk ps) (_:Q (.int (pl / 2)) H)
theorem ER (F:Z0 K "floor_of" qz f fd):au P w K mg base aT 1 f fd ["cabin"] (cg K):=by
 rwa[F.ok Bx (by symm) (λj A outer s H z Q E S h=> ?_)];obtain ⟨c,pl,li,dr,R,ps,rfl,I,q⟩:=h;obtain ⟨b,xs,B,O,dx⟩:=id I;rwa[⟨_,@g,?_⟩];left;exact q
noncomputable def dO (ps:List (Int×Int)):List V:=ps.map λp=>V.int p.2
inductive gB (K:Fg)(vs:List V)(H:Hp)(Q:VK)(_e:XK):Prop
 |mk (c pl li dr mk ps:_) (_:vs=[.ref c]) (_:bR K H c pl li dr mk ps) (_:ps.length<=100) (_:∀p H',ao H H'->H p=none->H' p=some (.lst (dO ps))->Q (.ref p) H')
theorem EQ (F:Z0 K "goals_aboard" gM f fd):au P w K mg base aT 1 f fd ["cabin"] (gB K):=by
 rwa[F.ok ss (by symm) (λJ A outer s H vs Q E hr h=> ?_)];obtain ⟨c,pl,li,dr,R,ps,rfl,L,U,q⟩:=h;obtain ⟨b,xs,ec,O,dx⟩:=id L;have hx:=aE dx;rwa[⟨_,(ac (aj (bG rfl (aD (N':=["tag","goal"]) (pk:=[none,none]) @m) @a @v @z (λC s H ex=>(wv 1))))),?_⟩];left;rwa[dN @ce ?_];rwa[cW (xs:=xs) (λi ys H'=>H'=H/\ys=(dO ps).take i) @bq (λi ys H' p=>by rw [p.2,length_take];exact Nat.min_le_left _ _) ⟨rfl,rfl⟩ (λi ys H' _ p=>by rw [p.1];exact aB.of O) (λi x ys H' j p=> ?_) @du]
 ·obtain ⟨rfl,rfl⟩:=p;obtain ⟨S,z,I⟩:=bC dx j;obtain ⟨u,Z,rfl,Y,B⟩:=I.outT
  cases B with|cons q0 t0=>cases t0 with|cons q1 t1=>
  cases t1;cases q0.isInt;cases q1.isInt;left;rwa[⟨kF,?_⟩];left;rwa[⟨rfl,?_⟩];rw [take_succ];congr 1;unfold dO;rw [getElem?_map,z];rfl
 ·obtain ⟨rfl,rfl⟩:=p;rwa[q l2 _ (.upd W) W ?_];rw [ag,take_of_length_le (by unfold dO;rw [length_map];lia)]
structure aO where
 tag:Int
 start:Int
 goal:Int
 lift:Int
noncomputable def aO.d (r:aO):D:= .tup [.int r.tag,.int r.start,.int r.goal,.int r.lift]
def Ni (rs:List aO):Prop:=rs.length<=64/\∀r∈rs,r.start≠r.goal
theorem gO (rs:List aO):noLs @bn=true:=by
 induction rs with
 |nil=>rfl
 |cons r rs ih=>rw [map_cons,noLs,ih];rfl
theorem jb (ps:List (Int×Int)):noLs @dC=true:=by
 induction ps with
 |nil=>rfl
 |cons r rs ih=>rw [map_cons,noLs,ih];rfl
theorem ao.updF {H0 H1:Hp}{o:Addr}{x:HO}(s:ao H0 H1)(h:H0 o=none):ao H0 (upd H1 o x):=λb u z=>by
 rw [ai (λe=>by rw [e,h] at z;cases z)];exact s b u z
noncomputable def ut (s g:Int):Int:=if s<g then 1 else -1
inductive pU (vs:List V)(H:Hp)(Q:VK)(_e:XK):Prop
 |mk (s g:Int) (_:vs=[.int s,.int g]) (_:Q (.int (ut s g)) H)
theorem LV (F:Z0 K "way_of" yI f fd):au P w K mg base aT 1 f fd ["start","goal"] pU:=by
 rwa[F.ok Ht (by symm) @y];obtain ⟨s,g,rfl,q⟩:=h;rwa[⟨_,@g,?_⟩];unfold ut at q;by_cases h:s<g
 ·rw [if_pos h] at q;left;exact q
 ·rw [if_neg h] at q;left;exact q
noncomputable def tk (room:Int)(ps:List (Int×Int))(rs:List aO)(f:Int):Bool:=ps.any (λp=>decide (p.2=f))||(decide ((ps.length:Int)<room)&&rs.any (λr=>decide (r.start=f)))
def vO (t:Int->Bool)(f u:Int):Prop:=(u=0/\∀j:Int,1<=j->j<=7->t (f+j)=false)\/(1<=u/\u<=7/\t (f+u)=true/\∀j:Int,1<=j->j<u->t (f+j)=false)
def vP (t:Int->Bool)(f d:Int):Prop:=(d=0/\∀j:Int,1<=j->j<=7->j<=f->t (f - j)=false)\/(1<=d/\d<=7/\d<=f/\t (f - d)=true/\∀j:Int,1<=j->j<d->t (f - j)=false)
theorem vO.uniq {t:Int->Bool}{f u v:Int}(h:vO t f u)(k:vO t f v):u=v:=by
 rcases h with ⟨h1,h2⟩|⟨h1,h2,L,z⟩<;>rcases k with ⟨j,J⟩|⟨j,J,Y,S⟩
 ·lia
 ·rw [h2 v j J] at Y;cases Y
 ·rw [J u h1 h2] at L;cases L
 ·rcases Int.lt_trichotomy u v with l|l|l
  ·rw [S u h1 l] at L;cases L
  ·exact l
  ·rw [z v j l] at Y;cases Y
theorem vP.uniq {t:Int->Bool}{f u v:Int}(h:vP t f u)(k:vP t f v):u=v:=by
 rcases h with ⟨h1,h2⟩|⟨h1,h2,U,L,B⟩<;>rcases k with ⟨j,J⟩|⟨j,J,z,Y,S⟩
 ·lia
 ·rw [h2 v j J z] at Y;cases Y
 ·rw [J u h1 h2 U] at L;cases L
 ·rcases Int.lt_trichotomy u v with l|l|l
  ·rw [S u h1 l] at L;cases L
  ·exact l
  ·rw [B v j l] at Y;cases Y
noncomputable def CG (ps:List (Int×Int))(f:Int):Bool:=ps.any λp=>decide (p.2=f)
noncomputable def A8 (rs:List aO)(f li:Int):Bool:=rs.any λr=>decide (r.start=f)&&decide (ut r.start r.goal=li)
noncomputable def dY (so:Str)(li:Int)(t0 ab al:Bool):Int:=if t0=false then 0 else if so=s!"free"\/li=0 then 2 else if ab=true\/al=true then 2 else 1
def Ql (ps:List (Int×Int))(rs:List aO):Prop:=(∀p∈ps,0<=p.2/\p.2<8)/\(∀r∈rs,0<=r.start/\r.start<8)/\ps.length<=64/\rs.length<=64
theorem m8 (ks:List Nat)(i:Nat):(om ks).testBit i=decide (i∈ks):=by
 unfold om;rw [qK];simp
theorem wW {ks:List Nat}(h:∀k∈ks,k<8):om ks<2^8:=Nat.lt_pow_two_of_testBit _ λi hi=>by
 rw [m8]
 exact decide_eq_false λz=>by have:=h i z;lia
theorem Fw {ps:List (Int×Int)}(h:∀p∈ps,0<=p.2/\p.2<8):dO ps=vN @dj:=by
 unfold dO vN;rw [map_map];rwa[map_congr_left λp F=> ?_];show V.int p.2=V.int ((p.2.toNat:Nat):Int);rw [Int.toNat_of_nonneg (h p F).1]
noncomputable def dB (rs:List aO):List V:=rs.map λr=>V.int r.start
theorem Bj {rs:List aO}(h:∀r∈rs,0<=r.start/\r.start<8):dB rs=vN (rs.map λr=>r.start.toNat):=by
 unfold dB vN;rw [map_map];rwa[map_congr_left λp F=> ?_];show V.int p.start=V.int ((p.start.toNat:Nat):Int);rw [Int.toNat_of_nonneg (h p F).1]
theorem tK {ps:List (Int×Int)}(h:∀p∈ps,0<=p.2/\p.2<8)(i:Nat):decide (i∈ps.map λp=>p.2.toNat)=ps.any λp=>decide (p.2=(i:Int)):=by
 rw [Bool.eq_iff_iff,decide_eq_true_eq,mem_map,any_eq_true];constructor
 ·rintro ⟨p,F,e⟩;exact ⟨p,F,decide_eq_true (by have:=h p F;lia)⟩
 ·rintro ⟨p,F,e⟩;exact ⟨p,F,by have:=of_decide_eq_true e;lia⟩
theorem zf {rs:List aO}(h:∀r∈rs,0<=r.start/\r.start<8)(i:Nat):decide (i∈rs.map λr=>r.start.toNat)=rs.any λr=>decide (r.start=(i:Int)):=by
 rw [Bool.eq_iff_iff,decide_eq_true_eq,mem_map,any_eq_true];constructor
 ·rintro ⟨p,F,e⟩;exact ⟨p,F,decide_eq_true (by have:=h p F;lia)⟩
 ·rintro ⟨p,F,e⟩;exact ⟨p,F,by have:=of_decide_eq_true e;lia⟩
theorem nq (ps:List (Int×Int)):(dO ps).length=ps.length:=by unfold dO;rw [length_map]
inductive uz (K:Fg)(vs:List V)(H:Hp)(Q:VK)(_e:XK):Prop
 |mk (room c p pl li dr mk ps xs:_) (rs:List aO) (_:vs=[.int room,.ref c,.ref p]) (_:bR K H c pl li dr mk ps) (_:H p=some (.lst xs)) (_:aC K H xs @bn) (_:Ql ps rs) (_:∀(M:Nat) H',ao H H'->(∀i:Nat,M.testBit i=tk room ps rs i)->M<2^8->Q (.int (M:Int)) H')
theorem EC (F:Z0 K "tasks_of" qm f fd)(bp:mg "len"=none)(ce:aU P w K mg base 1 "goals_aboard" ["cabin"] (gB K))(rJ:aU P w K mg base 3 "mask_of" ["numbers"] (kO K)):au P w K mg base aT 4 f fd ["room","cabin","riders"] (uz K):=by
 rwa[F.ok Bq (by symm) (λae A outer s H vs Q E hr h=> ?_)];obtain ⟨I,c,p,pl,li,dr,mk,ps,xs,z,rfl,hc,ep,dp,B,q⟩:=h;have xl:=aE dp;have ad:=B.2.2.2;have ab:=B.2.2.1;rwa[⟨_,(aa @a (aa @cp (ac (aj (cO rJ hr @c rfl (ar (dE @eI (wv 3) (bG rfl @Y @a @n @z (λC s H ex=>(wv 1)))) ap)))))),?_⟩];left;rwa[gB.mk _ _ _ _ _ _ rfl hc @b λg H1 J n1 e1=> ?_];have Z:=Fw B.1;left;rw [nq];rwa[jy @cI @cI]
 ·left
  refine kO.mk _ @dj rfl (aA.of (by rw [<-Z];exact e1)) (λk R=>by
   obtain ⟨p,j,rfl⟩:=mem_map.mp R
   have:=B.1 p j;lia) ?_
  refine q _ H1 J (λi=> ?_) (wW λk R=>by
   obtain ⟨p,j,rfl⟩:=mem_map.mp R
   have:=B.1 p j;lia)
  rw [m8,tK B.1];unfold tk;rw [decide_eq_false (show ¬(ps.length:Int)<I by lia),Bool.false_and,Bool.or_false]
 ·left;rwa[cZ @ce ?_];rwa[cx (xs:=xs) (λi ys H'=>H'=H1/\ys=(dB z).take i) @bq (λi ys H' p=>by rw [p.2,length_take];exact Nat.min_le_left _ _) ⟨rfl,rfl⟩ (λi ys H' _ p=>by rw [p.1];exact J.seq (aA.of ep)) (λi x ys H' U p=> ?_) (λys H' p l2 n2=> ?_)]
  ·obtain ⟨rfl,rfl⟩:=p;obtain ⟨r,S,W⟩:=bC dp U;obtain ⟨u,us,rfl,hu,L⟩:=W.outT
   cases L with|cons q0 r0=>cases r0 with|cons q1 r1=>cases r1 with|cons q2 r2=>cases r2 with|cons q3 r3=>
   cases r3;cases q0.isInt;cases q1.isInt;cases q2.isInt;cases q3.isInt;left;rwa[⟨kE,?_⟩];left;rwa[⟨rfl,?_⟩];rw [take_succ];congr 1;unfold dB;rw [getElem?_map,S];rfl
  ·obtain ⟨rfl,rfl⟩:=p
   have e2:upd H' l2 (.lst ((dB z).take xs.length)) l2=some (.lst (dB z)):=by rw [ag,take_of_length_le (by unfold dB;rw [length_map];lia)]
   have Y:ao H' (upd H' l2 (.lst ((dB z).take xs.length))):= .upd n2;generalize upd H' l2 (.lst ((dB z).take xs.length))=H2 at e2 Y ⊢
   have sl:(dB z).length=z.length:=by unfold dB;rw [length_map]
   erw[A0 (Y.get e1) e2 (bA (by rw [nq,sl];lia)) λl3 H3 s3 n3 e3=> ?_];have O:=Bj B.2.1
   refine kO.mk _ (@dj++z.map λr=>r.start.toNat) rfl (aA.of (by rw [e3,Z,O];unfold vN;rw [map_append])) (λk R=>by
    rcases mem_append.mp R with R|R
    ·obtain ⟨p,j,rfl⟩:=mem_map.mp R;have:=B.1 p j;lia
    ·obtain ⟨p,j,rfl⟩:=mem_map.mp R
     have:=B.2.1 p j;lia) ?_
   refine q _ H3 ((J.trans Y).trans s3) (λi=> ?_) (wW λk R=>by
    rcases mem_append.mp R with R|R
    ·obtain ⟨p,j,rfl⟩:=mem_map.mp R;have:=B.1 p j;lia
    ·obtain ⟨p,j,rfl⟩:=mem_map.mp R
     have:=B.2.1 p j;lia)
   rw [m8];unfold tk;rw [decide_eq_true (show (ps.length:Int)<I by lia),Bool.true_and,<-tK B.1,<-zf B.2.1,<-Bool.decide_or];exact decide_eq_decide.mpr mem_append
inductive uK (K:Fg)(vs:List V)(H:Hp)(Q:VK)(_e:XK):Prop
 |mk (f li p xs:_) (rs:List aO) (_:vs=[.int f,.int li,.ref p]) (_:H p=some (.lst xs)) (_:aC K H xs @bn) (_:rs.length<=64) (_:∀H',ao H H'->Q (.bl (A8 rs f li)) H')
noncomputable def iA (rs:List aO)(f:Int):List V:=(rs.filter λr=>decide (r.start=f)).map λr=>V.int (ut r.start r.goal)
theorem Jc {rs:List aO}{f li:Int}:vw (.int li) (iA rs f)=A8 rs f li:=by
 unfold vw iA A8;rw [any_map,any_filter];rfl
theorem EZ (F:Z0 K "goes_along" jZ f fd)(ia:aU P w K mg base 1 "way_of" ["start","goal"] pU):au P w K mg base aT 2 f fd ["floor","light","riders"] (uK K):=by
 rwa[F.ok oh (by symm) (λU A outer s H vs Q E hr h=> ?_)];obtain ⟨f,li,p,xs,j,rfl,R,L,ad,q⟩:=h;have xl:=aE L;rwa[⟨_,(aa (i9 (i:=3) rfl oh.nd rfl @o (aD (N':=["tag","start","goal","lift","floor"]) (pk:=[none,none,none,none,some 0]) @m) @a @n @bm @k) @g),?_⟩];rwa[cZ @fw ?_]
 refine cx (xs:=xs) (λi ys H'=>H'=H/\ys=iA (j.take i) f) @bq (λi ys H' p=>by
  rw [p.2];unfold iA;rw [length_map];have:=length_filter_le (λr:aO=>decide (r.start=f)) (j.take i);rw [length_take] at this;lia) ⟨rfl,rfl⟩ (λi ys H' _ p=>by rw [p.1];exact aA.of R) (λi x ys H' I p=> ?_) (λys H' p l2 Y=> ?_)
 ·obtain ⟨rfl,rfl⟩:=p;obtain ⟨r,B,W⟩:=bC L I;obtain ⟨u,us,rfl,hu,J⟩:=W.outT
  cases J with|cons q0 r0=>cases r0 with|cons q1 r1=>cases r1 with|cons q2 r2=>cases r2 with|cons q3 r3=>
  cases r3;cases q0.isInt;cases q1.isInt;cases q2.isInt;cases q3.isInt;left;rwa[⟨kE,?_⟩];show if decide (r.start=f)=true then _ else _
  have e:iA (j.take (i+1)) f=iA (j.take i) f++if decide (r.start=f)=true then [V.int (ut r.start r.goal)] else []:=by
   unfold iA;rw [take_succ,B,filter_append,map_append];congr 1;cases z:decide (r.start=f)<;>simp [z]
  by_cases h1:r.start=f
  ·rw [if_pos @et];rwa[pU.mk _ _ rfl ?_];rw [e,if_pos @et];exact ⟨rfl,rfl⟩
  ·rw [if_neg (by rw [decide_eq_false h1];decide),e,if_neg (by rw [decide_eq_false h1];decide),append_nil];exact ⟨rfl,rfl⟩
 ·obtain ⟨rfl,rfl⟩:=p
  have S:upd H' l2 (.lst @df) l2=some (.lst (iA j f)):=by rw [ag,take_of_length_le @b]
  have O:ao H' (upd H' l2 (.lst @df)):= .upd Y;generalize upd H' l2 (.lst @df)=H2 at S O ⊢;rwa[qc (aA.of S) rfl ?_ ?_]
  ·rwa[all_eq_true.mpr λx Z=> ?_];obtain ⟨r,_,rfl⟩:=mem_map.mp Z;rfl
  ·rw [Jc];exact q H2 O
inductive yo (K:Fg)(vs:List V)(H:Hp)(Q:VK)(_e:XK):Prop
 |mk (so c p pl li dr mk ps xs:_) (rs:List aO) (M f0:Nat) (_:vs=[.str so,.ref c,.int (M:Int),.ref p]) (_:bR K H c pl li dr mk ps) (_:H p=some (.lst xs)) (_:aC K H xs @bn) (_:Ql ps rs) (_:pl=2*(f0:Int)) (_:f0<8) (_:∀H',ao H H'->Q (.int (dY so li (M.testBit f0) (CG ps f0) (A8 rs f0 li))) H')
theorem Fs {f:Int}{ps:List (Int×Int)}:vw (.int f) (dO ps)=CG ps f:=by
 unfold vw dO CG;rw [any_map];rfl
theorem rp (ps:List (Int×Int)):(dO ps).all cE=true:=by
 rwa[all_eq_true.mpr λx z=> ?_];obtain ⟨p,_,rfl⟩:=mem_map.mp z;rfl
abbrev Z01:=λP w K mg base=>aU P w K mg base 1 "floor_of" ["cabin"] (cg K)
theorem IG (F:Z0 K "here_of" va f fd)(bL:Z01 P w K mg base)(pf:Z03 P w K mg base)(ce:aU P w K mg base 1 "goals_aboard" ["cabin"] (gB K))(oM:aU P w K mg base 2 "goes_along" ["floor","light","riders"] (uK K)):au P w K mg base aT 3 f fd ["sort","cabin","tasks","riders"] (yo K):=by
 rwa[F.ok D3 (by symm) (λaf A outer s H vs Q E hr h=> ?_)];obtain ⟨S,c,p,pl,li,dr,mk,ps,xs,rs,M,U,rfl,I,ep,Z,L,ad,W,q⟩:=h;obtain ⟨b,bs,ec,eb,db⟩:=id I;have ae:=L.2.2.2;have ab:=L.2.2.1;rwa[⟨_,(aa @a (aa @a (aa (ax (b7 @a) @fU aq) (aa (ax @a @fU aq) @g)))),?_⟩]
 have e0:pl / 2=(U:Int):=by lia
 left;rwa[cg.mk _ _ _ _ _ _ rfl I ?_];rw [e0];left;rwa[fB.mk _ _ rfl @b ?_];unfold dY at q
 cases B:M.testBit U with
 |false=>rw [B,if_pos rfl] at q;left;exact q H (.refl _)
 |true=>
  rw [B,if_neg @c] at q;left;by_cases h1:S=s!"free"
  ·rw [if_pos (.inl h1)] at q;left;exact q H (.refl _)
  ·by_cases h2:li=0
   ·rw [if_pos (.inr h2)] at q;left;exact q H (.refl _)
   ·rw [if_neg (λz=>z.elim h1 h2)] at q;left;rwa[gB.mk _ _ _ _ _ _ rfl I @b λg H1 J n1 Y=> ?_];rwa[qc (aA.of Y) rfl (rp ps) ?_];rw [Fs]
    cases R:CG ps U with
    |true=>rw [R,if_pos (.inl rfl)] at q;left;exact q H1 J
    |false=>
     rw [R] at q;left;rwa[uK.mk _ _ _ _ _ rfl (J.get ep) (aC.same Z J) @b λH2 O=> ?_]
     cases j:A8 rs U li with
     |true=>rw [j,if_pos (.inr rfl)] at q;left;exact q H2 @gk
     |false=>rw [j,if_neg @c] at q;left;exact q H2 @gk
theorem xJ (M:Nat):(jr M).Pairwise (· < ·):=List.Pairwise.filter _ pairwise_lt_range
theorem nO (M n i:Nat):(M - M% 2^(n+1)).testBit i=(M.testBit i&&decide (n<i)):=by
 have e:M - M% 2^(n+1)=2^(n+1)*(M / 2^(n+1)):=by have:=Nat.div_add_mod M (2^(n+1));lia
 rw [e,Nat.testBit_two_pow_mul,Nat.testBit_div_two_pow];by_cases h:n<i
 ·rw [decide_eq_true h,decide_eq_true (show i≥n+1 from h),Nat.sub_add_cancel h,Bool.true_and,Bool.and_true]
 ·rw [decide_eq_false h,decide_eq_false (show ¬i≥n+1 by lia),Bool.false_and,Bool.and_false]
theorem Oc {M n:Nat}{t:Int->Bool}(J:∀i:Nat,M.testBit i=t i)(R:M<2^8):vO t n (match ((jr (M - M% 2^(n+1)))[(0:Nat)]? :Option Nat) with|none=>0|some k=>(k:Int) - n):=by
 cases I:jr (M - M% 2^(n+1)) with
 |nil=>
  rwa[.inl ⟨rfl,λj O Y=> ?_⟩];have U:=Gh.mp I;have:=nO M n (n+j.toNat);rw [U,Nat.zero_testBit,decide_eq_true @b,Bool.and_true,J] at this;rw [<-this.symm];congr 1;lia
 |cons k ks=>
  have hs:=xJ (M - M% 2^(n+1));rw [I] at hs
  have S:k∈jr (M - M% 2^(n+1)):=by rw [I];exact .head _
  have B:=lv.mp S;rw [nO,Bool.and_eq_true] at B;have nk:=of_decide_eq_true B.2;have Z:k<8:=A7 (M:=M) R (lv.mpr B.1);rwa[.inr ⟨by show 1<=(k:Int) - n;lia,by show (k:Int) - n<=7;lia,?_,λj O L=> ?_⟩]
  ·show t ((n:Int)+((k:Int) - n))=true;rw [show (n:Int)+((k:Int) - n)=(k:Int) by lia,<-J];exact B.1
  ·have L:j<(k:Int) - n:=L
   cases z:t ((n:Int)+j) with
   |false=>rfl
   |true=>
    have W:M.testBit (n+j.toNat)=true:=by rw [J,<-z];congr 1;lia
    have F:n+j.toNat∈jr (M - M% 2^(n+1)):=lv.mpr (by rw [nO,W,decide_eq_true @b];rfl);rw [I] at F
    rcases mem_cons.mp F with e|F
    ·lia
    ·have:=rel_of_pairwise_cons hs F;lia
theorem Pi {M n:Nat}{t:Int->Bool}(Y:n<8)(J:∀i:Nat,M.testBit i=t i)(O:M<2^8):vP t n (match (if M% 2^n=0 then none else some (L (M% 2^n) - 1):Option Nat) with|none=>0|some k=>(n:Int) - k):=by
 by_cases B:M% 2^n=0
 ·rw [if_pos B];rwa[.inl ⟨rfl,λj I j7 U=> ?_⟩];have:=Nat.testBit_mod_two_pow M n (n - j.toNat);rw [B,Nat.zero_testBit,decide_eq_true @b,Bool.true_and,J] at this;rw [<-this.symm];congr 1;lia
 ·rw [if_neg B];have R:=Am B;have S:=PQ (M% 2^n);rw [Nat.testBit_mod_two_pow,Bool.and_eq_true] at R;have Z:=of_decide_eq_true R.1;have k8:L (M% 2^n) - 1<8:=A7 (M:=M) O (lv.mpr R.2);rwa[.inr ⟨by show 1<=(n:Int) - ((L (M% 2^n) - 1:Nat):Int);lia,?_,by show (n:Int) - ((L (M% 2^n) - 1:Nat):Int)<=n;lia,?_,λj I F=> ?_⟩]
  ·show (n:Int) - ((L (M% 2^n) - 1:Nat):Int)<=7;lia
  ·show t ((n:Int) - ((n:Int) - ((L (M% 2^n) - 1:Nat):Int)))=true;rw [show (n:Int) - ((n:Int) - ((L (M% 2^n) - 1:Nat):Int))=((L (M% 2^n) - 1:Nat):Int) by lia,<-J];exact R.2
  ·have F:j<(n:Int) - ((L (M% 2^n) - 1:Nat):Int):=F
   cases z:t ((n:Int) - j) with
   |false=>rfl
   |true=>
    have W:(M% 2^n).testBit (n - j.toNat)=true:=by rw [Nat.testBit_mod_two_pow,decide_eq_true @b,J,Bool.true_and,<-z];congr 1;lia
    have:=Nat.testBit_lt_two_pow (Nat.lt_of_lt_of_le S (Nat.pow_le_pow_right @c (show L (M% 2^n)<=n - j.toNat by lia)));rw [W] at this;cases this
noncomputable def JK (room:Int)(so:Str)(li:Int)(ps:List (Int×Int))(rs:List aO)(f0:Nat)(u d:Int):List V:=[.int (f0:Int),.int li,.int (dY so li (tk room ps rs f0) (CG ps f0) (A8 rs f0 li)),.int u,.int d]
inductive yg (K:Fg)(vs:List V)(H:Hp)(Q:VK)(_e:XK):Prop
 |mk (so room c p pl li dr mk ps xs:_) (rs:List aO) (f0:Nat) (_:vs=[.str so,.int room,.ref c,.ref p]) (_:bR K H c pl li dr mk ps) (_:H p=some (.lst xs)) (_:aC K H xs @bn) (_:Ql ps rs) (_:pl=2*(f0:Int)) (_:f0<8) (_:∀r u d H',ao H H'->vO (tk room ps rs) f0 u->vP (tk room ps rs) f0 d->H' r=some (.tup (JK room so li ps rs f0 u d))->Q (.ref r) H')
theorem O0 {M n:Nat}(h:M<2^8):M - n<2^200:=Nat.lt_of_le_of_lt (Nat.sub_le _ _) (Nat.lt_trans h @c)
theorem Ip (F:Z0 K "view" D9 f fd)(bL:Z01 P w K mg base)(t6:aU P w K mg base 4 "tasks_of" ["room","cabin","riders"] (uz K))(Ge:aU P w K mg base 3 "above" ["mask","k"] uL)(A4:aU P w K mg base 4 "lowest" ["mask"] pY)(vF:aU P w K mg base 2 "below" ["mask","k"] kW)(xB:aU P w K mg base 1 "highest" ["mask"] my)(xC:aU P w K mg base 3 "here_of" ["sort","cabin","tasks","riders"] (yo K)):au P w K mg base aT 5 f fd ["sort","room","cabin","riders"] (yg K):=by
 rwa[F.ok Lk (by symm) (λag A outer s H vs Q E hr h=> ?_)];obtain ⟨so,I,c,p,pl,li,dr,mk,ps,xs,Z,j,rfl,J,ep,dp,hf,ad,W,q⟩:=h;obtain ⟨b,bs,ec,eb,db⟩:=id J;rwa[⟨_,(aa @a (aa @a (aa @a (aa @a (aa @a @fJ))))),?_⟩]
 have e0:pl / 2=(j:Int):=by lia
 rwa[cg.mk _ _ _ _ _ _ rfl J ?_];rw [e0];rwa[uz.mk _ _ _ _ _ _ _ _ _ _ rfl J ep dp hf λM H1 s1 hM Y=> ?_];rwa[uL.mk _ _ rfl @b ?_];rwa[pY.mk _ rfl (O0 Y) λH2 s2=> ?_];have U:=Oc (n:=j) hM Y;generalize ((jr (M - M% 2^(j+1)))[(0:Nat)]? :Option Nat)=ou at U ⊢;rwa[kW.mk _ _ rfl @b ?_];rwa[my.mk _ rfl ?_];have D:=Pi (n:=j) W hM Y;generalize (if M% 2^j=0 then none else some (L (M% 2^j) - 1):Option Nat)=od at D ⊢;have O:=s1.trans s2;have B:=J.same O;have ae:∀u d:Int,vO (tk I ps Z) j u->vP (tk I ps Z) j d->∀r R z,ao H2 R->ao R z->z r=some (.tup (JK I so li ps Z j u d))->Q (.ref r) z:=λu d U D r R z s5 S e6=>q r u d z ((O.trans s5).trans S) U D e6;obtain ⟨b2,af,ab,_⟩:=id B;cases ou<;>cases od
 all_goals
  ext
  first|refine bO rfl ?_|refine aY rfl ?_
  ext
  first|refine bO rfl ?_|refine aY rfl ?_
  rwa[ak (aB.of ab) rfl ?_];rwa[yo.mk _ _ _ _ _ _ _ _ _ _ _ _ rfl B (O.get ep) (aC.same dp O) hf ad W λR s5=> ?_];rw [hM];exact bX P9 λr z S _ e6=>ae _ _ U D r _ _ s5 S e6
theorem Ch {pl:Int}{f0:Int}{ps:List (Int×Int)}(h:pl=2*f0):vw (.int (pl / 2)) (dO ps)=ps.any (λp=>decide (2*p.2=pl)):=by
 unfold vw dO;rw [any_map];congr 1
 funext p
 show (p.2==pl / 2)=decide (2*p.2=pl);by_cases e:p.2=pl / 2
 ·rw [decide_eq_true @b,beq_iff_eq];exact e
 ·rw [decide_eq_false @b,beq_eq_false_iff_ne];exact e
inductive ms (K:Fg)(vs:List V)(H:Hp)(Q:VK)(_e:XK):Prop
 |mk (so c wd pl li dr mk ps f0:_) (_:vs=[.str so,.ref c,.str wd]) (_:bR K H c pl li dr mk ps) (_:pN ps) (_:pl=2*f0) (_: -1<=li) (_:li<=1) (_:∀H',ao H H'->Q (.str @cV) H')
theorem y8 (F:Z0 K "turned" uV f fd)(bp:mg "len"=none)(bL:Z01 P w K mg base)(ce:aU P w K mg base 1 "goals_aboard" ["cabin"] (gB K)):au P w K mg base aT 2 f fd ["sort","cabin","word"] (ms K):=by
 rwa[F.ok DP (by symm) @u];obtain ⟨so,c,B,pl,li,dr,mk,ps,f0,rfl,I,hg,j,W,ad,q⟩:=h;obtain ⟨b,xs,ec,eb,dx⟩:=id I;rwa[⟨_,(aa @a (aa @a (aa (ax @a @dv aq) (aa @B (aa @B @dv))))),?_⟩];unfold bw at q;left;rwa[gB.mk _ _ _ _ _ _ rfl I hg.1 λp H1 J n1 S=> ?_];left;rwa[jy @cI @cI]
 ·rw [if_pos (.inl h1)] at q;left;exact q H1 J
 left;rw [nq];rwa[jy @bL @bL]
 ·rw [if_pos (.inr (length_eq_zero_iff.mp @b))] at q;left;exact q H1 J
 rw [if_neg (λz=>z.elim h1 λz=>h2 (by rw [z];rfl))] at q;left;rwa[cg.mk _ _ _ _ _ _ rfl @cO ?_];left;rwa[qc (aA.of S) rfl (rp ps) ?_];rw [Ch j];rwa[zw (λL=> ?_) (λL=> ?_)]
 ·rw [if_pos L] at q;left;exact q H1 J
 rw [if_neg (by rw [L];decide)] at q;left;rwa[jy (λO=> ?_) (λO=> ?_)]
 ·rw [if_pos O] at q;left;exact q H1 J
 rw [if_neg O] at q;by_cases U:B=s!"u"
 ·have R: ¬B=s!"d":=by rw [U];decide
  by_cases Y:li= -1
  ·rw [if_pos (.inl ⟨U,by lia⟩)] at q;left;exact q H1 J
  ·rw [if_neg (λz=>z.elim (λz=>Y @b) @ek)] at q;left;exact q H1 J
 ·by_cases R:B=s!"d"
  ·by_cases Z:li=1
   ·rw [if_pos (.inr ⟨R,by lia⟩)] at q;left;exact q H1 J
   ·rw [if_neg (λz=>z.elim (λz=>U z.1) (λz=>Z @b))] at q;left;exact q H1 J
  ·rw [if_neg (λz=>z.elim (λz=>U z.1) @ek)] at q;left;exact q H1 J
noncomputable def aZ (fl pl:Int)(x:Str):Str:=if x=s!"u"/\pl / 2=fl - 1 then s!"s" else if x=s!"d"/\pl / 2=0 then s!"s" else x
inductive mz (K:Fg)(vs:List V)(H:Hp)(Q:VK)(_e:XK):Prop
 |mk (fl c wd pl li dr mk ps:_) (_:vs=[.int fl,.ref c,.str wd]) (_:bR K H c pl li dr mk ps) (_:Q (.str (aZ fl pl wd)) H)
theorem zb (F:Z0 K "bounded" qE f fd)(O:Z01 P w K mg base):au P w K mg base aT 2 f fd ["floors","cabin","word"] (mz K):=by
 rwa[F.ok BF (by symm) (λB A outer s H L Q E S h=> ?_)];obtain ⟨fl,c,j,pl,li,dr,J,ps,rfl,I,q⟩:=h;rwa[⟨_,(aa @B (aa @B @dv)),?_⟩];unfold aZ at q;by_cases h1:j=s!"u"
 ·have R: ¬j=s!"d":=by rw [h1];decide
  left;rwa[cg.mk _ _ _ _ _ _ rfl I ?_];rwa[jy @bL @bL]
  ·rw [if_pos ⟨h1,h2⟩] at q;left;exact q
  ·rw [if_neg (λz=>h2 z.2),if_neg @ek] at q;left;exact q
 ·by_cases R:j=s!"d"
  ·left;rwa[cg.mk _ _ _ _ _ _ rfl I ?_];rwa[jy @bL @bL]
   ·rw [if_neg @cW,if_pos ⟨R,h2⟩] at q;left;exact q
   ·rw [if_neg @cW,if_neg (λz=>h2 z.2)] at q;left;exact q
  ·rw [if_neg @cW,if_neg @ek] at q;left;exact q
inductive d8 (K:Fg)(vs:List V)(H:Hp)(Q:VK)(_e:XK):Prop
 |mk (c p l d pl li dr mk ps:_) (_:vs=[.ref c,.int p,.int l,.int d]) (_:bR K H c pl li dr mk ps) (_:∀r H',ao H H'->bR K H' r p l d mk ps->Q (.ref r) H')
theorem Io (F:Z0 K "with_changes" gC f fd):au P w K mg base aT 1 f fd ["cabin","place","light","door"] (d8 K):=by
 rwa[F.ok si (by symm) (λj A outer s H L Q E S h=> ?_)];obtain ⟨c,p,l,d,pl,li,dr,z,ps,rfl,I,q⟩:=h;obtain ⟨b,xs,B,O,dx⟩:=id I;rwa[⟨_,@g,?_⟩];left;exact bX P9 λr H1 J _ R=>q r H1 J ⟨b,xs,R,J.get O,aC.same dx J⟩
theorem RG {fl pl:Int}:aZ fl pl "o"=s!"o":=by unfold aZ;rw [if_neg @t,if_neg @t]
theorem RE {fl pl:Int}:aZ fl pl "x"=s!"x":=by unfold aZ;rw [if_neg @t,if_neg @t]
theorem RF {fl pl:Int}:aZ fl pl "s"=s!"s":=by unfold aZ;rw [if_neg @t,if_neg @t]
theorem Pu {fl pl:Int}(h:pl / 2=fl - 1):aZ fl pl "u"=s!"s":=by unfold aZ;rw [if_pos ⟨rfl,h⟩]
theorem Pw {fl pl:Int}(h: ¬pl / 2=fl - 1):aZ fl pl "u"=s!"u":=by unfold aZ;rw [if_neg @ej,if_neg @t]
theorem Px {fl pl:Int}(h:pl / 2=0):aZ fl pl "d"=s!"s":=by unfold aZ;rw [if_neg @t,if_pos ⟨rfl,h⟩]
theorem Py {fl pl:Int}(h: ¬pl / 2=0):aZ fl pl "d"=s!"d":=by unfold aZ;rw [if_neg @t,if_neg @ej]
inductive ml (K:Fg)(vs:List V)(H:Hp)(Q:VK)(_e:XK):Prop
 |mk (so fl tu c wd pl li dr mk ps f0:_) (_:vs=[.str so,.int fl,.int tu,.ref c,.str wd]) (_:bR K H c pl li dr mk ps) (_:wd∈cJ) (_:pN ps) (_:pl=2*f0) (_:0<=f0) (_:f0<fl) (_: -1<=li) (_:li<=1) (_:∀r H',ao H H'->bR K H' r (dL fl tu pl li dr ps @cV).1 (dL fl tu pl li dr ps @cV).2.1 (dL fl tu pl li dr ps @cV).2.2 mk ps->Q (.ref r) H')
theorem Ds {H:Hp}{so:Str}{fl tu:Int}{c:Addr}{j:Str}{pl li dr R:Int}{ps:List (Int×Int)}{f0:Int}{Q:VK}{E:XK}(h1:bR K H c pl li dr R ps)(h2:j∈cJ)(L:pN ps)(B:pl=2*f0)(U:0<=f0)(I:f0<fl)(z: -1<=li)(F:li<=1)
(g:∀r H',ao H H'->bR K H' r (dL fl tu pl li dr ps @eJ).1 (dL fl tu pl li dr ps @eJ).2.1 (dL fl tu pl li dr ps @eJ).2.2 R ps->Q (.ref r) H'):ml K [.str so,.int fl,.int tu,.ref c,.str j] H Q E:=⟨so,fl,tu,c,j,pl,li,dr,R,ps,f0,rfl,h1,h2,L,B,U,I,z,F,g⟩
theorem M3 {fl tu pl li dr:Int}{ps:List (Int×Int)}{z:Str}(F:0<=pl)(h1:pl / 2<fl)(h2:pl% 2=0)(B:z∈cJ):dL fl tu pl li dr ps z=if aZ fl pl z=s!"o" then (pl,li,tu) else if aZ fl pl z=s!"x" then (pl,0,tu) else if aZ fl pl z=s!"u" then (pl+1,1,dr) else if aZ fl pl z=s!"d" then (pl - 1,-1,dr) else (pl,if ps=[] then 0 else li,dr):=by
 have J: ¬s!"s"=s!"o":=by decide+kernel
 have O: ¬s!"s"=s!"x":=by decide+kernel
 have L: ¬s!"s"=s!"u":=by decide+kernel
 have j: ¬s!"s"=s!"d":=by decide+kernel
 rcases MW B with rfl|rfl|rfl|rfl|rfl
 ·rw [RG,FQ,if_pos rfl]
 ·rw [RE,FN,if_neg @A,if_pos rfl]
 ·by_cases h:pl / 2=fl - 1
  ·rw [Pu h,zJ @b,if_neg J,if_neg O,if_neg L,if_neg j]
  ·rw [Pw h,zI @b,if_neg @A,if_neg @A,if_pos rfl]
 ·by_cases h:pl / 2=0
  ·rw [Px h,zL @b,if_neg J,if_neg O,if_neg L,if_neg j]
  ·rw [Py h,zK @b,if_neg @A,if_neg @A,if_neg @A,if_pos rfl]
 ·rw [RF,FO,if_neg J,if_neg O,if_neg L,if_neg j]
abbrev Z02:=λP w K mg base=>aU P w K mg base 1 "with_changes" ["cabin","place","light","door"] (d8 K)
theorem y7 (F:Z0 K "steered" qo f fd)(bp:mg "len"=none)(A3:aU P w K mg base 2 "turned" ["sort","cabin","word"] (ms K))(xG:aU P w K mg base 2 "bounded" ["floors","cabin","word"] (mz K))(cc:Z02 P w K mg base):au P w K mg base aT 3 f fd ["sort","floors","turns","cabin","word"] (ml K):=by
 rwa[F.ok Br (by symm) @N];obtain ⟨so,fl,tu,c,wd,pl,li,dr,mk,ps,f0,rfl,I,hw,hg,Z,ae,af,U,ab,q⟩:=h;obtain ⟨b,xs,ec,eb,dx⟩:=id I;have hx:=aE dx;rwa[⟨_,(aa @a (aa @a (aa @a (aa @a (aa @cp (aa @cp (aa @cp (aa @cp @g)))))))),?_⟩];left;rwa[ms.mk _ _ _ _ _ _ _ _ _ rfl I hg Z U ab λH1 J=> ?_];rwa[mz.mk _ _ _ _ _ _ _ _ rfl @cO ?_];have R:=iC (so:=so) (pl:=pl) (li:=li) (ps:=ps) hw;generalize bw so pl li ps wd=w' at R q ⊢;have j:=M3 (fl:=fl) (tu:=tu) (li:=li) (dr:=dr) (ps:=ps) (pl:=pl) @b @b @b R
 have O:∀L B W,dL fl tu pl li dr ps w'=(L,B,W)->∀r H',ao H1 H'->bR K H' r L B W mk ps->Q (.ref r) H':=λL B W e r H' s2 er=>by
  rwa[q r H' (J.trans s2) ?_];rw [e];exact er
 generalize aZ fl pl w'=x at j ⊢;rwa[jy @s (λS=> ?_)]
 ·ext;exact d8.mk _ _ _ _ _ _ _ _ _ rfl @cO (O _ _ _ (by rw [j,if_pos z]))
 rwa[jy @s (λY=> ?_)]
 ·ext;exact d8.mk _ _ _ _ _ _ _ _ _ rfl @cO (O _ _ _ (by rw [j,if_neg S,if_pos z]))
 rwa[jy @s (λz3=> ?_)]
 ·ext;exact d8.mk _ _ _ _ _ _ _ _ _ rfl @cO (O _ _ _ (by rw [j,if_neg S,if_neg Y,if_pos z]))
 rwa[jy @s (λz4=> ?_)]
 ·ext;exact d8.mk _ _ _ _ _ _ _ _ _ rfl @cO (O _ _ _ (by rw [j,if_neg S,if_neg Y,if_neg z3,if_pos z]))
 rw [if_neg S,if_neg Y,if_neg z3,if_neg z4] at j;rwa[ak (aB.of (J _ _ ec)) rfl ?_];rwa[eJ (aB.of (J _ _ eb)) ?_];rwa[jy @s @s]
 ·ext;exact d8.mk _ _ _ _ _ _ _ _ _ rfl @cO (O _ _ _ (by rw [j,if_neg (λy=>by subst y;rw [hx] at z;exact absurd z @c)]))
 ·ext;exact d8.mk _ _ _ _ _ _ _ _ _ rfl @cO (O _ _ _ (by rw [j,if_pos (length_eq_zero_iff.mp @b)]))
noncomputable def wb (r:aO):Int:=if r.start<r.goal then 1 else -1
structure CI where
 light:Int
 kept:List (Int×Int)
 ins:List Int
noncomputable def g9 (so:Str)(room pl:Int)(s:CI)(r:aO):Bool:=decide (2*r.start=pl)&&decide ((s.kept.length:Int)<room)&&decide (so=s!"free"\/s.light=0\/s.light=wb r)
noncomputable def cQ (so:Str)(room pl:Int)(s:CI)(r:aO):CI:=if g9 so room pl s r=true then ⟨if so=s!"way" then wb r else s.light,s.kept++[(r.tag,r.goal)],s.ins++[r.tag]⟩ else s
noncomputable def bq (so:Str)(room pl:Int)(s:CI)(rs:List aO):CI:=rs.foldl (cQ so room pl) s
theorem dA {so:Str}{room pl:Int}{s:CI}{rs:List aO}{i:Nat}{r:aO}(h:rs[i]? =some r):bq so room pl s (rs.take (i+1))=cQ so room pl (bq so room pl s @dD) r:=by
 rw [take_succ,h];unfold bq;rw [foldl_append];rfl
theorem Dr {so:Str}{room pl:Int}(s:CI)(r:aO):(cQ so room pl s r).kept.length<=s.kept.length+1/\(cQ so room pl s r).ins.length<=s.ins.length+1:=by
 unfold cQ;split<;>simp
theorem mi {so:Str}{room pl:Int}:∀(rs:List aO) (s:CI),(bq so room pl s rs).kept.length<=s.kept.length+rs.length/\(bq so room pl s rs).ins.length<=s.ins.length+rs.length
 |[],s=>⟨Nat.le_refl _,Nat.le_refl _⟩
 |r::rs,s=>by
  have h1:=mi (so:=so) (room:=room) (pl:=pl) rs @bA;have h2:=Dr (so:=so) (room:=room) (pl:=pl) s r;show (bq so room pl @bA rs).kept.length<=_/\(bq so room pl @bA rs).ins.length<=_;rw [length_cons];lia
noncomputable def dH (pl:Int)(ps:List (Int×Int)):List (Int×Int):=ps.filter λp=> !decide (2*p.2=pl)
noncomputable def c9 (pl:Int)(ps:List (Int×Int)):List Int:=(ps.filter λp=>decide (2*p.2=pl)).map (·.1)
noncomputable def nz (so:Str)(room pl li:Int)(ps:List (Int×Int))(rs:List aO):CI:=bq so room pl ⟨li,dH pl ps,[]⟩ rs
theorem jd {α:Type}(f:α->Bool){xs:List α}{i:Nat}{x:α}(h:xs[i]? =some x):(xs.take (i+1)).filter f=(xs.take i).filter f++if f x=true then [x] else []:=by
 rw [take_succ,h,filter_append];congr 1;cases e:f x<;>simp [e]
def sS (K:Fg)(H0 H:Hp)(n k:Addr)(ins:List Int)(kept:List (Int×Int)):Prop:=ao H0 H/\H0 n=none/\H0 k=none/\n≠k/\H n=some (.lst (ins.map V.int))/\∃ks,H k=some (.lst ks)/\aC K H ks (kept.map cB)
theorem sS.pushN {H0 H:Hp}{n k:Addr}{z:List Int}{j:List (Int×Int)}(g:sS K H0 H n k z j)(t:Int):sS K H0 (upd H n (.lst (z.map V.int++[.int t]))) n k (z++[t]) j:=by
 obtain ⟨s,B,R,L,F,ks,J,I⟩:=g;rwa[⟨ao.updF s B,B,R,L,by rw [ag,map_append];rfl,ks,by rw [ai (Ne.symm L)];exact J,lH I (jb j) F⟩]
theorem sS.same {H0 H H':Hp}{n k:Addr}{z:List Int}{j:List (Int×Int)}(g:sS K H0 H n k z j)(s':ao H H'):sS K H0 H' n k z j:=by
 obtain ⟨s,F,R,L,B,ks,J,I⟩:=g;exact ⟨s.trans s',F,R,L,s'.get B,ks,s'.get J,aC.same I s'⟩
theorem sS.pushK {H0 H:Hp}{n k l:Addr}{z:List Int}{j:List (Int×Int)}{ks:List V}{t g:Int}(G:sS K H0 H n k z j)(L:H k=some (.lst ks))(O:H l=some (.tup [.int t,.int g])):sS K H0 (upd H k (.lst (ks++[.ref l]))) n k z (j++[(t,g)]):=by
 obtain ⟨s,J,R,F,I,U,B,S⟩:=G;rw [L] at B;cases B;rwa[⟨ao.updF s R,J,R,F,by rw [ai F];exact I,_,ag,?_⟩];rw [map_append];exact Paired.app (lH S (jb j) L) (.cons (bv.noL (d:=cB (t,g)) (fg (aB.of O) (.cons (.int _) (.cons (.int _) .nil))) rfl L) .nil)
def Go (K:Fg)(H0 H:Hp)(r:Addr)(pl li dr mk:Int)(kept:List (Int×Int))(outs ins:List Int):Prop:=∃c o n,H r=some (.tup [.ref c,.ref o,.ref n])/\bR K H c pl li dr mk kept/\H o=some (.lst (outs.map V.int))/\H n=some (.lst (ins.map V.int))/\H0 o=none/\H0 n=none/\o≠n
inductive DA (vs:List V)(H:Hp)(Q:VK)(_e:XK):Prop
 |mk (so:_) (li s g:Int) (_:vs=[.str so,.int li,.int s,.int g]) (_:Q (.bl (decide (so=s!"free"\/li=0\/li=ut s g))) H)
theorem L6 (F:Z0 K "may_step_in" jV f fd)(B:aU P w K mg base 1 "way_of" ["start","goal"] pU):au P w K mg base aT 2 f fd ["sort","light","start","goal"] DA:=by
 rwa[F.ok wK (by symm) (λj A outer s H R Q E I h=> ?_)];obtain ⟨S,li,s,g,rfl,q⟩:=h;rwa[⟨_,@g,?_⟩];by_cases h1:S=s!"free"
 ·rw [decide_eq_true (.inl h1)] at q;left;exact q
 ·by_cases h2:li=0
  ·rw [decide_eq_true (.inr (.inl h2))] at q;left;exact q
  ·left;rwa[pU.mk _ _ rfl ?_];have e:decide (S=s!"free"\/li=0\/li=ut s g)=decide (ut s g=li):=decide_eq_decide.mpr ⟨λz=>by rcases z with z|z|z;exact absurd z h1;exact absurd z h2;exact z.symm,λz=> .inr (.inr z.symm)⟩;rw [e] at q;exact q
inductive yr (K:Fg)(vs:List V)(H:Hp)(Q:VK)(_e:XK):Prop
 |mk (so room c p pl li dr mk ps xs:_) (rs:List aO) (f0:Int) (_:vs=[.str so,.int room,.ref c,.ref p]) (_:bR K H c pl li dr mk ps) (_:ps.length<=64) (_:H p=some (.lst xs)) (_:aC K H xs @bn) (_:Ni rs) (_:pl=2*f0) (_:∀r H',ao H H'->Go K H H' r pl (nz so room pl li ps rs).light dr mk (nz so room pl li ps rs).kept (c9 pl ps) (nz so room pl li ps rs).ins->Q (.ref r) H')
theorem Pd {H:Hp}{so:Str}{room:Int}{c p:Addr}{pl li dr R:Int}{ps:List (Int×Int)}{xs:List V}{rs:List aO}{f0:Int}{Q:VK}{E:XK}(h1:bR K H c pl li dr R ps)(h2:ps.length<=64)(L:H p=some (.lst xs))(j:aC K H xs @bn)(U:Ni rs)(I:pl=2*f0)
(g:∀r H',ao H H'->Go K H H' r pl (nz so room pl li ps rs).light dr R (nz so room pl li ps rs).kept (c9 pl ps) (nz so room pl li ps rs).ins->Q (.ref r) H'):yr K [.str so,.int room,.ref c,.ref p] H Q E:=⟨so,room,c,p,pl,li,dr,R,ps,xs,rs,f0,rfl,h1,h2,L,j,U,I,g⟩
theorem IJ (F:Z0 K "exchanged" j4 f fd)(bp:mg "len"=none)(bh:mg "tuple"=none)(bL:Z01 P w K mg base)(ia:aU P w K mg base 1 "way_of" ["start","goal"] pU)(ie:aU P w K mg base 2 "may_step_in" ["sort","light","start","goal"] DA):au P w K mg base aT 3 f fd ["sort","room","cabin","riders"] (yr K):=by
 rwa[F.ok c8 (by symm) (λaK A outer s H vs Q E hr h=> ?_)];obtain ⟨B,I,c,p,pl,li,dr,mk,ps,xs,rs,f0,rfl,hc,aL,ep,dp,av,hf,q⟩:=h;obtain ⟨b,bs,ec,eb,db⟩:=id hc;have bl:=aE db;have xl:=aE dp;rwa[⟨_,(aa @a (aa @a (aa (i9 (i:=6) rfl c8.nd rfl @o (aD (N':=["tag","goal","floor"]) (pk:=[none,none,some 4]) @m) @a @v @bm @Q) (aa @a (aa (i9 (i:=8) rfl c8.nd rfl @o (aD (N':=["tag","goal","floor"]) (pk:=[none,none,some 4]) @m) @a @v @bm @k) (aa (cf PassesOwn.never rfl @a (d7 (K:=K) (n:=4) rfl rfl (az @a (az @a (az (vg (i:=11) c8.nd rfl @o) (az (vg (i:=12) c8.nd rfl @o) cY))))) (ac (ax (PW.pt (x8 (bY (wg rfl hr) (wv 10) (wv 4) (bF _)) (x8 @a (Ax (kz rfl (cO ie hr @c rfl (ar (wv 0) (ar (wv 5) (ar (wv 10) @fi))))))))) (aa @dp (aa (aF (ij rfl PySem.F.plainAttrs_list PySem.F.slot_list_append PySem.F.type_list_append pQ (wv 8) (ar (fJ (ar (wv 9) @fi)) ap))) (ac (bP (i:=5) c8.nd rfl @o (C0 @a (cO ia hr @c rfl (ar (wv 10) @fi)) (wv 5)))))) aq))) (ac (aj (fJ (ar (fJ (ar @a (ar (wv 5) (ar @a (ar @a (ar (aM @eK rfl bh boot_tuple (ar (wv 8) ap)) ap)))))) (ar (wv 6) (ar (wv 7) ap)))))))))))),?_⟩];left;rwa[cg.mk _ _ _ _ _ _ rfl hc ?_];left;rwa[dN @ce ?_]
 refine cW (xs:=bs) (λi ys H'=>H'=H/\ys=(c9 pl @fx).map V.int) @bq (λi ys H' p=>by
  rw [p.2,length_map];unfold c9;rw [length_map];have:=length_filter_le (λp=>decide (2*p.2=pl)) @fx;rw [length_take] at this;lia) ⟨rfl,rfl⟩ (λi ys H' _ p=>by rw [p.1];exact aB.of eb) (λi x ys H' af p=> ?_) (λys H' p o n1=> ?_)
 ·obtain ⟨rfl,rfl⟩:=p;obtain ⟨U,ab,ad⟩:=bC db af;obtain ⟨u,us,rfl,hu,O⟩:=ad.outT
  cases O with|cons q0 r0=>cases r0 with|cons q1 r1=>
  cases r1;cases q0.isInt;cases q1.isInt;left;rwa[⟨kF,?_⟩];show if decide (U.2=pl / 2)=true then _ else _;unfold c9;rw [jd _ ab];by_cases h1:U.2=pl / 2
  ·rw [if_pos @et,if_pos (decide_eq_true (show 2*U.2=pl by lia)),map_append,map_append];exact ⟨rfl,rfl⟩
  ·rw [if_neg (by rw [decide_eq_false h1];decide),if_neg (by rw [decide_eq_false (show ¬2*U.2=pl by lia)];decide),append_nil];exact ⟨rfl,rfl⟩
 obtain ⟨rfl,rfl⟩:=p;rw [take_of_length_le (show ps.length<=bs.length by lia)];have e1:upd H' o (.lst ((c9 pl ps).map V.int)) o=some (.lst ((c9 pl ps).map V.int)):=ag;have s1:ao H' (upd H' o (.lst ((c9 pl ps).map V.int))):= .upd n1;generalize upd H' o (.lst ((c9 pl ps).map V.int))=H1 at e1 s1 ⊢;left;rwa[jo (bA (by first|decide|simp)) λn H2 s2 n2 e2=> ?_]
 have no:n≠o:=λz=>by rw [z,e1] at n2;cases n2
 have nH:H' n=none:=s1.free n2;left;rwa[dN @ce ?_]
 refine cW (xs:=bs) (λi ys j=>ao H2 j/\aC K j ys ((dH pl @fx).map cB)) @bq (λi ys j p=>by
  rw [aE p.2];unfold dH;have:=length_filter_le (λp=> !decide (2*p.2=pl)) @fx;rw [length_take] at this;lia) ⟨.refl _,.nil⟩ (λi ys j _ p=>p.1.seqT (s2.seqT (s1.seqT @eW))) (λi x ys j af p=> ?_) (λys j p k W=> ?_)
 ·obtain ⟨R,dy⟩:=p;obtain ⟨U,ab,ad⟩:=bC db af;obtain ⟨u,us,rfl,hu,O⟩:=ad.outT
  cases O with|cons q0 r0=>cases r0 with|cons q1 r1=>
  cases r1;cases q0.isInt;cases q1.isInt;left;rwa[⟨kF,?_⟩];show if (!decide (U.2=pl / 2))=true then _ else _;unfold dH;rw [jd _ ab];by_cases h1:U.2=pl / 2
  ·rw [if_neg (by rw [decide_eq_true h1];decide),if_neg (by rw [decide_eq_true (show 2*U.2=pl by lia)];decide),append_nil];exact ⟨R,dy⟩
  ·rw [if_pos (by rw [decide_eq_false h1];rfl),if_pos (by rw [decide_eq_false (show ¬2*U.2=pl by lia)];rfl)];rwa[bX (bA (by first|decide|simp)) λl HY sy ny ey=> ?_];rwa[⟨R.trans sy,?_⟩];rw [map_append];exact Paired.app (aC.same dy sy) (.cons (fg (aB.of ey) (.cons (.int _) (.cons (.int _) .nil))) .nil)
 obtain ⟨R,dy⟩:=p;rw [take_of_length_le (show ps.length<=bs.length by lia)] at dy
 have nk:n≠k:=λz=>by rw [<-z,R.get e2] at W;cases W
 have ok:o≠k:=λz=>by rw [<-z,R.get (s2.get e1)] at W;cases W
 have kH:H' k=none:=s1.free (s2.free (R.free W));have Z:ao H' (upd j k (.lst ys)):=((s1.trans s2).trans R).trans (.upd W);have e3:upd j k (.lst ys) n=some (.lst []):=(ao.upd W).get (R.get e2);have Y:upd j k (.lst ys) o=some (.lst ((c9 pl ps).map V.int)):=(ao.upd W).get (R.get (s2.get e1));have al:upd j k (.lst ys) k=some (.lst ys):=ag;have ak:aC K (upd j k (.lst ys)) ys ((dH pl ps).map cB):=aC.same dy (.upd W);generalize upd j k (.lst ys)=H3 at Z e3 Y al ak ⊢;left;rwa[cZ (Z.seq (aA.of ep)) ?_];rwa[eN (xs:=xs) (λi σ j=>sS K H' j n k (bq B I pl ⟨li,dH pl ps,[]⟩ @dD).ins (bq B I pl ⟨li,dH pl ps,[]⟩ @dD).kept/\j o=some (.lst ((c9 pl ps).map V.int))/\∃t1 t2 t3 t4,σ=[some (.str B),some (.int I),some (.ref c),some (.ref p),some (.int (pl / 2)),some (.int (bq B I pl ⟨li,dH pl ps,[]⟩ @dD).light),some (.ref o),some (.ref n),some (.ref k),t1,t2,t3,t4]) ⟨⟨Z,nH,kH,nk,e3,ys,al,ak⟩,Y,_,_,_,_,rfl⟩ (λi σ j _ pv=>by obtain ⟨⟨sm,_⟩,_⟩:=pv;exact sm.seq (aA.of ep)) (λi x σ j hx pv=> ?_) (λσ j pv=> ?_)]
 ·obtain ⟨G,Y,t1,t2,t3,t4,rfl⟩:=pv;obtain ⟨r,J,ay⟩:=bC dp hx;obtain ⟨u,us,rfl,hu,O⟩:=ay.outT
  cases O with|cons q0 r0=>cases r0 with|cons q1 r1=>cases r1 with|cons q2 r2=>cases r2 with|cons q3 r3=>
  cases r3;cases q0.isInt;cases q1.isInt;cases q2.isInt;cases q3.isInt;have sm:=G.1
  have lp:i<rs.length:=by have:=(List.getElem?_eq_some_iff.mp J).1;lia
  have ll:=mi (so:=B) (room:=I) (pl:=pl) @dD ⟨li,dH pl ps,[]⟩;rw [length_take] at ll;have aI:=av.1;have kp:(dH pl ps).length<=ps.length:=length_filter_le _ _;generalize hS:bq B I pl ⟨li,dH pl ps,[]⟩ @dD=S at *;simp only [length_nil] at ll
  have L:g9 B I pl S r=false->cQ B I pl S r=S:=λe=>by unfold cQ;rw [e];rfl
  obtain ⟨ks,ek,dk⟩:=G.2.2.2.2.2;have kl:=aE dk;left;rwa[jy @cI @cI]
  ·have aw:2*r.start=pl:=by lia
   left;rw [kl];rwa[jy @bL @bL]
   ·left;rwa[DA.mk _ _ _ _ rfl ?_]
    have am:(B=s!"free"\/S.light=0\/S.light=ut r.start r.goal)->cQ B I pl S r=⟨if B=s!"way" then wb r else S.light,S.kept++[(r.tag,r.goal)],S.ins++[r.tag]⟩:=λz=>by
     unfold cQ g9;rw [if_pos (by rw [decide_eq_true aw,decide_eq_true h2,decide_eq_true (show B=s!"free"\/S.light=0\/S.light=wb r from z)];rfl)]
    have aH:=G.2.2.2.2.1;rwa[jy (λh4=> ?_) (λh4=> ?_)]
    ·left;rwa[eF G.2.2.2.2.1 (At (by rw [length_map];lia)) ?_];have GB:=G.pushN r.tag
     have as:upd j n (.lst (S.ins.map V.int++[.int r.tag])) o=some (.lst ((c9 pl ps).map V.int)):=by rw [ai (Ne.symm no)];exact Y
     generalize upd j n (.lst (S.ins.map V.int++[.int r.tag]))=HB at GB as ⊢;obtain ⟨aO,aJ,aN⟩:=GB.2.2.2.2.2;left;erw[bX (bA (by first|decide|simp)) λlA HA sA nA eA=> ?_];have GA:=GB.same sA;obtain ⟨ah,an,aG⟩:=GA.2.2.2.2.2;rwa[eF an (At (by rw [aE aG];lia)) ?_];have GC:=GA.pushK an eA
     have ae:upd HA k (.lst (ah++[.ref lA])) o=some (.lst ((c9 pl ps).map V.int)):=by rw [ai ok];exact sA.get as
     generalize upd HA k (.lst (ah++[.ref lA]))=HC at GC ae ⊢;ext;by_cases h5:B=s!"way"
     ·left;erw[pU.mk _ _ rfl ?_];rw [dA J,hS,am h4,if_pos h5];exact ⟨GC,ae,_,_,_,_,rfl⟩
     ·left;rw [dA J,hS,am h4,if_neg h5];exact ⟨GC,ae,_,_,_,_,rfl⟩
    ·left;rw [dA J,hS,L (by unfold g9;rw [decide_eq_false (show ¬(B=s!"free"\/S.light=0\/S.light=wb r) from h4),Bool.and_false])];exact ⟨G,Y,_,_,_,_,rfl⟩
   ·left;rw [dA J,hS,L (by unfold g9;rw [decide_eq_false h2,Bool.and_false];rfl)];exact ⟨G,Y,_,_,_,_,rfl⟩
  ·left;rw [dA J,hS,L (by unfold g9;rw [decide_eq_false (show ¬2*r.start=pl by lia)];rfl)];exact ⟨G,Y,_,_,_,_,rfl⟩
 ·obtain ⟨G,Y,t1,t2,t3,t4,rfl⟩:=pv;rw [take_of_length_le (show rs.length<=xs.length by lia)] at G ⊢;obtain ⟨ks,ek,dk⟩:=G.2.2.2.2.2;have sm:=G.1;left;rwa[jL (aA.of ek) λl HA sA nA eA=> ?_];left;rwa[bX P9 λc' HB sB nB eB=> ?_];left;rwa[bX (bA (by first|decide|simp)) λr' HC sC nC eC=> ?_];exact q r' HC (((G.1.trans sA).trans sB).trans sC) ⟨c',o,n,eC,⟨l,ks,sC.get eB,sC.get (sB.get eA),by walk_at "l3sq"⟩,by walk_at "l3sq",sC.get (sB.get (sA.get G.2.2.2.2.1)),n1,nH,Ne.symm no⟩
abbrev yT:Str:=s!"plain"
abbrev hst:Str:=s!"hasty"
abbrev Hm:Str:=s!"slow"
def qY (k:Str):Prop:=k=yT\/k=hst\/k=Hm
noncomputable def kc (kD kH kS:Addr)(k:Str):Addr:=if k=hst then kH else if k=Hm then kS else kD
theorem MJ {j B z:Addr}:kc j B z yT=j:=by unfold kc;rw [if_neg @c,if_neg @c]
theorem MK {j B z:Addr}:kc j B z hst=B:=by unfold kc;rw [if_pos rfl]
theorem MI {j B z:Addr}:kc j B z Hm=z:=by unfold kc;rw [if_neg @c,if_pos rfl]
noncomputable def fe (k:Str)(t n:Int)(b s:Bool):Int:=if (k=yT/\b=true)\/(k=Hm/\(b=true\/s=true)) then t else if k=hst/\b=true then n else n - 1
abbrev Jm (C dx:Addr)(t:Int):HO:= .ins C dx [(s!"turns",.int t)]
inductive jO (K:Fg)(vs:List V)(H:Hp)(Q:VK)(_e:XK):Prop
 |mk (a t C dx:_) (_:vs=[.ref a,.int t]) (_:H a=some (.ins C dx [])) (_:um K C) (_:aN K C "turns") (_:Q .non (upd H a @gl))
theorem IE (F:bo K "__init__" "Door.__init__" mY f fd):au P w K mg base aT 1 f fd ["self","turns"] (jO K):=by
 rwa[F.ok yG (by symm) @bd];obtain ⟨a,t,C,dx,rfl,O,S,B,q⟩:=h;rwa[⟨_,(ac @bD),?_⟩];exact cL O S B @c q
inductive iF (K:Fg)(k:Str)(vs:List V)(H:Hp)(Q:VK)(_e:XK):Prop
 |mk (a n b s t C dx:_) (_:vs=[.ref a,.int n,.bl b,.bl s]) (_:H a=some @gl) (_:um K C) (_:aN K C "turns") (_:Q (.int (fe k t n b s)) H)
theorem EM (F:bo K "left" "Door.left" mX f fd):au P w K mg base aT 1 f fd ["self","count","blocked","stepped"] (iF K yT):=by
 rwa[F.ok yF (by symm) @bd];obtain ⟨a,n,b,s,t,C,dx,rfl,O,S,B,q⟩:=h;rwa[⟨_,@g,?_⟩];cases b
 ·rw [show fe yT t n false s=n - 1 from by unfold fe;rw [if_neg (by cases s<;>decide),if_neg @c]] at q;left;exact q
 ·rw [show fe yT t n true s=t from by unfold fe;rw [if_pos (.inl ⟨rfl,rfl⟩)]] at q;left;exact dI O S B rfl q
theorem EL (F:bo K "left" "Hasty.left" jY f fd):au P w K mg base aT 1 f fd ["self","count","blocked","stepped"] (iF K hst):=by
 rwa[F.ok wO (by symm) @bd];obtain ⟨a,n,b,s,t,C,dx,rfl,O,S,B,q⟩:=h;rwa[⟨_,@g,?_⟩];cases b
 ·rw [show fe hst t n false s=n - 1 from by unfold fe;rw [if_neg (by cases s<;>decide),if_neg @c]] at q;left;exact q
 ·rw [show fe hst t n true s=n from by unfold fe;rw [if_neg (by cases s<;>decide),if_pos ⟨rfl,rfl⟩]] at q;left;exact q
theorem EK (F:bo K "left" "Slow.left" mI f fd):au P w K mg base aT 1 f fd ["self","count","blocked","stepped"] (iF K Hm):=by
 rwa[F.ok yv (by symm) @bd];obtain ⟨a,n,b,s,t,C,dx,rfl,O,S,B,q⟩:=h;rwa[⟨_,@g,?_⟩];cases b
 ·cases s
  ·rw [show fe Hm t n false false=n - 1 from by unfold fe;rw [if_neg @c,if_neg @c]] at q;left;exact q
  ·rw [show fe Hm t n false true=t from by unfold fe;rw [if_pos (.inr ⟨rfl,.inr rfl⟩)]] at q;left;exact dI O S B rfl q
 ·rw [show fe Hm t n true s=t from by unfold fe;rw [if_pos (.inr ⟨rfl,.inl rfl⟩)]] at q;left;exact dI O S B rfl q
structure Kh (K:Fg)(C:Addr):Prop where
 i:gm K C
 n:aN K C "turns"
unseal fY in
theorem Mo {C:Addr}{E:XK}{t:Int}{H:Hp}{Q:VK}(c:Kh K C)(g:∀a dx H',ao H H'->H a=none->H' a=some @gl->Q (.ref a) H'):fY C (jO K) E [.int t] H Q:=by
 show ∀a dx,H a=none->H dx=none->dx≠a->jO K (.ref a::([.int t]++[])) @l (λv H2=>v= .non/\Q (.ref a) H2) E;intro a dx h1 h2 L;rwa[jO.mk _ _ _ _ rfl ag c.i.cl c.n ⟨rfl,g a dx _ ?_ h1 ag⟩];intro b u z;rw [ai (λe=>by rw [e,h1] at z;cases z)];exact eL h1 h2 b u z
inductive pZ (K:Fg)(kD kH kS:Addr)(vs:List V)(H:Hp)(Q:VK)(_e:XK):Prop
 |mk (k t:_) (_:vs=[.str k,.int t]) (_:qY k) (_:∀a dx H',ao H H'->H a=none->H' a=some (Jm @gy dx t)->Q (.ref a) H')
theorem BX (F:Z0 K "door_of" vc f fd)(O:Kh K sG)(z:Kh K lB)(L:Kh K vq)(B:i6 P w K mg base aT 1 "Door" sG (jO K))(I:i6 P w K mg base aT 1 "Hasty" lB (jO K))(J:i6 P w K mg base aT 1 "Slow" vq (jO K)):au P w K mg base aT 3 f fd ["kind","turns"] (pZ K sG lB vq):=by
 rwa[F.ok D4 (by symm) (λj A outer s H U Q E S h=> ?_)];obtain ⟨k,t,rfl,R,q⟩:=h;rwa[⟨_,(aa (ax @a (ac (aj (gv I fX S @c rfl @bh))) aq) (aa (ax @a (ac (aj (gv J fX S @c rfl @bh))) aq) (ac (aj (gv B fX S @c rfl @bh))))),?_⟩]
 rcases R with rfl|rfl|rfl
 ·rw [MJ] at q;left;exact Mo O q
 ·rw [MK] at q;left;exact Mo z q
 ·rw [MI] at q;left;exact Mo L q
structure Lf where
 st:Int
 rm:Int
 tn:Int
 kd:Str
structure Hs where
 fl:Int
 ls:List Lf
 lo:Nat
 so:Str
structure Hs.ok (h:Hs):Prop where
 f2:2<=h.fl
 f8:h.fl<=8
 l1:1<=h.ls.length
 l3:h.ls.length<=3
 lf:∀l∈h.ls,1<=l.rm/\l.rm<=6/\1<=l.tn/\l.tn<=4/\qY l.kd
 so:h.so=s!"free"\/h.so=s!"way"
def Nj (K:Fg)(H:Hp)(x:V)(l:Lf):Prop:=∃b,x= .ref b/\aB K H b [.int l.st,.int l.rm,.int l.tn,.str l.kd]
def me (K:Fg)(H:Hp)(a:Addr)(h:Hs):Prop:=h.ok/\∃p xs,aB K H a [.int h.fl,.ref p,.int (h.lo:Int),.str h.so]/\aB K H p xs/\Paired (Nj K H) xs h.ls
theorem me.keep {H H':Hp}{a:Addr}{h:Hs}(c:me K H a h)(s:aH H H'):me K H' a h:=by
 obtain ⟨o,p,xs,h1,h2,L⟩:=c;exact ⟨o,p,xs,s.sqT h1,s.sqT h2,Paired.imp' (λx l ⟨b,e,z⟩=>⟨b,e,s.sqT z⟩) L⟩
theorem me.same {H H':Hp}{a:Addr}{h:Hs}(c:me K H a h)(s:ao H H'):me K H' a h:=c.keep s.st
theorem me.at {H:Hp}{a:Addr}{h:Hs}(c:me K H a h){i:Int}{l:Lf}(B:0<=i)(W:h.ls[i.toNat]? =some l):∃p xs b,aB K H a [.int h.fl,.ref p,.int (h.lo:Int),.str h.so]/\aB K H p xs/\xs.length=h.ls.length/\l9 xs i=some (.ref b)/\aB K H b [.int l.st,.int l.rm,.int l.tn,.str l.kd]:=by
 obtain ⟨o,p,xs,h1,h2,L⟩:=c;obtain ⟨j,rfl⟩:=Int.eq_ofNat_of_zero_le B;rw [show ((j:Int)).toNat=j by lia] at W
 have Z:j<xs.length:=by rw [L.len];exact (List.getElem?_eq_some_iff.mp W).1
 obtain ⟨F,S,b,O,z⟩:=L.get1 (getElem?_eq_getElem Z);rw [W] at S;cases S;exact ⟨p,xs,b,h1,h2,L.len,by rw [bD (getElem?_eq_getElem Z),O],z⟩
inductive mv (K:Fg)(g:Lf->V)(vs:List V)(H:Hp)(Q:VK)(_e:XK):Prop
 |mk (a h i l:_) (_:vs=[.ref a,.int i]) (_:me K H a h) (_:0<=i) (_:h.ls[i.toNat]? =some l) (_:Q (g l) H)
theorem Iv (F:Z0 K "room_of" uZ f fd):au P w K mg base aT 1 f fd ["house","lift"] @dq:=by
 rwa[F.ok DS (by symm) @be];obtain ⟨a,h,i,l,rfl,I,j,W,q⟩:=h;obtain ⟨p,xs,b,h1,h2,L,B,U⟩:=I.at j W;rwa[⟨_,@g,?_⟩];rwa[ak h1 rfl ?_];rwa[ak h2 B ?_];exact ak U rfl q
theorem y6 (F:Z0 K "turns_of" ql f fd):au P w K mg base aT 1 f fd ["house","lift"] @dr:=by
 rwa[F.ok Bp (by symm) @be];obtain ⟨a,h,i,l,rfl,I,j,W,q⟩:=h;obtain ⟨p,xs,b,h1,h2,L,B,U⟩:=I.at j W;rwa[⟨_,@g,?_⟩];rwa[ak h1 rfl ?_];rwa[ak h2 B ?_];exact ak U rfl q
theorem BW (F:Z0 K "kind_of" u9 f fd):au P w K mg base aT 1 f fd ["house","lift"] (mv K λl=> .str l.kd):=by
 rwa[F.ok D2 (by symm) @be];obtain ⟨a,h,i,l,rfl,I,j,W,q⟩:=h;obtain ⟨p,xs,b,h1,h2,L,B,U⟩:=I.at j W;rwa[⟨_,@g,?_⟩];rwa[ak h1 rfl ?_];rwa[ak h2 B ?_];exact ak U rfl q
structure Cb where
 pl:Int
 li:Int
 dr:Int
 mr:Int
 ps:List (Int×Int)
def eh (K:Fg)(H:Hp)(x:V)(c:Cb):Prop:=∃t,x= .ref t/\bR K H t c.pl c.li c.dr c.mr c.ps
theorem bR.keep {H H':Hp}{t:Addr}{pl li dr R:Int}{ps:List (Int×Int)}(h:bR K H t pl li dr R ps)(s:aH H H'):bR K H' t pl li dr R ps:=by
 obtain ⟨b,xs,j,O,d⟩:=h;exact ⟨b,xs,s.tup j,s.tup O,s.dens d (jb ps)⟩
theorem eh.keep {H H':Hp}{x:V}{c:Cb}(h:eh K H x c)(s:aH H H'):eh K H' x c:=let ⟨t,e,z⟩:=h;⟨t,e,z.keep s⟩
structure MS where
 cs:List Cb
 ws:List aO
 last:Int
 fire:Bool
 bl:Nat
 log:List D
abbrev sF (h lc lw:Addr)(last:Int)(fire:Bool)(bl:Nat)(ll:Addr):List (Str×V):=[(s!"house",.ref h),(s!"cabins",.ref lc),(s!"waiting",.ref lw),(s!"last",.int last),(s!"fire",.bl fire),(s!"blocked",.int (bl:Int)),(s!"log",.ref ll)]
structure xU (K:Fg)(C:Addr):Prop where
 i:gm K C
 house:aN K C "house"
 cabins:aN K C "cabins"
 waiting:aN K C "waiting"
 last:aN K C "last"
 fire:aN K C "fire"
 blocked:aN K C "blocked"
 log:aN K C "log"
structure c4 (K:Fg)(C:Addr)(H0 H:Hp)(m h dx lc lw ll:Addr)(xs ys zs:List V)(M:MS):Prop where
 s:ao H0 H
 nm:H0 m=none
 nc:H0 lc=none
 nw:H0 lw=none
 nl:H0 ll=none
 cw:lc≠lw
 cl:lc≠ll
 wl:lw≠ll
 em:H m=some (.ins C dx @ey)
 ec:H lc=some (.lst xs)
 ew:H lw=some (.lst ys)
 el:H ll=some (.lst zs)
 dc:Paired (eh K H) xs M.cs
 dw:aC K H ys (M.ws.map aO.d)
 dl:aC K H zs M.log
 ln:noLs M.log=true
inductive ip (K:Fg)(C:Addr)(H0 H:Hp)(m h:Addr)(M:MS):Prop
 |mk (dx lc lw ll xs ys zs:_) (_:c4 K C H0 H m h dx lc lw ll xs ys zs M)
section
variable {C:Addr}{H0 H H':Hp}{m h dx lc lw ll:Addr}{xs ys zs:List V}{M:MS}
theorem c4.same (a:c4 K C H0 H m h dx lc lw ll xs ys zs M)(s':ao H H'):c4 K C H0 H' m h dx lc lw ll xs ys zs M:=
 ⟨a.s.trans s',a.nm,a.nc,a.nw,a.nl,a.cw,a.cl,a.wl,s' _ _ a.em,s' _ _ a.ec,s' _ _ a.ew,s' _ _ a.el,Paired.imp' (λx c z=>eh.keep z s'.st) a.dc,aC.same a.dw s',aC.same a.dl s',a.ln⟩
theorem ip.same (a:ip K C H0 H m h M)(s':ao H H'):ip K C H0 H' m h M:=let ⟨dx,lc,lw,ll,xs,ys,zs,z⟩:=a;⟨dx,lc,lw,ll,xs,ys,zs,z.same s'⟩
theorem eh.nt {H H':Hp}(s:aI H H'){v:V}{c:Cb}(h:eh K H v c):eh K H' v c:=by
 obtain ⟨t,e,b,j,h1,h2,L⟩:=h;exact ⟨t,e,b,j,s _ _ (λ_ z=>by cases z) h1,s _ _ (λ_ z=>by cases z) h2,s.dens L⟩
theorem c4.sameN (a:c4 K C H0 H m h dx lc lw ll xs ys zs M)(j:NT H0)(s':aI H H'):c4 K C H0 H' m h dx lc lw ll xs ys zs M:=
 ⟨aI.onto j a.s s',a.nm,a.nc,a.nw,a.nl,a.cw,a.cl,a.wl,s' _ _ (λ_ z=>by cases z) a.em,s' _ _ (λ_ z=>by cases z) a.ec,s' _ _ (λ_ z=>by cases z) a.ew,s' _ _ (λ_ z=>by cases z) a.el,Paired.imp' (λx c z=>eh.nt s' z) a.dc,s'.dens a.dw,s'.dens a.dl,a.ln⟩
theorem c4.setC (a:c4 K C H0 H m h dx lc lw ll xs ys zs M){i:Nat}{v:V}{c:Cb}(Y:eh K H v c):c4 K C H0 (upd H lc (.lst @gb)) m h dx lc lw ll @gb ys zs {M with cs:=M.cs.set i c}:=by
 have st:aH H (upd H lc (.lst @gb)):= .updL a.ec;rwa[⟨λb u z=> ?_,a.nm,a.nc,a.nw,a.nl,a.cw,a.cl,a.wl,?_,ag,?_,?_,qJ (Paired.imp' @bt a.dc) (Y.keep st),st.dens a.dw (gO _),st.dens a.dl a.ln,a.ln⟩]
 ·rw [ai (λe=>by rw [e,a.nc] at z;cases z)];exact a.s b u z
 ·rw [ai (λe=>by have:=a.em;rw [e,a.ec] at this;cases this)];exact a.em
 ·rw [ai a.cw.symm];exact a.ew
 ·rw [ai a.cl.symm];exact a.el
theorem c4.setL (a:c4 K C H0 H m h dx lc lw ll xs ys zs M){vs:List V}{ds:List D}(Y:aC K H vs ds)(j:noLs ds=true):c4 K C H0 (upd H ll (.lst (zs++vs))) m h dx lc lw ll xs ys (zs++vs) {M with log:=M.log++ds}:=by
 have st:aH H (upd H ll (.lst (zs++vs))):= .updL a.el;rwa[⟨λb u z=> ?_,a.nm,a.nc,a.nw,a.nl,a.cw,a.cl,a.wl,?_,?_,?_,ag,Paired.imp' @bt a.dc,st.dens a.dw (gO _),Paired.app (st.dens a.dl a.ln) (st.dens Y j),E5 a.ln j⟩]
 ·rw [ai (λe=>by rw [e,a.nl] at z;cases z)];exact a.s b u z
 ·rw [ai (λe=>by have:=a.em;rw [e,a.el] at this;cases this)];exact a.em
 ·rw [ai a.cl];exact a.ec
 ·rw [ai a.wl];exact a.ew
theorem c4.setW (a:c4 K C H0 H m h dx lc lw ll xs ys zs M){vs:List V}{rs:List aO}(Y:aC K H vs @bn):c4 K C H0 (upd H lw (.lst vs)) m h dx lc lw ll xs vs zs {M with ws:=rs}:=by
 have st:aH H (upd H lw (.lst vs)):= .updL a.ew;rwa[⟨λb u z=> ?_,a.nm,a.nc,a.nw,a.nl,a.cw,a.cl,a.wl,?_,?_,ag,?_,Paired.imp' @bt a.dc,st.dens Y (gO _),st.dens a.dl a.ln,a.ln⟩]
 ·rw [ai (λe=>by rw [e,a.nw] at z;cases z)];exact a.s b u z
 ·rw [ai (λe=>by have:=a.em;rw [e,a.ew] at this;cases this)];exact a.em
 ·rw [ai a.cw];exact a.ec
 ·rw [ai a.wl.symm];exact a.el
theorem c4.putW (a:c4 K C H0 H m h dx lc lw ll xs ys zs M){l:Addr}{vs:List V}{rs:List aO}(B:H0 l=none)(F:lc≠l)(j:l≠ll)(e:H l=some (.lst vs))(Y:aC K H vs @bn):c4 K C H0 (upd H m (.ins C dx (sF h lc l M.last M.fire M.bl ll))) m h dx lc l ll xs vs zs {M with ws:=rs}:=by
 have st:aH H (upd H m (.ins C dx (sF h lc l M.last M.fire M.bl ll))):= .updI a.em
 have nm:∀ {p:Addr} {I:List V},H p=some (.lst I)->p≠m:=λ{p I} e z=>by rw [z,a.em] at e;cases e
 rwa[⟨λb u z=> ?_,a.nm,a.nc,B,a.nl,F,a.cl,j,ag,?_,?_,?_,Paired.imp' @bt a.dc,st.dens Y (gO _),st.dens a.dl a.ln,a.ln⟩]
 ·rw [ai (λe=>by rw [e,a.nm] at z;cases z)];exact a.s b u z
 ·rw [ai (nm a.ec)];exact a.ec
 ·rw [ai (nm e)];exact e
 ·rw [ai (nm a.el)];exact a.el
theorem c4.putF (a:c4 K C H0 H m h dx lc lw ll xs ys zs M)(last:Int)(j:Bool)(B:Nat):c4 K C H0 (upd H m (.ins C dx (sF h lc lw last j B ll))) m h dx lc lw ll xs ys zs {M with last:=last,fire:=j,bl:=B}:=by
 have st:aH H (upd H m (.ins C dx (sF h lc lw last j B ll))):= .updI a.em
 have nm:∀ {p:Addr} {F:List V},H p=some (.lst F)->p≠m:=λ{p F} e z=>by rw [z,a.em] at e;cases e
 rwa[⟨λb u z=> ?_,a.nm,a.nc,a.nw,a.nl,a.cw,a.cl,a.wl,ag,?_,?_,?_,Paired.imp' @bt a.dc,st.dens a.dw (gO _),st.dens a.dl a.ln,a.ln⟩]
 ·rw [ai (λe=>by rw [e,a.nm] at z;cases z)];exact a.s b u z
 ·rw [ai (nm a.ec)];exact a.ec
 ·rw [ai (nm a.ew)];exact a.ew
 ·rw [ai (nm a.el)];exact a.el
end
inductive Dd where
 |come (t s g:Int) (k:Bool)
 |lf (x:Str) (n:Int)
 |sg (x:Str)
abbrev An:Str:=s!"come"
noncomputable def Dd.v:Dd->List V
 | .come t s g k=>[.str An,.int t,.int s,.int g,.bl k]
 | .lf x n=>[.str x,.int n]
 | .sg x=>[.str x]
def Dd.ok:Dd->Prop
 | .come _ _ _ _=>True
 | .lf x _=>x=s!"block"\/x=s!"stick"\/x=s!"free"\/x=s!"goods"\/x=s!"back"
 | .sg x=>x=s!"fire"\/x=s!"calm"
def vT (H:Hp)(a:Addr)(d:Dd):Prop:=H a=some (.tup d.v)/\d.ok
theorem vT.keep {H H':Hp}{a:Addr}{d:Dd}(h:vT H a d)(s:aH H H'):vT H' a d:=⟨s.tup h.1,h.2⟩
theorem vT.same {H H':Hp}{a:Addr}{d:Dd}(h:vT H a d)(s:ao H H'):vT H' a d:=⟨s _ _ h.1,h.2⟩
noncomputable def Ou (t:Int):D:= .tup [.str "barred",.int t]
noncomputable def Lu (t:Int):D:= .tup [.str "sent",.int t]
noncomputable def fj (lo:Nat)(M:MS)(t s g:Int)(k:Bool):MS:=if lo.testBit g.toNat=true/\k=false then {M with log:=M.log++[Ou t]} else if M.fire=true then {M with log:=M.log++[Lu t]} else {M with ws:=M.ws++[⟨t,s,g,-1⟩]}
theorem cj {C:Addr}{H0 H:Hp}{m h dx lc lw ll:Addr}{xs ys zs:List V}{M:MS}{j:Str}{v:V}{Q:VK}(a:c4 K C H0 H m h dx lc lw ll xs ys zs M)(c:um K C)(n:aN K C j)(e:(sF h lc lw M.last M.fire M.bl ll).lookup j=some v)(g:Q v H):xm K j m H Q:=dI a.em c n e g
inductive yt (K:Fg)(C:Addr)(vs:List V)(H:Hp)(Q:VK)(_e:XK):Prop
 |mk (m t s g k h hs H0 M:_) (_:vs=[.ref m,.int t,.int s,.int g,.bl k]) (_:me K H h hs) (_:ip K C H0 H m h M) (_:M.ws.length<=1000) (_:M.log.length<=1000) (_:0<=g) (_:g<1000) (_:∀H',aH H H'->ip K C H0 H' m h (fj hs.lo M t s g k)->Q .non H')
theorem IK {C:Addr}{U:Tok}(F:Z0 K "do_come" ve f fd)(j:xU K C)(bj:mg "NO_LIFT"=some (.int (-1) U))(pf:Z03 P w K mg base):au P w K mg base aT 3 f fd ["moment","tag","start","goal","key"] (yt K C):=by
 have fV:ay (.int (-1)) (.int (-1) U):=⟨_,rfl⟩;rwa[F.ok D6 (by symm) @bP];obtain ⟨m,t,s,g,k,h,hs,H0,M,rfl,hH,W,wl,Z,Y,g1,q⟩:=h;obtain ⟨dx,lc,lw,ll,xs,ys,zs,a⟩:=W;obtain ⟨o,p,ps,h1,h2,h3⟩:=hH;obtain ⟨I,rfl⟩:=Int.eq_ofNat_of_zero_le Y;have yl:=aE a.dw;have zl:zs.length=M.log.length:=a.dl.len;have S:=j.i.cl;rwa[⟨_,(ac (ax @a @H (ac (ax @a @H @H)))),?_⟩];rwa[cj a S j.house rfl ?_];rwa[ak h1 rfl ?_];rwa[fB.mk _ _ rfl @b ?_];unfold fj at q;rw [show ((I:Int)).toNat=I by lia] at q;ext;by_cases O:hs.lo.testBit I=true
 ·rwa[bO O ?_]
  cases k with
  |false=>
   rw [if_pos ⟨O,rfl⟩] at q;rwa[bO rfl ?_];rwa[cj a S j.log (v:= .ref ll) rfl ?_];rwa[⟨.inl ⟨rfl,_,aA.of a.el⟩,?_⟩];rwa[bX (bA (by show 2<=1000000;decide)) λr H1 J L R=> ?_];rwa[eF @gc @cG ?_];exact q _ @ci ⟨dx,lc,lw,ll,xs,ys,_,(a.same J).setL (ds:=[Ou t]) (.cons @bj .nil) rfl⟩
  |true=>
   rw [if_neg (λz=>by cases z.2)] at q;rwa[aY rfl ?_];erw[cj a S j.fire (v:= .bl M.fire) rfl ?_]
   cases B:M.fire with
   |true=>
    rw [if_pos B] at q;rwa[bO rfl ?_];rwa[cj a S j.log (v:= .ref ll) rfl ?_];rwa[⟨.inl ⟨rfl,_,aA.of a.el⟩,?_⟩];rwa[bX (bA (by show 2<=1000000;decide)) λr H1 J L R=> ?_];rwa[eF @gc @cG ?_];exact q _ @ci ⟨dx,lc,lw,ll,xs,ys,_,(a.same J).setL (ds:=[Lu t]) (.cons @bj .nil) rfl⟩
   |false=>
    rw [if_neg (by rw [B];decide)] at q;rwa[aY rfl ?_];rwa[cj a S j.waiting (v:= .ref lw) rfl ?_];rwa[⟨.inl ⟨rfl,_,aA.of a.ew⟩,?_⟩];rwa[bX (bA (by show 4<=1000000;decide)) λr H1 J L R=> ?_];rwa[eF @fe @cG ?_];rwa[q _ (J.st.trans (.updL @fe)) ⟨dx,lc,lw,ll,xs,_,zs,(a.same J).setW (rs:=M.ws++[⟨t,s,(I:Int),-1⟩]) ?_⟩];rw [map_append];exact Paired.app (aC.same a.dw J) (.cons (fg (aB.of R) (.cons (.int _) (.cons (.int _) (.cons (.int _) (.cons (.int _) .nil))))) .nil)
 ·rwa[aY (by simpa using O) ?_];rwa[aY rfl ?_];rw [if_neg (λz=>O z.1)] at q;erw[cj a S j.fire (v:= .bl M.fire) rfl ?_]
  cases B:M.fire with
  |true=>
   rw [if_pos B] at q;rwa[bO rfl ?_];rwa[cj a S j.log (v:= .ref ll) rfl ?_];rwa[⟨.inl ⟨rfl,_,aA.of a.el⟩,?_⟩];rwa[bX (bA (by show 2<=1000000;decide)) λr H1 J L R=> ?_];rwa[eF @gc @cG ?_];exact q _ @ci ⟨dx,lc,lw,ll,xs,ys,_,(a.same J).setL (ds:=[Lu t]) (.cons @bj .nil) rfl⟩
  |false=>
   rw [if_neg (by rw [B];decide)] at q;rwa[aY rfl ?_];rwa[cj a S j.waiting (v:= .ref lw) rfl ?_];rwa[⟨.inl ⟨rfl,_,aA.of a.ew⟩,?_⟩];rwa[bX (bA (by show 4<=1000000;decide)) λr H1 J L R=> ?_];rwa[eF @fe @cG ?_];rwa[q _ (J.st.trans (.updL @fe)) ⟨dx,lc,lw,ll,xs,_,zs,(a.same J).setW (rs:=M.ws++[⟨t,s,(I:Int),-1⟩]) ?_⟩];rw [map_append];exact Paired.app (aC.same a.dw J) (.cons (fg (aB.of R) (.cons (.int _) (.cons (.int _) (.cons (.int _) (.cons (.int _) .nil))))) .nil)
theorem fD {H:Hp}{x:V}{r:aO}(h:bv K H x r.d):∃a,x= .ref a/\aB K H a [.int r.tag,.int r.start,.int r.goal,.int r.lift]:=by
 obtain ⟨a,xs,rfl,h1,h2⟩:=h.outT
 cases h2 with|cons q0 t0=>cases t0 with|cons q1 t1=>cases t1 with|cons q2 t2=>cases t2 with|cons q3 t3=>
 cases t3;cases q0.isInt;cases q1.isInt;cases q2.isInt;cases q3.isInt;exact ⟨a,rfl,h1⟩
inductive pB (K:Fg)(vs:List V)(H:Hp)(Q:VK)(_e:XK):Prop
 |mk (x r i:_) (_:vs=[x,.int i]) (_:bv K H x (aO.d r)) (_:∀v H',ao H H'->bv K H' v (aO.d {r with lift:=i})->Q v H')
theorem ET (F:Z0 K "dealt_to" qA f fd):au P w K mg base aT 1 f fd ["rider","lift"] (pB K):=by
 rwa[F.ok By (by symm) @y];obtain ⟨x,r,i,rfl,J,q⟩:=h;obtain ⟨a,rfl,L⟩:=fD J;rwa[⟨_,@g,?_⟩];rwa[ak L rfl ?_];rwa[ak L rfl ?_];rwa[ak L rfl ?_];exact bX (bA (by show 4<=1000000;decide)) λb H2 O W z=>q _ H2 O (fg (aB.of z) (.cons (.int _) (.cons (.int _) (.cons (.int _) (.cons (.int _) .nil)))))
def atC (M:MS)(i:Int)(c:Cb):Prop:=0<=i/\M.cs[i.toNat]? =some c
theorem c4.atC {C:Addr}{H0 H:Hp}{m h dx lc lw ll:Addr}{xs ys zs:List V}{M:MS}(a:c4 K C H0 H m h dx lc lw ll xs ys zs M){i:Int}{c:Cb}(I:atC M i c):∃t,xs[i.toNat]? =some (.ref t)/\l9 xs i=some (.ref t)/\bR K H t c.pl c.li c.dr c.mr c.ps/\i.toNat<xs.length:=by
 obtain ⟨B,I⟩:=I;obtain ⟨j,rfl⟩:=Int.eq_ofNat_of_zero_le B;rw [show ((j:Int)).toNat=j by lia] at I ⊢
 have Z:j<xs.length:=by rw [a.dc.len];exact (List.getElem?_eq_some_iff.mp I).1
 obtain ⟨F,af,t,z,J⟩:=a.dc.get1 (getElem?_eq_getElem Z);rw [I] at af;cases af;exact ⟨t,by rw [getElem?_eq_getElem Z,z],by rw [bD (getElem?_eq_getElem Z),z],J,Z⟩
theorem Fn {xs:List V}{i:Int}(B:0<=i)(h1:i.toNat<xs.length):AK xs.length i=some i.toNat:=by
 unfold AK;rw [if_pos @b,if_pos @b]
noncomputable def tZ (lo:Nat)(M:MS):Dd->MS
 | .come t s g k=>fj lo M t s g k
 | .lf _ i=> {M with bl:=M.bl|||2^i.toNat}
 | .sg _=>M
theorem Cp {lo:Nat}{M:MS}{d:Dd}:(tZ lo M d).fire=M.fire:=by
 cases d with
 |come t s g k=>
  show (fj lo M t s g k).fire=M.fire;unfold fj;split
  ·rfl
  ·split<;>rfl
 |lf x i=>rfl
 |sg x=>rfl
def Dd.fit (fl:Int)(n:Nat):Dd->Prop
 | .come _ s g _=>0<=s/\s<fl/\0<=g/\g<fl/\s≠g
 | .lf x i=>x=s!"block"/\0<=i/\i<(n:Int)
 | .sg _=>False
inductive Hk (K:Fg)(C:Addr)(vs:List V)(H:Hp)(Q:VK)(_e:XK):Prop
 |mk (m a d h hs H0 M:_) (_:vs=[.ref m,.ref a]) (_:me K H h hs) (_:vT H a d) (_:Dd.fit (Hs.fl hs) hs.ls.length d) (_:ip K C H0 H m h M) (_:M.ws.length<=1000) (_:M.log.length<=1000) (_:∀H',aH H H'->ip K C H0 H' m h (tZ hs.lo M d)->Q .non H')
theorem OQ {C:Addr}(F:Z0 K "do_deed" vd f fd)(B:xU K C)(xE:aU P w K mg base 3 "do_come" ["moment","tag","start","goal","key"] (yt K C))(jg:aU P w K mg base 2 "with_bit" ["mask","k"] kG):au P w K mg base aT 5 f fd ["moment","deed"] (Hk K C):=by
 rwa[F.ok D5 (by symm) @u];obtain ⟨m,U,d,h,hs,H0,M,rfl,J,⟨R,ok⟩,z,O,wl,Y,q⟩:=h;have f8:=J.1.f8;have l3:=J.1.l3;rwa[⟨_,(aa @a (ac (ax @a @H (ac (ax @a (ac @cZ) (ac (ax @a @cq (ac (ax @a @cq (ac (ax @a @cq (ac (ax @a @cq (ac (ax @a @cq @cq))))))))))))))),?_⟩]
 cases d with
 |come t s' g k=>
  have L:aB K H U [.str An,.int t,.int s',.int g,.bl k]:=aB.of R;obtain ⟨_,_,Z,g1,_⟩:=z;rwa[ak L rfl ?_];rwa[bO rfl ?_];rwa[ak L rfl ?_];rwa[ak L rfl ?_];rwa[ak L rfl ?_];rwa[ak L rfl ?_];exact yt.mk _ _ _ _ _ _ _ _ _ rfl J O wl Y Z @b λH' st I=>q H' st I
 |lf x i=>
  obtain ⟨S,W,i1⟩:=z;obtain ⟨j,rfl⟩:=Int.eq_ofNat_of_zero_le W;have L:aB K H U [.str x,.int (j:Int)]:=aB.of R;have q:∀H',aH H H'->ip K C H0 H' m h {M with bl:=M.bl|||2^((j:Int)).toNat}->Q .non H':=q;rw [show ((j:Int)).toNat=j by lia] at q;rwa[ak L rfl ?_];rwa[iT (by rw [S];decide+kernel) ?_];rwa[pc S ?_];obtain ⟨dx,lc,lw,ll,xs,ys,zs,a⟩:=O;rwa[cj a B.i.cl B.blocked (v:= .int (M.bl:Int)) rfl ?_];rwa[ak L rfl ?_];rwa[kG.mk _ _ rfl @b ?_];rwa[cL a.em B.i.cl B.blocked (by show 7<1000;decide) ?_];exact q _ (.updI a.em) ⟨dx,lc,lw,ll,xs,ys,zs,a.putF M.last M.fire (M.bl|||2^j)⟩
 |sg x=>exact False.elim z
abbrev vZ:=List Cb->List aO->aO->Int->Int×Int
inductive p9 (K:Fg)(GG:Hp->Prop)(pre:List Cb->List aO->aO->Int->Prop)(dl:vZ)(vs:List V)(H:Hp)(Q:VK)(_e:XK):Prop
 |mk (tc tw x cs ws r last xs ys:_) (_:vs=[.ref tc,.ref tw,x,.int last]) (_:H tc=some (.tup xs)) (_:Paired (eh K H) xs cs) (_:H tw=some (.tup ys)) (_:aC K H ys @eL) (_:bv K H x (aO.d r)) (_:GG H) (_:pre cs ws r last) (_:∀t H',aI H H'->GG H'->H' t=some (.tup [.int (dl cs ws r last).1,.int (dl cs ws r last).2])->Q (.ref t) H')
noncomputable def Lw (t i:Int):D:= .tup [.str "deal",.int t,.int i]
noncomputable def gc (dl:vZ)(M:MS)(p:Nat)(r:aO):MS:=if (dl M.cs M.ws r M.last).1= -1 then {M with last:=(dl M.cs M.ws r M.last).2} else {M with last:=(dl M.cs M.ws r M.last).2,ws:=M.ws.set p {r with lift:=(dl M.cs M.ws r M.last).1},log:=M.log++[Lw r.tag (dl M.cs M.ws r M.last).1]}
inductive uH (P:Program)(w:World)(K:Fg)(mg:Str->Option Value)(base:Heap)(C:Addr)(GG:Hp->Prop)(pre:List Cb->List aO->aO->Int->Prop)(dl:vZ)(vs:List V)(H:Hp)(Q:VK)(_e:XK):Prop
 |mk (m df x h H0 M r:_) (p:Nat) (_:vs=[.ref m,.ref df,.int (p:Int),x]) (_:ko P w K mg base 5 df @fj) (_:GG H) (_:NT H0) (_:ip K C H0 H m h M) (_:bv K H x (aO.d r)) (_:p<M.ws.length) (_:M.ws.length<=1000) (_:M.log.length<=1000) (_:M.cs.length<=10) (_:pre M.cs M.ws r M.last) (_:∀H',dM H H'->GG H'->ip K C H0 H' m h @gC->Q .non H')
theorem Az {C:Addr}{GG:Hp->Prop}{pre:List Cb->List aO->aO->Int->Prop}{dl:vZ}{t1:Tok}(F:Z0 K "deal" Aw f fd)(gT:GT GG)(L:xU K C)(bh:mg "tuple"=none)(bj:mg "NO_LIFT"=some (.int (-1) t1))(gk:aU P w K mg base 1 "dealt_to" ["rider","lift"] (pB K)):au P w K mg base aT 6 f fd ["moment","dealer","place","rider"] (uH P w K mg base C GG pre dl):=by
 have fV:ay (.int (-1)) (.int (-1) t1):=⟨_,rfl⟩;rwa[F.ok D7 (by symm) (λaj A outer s H vs Q E hr h=> ?_)];obtain ⟨m,df,x,h,H0,M,r,p,rfl,ab,hg,nt,⟨dx,lc,lw,ll,xs,ys,zs,a⟩,hx,pw,wl,gl,am,ad,q⟩:=h;have U:=L.i.cl;have yl:ys.length=M.ws.length:=aE a.dw;have zl:zs.length=M.log.length:=a.dl.len;obtain ⟨ra,rfl,hT⟩:=fD hx;rwa[⟨_,(aa (bP (i:=4) D7.nd rfl @o (Ev 1 hr rfl @o (ar (aM @eK rfl bh boot_tuple @E) (ar (aM @eK rfl bh boot_tuple @E) (ar (wv 3) @E))))) (aa @cZ (ac (ax @a (aa @da @H) aq)))),?_⟩];rwa[⟨df,5,_,rfl,by decide,ab,?_⟩];rwa[cj a U L.cabins (v:= .ref lc) rfl ?_];rwa[jL @cE λtc H1 s1 n1 e1=> ?_];have a1:=a.same s1;rwa[cj a1 U L.waiting (v:= .ref lw) rfl ?_];rwa[jL (aA.of a1.ew) λtw H2 s2 n2 e2=> ?_];have a2:=a1.same s2;have R:=s1.trans s2;rwa[cj a2 U L.last (v:= .int M.last) rfl ?_];rwa[⟨tc,tw,.ref ra,M.cs,M.ws,r,M.last,xs,ys,rfl,s2 _ _ e1,a2.dc,e2,a2.dw,bv.same hx R,gT _ _ R.st hg,ad,λt H3 s3 g3 e3=> ?_⟩];have Y:=a2.sameN nt s3;have af:dM H H3:=R.st.sx.trans s3.sx;unfold gc at q;generalize ai:(dl M.cs M.ws r M.last).1=Z at *;generalize al:(dl M.cs M.ws r M.last).2=W at *;rwa[ak @fK rfl ?_];rwa[cL Y.em U L.last (by show 7<1000;decide) ?_];have a4:=Y.putF W M.fire M.bl;have e0:putF "last" (.int W) @ey=sF h lc lw W M.fire M.bl ll:=rfl;rw [e0];generalize B:upd H3 m (.ins C dx (sF h lc lw W M.fire M.bl ll))=H4 at a4 ⊢
 have J:dM H H4:=by rw [<-B];exact af.trans (aH.updI Y.em).sx
 have g4:GG H4:=by rw [<-B];exact gT _ _ (aH.updI Y.em) g3
 have S:aB K H4 t [.int Z,.int W]:=by rw [<-B];exact (aH.updI Y.em).sqT @fK
 clear B;erw[ak S rfl ?_];by_cases z:Z= -1
 ·rw [if_pos z] at q;rwa[aY (by simp [z]) ?_];exact q _ J g4 ⟨dx,lc,lw,ll,xs,ys,zs,a4⟩
 ·rw [if_neg z] at q;rwa[bO (by simp [z]) ?_];rwa[ak S rfl ?_];rwa[pB.mk _ _ _ rfl (J.den hx rfl) λv H5 s5 dv=> ?_];have O:=a4.same s5;rwa[cj O U L.waiting (v:= .ref lw) rfl ?_];rwa[wD (j:=p) O.ew (by unfold AK;rw [if_pos @b,if_pos @b];congr 1) ?_]
  have ag:aC K H5 (ys.set p v) ((M.ws.set p {r with lift:=Z}).map aO.d):=by
   rw [map_set];exact qJ O.dw dv
  have a6:=O.setW ag;generalize I:upd H5 lw (.lst (ys.set p v))=H6 at a6 ⊢
  have ae:dM H H6:=by rw [<-I];exact (J.trans s5.st.sx).trans (aH.updL O.ew).sx
  have g6:GG H6:=by rw [<-I];exact gT _ _ (s5.st.trans (.updL O.ew)) g4
  have ah:aB K H6 t [.int Z,.int W]:=by rw [<-I];exact (aH.updL O.ew).sqT (s5.seqT S)
  clear I;rwa[cj a6 U L.log (v:= .ref ll) rfl ?_];rwa[⟨.inl ⟨rfl,_,aA.of a6.el⟩,?_⟩];rwa[ak (ae.sqT hT) rfl ?_];rwa[ak ah rfl ?_];rwa[bX (bA (by show 3<=1000000;decide)) λg7 H7 s7 n7 e7=> ?_];have a7:=a6.same s7;rwa[eF a7.el @cG ?_];exact q _ ((ae.trans s7.st.sx).trans (aH.updL a7.el).sx) (gT _ _ (s7.st.trans (.updL a7.el)) g6) ⟨dx,lc,lw,ll,xs,_,_,a7.setL (ds:=[Lw r.tag Z]) (.cons (fg (aB.of e7) (.cons (.str _) (.cons (.int _) (.cons (.int _) .nil)))) .nil) rfl⟩
noncomputable def aQ (dl:vZ)(W:List aO):Nat->MS->MS
 |0,M=>M
 |i+1,M=>match W[i]? with
  |some r=>if r.lift= -1 then gc dl @gD i r else aQ dl W i M
  |none=>aQ dl W i M
inductive kR (P:Program)(w:World)(K:Fg)(mg:Str->Option Value)(base:Heap)(C:Addr)(GG:Hp->Prop)(pre:List Cb->List aO->aO->Int->Prop)(dl:vZ)(vs:List V)(H:Hp)(Q:VK)(_e:XK):Prop
 |mk (m df h H0 M:_) (_:vs=[.ref m,.ref df]) (_:ko P w K mg base 5 df @fj) (_:GG H) (_:NT H0) (_:ip K C H0 H m h M) (_:M.ws.length<=500) (_:M.log.length<=400) (_:M.cs.length<=10) (_:(∀i r,M.ws[i]? =some r->r.lift= -1->pre (aQ dl M.ws i M).cs (aQ dl M.ws i M).ws r (aQ dl M.ws i M).last)) (_:∀H',dM H H'->GG H'->ip K C H0 H' m h (aQ dl M.ws M.ws.length M)->Q .non H')
theorem Cq {dl:vZ}{M:MS}{p:Nat}{r:aO}:(gc dl M p r).ws.length=M.ws.length/\(gc dl M p r).cs=M.cs/\(gc dl M p r).log.length<=M.log.length+1:=by
 unfold gc;split
 ·exact ⟨rfl,rfl,Nat.le_succ _⟩
 ·exact ⟨length_set,rfl,by simp⟩
theorem fh {dl:vZ}{W:List aO}{M:MS}:∀i,(aQ dl W i M).ws.length=M.ws.length/\(aQ dl W i M).cs=M.cs/\(aQ dl W i M).log.length<=M.log.length+i
 |0=>⟨rfl,rfl,by simp [aQ]⟩
 |i+1=>by
  have h:=fh (dl:=dl) (W:=W) (M:=M) i;unfold aQ;split
  ·rename_i r _;split
   ·have g:=Cq (dl:=dl) (M:=aQ dl W i M) (p:=i) (r:=r);exact ⟨g.1.trans h.1,g.2.1.trans h.2.1,by have:=g.2.2;lia⟩
   ·exact ⟨h.1,h.2.1,by lia⟩
  ·exact ⟨h.1,h.2.1,by lia⟩
theorem oB {dl:vZ}{W:List aO}{M:MS}:∀i,(aQ dl W i M).fire=M.fire
 |0=>rfl
 |i+1=>by
  have j:=oB (dl:=dl) (W:=W) (M:=M) i;unfold aQ;split
  ·split
   ·unfold gc;split
    ·exact j
    ·exact j
   ·exact j
  ·exact j
noncomputable def jq (H:Hp)(m lc lw ll:Addr):Hp:=λb=>if b=m\/b=lc\/b=lw\/b=ll then none else H b
theorem Cu {H:Hp}{m lc lw ll:Addr}:ao @cv H:=λb u z=>by
 unfold jq at z;split at z
 ·cases z
 ·exact z
theorem jf {H:Hp}{m lc lw ll b:Addr}{u:HO}(h:H b=some u)(h1:b≠m)(h2:b≠lc)(L:b≠lw)(j:b≠ll):jq H m lc lw ll b=some u:=by
 unfold jq;rw [if_neg (λz=>by rcases z with z|z|z|z;exact h1 z;exact h2 z;exact L z;exact j z)];exact h
theorem c4.wide {C:Addr}{H0 H:Hp}{m h dx lc lw ll:Addr}{xs ys zs:List V}{M:MS}(a:c4 K C H0 H m h dx lc lw ll xs ys zs M):c4 K C @cv H m h dx lc lw ll xs ys zs M/\ao H0 @cv:=by
 rwa[⟨⟨Cu,if_pos (.inl rfl),if_pos (.inr (.inl rfl)),if_pos (.inr (.inr (.inl rfl))),if_pos (.inr (.inr (.inr rfl))),a.cw,a.cl,a.wl,a.em,a.ec,a.ew,a.el,a.dc,a.dw,a.dl,a.ln⟩,λb u z=> ?_⟩];exact jf (a.s _ _ z) (λe=>by rw [e,a.nm] at z;cases z) (λe=>by rw [e,a.nc] at z;cases z) (λe=>by rw [e,a.nw] at z;cases z) (λe=>by rw [e,a.nl] at z;cases z)
theorem c4.wideN {C:Addr}{H0 H:Hp}{m h dx lc lw ll:Addr}{xs ys zs:List V}{M:MS}(j:NT H0)(a:c4 K C H0 H m h dx lc lw ll xs ys zs M):c4 K C (xX @cv) H m h dx lc lw ll xs ys zs M/\ao H0 (xX @cv):=by
 obtain ⟨b,s⟩:=a.wide;rwa[⟨⟨(qO _).trans b.s,lu b.nm,lu b.nc,lu b.nw,lu b.nl,a.cw,a.cl,a.wl,a.em,a.ec,a.ew,a.el,a.dc,a.dw,a.dl,a.ln⟩,λx u z=> ?_⟩];exact qP (s _ _ z) (λps e=>j x ps (by rw [z,e]))
theorem ip.onto {C:Addr}{H0 j H:Hp}{m h:Addr}{M:MS}(s:ao H0 j)(z:ip K C j H m h M):ip K C H0 H m h M:=by
 obtain ⟨dx,lc,lw,ll,xs,ys,zs,a⟩:=z;exact ⟨dx,lc,lw,ll,xs,ys,zs,s.trans a.s,none_of s a.nm,none_of s a.nc,none_of s a.nw,none_of s a.nl,a.cw,a.cl,a.wl,a.em,a.ec,a.ew,a.el,a.dc,a.dw,a.dl,a.ln⟩
theorem ip.s {C:Addr}{H0 H:Hp}{m h:Addr}{M:MS}(z:ip K C H0 H m h M):ao H0 H:=let ⟨_,_,_,_,_,_,_,a⟩:=z;a.s
theorem EV {C:Addr}{GG:Hp->Prop}{pre:List Cb->List aO->aO->Int->Prop}{dl:vZ}{t1:Tok}(F:Z0 K "deal_all" lh f fd)(gT:GT GG)(cM:xU K C)(cU:mg "list"=none)(cq:mg "enumerate"=none)(bj:mg "NO_LIFT"=some (.int (-1) t1))(A6:aU P w K mg base 6 "deal" ["moment","dealer","place","rider"] (uH P w K mg base C GG pre dl)):au P w K mg base aT 7 f fd ["moment","dealer"] (kR P w K mg base C GG pre dl):=by
 have fV:ay (.int (-1)) (.int (-1) t1):=⟨_,rfl⟩;rwa[F.ok Bz (by symm) (λaf A outer s H vs Q E hr h=> ?_)];obtain ⟨m,df,h,H0,M,rfl,ab,hg,nt,⟨dx,lc,lw,ll,xs,ys,zs,a⟩,wl,gl,am,Y,q⟩:=h;have cl:=cM.i.cl;have yl:ys.length=M.ws.length:=aE a.dw;rwa[⟨_,(ac (cf PassesOwn.never rfl (Af rfl rfl cq @cj) @a (ac (ax @a @H aq)))),?_⟩];rwa[cj a cl cM.waiting (v:= .ref lw) rfl ?_];rwa[gU (.inl @gd) λlk H1 s1 n1 e1=> ?_];have a1:=a.same s1;have ag:H0 lk=none:=none_of a.s n1;erw[.inl ⟨ys,aA.of e1,?_⟩];obtain ⟨aw,sw⟩:=a1.wideN nt;have U:NT (xX (jq H1 m lc lw ll)):=E2 _;generalize aa:xX (jq H1 m lc lw ll)=Hc at aw sw U
 have kk:∀ {p:Addr} {us:List V},H1 p=some (.lst us)->p≠m:=λ{p us} e z=>by rw [z,a1.em] at e;cases e
 have I:∀ {p:Addr} {o:HO},H p=some o->lk≠p:=λ{p o} e z=>by rw [<-z,n1] at e;cases e
 have ek:Hc lk=some (.lst ys):=by rw [<-aa];exact qP (jf e1 (kk e1) (I a.ec) (I a.ew) (I a.el)) (λ_ z=>by cases z)
 have dy:∀ {i:Nat} {x:V},ys[i]? =some x->∃r b,M.ws[i]? =some r/\x= .ref b/\bv K H1 (.ref b) r.d:=λ{i x} J=>by
  obtain ⟨r,aj,dr⟩:=bC (f:=aO.d) a1.dw J;obtain ⟨b,rfl,_⟩:=fD dr;exact ⟨r,b,aj,rfl,dr⟩
 rwa[FH (xs:=ys) (λi σ L=>dM H1 L/\ip K C Hc L m h @gt/\GG L/\∃o2 o3,σ=[some (.ref m),some (.ref df),o2,o3]) ⟨.refl _,⟨dx,lc,lw,ll,xs,ys,zs,aw⟩,gT _ _ s1.st hg,_,_,rfl⟩ (λi σ L _ O=>aA.of (O.2.1.s _ _ ek)) (λi x σ L T HY J O sT eT=> ?_) (λσ L O=> ?_)]
 ·obtain ⟨st,Z,gX,o2,o3,rfl⟩:=O;have gY:=gT _ _ sT.st gX;obtain ⟨r,b,aj,rfl,dr⟩:=dy J;have hi:i<M.ws.length:=(List.getElem?_eq_some_iff.mp aj).1;have hl:=fh (dl:=dl) (W:=M.ws) (M:=M) i;have j:=st.trans sT.st.sx;have B:=Z.same sT;have R:bv K HY (.ref b) r.d:=j.den dr rfl;obtain ⟨b',ad,hT⟩:=fD R;cases ad
  have nx:aQ dl M.ws (i+1) M=if r.lift= -1 then gc dl @gt i r else aQ dl M.ws i M:=by
   show (match M.ws[i]? with|some r=>_|none=>_)=_;rw [aj]
  rwa[ju (aB.of eT) rfl ?_];erw[ak hT rfl ?_];by_cases z:r.lift= -1
  ·rw [if_pos z] at nx;rwa[bO @dk ?_];rwa[uH.mk _ _ _ _ _ _ _ _ rfl ab gY U B R @b @b @b (by rw [hl.2.1];lia) (Y i r aj z) λHZ ae gZ S=> ?_];rw [<-nx] at S;exact ⟨j.trans ae,S,gZ,_,_,rfl⟩
  ·rw [if_neg z] at nx;rwa[aY (decide_eq_false z) ?_];rw [<-nx] at B;exact ⟨j,B,gY,_,_,rfl⟩
 ·obtain ⟨st,Z,gX,o2,o3,rfl⟩:=O;rw [yl] at Z;exact q _ (s1.st.sx.trans st) gX (Z.onto sw)
noncomputable def Lv (wd:Str)(t i fl:Int):D:= .tup [.str wd,.int t,.int i,.int fl]
theorem Ec (j:Str)(i fl:Int)(ts:List Int):noLs (ts.map λt=>Lv j t i fl)=true:=by
 induction ts with
 |nil=>rfl
 |cons r rs ih=>rw [map_cons,noLs,ih];rfl
noncomputable def zp (M:MS)(wd:Str)(ts:List Int)(i:Int)(c:Cb):MS:= {M with log:=M.log++ts.map λt=>Lv wd t i (c.pl / 2)}
inductive yk (K:Fg)(C:Addr)(vs:List V)(H:Hp)(Q:VK)(_e:XK):Prop
 |mk (m wd tg i h H0 M c:_) (ts:List Int) (_:vs=[.ref m,.str wd,.ref tg,.int i]) (_:ip K C H0 H m h M) (_:atC M i c) (_:(∃us,aA K H0 tg us/\us=ts.map V.int)) (_:ts.length<=1000) (_:M.log.length<=3000) (_:∀H',aH H H'->ip K C H0 H' m h (zp M wd ts i c)->Q .non H')
theorem JS {C:Addr}{H H0:Hp}{m tg h:Addr}{j:Str}{i:Int}{M:MS}{c:Cb}{ts:List Int}{Q:VK}{E:XK}(h1:ip K C H0 H m h M)(h2:atC M i c)(L:aA K H0 tg (ts.map V.int))(z:ts.length<=1000)(U:M.log.length<=3000)(q:∀H',aH H H'->ip K C H0 H' m h (zp M j ts i c)->Q .non H'):yk K C [.ref m,.str j,.ref tg,.int i] H Q E:=⟨m,j,tg,i,h,H0,M,c,ts,rfl,h1,h2,⟨_,L,rfl⟩,z,U,q⟩
theorem ID {C:Addr}(F:Z0 K "log_steps" mQ f fd)(W:xU K C)(bL:Z01 P w K mg base):au P w K mg base aT 2 f fd ["moment","word","tags","lift"] (yk K C):=by
 rwa[F.ok yC (by symm) @N];obtain ⟨m,wd,tg,i,h,H0,M,c,Y,rfl,⟨dx,lc,lw,ll,xs,ys,zs,a⟩,hc,⟨z,U,rfl⟩,tl,gl,q⟩:=h;obtain ⟨t,hx,hi,ht,ae⟩:=a.atC hc;have cl:=W.i.cl;have zl:zs.length=M.log.length:=a.dl.len;rwa[⟨_,(aa @a (ac (aF (ij rfl PySem.F.plainAttrs_list PySem.F.slot_list_extend PySem.F.type_list_extend pP @a (ar (bG rfl (aD (N':=["tag","word","lift","floor"]) (pk:=[none,some 1,some 3,some 4]) @m) @a @k @z @k) ap))))),?_⟩];rwa[cj a cl W.cabins (v:= .ref lc) rfl ?_];rwa[bb @cE hi ?_];rwa[cg.mk _ _ _ _ _ _ rfl ht ?_];rwa[cj a cl W.log (v:= .ref ll) rfl ?_];erw[⟨.inl ⟨rfl,_,aA.of a.el⟩,?_⟩];have hL:=a.s.seq U;rwa[cZ hL ?_];rwa[cx (xs:=Y.map V.int) (λj z B=>ao H B/\z.length=j/\aC K B z ((Y.take j).map λt=>Lv wd t i (c.pl / 2))) (bA (by rw [length_map];lia)) (λj z B h=>Nat.le_of_eq h.2.1) ⟨.refl _,rfl,.nil⟩ (λj z B _ h=>h.1.seq hL) (λj y z B hy Z=> ?_) (λz B Z l n=> ?_)]
 ·obtain ⟨R,I,J⟩:=Z;rw [getElem?_map] at hy;obtain ⟨v,hv,rfl⟩:=Option.map_eq_some_iff.mp hy;rwa[⟨cu,?_⟩];rwa[bX (bA (by show 4<=1000000;decide)) λb H3 L n3 O=>⟨R.trans L,by simp [I],?_⟩];rw [take_add_one,hv,map_append];exact Paired.app (aC.same J L) (.cons (fg (aB.of O) (.cons (.str _) (.cons (.int _) (.cons (.int _) (.cons (.int _) .nil))))) .nil)
 obtain ⟨R,I,J⟩:=Z;rw [length_map,take_of_length_le @f] at J;rw [length_map] at I;have aX:=a.same R;have L:ao B (upd B l (.lst z)):= .upd n;have S:=aX.same L;have O:upd B l (.lst z) l=some (.lst z):=ag;generalize ab:upd B l (.lst z)=H3 at L S O ⊢;rwa[JY S.el O @bq ?_];exact q _ ((R.trans L).st.trans (.updL S.el)) ⟨dx,lc,lw,ll,xs,ys,_,S.setL (aC.same J L) (Ec wd i _ Y)⟩
noncomputable def k6 (M:MS)(i:Int)(c:Cb):MS:= {M with cs:=M.cs.set i.toNat c}
theorem lr {H:Hp}{bs:List V}{ps:List (Int×Int)}(d:aC K H bs @dC){j:Nat}{y:V}(J:bs[j]? =some y):∃p t,ps[j]? =some p/\y= .ref t/\aB K H t [.int p.1,.int p.2]:=by
 obtain ⟨p,F,I⟩:=bC (f:=cB) d J;obtain ⟨t,xs,rfl,h1,h2⟩:=I.outT
 cases h2 with|cons q0 t0=>cases t0 with|cons q1 t1=>
 cases t1;cases q0.isInt;cases q1.isInt;exact ⟨p,t,F,rfl,h1⟩
theorem vv {a:Int}{bs:List Int}:vw (.int a) (bs.map V.int)=decide (a∈bs):=by
 unfold vw;rw [any_map,Bool.eq_iff_iff,any_eq_true,decide_eq_true_eq];constructor
 ·rintro ⟨x,j,z⟩;have z:(x==a)=true:=z;rw [<-eq_of_beq z];exact j
 ·intro h;exact ⟨a,h,beq_self_eq_true a⟩
theorem nv (bs:List Int):(bs.map V.int).all cE=true:=by
 rw [all_map,all_eq_true];intro x _;rfl
noncomputable def dh (hs:Hs)(c:Cb)(l:Lf)(rs:List aO):CI:=nz hs.so l.rm c.pl c.li c.ps rs
noncomputable def tV (hs:Hs)(M:MS)(i:Int)(c:Cb)(l:Lf)(rs:List aO):MS:=
 {k6 (zp (zp M "out" (c9 c.pl c.ps) i c) (s!"in") (dh hs c l rs).ins i c) i ⟨c.pl,(dh hs c l rs).light,fe l.kd l.tn c.dr (M.bl.testBit i.toNat) (decide (((c9 c.pl c.ps).length:Int)+((dh hs c l rs).ins.length:Int)>0)),c.mr,(dh hs c l rs).kept⟩ with ws:=M.ws.filter λr=> !decide (r.tag∈(dh hs c l rs).ins)}
structure Kf (P:Program)(w:World)(K:Fg)(mg:Str->Option Value)(base:Heap)(kD kH kS:Addr):Prop where
 c:∀k,qY k->Kh K @gy
 m:∀k,qY k->iy P w K mg base aT 1 "left" (kc kD kH kS k) (iF K k)
theorem xo {hs:Hs}{c:Cb}{l:Lf}{rs:List aO}:(dh hs c l rs).ins.length<=rs.length:=by
 have:=(mi (so:=hs.so) (room:=l.rm) (pl:=c.pl) rs ⟨c.li,dH c.pl c.ps,[]⟩).2;simpa [dh,nz] using this
theorem wV {pl:Int}{ps:List (Int×Int)}:(c9 pl ps).length<=ps.length:=by
 unfold c9;rw [length_map];exact length_filter_le _ _
inductive DF (K:Fg)(C:Addr)(vs:List V)(H:Hp)(Q:VK)(_e:XK):Prop
 |mk (m i rl h hs l H0 M c xr rs:_) (_:vs=[.ref m,.int i,.ref rl]) (_:me K H0 h hs) (_:hs.ls[i.toNat]? =some l) (_:ip K C H0 H m h M) (_:atC M i c) (_:i<1000) (_:c.ps.length<=64) (_:M.log.length<=2000) (_:M.ws.length<=1000) (_:(∃f0,c.pl=2*f0)) (_:H0 rl=some (.lst xr)) (_:aC K H0 xr @bn) (_:Ni rs) (_:∀H',aH H H'->ip K C H0 H' m h (tV hs M i c l rs)->Q .non H')
theorem Mf {C kD kH kS:Addr}(F:Z0 K "exchange" mW f fd)(cM:xU K C)(D:Kf P w K mg base kD kH kS)(bp:mg "len"=none)(lM:aU P w K mg base 1 "room_of" ["house","lift"] @dq)(jh:aU P w K mg base 1 "turns_of" ["house","lift"] @dr)(xA:aU P w K mg base 1 "kind_of" ["house","lift"] (mv K λl=> .str l.kd))(rQ:aU P w K mg base 3 "exchanged" ["sort","room","cabin","riders"] (yr K))(rK:aU P w K mg base 2 "log_steps" ["moment","word","tags","lift"] (yk K C))(xD:aU P w K mg base 3 "door_of" ["kind","turns"] (pZ K kD kH kS))(pf:Z03 P w K mg base)(cc:Z02 P w K mg base):au P w K mg base aT 4 f fd ["moment","lift","riders"] (DF K C):=by
 rwa[F.ok qi (by symm) (λba A outer s H vs Q E hr h=> ?_)];obtain ⟨m,i,rl,h,hs,l,H0,M,c,xr,rs,rfl,hH,hl,⟨dx,lc,lw,ll,xs,ys,zs,a⟩,L,i1,Y,gl,wl,⟨f0,aV⟩,er,dr,av,q⟩:=h;obtain ⟨t,hx,hi,ht,bi⟩:=a.atC L;have cl:=cM.i.cl;obtain ⟨j,hj⟩:=Int.eq_ofNat_of_zero_le L.1;obtain ⟨ph,bf,pb,aW,bc,bq,bj,be⟩:=(hH.same a.s).at L.1 hl;have S:qY l.kd:=(hH.1.lf l (mem_of_getElem? hl)).2.2.2.2;rwa[⟨_,(aa @a (aa @a (aa @a (aa @a (aa @a (aa @dp (aa @dp (aa @a (aa (bP (i:=9) qi.nd rfl @o (pi (n:=1) fX hr @c (wv 8) (ar @a (ar @a @E)))) (aa (m6 @a (qI @a (wv 1) wc)) (ac (cI rfl (wv 0) (bG rfl (aD (N':=["rider","ins"]) (pk:=[none,some 7]) @m) @a @k (λC s H ex=>(eK (bY (pj rfl) @a (wv 1) @U))) @Q))))))))))))),?_⟩];rwa[cj a cl cM.house (v:= .ref h) rfl ?_];rwa[ak aW rfl ?_];rwa[mv.mk (g:=λl=> .int l.rm) _ _ _ _ rfl @gE L.1 hl ?_];rwa[cj a cl cM.cabins (v:= .ref lc) rfl ?_];rwa[bb @cE hi ?_];rwa[Pd ht Y (a.s _ _ er) (aC.same dr a.s) av aV λr H1 s1 aG=> ?_];obtain ⟨cn,co,ci,a0,ax,eo,ei,no,ni,bh⟩:=aG;have e1:nz hs.so l.rm c.pl c.li c.ps rs=dh hs c l rs:=rfl;rw [e1] at ax ei;generalize hE:dh hs c l rs=Z at *;generalize hO:c9 c.pl c.ps=O at *
 have el:Z.ins.length<=rs.length:=by rw [<-hE];exact xo
 have ol:O.length<=64:=by rw [<-hO];exact Nat.le_trans wV Y
 have a7:rs.length<=64:=av.1;have a1:=a.same s1;obtain ⟨aw,sw⟩:=a1.wide
 have nk:∀ {p q:Addr} {o:HO},H p=none->H q=some o->p≠q:=λ{p q o} h1 h2 z=>by rw [z,h2] at h1;cases h1
 have ae:jq H1 m lc lw ll co=some (.lst (O.map V.int)):=jf eo (nk no a.em) (nk no a.ec) (nk no a.ew) (nk no a.el);have R:jq H1 m lc lw ll ci=some (.lst (Z.ins.map V.int)):=jf ei (nk ni a.em) (nk ni a.ec) (nk ni a.ew) (nk ni a.el);generalize bk:jq H1 m lc lw ll=Hc at aw sw ae R;have I:=aB.of (K:=K) a0;rwa[ak I rfl ?_];rwa[ak I rfl ?_];erw[ak I rfl ?_];have aY:ip K C Hc H1 m h M:=⟨dx,lc,lw,ll,xs,ys,zs,aw⟩;rwa[JS (ts:=O) aY L (aA.of ae) @b @b λH2 aP aZ=> ?_];rwa[JS (ts:=Z.ins) (c:=c) aZ L @fw @b (by show (M.log++_).length<=_;rw [length_append,length_map];lia) λH3 aQ aI=> ?_];have ay:=aP.trans aQ;obtain ⟨aN,U,aM,az,ai,ah,aL,a3⟩:=aI;have as:=hH.same (sw.trans a3.s);rwa[mv.mk (g:=λl=> .str l.kd) _ _ _ _ rfl as L.1 hl ?_];rwa[mv.mk (g:=λl=> .int l.tn) _ _ _ _ rfl as L.1 hl ?_];rwa[pZ.mk _ _ rfl S λda bd H4 s4 n4 e4=> ?_];have a4:=a3.same s4;have ad:=ay.trans s4.st;have ab:bR K H4 cn c.pl Z.light c.dr c.mr Z.kept:=ax.keep ad;obtain ⟨nb,bg,aS,bm,br⟩:=id ab;have af:=aB.of (K:=K) aS;rwa[gR e4 rfl (D.m _ S) ?_];rwa[ak af rfl ?_];erw[cj a4 cl cM.blocked (v:= .int (M.bl:Int)) rfl ?_];rw [hj];rwa[fB.mk _ _ rfl @b ?_];rwa[bH (aA.of (a4.s _ _ ae)) ?_];rw [length_map];rwa[bH (aA.of (a4.s _ _ R)) ?_];rw [length_map];rwa[iF.mk _ _ _ _ _ _ _ rfl e4 (D.c _ S).i.cl (D.c _ S).n ?_];rwa[ak af rfl ?_];rwa[ak af rfl ?_];rwa[d8.mk _ _ _ _ _ _ _ _ _ rfl ab λt5 H5 s5 a2=> ?_];have a5:=a4.same s5;obtain ⟨_,_,_,_,al⟩:=a3.atC (c:=c) L;erw[cj a5 cl cM.cabins (v:= .ref U) rfl ?_];rw [<-hj];rwa[wD (j:=i.toNat) a5.ec (Fn L.1 al) ?_];have a6:=a5.setC (i:=i.toNat) (c:=⟨c.pl,Z.light,fe l.kd l.tn c.dr (M.bl.testBit j) (decide ((O.length:Int)+(Z.ins.length:Int)>0)),c.mr,Z.kept⟩) ⟨t5,rfl,a2⟩;generalize an:upd H5 U (.lst (ai.set i.toNat (.ref t5)))=H6 at a6 ⊢
 have aq:aH H1 H6:=by rw [<-an];exact (ad.trans s5.st).trans (.updL a5.ec)
 clear an;have yl:ah.length=M.ws.length:=aE a3.dw;rwa[cj a6 cl cM.waiting (v:= .ref aM) rfl ?_];rwa[cZ (aA.of a6.ew) ?_];rwa[cx (xs:=ah) (λj B J=>ao H6 J/\B.length<=j/\aC K J B (((M.ws.take j).filter λr=> !decide (r.tag∈Z.ins)).map aO.d)) @bq (λj B J h=>h.2.1) ⟨.refl _,Nat.le_refl _,.nil⟩ (λj B J _ h=>h.1.seq (aA.of a6.ew)) (λj y B J hy hP=> ?_) (λB J hP l7 n7=> ?_)]
 ·obtain ⟨W,aJ,hd⟩:=hP;obtain ⟨r,aj,am⟩:=bC (f:=aO.d) a6.dw hy;have aj:M.ws[j]? =some r:=aj;obtain ⟨ra,rfl,hT⟩:=fD (bv.same am W);have nx:=jd (λr:aO=> !decide (r.tag∈Z.ins)) aj;rwa[⟨cu,?_⟩];rwa[ak hT rfl ?_];rwa[Bm (aA.of (W _ _ (a6.s _ _ R))) rfl (nv _) ?_];rw [vv];show if (!decide (r.tag∈Z.ins))=true then _ else _
  cases hb:(!decide (r.tag∈Z.ins)) with
  |true=>
   rw [if_pos rfl];rwa[⟨W,by rw [length_append];show _+1<=_;lia,?_⟩];rw [nx,hb,if_pos rfl,map_append];exact Paired.app hd (.cons (bv.same am W) .nil)
  |false=>
   rw [if_neg @c];rwa[⟨W,by lia,?_⟩];rw [nx,hb,if_neg @c,append_nil];exact hd
 obtain ⟨W,aJ,hd⟩:=hP;rw [yl,take_of_length_le @f] at hd;have aX:=a6.same W;have s8:ao J (upd J l7 (.lst B)):= .upd n7;have a8:=aX.same s8;have e8:upd J l7 (.lst B) l7=some (.lst B):=ag;generalize bn:upd J l7 (.lst B)=H8 at s8 a8 e8 ⊢
 have aR:U≠l7:=λz=>by rw [<-z,aX.ec] at n7;cases n7
 have aK:l7≠az:=λz=>by rw [z,aX.el] at n7;cases n7
 rwa[cL a8.em cl cM.waiting (by show 7<1000;decide) ?_];have a9:=a8.putW (rs:=M.ws.filter λr=> !decide (r.tag∈Z.ins)) (none_of aX.s n7) aR aK e8 (aC.same hd s8);rwa[q _ ((s1.st.trans aq).trans (((W.trans s8).st).trans (.updI a8.em))) (ip.onto sw ⟨aN,U,l7,az,ai.set i.toNat (.ref t5),B,aL,?_⟩)]
 have ee:tV hs M i c l rs= {k6 (zp (zp M "out" O i c) (s!"in") Z.ins i c) i ⟨c.pl,Z.light,fe l.kd l.tn c.dr (M.bl.testBit j) (decide ((O.length:Int)+(Z.ins.length:Int)>0)),c.mr,Z.kept⟩ with ws:=M.ws.filter λr=> !decide (r.tag∈Z.ins)}:=by
  unfold tV;rw [hE,hO,hj,show ((j:Int)).toNat=j by lia]
 rw [ee];exact a9
structure fo (li he up dn:Int):Prop where
 l0: -1<=li
 l1:li<=1
 h0:0<=he
 h1:he<=2
 u0:0<=up
 d0:0<=dn
abbrev Wf:=Int->Int->Int->Int->Int->Str
inductive CM (P:Program)(w:World)(K:Fg)(mg:Str->Option Value)(base:Heap)(H:Hp)(a:Addr)(wf:Wf):Prop
 |mk (C dx fs sp:_) (_:H a=some (.ins C dx fs)) (_:fs.lookup (s!"word")=none) (_:iy P w K mg base aT 2 "word" C sp) (_:(∀fl li he up dn,fo li he up dn->wf fl li he up dn∈cJ)) (_:∀(H':Hp) (sa:Addr) (fl li he up dn:Int) (Q:VK) (E:XK),H' a=some (.ins C dx fs)->aB K H' sa [.int fl,.int li,.int he,.int up,.int dn]->fo li he up dn->Q (.str (wf fl li he up dn)) H'->sp [.ref a,.ref sa] H' Q E)
theorem CM.same {H H':Hp}{a:Addr}{wf:Wf}(r:CM P w K mg base H a wf)(s:ao H H'):CM P w K mg base H' a wf:=by
 obtain ⟨C,dx,fs,sp,h1,h2,L,j,U⟩:=r;exact ⟨C,dx,fs,sp,s _ _ h1,h2,L,j,U⟩
noncomputable def pT (hs:Hs)(l:Lf)(c:Cb)(wd:Str):Cb:=⟨(dL hs.fl l.tn c.pl c.li c.dr c.ps @cM).1,(dL hs.fl l.tn c.pl c.li c.dr c.ps @cM).2.1,(dL hs.fl l.tn c.pl c.li c.dr c.ps @cM).2.2,c.mr,c.ps⟩
def Nt (hs:Hs)(wf:Wf)(M:MS)(i:Int)(c:Cb)(l:Lf)(rs:List aO)(M':MS):Prop:=∃(f0:Nat) (u d:Int),c.pl=2*(f0:Int)/\vO (tk l.rm c.ps rs) f0 u/\vP (tk l.rm c.ps rs) f0 d/\M'=k6 M i (pT hs l c (wf f0 c.li (dY hs.so c.li (tk l.rm c.ps rs f0) (CG c.ps f0) (A8 rs f0 c.li)) u d))
structure nU (fl:Int)(c:Cb):Prop where
 p0:0<=c.pl
 p1:c.pl<=2*(fl - 1)
 l0: -1<=c.li
 l1:c.li<=1
 m0:0<=c.mr
 ev:0<c.dr->c.pl% 2=0
 len:c.ps.length<=64
 gs:∀p∈c.ps,0<=p.2/\p.2<fl
structure iw (fl:Int)(r:aO):Prop where
 s0:0<=r.start
 s1:r.start<fl
 g0:0<=r.goal
 g1:r.goal<fl
 ne:r.start≠r.goal
theorem AO {so:Str}{li:Int}{a b c:Bool}:0<=dY so li a b c/\dY so li a b c<=2:=by
 unfold dY;split
 ·decide
 split
 ·decide
 split
 ·decide
 ·decide
theorem vO.nn {t:Int->Bool}{f u:Int}(h:vO t f u):0<=u:=by rcases h with ⟨h,_⟩|⟨h,_⟩<;>lia
theorem vP.nn {t:Int->Bool}{f u:Int}(h:vP t f u):0<=u:=by rcases h with ⟨h,_⟩|⟨h,_⟩<;>lia
inductive DJ (P:Program)(w:World)(K:Fg)(mg:Str->Option Value)(base:Heap)(C:Addr)(vs:List V)(H:Hp)(Q:VK)(_e:XK):Prop
 |mk (m ru i rl h hs l H0 M c xr rs wf:_) (_:vs=[.ref m,.ref ru,.int i,.ref rl]) (_:me K H0 h hs) (_:hs.ls[i.toNat]? =some l) (_:CM P w K mg base H0 ru wf) (_:ip K C H0 H m h M) (_:atC M i c) (_:nU hs.fl c) (_:c.pl% 2=0) (_:H0 rl=some (.lst xr)) (_:aC K H0 xr @bn) (_:(∀r∈rs,iw hs.fl r)) (_:rs.length<=64) (_:∀M' H',Nt hs wf M i c l rs M'->aH H H'->ip K C H0 H' m h M'->Q .non H')
theorem Mj {C:Addr}(F:Z0 K "go_by_rule" mU f fd)(Y:xU K C)(lM:aU P w K mg base 1 "room_of" ["house","lift"] @dq)(jh:aU P w K mg base 1 "turns_of" ["house","lift"] @dr)(J4:aU P w K mg base 5 "view" ["sort","room","cabin","riders"] (yg K))(xw:aU P w K mg base 3 "steered" ["sort","floors","turns","cabin","word"] (ml K)):au P w K mg base aT 6 f fd ["moment","rule","lift","riders"] (DJ P w K mg base C):=by
 rwa[F.ok qh (by symm) (λam A outer s H vs Q E Z h=> ?_)];obtain ⟨m,ru,i,rl,h,hs,l,H0,M,c,xr,L,wf,rfl,hH,hl,ad,⟨dx,lc,lw,ll,xs,ys,zs,a⟩,O,W,ev,er,dr,av,a7,q⟩:=h;obtain ⟨t,hx,hi,ht,ah⟩:=a.atC O;have cl:=Y.i.cl;have f8:=hH.1.f8;obtain ⟨ph,bf,pb,B,bc,bq,bj,be⟩:=(hH.same a.s).at O.1 hl;obtain ⟨kC,al,an,ao,kr,ai,kM,kw,ks⟩:=ad;obtain ⟨U,z⟩:∃U:Nat,c.pl=2*(U:Int):=⟨(c.pl / 2).toNat,by have:=W.p0;lia⟩
 have ae:(U:Int)<hs.fl:=by have:=W.p1;lia
 have ab:Ql c.ps L:=⟨λp R=>⟨(W.gs p R).1,by have:=(W.gs p R).2;lia⟩,λr Z=>⟨(av r Z).s0,by have:=(av r Z).s1;lia⟩,W.len,a7⟩;have ag:pN c.ps:=⟨by have:=W.len;lia,λp R=>⟨(W.gs p R).1,by have:=(W.gs p R).2;lia⟩⟩;rwa[⟨_,(aa @a (aa @a (aa (bP (i:=6) qh.nd rfl @o (pi (n:=2) fX Z @c (wv 1) @E)) (ac @da)))),?_⟩];rwa[cj a cl Y.house (v:= .ref h) rfl ?_];rwa[cj a cl Y.cabins (v:= .ref lc) rfl ?_];rwa[bb @cE hi ?_];rwa[gR (a.s _ _ kr) ai kM ?_];rwa[ak B rfl ?_];rwa[mv.mk (g:=λl=> .int l.rm) _ _ _ _ rfl @gE O.1 hl ?_];rwa[yg.mk _ _ _ _ _ _ _ _ _ _ _ _ rfl ht (a.s _ _ er) (aC.same dr a.s) ab z @b λv u d H1 J hu hd af=> ?_];have a1:=a.same J;have sn:fo c.li (dY hs.so c.li (tk l.rm c.ps L U) (CG c.ps U) (A8 L U c.li)) u d:=⟨W.l0,W.l1,AO.1,AO.2,hu.nn,hd.nn⟩;rwa[ks H1 v U c.li _ u d _ _ (a1.s _ _ kr) (aB.of af) sn ?_];have I:=kw U _ _ _ _ sn;generalize S:wf U c.li (dY hs.so c.li (tk l.rm c.ps L U) (CG c.ps U) (A8 L U c.li)) u d=wd at I ⊢;rwa[ak (J.seqT B) rfl ?_];rwa[ak (J.seqT B) rfl ?_];rwa[mv.mk (g:=λl=> .int l.tn) _ _ _ _ rfl (hH.same a1.s) O.1 hl ?_];rwa[Ds (f0:=(U:Int)) (ht.same J) I ag z @b ae W.l0 W.l1 λr H2 s2 aj=> ?_];have a2:=a1.same s2;rwa[cj a2 cl Y.cabins (v:= .ref lc) rfl ?_];rwa[wD (j:=i.toNat) a2.ec (Fn O.1 ah) ?_];rwa[q (k6 M i (pT hs l c wd)) _ ⟨U,u,d,z,hu,hd,by rw [S]⟩ ((J.trans s2).st.trans (.updL a2.ec)) ⟨dx,lc,lw,ll,_,ys,zs,a2.setC (i:=i.toNat) (c:=pT hs l c wd) ⟨r,rfl,aj⟩⟩]
noncomputable def aG (i:Int)(M:MS):List aO:=M.ws.filter λr=>decide (r.lift=i)
def xY (hs:Hs)(wf:Wf)(M:MS)(i:Int)(c:Cb)(l:Lf)(M':MS):Prop:=if 0<c.dr then M'=tV hs M i c l @cr else if c.pl% 2=1 then M'=k6 M i ⟨c.pl+c.li,c.li,0,c.mr,c.ps⟩ else Nt hs wf M i c l @cr M'
section
variable {hs:Hs}{wf:Wf}{M M':MS}{i:Int}{c:Cb}{l:Lf}
theorem Sj (z:0<c.dr):xY hs wf M i c l (tV hs M i c l @cr):=by unfold xY;rw [if_pos z]
theorem Si (z: ¬0<c.dr)(U:c.pl% 2=1):xY hs wf M i c l (k6 M i ⟨c.pl+c.li,c.li,0,c.mr,c.ps⟩):=by unfold xY;rw [if_neg z,if_pos U]
theorem Sh (z: ¬0<c.dr)(U: ¬c.pl% 2=1)(h:Nt hs wf M i c l @cr M'):xY hs wf M i c l M':=by unfold xY;rw [if_neg z,if_neg U];exact h
end
inductive DD (P:Program)(w:World)(K:Fg)(mg:Str->Option Value)(base:Heap)(C:Addr)(vs:List V)(H:Hp)(Q:VK)(_e:XK):Prop
 |mk (m ru i h hs l H0 M c wf:_) (_:vs=[.ref m,.ref ru,.int i]) (_:me K H0 h hs) (_:hs.ls[i.toNat]? =some l) (_:CM P w K mg base H0 ru wf) (_:ip K C H0 H m h M) (_:atC M i c) (_:nU hs.fl c) (_:i<1000) (_:(∀r∈M.ws,iw hs.fl r)) (_:M.ws.length<=64) (_:M.log.length<=2000) (_:∀M' H',xY hs wf M i c l M'->aH H H'->ip K C H0 H' m h M'->Q .non H')
theorem Md {C:Addr}(F:Z0 K "go_without_fire" eQ f fd)(cM:xU K C)(ue:aU P w K mg base 4 "exchange" ["moment","lift","riders"] (DF K C))(cc:Z02 P w K mg base)(oN:aU P w K mg base 6 "go_by_rule" ["moment","rule","lift","riders"] (DJ P w K mg base C)):au P w K mg base aT 7 f fd ["moment","rule","lift"] (DD P w K mg base C):=by
 rwa[F.ok ik (by symm) (λan A outer s H vs Q E hr h=> ?_)];obtain ⟨m,ru,i,h,hs,l,H0,M,c,wf,rfl,hH,hl,ah,⟨dx,lc,lw,ll,xs,ys,zs,a⟩,hc,ok,i1,al,wl,gl,q⟩:=h;obtain ⟨t,hx,hi,ht,ai⟩:=a.atC hc;obtain ⟨b,bs,et,eb,db⟩:=id ht;have hT:=aB.of (K:=K) et;have cl:=cM.i.cl;have yl:ys.length=M.ws.length:=aE a.dw;rwa[⟨_,(aa @a (aa (i9 (i:=4) rfl ik.nd rfl @o (aD (N':=["rider","lift"]) (pk:=[none,some 2]) @m) @a @k @bm @Q) (ac (ax @a @H (ac (ax @a (ac @da) @H)))))),?_⟩];rwa[cj a cl cM.cabins (v:= .ref lc) rfl ?_];rwa[bb @cE hi ?_];rwa[cj a cl cM.waiting (v:= .ref lw) rfl ?_];rwa[cZ @gd ?_];rwa[cx (xs:=ys) (λj B I=>ao H I/\B.length<=j/\aC K I B (((M.ws.take j).filter λr=>decide (r.lift=i)).map aO.d)) @bq (λj B I h=>h.2.1) ⟨.refl _,Nat.le_refl _,.nil⟩ (λj B I _ h=>h.1.seq @gd) (λj y B I hy hP=> ?_) (λB I hP W n1=> ?_)]
 ·obtain ⟨R,ae,hd⟩:=hP;obtain ⟨r,aj,ab⟩:=bC (f:=aO.d) a.dw hy;obtain ⟨ra,rfl,ad⟩:=fD (bv.same ab R);have nx:=jd (λr:aO=>decide (r.lift=i)) aj;rwa[⟨cu,?_⟩];rwa[ak ad rfl ?_];show if decide (r.lift=i)=true then _ else _
  cases hb:decide (r.lift=i) with
  |true=>
   rw [if_pos rfl];rwa[⟨R,by rw [length_append];show _+1<=_;lia,?_⟩];rw [nx,hb,if_pos rfl,map_append];exact Paired.app hd (.cons (bv.same ab R) .nil)
  |false=>
   rw [if_neg @c];rwa[⟨R,by lia,?_⟩];rw [nx,hb,if_neg @c,append_nil];exact hd
 obtain ⟨R,ae,hd⟩:=hP;rw [yl,take_of_length_le @f] at hd;have S:ao I (upd I W (.lst B)):= .upd n1;have e2:upd I W (.lst B) W=some (.lst B):=ag;have d2:=aC.same hd S;generalize ap:upd I W (.lst B)=H2 at S e2 d2 ⊢;have O:=R.trans S;have Z:=a.same O;obtain ⟨aw,Y⟩:=Z.wide
 have nk:∀ {p:Addr} {o:HO},H p=some o->W≠p:=λ{p o} e z=>by rw [<-z] at e;rw [R _ _ e] at n1;cases n1
 have J:jq H2 m lc lw ll W=some (.lst B):=jf e2 (nk a.em) (nk a.ec) (nk a.ew) (nk a.el)
 have dC:aC K (jq H2 m lc lw ll) B ((aG i M).map aO.d):=by
  rwa[aH.dens (λb o z1 U e=> ?_) d2 (gO _)];exact jf e (λz=>by rw [z,Z.em] at e;cases e;exact U _ _ _ rfl) (λz=>by rw [z,Z.ec] at e;cases e;exact z1 _ rfl) (λz=>by rw [z,Z.ew] at e;cases e;exact z1 _ rfl) (λz=>by rw [z,Z.el] at e;cases e;exact z1 _ rfl)
 generalize am:jq H2 m lc lw ll=Hc at aw Y J dC;have aZ:ip K C Hc H2 m h M:=⟨dx,lc,lw,ll,xs,ys,zs,aw⟩;have av:∀r∈aG i M,iw hs.fl r:=λr hr=>al r ((mem_filter.mp hr).1);have a7:(aG i M).length<=64:=Nat.le_trans @bf wl;rwa[ak @eu rfl ?_];rwa[jy @s @s]
 ·have z:0<c.dr:=z;exact DF.mk _ _ _ _ _ _ _ _ _ _ _ rfl @gm hl aZ hc i1 ok.len gl @b ⟨c.pl / 2,by have:=ok.ev z;lia⟩ J dC ⟨a7,λr hr=>(av r hr).ne⟩ λH' st L=>q _ H' (Sj z) (O.st.trans st) (L.onto Y)
 have z: ¬0<c.dr:=z;rwa[ak @eu rfl ?_];rwa[⟨by decide,?_⟩];rwa[jy @eX @eX]
 ·have U:c.pl% 2=1:=U;rwa[ak @eu rfl ?_];rwa[ak @eu rfl ?_];rwa[ak @eu rfl ?_];rwa[d8.mk _ _ _ _ _ _ _ _ _ rfl (ht.same O) λr H3 s3 aj=> ?_];have a3:=Z.same s3;rwa[cj a3 cl cM.cabins (v:= .ref lc) rfl ?_];rwa[wD (j:=i.toNat) a3.ec (Fn hc.1 ai) ?_];exact q _ _ (Si z U) ((O.trans s3).st.trans (.updL a3.ec)) ⟨dx,lc,lw,ll,_,ys,zs,a3.setC (i:=i.toNat) (c:=⟨c.pl+c.li,c.li,0,c.mr,c.ps⟩) ⟨r,rfl,aj⟩⟩
 ·have U: ¬c.pl% 2=1:=U;exact DJ.mk _ _ _ _ _ _ _ _ _ _ _ _ _ rfl @gm hl (ah.same Y) aZ hc ok @b J dC av a7 λM' H' af st L=>q M' H' (Sh z U af) (O.st.trans st) (L.onto Y)
def CO (hs:Hs)(wf:Wf)(M:MS)(i:Int)(c:Cb)(l:Lf)(M':MS):Prop:=(c.mr.toNat.testBit 0=true/\M'=M)\/(c.mr.toNat.testBit 0=false/\M.fire=true/\M'=M)\/(c.mr.toNat.testBit 0=false/\M.fire=false/\xY hs wf M i c l M')
inductive Hj (P:Program)(w:World)(K:Fg)(mg:Str->Option Value)(base:Heap)(C:Addr)(vs:List V)(H:Hp)(Q:VK)(_e:XK):Prop
 |mk (m ru i h hs l H0 M c wf:_) (_:vs=[.ref m,.ref ru,.int i]) (_:me K H0 h hs) (_:hs.ls[i.toNat]? =some l) (_:CM P w K mg base H0 ru wf) (_:ip K C H0 H m h M) (_:atC M i c) (_:nU hs.fl c) (_:i<1000) (_:(∀r∈M.ws,iw hs.fl r)) (_:M.ws.length<=64) (_:M.log.length<=2000) (_:M.fire=false) (_:∀M' H',CO hs wf M i c l M'->aH H H'->ip K C H0 H' m h M'->Q .non H')
theorem OP {C:Addr}{U:Tok}(F:Z0 K "go" Rb f fd)(I:xU K C)(FB:mg "STUCK"=some (.int 0 U))(pf:Z03 P w K mg base)(gh:aU P w K mg base 7 "go_without_fire" ["moment","rule","lift"] (DD P w K mg base C)):au P w K mg base aT 8 f fd ["moment","rule","lift"] (Hj P w K mg base C):=by
 have z:ay (.int 0) (.int 0 U):=⟨_,rfl⟩;rwa[F.ok Ra (by symm) @u];obtain ⟨m,ru,i,h,hs,l,H0,M,c,wf,rfl,hH,hl,ad,R,Z,W,i1,al,wl,gl,hf,q⟩:=h;have j:=R;obtain ⟨dx,lc,lw,ll,xs,ys,zs,a⟩:=R;obtain ⟨t,hx,hi,ht,ae⟩:=a.atC Z;obtain ⟨b,bs,et,eb,db⟩:=id ht;have S:=I.i.cl;obtain ⟨J,B⟩:=Int.eq_ofNat_of_zero_le W.m0;rwa[⟨_,(aa (ax @a (ac HP) aq) (ac (ax @a @cq @H))),?_⟩];rwa[cj a S I.cabins (v:= .ref lc) rfl ?_];rwa[bb @cE hi ?_];rwa[ak (aB.of et) rfl ?_];rw [B]
 have Y:c.mr.toNat=J:=by rw [B];rfl
 erw[fB.mk _ 0 rfl @c ?_];by_cases O:J.testBit 0=true
 ·rwa[bO O ?_];exact q M H (.inl ⟨by rw [Y];exact O,rfl⟩) (.refl _) j
 ·have an:J.testBit 0=false:=by simpa using O
  rwa[aY an ?_];rwa[cj a S I.fire (v:= .bl M.fire) rfl ?_];rwa[aY hf ?_];exact DD.mk _ _ _ _ _ _ _ _ _ _ rfl hH hl ad j Z W i1 al wl gl λM' H' hg st L=>q M' H' (.inr (.inr ⟨by rw [Y];exact an,hf,hg⟩)) st L
inductive d6 (K:Fg)(H:Hp)(st:Addr)(cs:List Cb)(ws:List aO)(last:Int)(fire:Bool):Prop
 |mk (tc tw xs ys:_) (_:aB K H st [.ref tc,.ref tw,.int last,.bl fire]) (_:aB K H tc xs) (_:aB K H tw ys) (_:Paired (eh K H) xs cs) (_:aC K H ys @eL)
theorem d6.keep {H H':Hp}{st:Addr}{cs:List Cb}{ws:List aO}{last:Int}{j:Bool}(h:d6 K H st cs ws last j)(s:aH H H'):d6 K H' st cs ws last j:=by
 obtain ⟨tc,F,xs,ys,h1,h2,L,B,U⟩:=h;exact ⟨tc,F,xs,ys,s.sqT h1,s.sqT h2,s.sqT L,Paired.imp' (λx c z=>eh.keep z s) B,s.dens U (gO _)⟩
inductive DB (K:Fg)(vs:List V)(H:Hp)(Q:VK)(_e:XK):Prop
 |mk (a h st C dx tc tw xs ys last fire:_) (_:vs=[.ref a,.ref h,.ref st]) (_:H a=some (.ins C dx [])) (_:xU K C) (_:aB K H st [.ref tc,.ref tw,.int last,.bl fire]) (_:aB K H tc xs) (_:aB K H tw ys) (_:∀lc lw ll H',fq a H H'->H lc=none->H lw=none->H ll=none->lc≠lw->lc≠ll->lw≠ll->H' a=some (.ins C dx (sF h lc lw last fire 0 ll))->H' lc=some (.lst xs)->H' lw=some (.lst ys)->H' ll=some (.lst [])->Q .non H')
theorem fU {a:Addr}{H H':Hp}{C dx:Addr}{fs:List (Str×V)}(s:fq a H H')(e:H a=some (.ins C dx fs)){p:Addr}{xs:List V}(h:aB K H p xs):aB K H' p xs:=by
 rcases h with (h|⟨u,h⟩)|h
 ·exact .inl (.inl (s _ _ (λz=>by rw [z,e] at h;cases h) h))
 ·exact .inl (.inr ⟨u,s _ _ (λz=>by rw [z,e] at h;cases h) h⟩)
 ·exact .inr h
theorem EJ (F:bo K "__init__" "Moment.__init__" iI f fd)(cU:mg "list"=none):au P w K mg base aT 1 f fd ["self","house","state"] (DB K):=by
 rwa[F.ok uP (by symm) (λaD A outer s H vs Q E hr h=> ?_)];obtain ⟨a,h,st,C,dx,tc,tw,xs,ys,J,O,rfl,Y,S,h1,h2,h3,q⟩:=h;have U:=S.i.cl;rwa[⟨_,(aa @bD (aa (cI rfl (wv 0) @cj) (aa (cI rfl (wv 0) @cj) (aa @cZ (aa @cZ (aa (cI rfl (wv 0) bz) (ac (cI rfl (wv 0) (CZ ap))))))))),?_⟩];rwa[cL Y U S.house @c ?_];generalize W:upd H a _=H1
 have p1:fq a H H1:=by rw [<-W];exact λb o n e=>by rw [ai n];exact e
 have ae:H1 a=some (.ins C dx [(s!"house",.ref h)]):=by rw [<-W];exact ag
 clear W;rwa[ak (fU p1 Y h1) rfl ?_];rwa[gU (.inr (fU p1 Y h2)) λlc H2 s2 n2 e2=> ?_];have as:=s2 _ _ ae;rwa[cL as U S.cabins (by show 1<1000;decide) ?_];generalize ab:upd H2 a _=H3
 have p3:fq a H H3:=by rw [<-ab];exact λb o n e=>by rw [ai n];exact s2 _ _ (p1 b o n e)
 have ah:H3 a=some (.ins C dx [(s!"house",.ref h),(s!"cabins",.ref lc)]):=by rw [<-ab];exact ag
 have aR:lc≠a:=λz=>by rw [z,ae] at n2;cases n2
 have e3:H3 lc=some (.lst xs):=by rw [<-ab,ai aR];exact e2
 have al:H lc=none:=by
  cases y:H lc with
  |none=>rfl
  |some o=>rw [p1 _ _ aR y] at n2;cases n2
 clear ab;rwa[ak (fU p3 Y h1) rfl ?_];rwa[gU (.inr (fU p3 Y h3)) λlw H4 s4 Z e4=> ?_];have an:=s4 _ _ ah;rwa[cL an U S.waiting (by show 2<1000;decide) ?_];generalize L:upd H4 a _=H5
 have p5:fq a H H5:=by rw [<-L];exact λb o n e=>by rw [ai n];exact s4 _ _ (p3 b o n e)
 have am:H5 a=some (.ins C dx [(s!"house",.ref h),(s!"cabins",.ref lc),(s!"waiting",.ref lw)]):=by rw [<-L];exact ag
 have j:lw≠a:=λz=>by rw [z,ah] at Z;cases Z
 have aA:lc≠lw:=λz=>by rw [<-z,e3] at Z;cases Z
 have e5:H5 lw=some (.lst ys):=by rw [<-L,ai j];exact e4
 have ao:H5 lc=some (.lst xs):=by rw [<-L,ai aR];exact s4 _ _ e3
 have az:H lw=none:=by
  cases y:H lw with
  |none=>rfl
  |some o=>rw [p3 _ _ j y] at Z;cases Z
 clear L;rwa[ak (fU p5 Y h1) rfl ?_];rwa[cL am U S.last (by show 3<1000;decide) ?_];generalize I:upd H5 a _=H6
 have p6:fq a H H6:=by rw [<-I];exact λb o n e=>by rw [ai n];exact p5 b o n e
 have ay:H6 a=some (.ins C dx [(s!"house",.ref h),(s!"cabins",.ref lc),(s!"waiting",.ref lw),(s!"last",.int J)]):=by rw [<-I];exact ag
 have e6:H6 lw=some (.lst ys):=by rw [<-I,ai j];exact e5
 have aC:H6 lc=some (.lst xs):=by rw [<-I,ai aR];exact ao
 clear I;rwa[ak (fU p6 Y h1) rfl ?_];rwa[cL ay U S.fire (by show 4<1000;decide) ?_];generalize B:upd H6 a _=H7
 have p7:fq a H H7:=by rw [<-B];exact λb o n e=>by rw [ai n];exact p6 b o n e
 have ax:H7 a=some (.ins C dx [(s!"house",.ref h),(s!"cabins",.ref lc),(s!"waiting",.ref lw),(s!"last",.int J),(s!"fire",.bl O)]):=by rw [<-B];exact ag
 have e7:H7 lw=some (.lst ys):=by rw [<-B,ai j];exact e6
 have aB:H7 lc=some (.lst xs):=by rw [<-B,ai aR];exact aC
 clear B;rwa[cL ax U S.blocked (by show 5<1000;decide) ?_];generalize bn:upd H7 a _=H8
 have p8:fq a H H8:=by rw [<-bn];exact λb o n e=>by rw [ai n];exact p7 b o n e
 have af:H8 a=some (.ins C dx [(s!"house",.ref h),(s!"cabins",.ref lc),(s!"waiting",.ref lw),(s!"last",.int J),(s!"fire",.bl O),(s!"blocked",.int 0)]):=by rw [<-bn];exact ag
 have e8:H8 lw=some (.lst ys):=by rw [<-bn,ai j];exact e7
 have aj:H8 lc=some (.lst xs):=by rw [<-bn,ai aR];exact aB
 clear bn;rwa[jo (bA (by show 0<=1000000;decide)) λll H9 s9 R e9=> ?_];have aq:=s9 _ _ af;rwa[cL aq U S.log (by show 6<1000;decide) ?_]
 have ad:ll≠a:=λz=>by rw [z,af] at R;cases R
 have av:lc≠ll:=λz=>by rw [<-z,aj] at R;cases R
 have aw:lw≠ll:=λz=>by rw [<-z,e8] at R;cases R
 rwa[q lc lw ll _ (λb o n e=> ?_) al az ?_ aA av aw ag ?_ ?_ ?_]
 ·rw [ai n];exact s9 _ _ (p8 b o n e)
 ·cases y:H ll with
  |none=>rfl
  |some o=>rw [p8 _ _ ad y] at R;cases R
 ·rw [ai aR];exact s9 _ _ aj
 ·rw [ai j];exact s9 _ _ e8
 ·rw [ai ad];exact e9
unseal fY in
theorem Rn {C:Addr}{E:XK}{H:Hp}{h st:Addr}{cs:List Cb}{ws:List aO}{last:Int}{j:Bool}{Q:VK}(cM:xU K C)(hs:d6 K H st cs ws last j)(g:∀m H',ip K C H H' m h ⟨cs,ws,last,j,0,[]⟩->Q (.ref m) H'):fY C (DB K) E [.ref h,.ref st] H Q:=by
 show ∀a dx,H a=none->H dx=none->dx≠a->DB K (.ref a::([.ref h,.ref st]++[])) @l (λv H2=>v= .non/\Q (.ref a) H2) E;intro a dx h1 h2 h3;have B:ao H @l:=eL h1 h2;obtain ⟨tc,J,xs,ys,L,i2,W,i4,Z⟩:=hs;rwa[⟨a,h,st,C,dx,tc,J,xs,ys,last,j,rfl,ag,cM,B.seqT L,B.seqT i2,B.seqT W,λlc lw ll H' sp nc S U R F wl Y ec ew O=>⟨rfl,g a H' ?_⟩⟩];have I:ao H H':=λb o e=>sp b o (λz=>by rw [z,h1] at e;cases e) (B b o e);exact ⟨dx,lc,lw,ll,xs,ys,[],I,h1,none_of B nc,none_of B S,none_of B U,R,F,wl,Y,ec,ew,O,Paired.imp' (λx c z=>eh.keep z I.st) i4,aC.same Z I,.nil,rfl⟩
inductive Aq (K:Fg)(C:Addr)(vs:List V)(H:Hp)(Q:VK)(_e:XK):Prop
 |mk (m h H0 M:_) (_:vs=[.ref m]) (_:ip K C H0 H m h M) (_:∀st H',ao H H'->d6 K H' st M.cs M.ws M.last M.fire->Q (.ref st) H')
theorem LW {C:Addr}(F:Z0 K "state_of" qp f fd)(j:xU K C)(B:mg "tuple"=none):au P w K mg base aT 1 f fd ["moment"] (Aq K C):=by
 rwa[F.ok Bs (by symm) @bS];obtain ⟨m,h,H0,M,rfl,⟨dx,lc,lw,ll,xs,ys,zs,a⟩,q⟩:=h;have S:=j.i.cl;rwa[⟨_,(ac (aj (fJ (ar (aM @eK rfl B boot_tuple @E) (ar (aM @eK rfl B boot_tuple @E) (ar @a @E)))))),?_⟩];rwa[cj a S j.cabins (v:= .ref lc) rfl ?_];rwa[jL @cE λtc H1 J n1 R=> ?_];have U:=a.same J;rwa[cj U S j.waiting (v:= .ref lw) rfl ?_];rwa[jL (aA.of U.ew) λW H2 O n2 e2=> ?_];have Z:=U.same O;rwa[cj Z S j.last (v:= .int M.last) rfl ?_];rwa[cj Z S j.fire (v:= .bl M.fire) rfl ?_];rwa[bX (bA (by show 4<=1000000;decide)) λst I L n3 e3=> ?_];have z:=Z.same L;exact q st I (J.trans (O.trans L)) ⟨tc,W,xs,ys,aB.of e3,aB.of (L _ _ (O _ _ R)),aB.of (L _ _ e2),z.dc,z.dw⟩
structure rZ (hs:Hs)(n:Nat)(M:MS):Prop where
 len:M.cs.length=hs.ls.length
 cs:∀c∈M.cs,nU hs.fl c
 ws:∀r∈M.ws,iw hs.fl r
 sum:M.log.length+M.ws.length<=n
theorem AB {α:Type}{l:List α}{i:Nat}{x y:α}(h:y∈l.set i x):y∈l\/y=x:=mem_or_eq_of_mem_set h
theorem rZ.deed {hs:Hs}{n:Nat}{M:MS}(o:rZ hs n M){d:Dd}(B:d.fit hs.fl hs.ls.length):rZ hs (n+1) (tZ hs.lo M d):=by
 have j:∀ {M':MS},rZ hs n M'->rZ hs (n+1) M':=λz=>⟨z.len,z.cs,z.ws,by have:=z.sum;lia⟩
 cases d with
 |come t s g k=>
  obtain ⟨W,J,Y,Z,L⟩:=B;show rZ hs (n+1) (fj hs.lo M t s g k);unfold fj;have F:=o.sum;split
  ·exact ⟨o.len,o.cs,o.ws,by show (M.log++_).length+M.ws.length<=_;rw [length_append];simp;lia⟩
  split
  ·exact ⟨o.len,o.cs,o.ws,by show (M.log++_).length+M.ws.length<=_;rw [length_append];simp;lia⟩
  ·rwa[⟨o.len,o.cs,λr S=> ?_,by show M.log.length+(M.ws++_).length<=_;rw [length_append];simp;lia⟩]
   rcases mem_append.mp S with z|z
   ·exact o.ws r z
   ·rw [mem_singleton.mp z];exact ⟨W,J,Y,Z,L⟩
 |lf x i=>exact j ⟨o.len,o.cs,o.ws,o.sum⟩
 |sg x=>exact False.elim B
theorem rZ.dealt {hs:Hs}{n:Nat}{M:MS}(o:rZ hs n M){dl:vZ}{p:Nat}{r:aO}(S:iw hs.fl r):rZ hs (n+1) @gC:=by
 unfold gc;have j:=o.sum;split
 ·exact ⟨o.len,o.cs,o.ws,by show M.log.length+M.ws.length<=_;lia⟩
 ·rwa[⟨o.len,o.cs,λs B=> ?_,by show (M.log++_).length+(M.ws.set _ _).length<=_;rw [length_append,length_set];simp;lia⟩]
  rcases AB B with z|z
  ·exact o.ws s z
  ·rw [z];exact ⟨S.s0,S.s1,S.g0,S.g1,S.ne⟩
theorem rZ.deals {hs:Hs}{n:Nat}{M:MS}(o:rZ hs n M){dl:vZ}{W:List aO}(B:∀r∈W,iw hs.fl r):∀i,rZ hs (n+i) @gD
 |0=>o
 |i+1=>by
  have h:=rZ.deals (dl:=dl) o B i;unfold aQ;split
  ·rename_i r S;split
   ·exact h.dealt (B r (mem_of_getElem? S))
   ·exact ⟨h.len,h.cs,h.ws,by have:=h.sum;lia⟩
  ·exact ⟨h.len,h.cs,h.ws,by have:=h.sum;lia⟩
def GJ (hs:Hs)(wf:Wf):Nat->MS->MS->Prop
 |0,M,M'=>M'=M
 |i+1,M,M''=>∃M' c l,GJ hs wf i M M'/\atC M' (i:Int) c/\hs.ls[i]? =some l/\CO hs wf M' (i:Int) c l M''
structure jG (hs:Hs)(M0:MS)(i:Nat)(M:MS):Prop where
 len:M.cs.length=M0.cs.length
 cs:∀j,i<=j->M.cs[j]? =M0.cs[j]?
 ws:∀r∈M.ws,r∈M0.ws
 wl:M.ws.length<=M0.ws.length
 log:M.log.length<=M0.log.length+128*i
 fire:M.fire=M0.fire
theorem jG.set {hs:Hs}{z M:MS}{i:Nat}(o:jG hs z i M){c:Cb}{lg:List D}{ws:List aO}(B:∀r∈ws,r∈M.ws)(W:ws.length<=M.ws.length)(F:lg.length<=M.log.length+128):jG hs z (i+1) {M with cs:=M.cs.set i c,ws:=ws,log:=lg}:=by
 rwa[⟨by rw [length_set];exact o.len,λj Z=> ?_,λr S=>o.ws r (B r S),Nat.le_trans W o.wl,by have:=o.log;show lg.length<=_;lia,o.fire⟩];rw [getElem?_set_ne @b];exact o.cs j @b
theorem jG.go {hs:Hs}{wf:Wf}{F M M':MS}{i:Nat}{c:Cb}{l:Lf}(o:jG hs F i M)(J:c.ps.length<=64)(L:M.ws.length<=64)(h:CO hs wf M (i:Int) c l M'):jG hs F (i+1) M':=by
 have z:jG hs F (i+1) M:=⟨o.len,λj Z=>o.cs j @b,o.ws,o.wl,by have:=o.log;lia,o.fire⟩
 have e:((i:Int)).toNat=i:=by lia
 have B:∀I,jG hs F (i+1) (k6 M (i:Int) I):=λI=>by
  have:=o.set (c:=I) (lg:=M.log) (ws:=M.ws) (λr h=>h) @f @b;unfold k6;rw [e];exact this
 rcases h with ⟨_,rfl⟩|⟨_,_,rfl⟩|⟨_,_,h⟩
 ·exact z
 ·exact z
 ·unfold xY at h;split at h
  ·rw [h];unfold tV k6 zp;rw [e];rwa[o.set (λr h=>(mem_filter.mp h).1) @bf ?_];rw [length_append,length_append,length_map,length_map];have h1:=wV (pl:=c.pl) (ps:=c.ps);have h2:=xo (hs:=hs) (c:=c) (l:=l) (rs:=aG (i:Int) M);have O:(aG (i:Int) M).length<=M.ws.length:=length_filter_le _ _;lia
  split at h
  ·rw [h];exact B _
  ·obtain ⟨U,u,d,_,_,_,rfl⟩:=h;exact B _
noncomputable def Og:Dd->List Int
 | .come t _ _ _=>[t]
 |_=>[]
def zB (fl:Int)(n:Nat):List Int->List Dd->Prop
 |_,[]=>True
 |ts,d::ds=>d.fit fl n/\(∀t∈Og d,t∉ts)/\zB fl n (ts++Og d) ds
theorem zA {fl:Int}{n:Nat}:∀ {ds:List Dd} {ts:List Int},zB fl n ts ds->∀d∈ds,d.fit fl n
 |[],_,_,d,J=>by cases J
 |e::ds,ts,h,d,J=>by
  rcases mem_cons.mp J with rfl|J
  ·exact h.1
  ·exact zA h.2.2 d J
noncomputable def aV (cs:List Cb)(ws:List aO):List Int:=ws.map (·.tag)++cs.flatMap λc=>c.ps.map (·.1)
def xS (K:Fg)(H:Hp)(p:Addr)(ds:List Dd):Prop:=∃xs,aA K H p xs/\Paired (λx d=>∃a,x=V.ref a/\vT H a d) xs ds
inductive Ar (K:Fg)(vs:List V)(H:Hp)(Q:VK)(_e:XK):Prop
 |mk (h st dl hs cs ws last fire ds:_) (_:vs=[.ref h,.ref st,.ref dl]) (_:me K H h hs) (_:d6 K H st cs ws last fire) (_:xS K H dl ds) (_:ws.length<=64) (_:(∀c∈cs,c.ps.length<=64)) (_:cs.length<=10) (_:ds.length<=100) (_:zB (Hs.fl hs) hs.ls.length @cP ds) (_:∀H',ao H H'->Q .non H')
structure GU (K:Fg)(C:Addr):Prop where
 i:gm K C
 house:aN K C "house"
 rule:aN K C "rule"
 dealer:aN K C "dealer"
abbrev nG (h ru df:Addr):List (Str×V):=[(s!"house",.ref h),(s!"rule",.ref ru),(s!"dealer",.ref df)]
noncomputable def aP (lo:Nat)(M:MS)(ds:List Dd):MS:=ds.foldl (tZ lo) M
noncomputable def oX (dl:vZ)(M:MS):MS:=aQ dl M.ws M.ws.length M
theorem oA {lo:Nat}:∀ {ds:List Dd} {M:MS},(aP lo M ds).fire=M.fire
 |[],M=>rfl
 |d::ds,M=>(oA (ds:=ds) (M:=tZ lo M d)).trans Cp
inductive yh (P:Program)(w:World)(K:Fg)(mg:Str->Option Value)(base:Heap)(GG:Hp->Prop)(pre:List Cb->List aO->aO->Int->Prop)(dl:vZ)(vs:List V)(H:Hp)(Q:VK)(_e:XK):Prop
 |mk (a st dp C dx h ru df hs wf cs ws last ds:_) (_:vs=[.ref a,.ref st,.ref dp]) (_:H a=some (.ins C dx @ff)) (_:GU K C) (_:me K H h hs) (_:CM P w K mg base H ru wf) (_:ko P w K mg base 5 df @fj) (_:GG H) (_:d6 K H st cs ws last false) (_:xS K H dp ds) (_:rZ hs ws.length ⟨cs,ws,last,false,0,[]⟩) (_:ws.length+ds.length<=64) (_:zB (Hs.fl hs) hs.ls.length @cP ds) (_:(∀i r,(aP hs.lo ⟨cs,ws,last,false,0,[]⟩ ds).ws[i]? =some r->r.lift= -1->pre (aQ dl (aP hs.lo ⟨cs,ws,last,false,0,[]⟩ ds).ws i @q).cs (aQ dl (aP hs.lo ⟨cs,ws,last,false,0,[]⟩ ds).ws i @q).ws r (aQ dl (aP hs.lo ⟨cs,ws,last,false,0,[]⟩ ds).ws i @q).last)) (_:(∀r st' ll M' H',aI H H'->GG H'->H' r=some (.tup [.ref st',.ref ll])->d6 K H' st' M'.cs M'.ws M'.last M'.fire->GJ hs wf hs.ls.length (oX dl @q) M'->Q (.ref r) H'))
theorem rq {lo:Nat}{M:MS}{ds:List Dd}{i:Nat}{d:Dd}(h:ds[i]? =some d):aP lo M (ds.take (i+1))=tZ lo (aP lo M @fy) d:=by
 unfold aP;rw [take_add_one,h,foldl_append];rfl
theorem rZ.deeds {hs:Hs}{n:Nat}{M:MS}(o:rZ hs n M):∀ {ds:List Dd},(∀d∈ds,d.fit hs.fl hs.ls.length)->∀i,rZ hs (n+i) (aP hs.lo M @fy)
 |ds,h,0=>by
  rw [take_zero];exact o
 |ds,h,i+1=>by
  have z:=rZ.deeds o h i
  cases e:ds[i]? with
  |none=>
   rw [take_add_one,e];simp only [Option.toList_none,append_nil];exact ⟨z.len,z.cs,z.ws,by have:=z.sum;lia⟩
  |some d=>
   rw [rq e];have:=h d (mem_of_getElem? e);exact z.deed this
theorem JX {H H':Hp}(s:aI H H'){a:Addr}{h:Hs}(c:me K H a h):me K H' a h:=by
 obtain ⟨o,p,xs,h1,h2,L⟩:=c;exact ⟨o,p,xs,s.sqT h1,s.sqT h2,Paired.imp' (λx l ⟨b,e,z⟩=>⟨b,e,s.sqT z⟩) L⟩
theorem JM {H H':Hp}(s:aI H H'){a:Addr}{wf:Wf}(r:CM P w K mg base H a wf):CM P w K mg base H' a wf:=by
 obtain ⟨C,dx,fs,sp,h1,h2,L,j,U⟩:=r;exact ⟨C,dx,fs,sp,s _ _ (λ_ z=>by cases z) h1,h2,L,j,U⟩
theorem nY {H H':Hp}(s:aI H H'){st:Addr}{cs:List Cb}{ws:List aO}{last:Int}{j:Bool}(h:d6 K H st cs ws last j):d6 K H' st cs ws last j:=by
 obtain ⟨tc,F,xs,ys,h1,h2,L,B,U⟩:=h;exact ⟨tc,F,xs,ys,s.sqT h1,s.sqT h2,s.sqT L,Paired.imp' (λx c z=>eh.nt s z) B,s.dens U⟩
theorem Iq {U:Addr}{GG:Hp->Prop}{pre:List Cb->List aO->aO->Int->Prop}{dl:vZ}(gT:GT GG)(F:bo K "turn" "Court.turn" gN f fd)(cM:xU K U)(bp:mg "len"=none)(aK:mg "range"=none)(fF:aU P w K mg base 7 "need_deeds" ["house","state","deeds"] (Ar K))(lz:i6 P w K mg base aT 1 "Moment" U (DB K))(lQ:aU P w K mg base 5 "do_deed" ["moment","deed"] (Hk K U))(jj:aU P w K mg base 7 "deal_all" ["moment","dealer"] (kR P w K mg base U GG pre dl))(bh:aU P w K mg base 8 "go" ["moment","rule","lift"] (Hj P w K mg base U))(ji:aU P w K mg base 1 "state_of" ["moment"] (Aq K U)):au P w K mg base aT 9 f fd ["self","state","deeds"] (yh P w K mg base GG pre dl):=by
 rwa[F.ok oj (by symm) (λbk A outer s H vs Q E hr h=> ?_)];obtain ⟨a,st,dp,C,dx,h,ru,df,hs,wf,cs,ws,aC,ds,rfl,ea,cC,hH,a9,ay,a2,aw,aM,ab,bs,ai,J,q⟩:=h;have O:=cC.i.cl;have cl:=cM.i.cl;have l3:=hH.1.l3
 have aD:cs.length<=10:=by have:=ab.len;have:cs.length=hs.ls.length:=this;lia
 have aG:∀c∈cs,c.ps.length<=64:=λc hc=>(ab.cs c hc).len;rwa[⟨_,(aa @dp (aa (bP (i:=3) oj.nd rfl @o (gv lz fX hr @c rfl @gn)) (aa (cf PassesOwn.never rfl @a @a @H) (gP (ax (b7 @a) @H aq) (aa (cf PassesOwn.never rfl @cx @a @H) @g))))),?_⟩];rwa[dI ea O cC.house (v:= .ref h) rfl ?_];rwa[Ar.mk _ _ _ _ _ _ _ _ _ rfl hH aw aM @b aG aD @b ai λH1 Y=> ?_];have aJ:=zA ai;obtain ⟨xd,aX,pd⟩:=aM;have ae:=Y _ _ ea;rwa[dI ae O cC.house (v:= .ref h) rfl ?_];rwa[Rn cM (aw.keep Y.st) λm H2 aZ=> ?_];have aY:=gT _ _ (Y.trans aZ.s).st a2;have be:=aZ.s.st;have aZ:=aZ.onto (qO H1);have aB:=E2 H1;have s2:=aZ.s;have ae:=qP ae (λ_ z=>by cases z);generalize aE:(⟨cs,ws,aC,false,0,[]⟩:MS)=M0 at aZ ab J q
 have bb:M0.fire=false:=by rw [<-aE]
 have bw:M0.ws.length=ws.length:=by rw [<-aE]
 have am:=(E3 H1).sqL (Y.seq aX);rwa[cZ (s2.seq am) ?_];have xl:xd.length=ds.length:=pd.len;have ao:=JX (E3 H1) @gm;have ag:=JM (E3 H1) (a9.same Y);have bf:aH (xX H1) H1:=(qO H1).st;generalize a1:xX H1=Hb at aZ aB s2 ae am ao ag bf;have aV:∀i,rZ hs (ws.length+i) (aP hs.lo M0 @fy):=λi=>ab.deeds aJ i;rwa[eN (xs:=xd) (λi σ L=>ip K U Hb L m h (aP hs.lo M0 @fy)/\aH H1 L/\GG L/\∃S R,σ=[some (.ref a),some (.ref st),some (.ref dp),some (.ref m),S,R]) ⟨by rw [take_zero];exact aZ,be,aY,_,_,rfl⟩ (λi σ L _ W=>W.1.s.seq am) (λi x σ L hx W=> ?_) (λσ L W=> ?_)]
 ·obtain ⟨hM,af,gX,S,R,rfl⟩:=W;obtain ⟨d,hd,ad,rfl,a6⟩:=pd.get1 hx;have il:i<ds.length:=(List.getElem?_eq_some_iff.mp hd).1;have mo:=aV i;have sm:=mo.sum;rwa[Hk.mk _ _ _ _ _ _ _ rfl ((hH.same Y).keep af) ((a6.same Y).keep af) (aJ d (mem_of_getElem? hd)) hM @b @b λH' j I=> ?_];rw [<-rq hd] at I;exact ⟨I,af.trans j,gT _ _ j gX,_,_,rfl⟩
 obtain ⟨hM,af,gX,S,R,rfl⟩:=W;rw [xl,take_of_length_le @f] at hM;have mo:=aV ds.length;rw [take_of_length_le @f] at mo;have as:(aP hs.lo M0 ds).fire=false:=oA.trans bb;generalize bB:aP hs.lo M0 ds=Z at hM mo J q as;have bn:=mo.sum;have aL:=hM;obtain ⟨bv,bx,bC,bj,bz,br,bi,ma⟩:=hM;rwa[zP (λσ H3=>ip K U Hb H3 m h (oX dl Z)/\GG H3/\∃S R,σ=[some (.ref a),some (.ref st),some (.ref dp),some (.ref m),S,R]) ?_ ?_]
 ·ext;rwa[cj ma cl cM.fire (v:= .bl Z.fire) rfl ?_];rwa[bO (by rw [as];rfl) ?_];rwa[dI (aL.s _ _ ae) O cC.dealer (v:= .ref df) rfl ?_];exact kR.mk _ _ _ _ _ rfl ay gX aB aL @b @b (by rw [mo.len];lia) J λH' j gY I=>⟨I,gY,_,_,rfl⟩
 rintro σ' H3 ⟨aI,g3,S,R,rfl⟩;have B:rZ hs (ws.length+ds.length+Z.ws.length) (oX dl Z):=mo.deals mo.ws Z.ws.length;have h1:(oX dl Z).ws.length=Z.ws.length:=(fh _).1;have aQ:(oX dl Z).fire=false:=(oB _).trans as;generalize bg:oX dl Z=M2 at aI B q h1 aQ
 have bu:M2.ws.length<=64:=by lia
 have bt:=B.sum;have s3:=aI.s;rwa[dI (s3 _ _ ae) O cC.house (v:= .ref h) rfl ?_];obtain ⟨_,ph,bm,bd,bc,bq⟩:=ao.same s3;rwa[ak bd rfl ?_];rwa[eJ bc ?_];rw [bq.len];rwa[⟨⟨by lia,by lia⟩,?_⟩];rwa[cr (λi σ L=>∃M',ip K U Hb L m h M'/\GJ hs wf i M2 M'/\jG hs M2 i M'/\GG L/\∃S R,σ=[some (.ref a),some (.ref st),some (.ref dp),some (.ref m),S,R]) ⟨M2,aI,rfl,⟨rfl,λ_ _=>rfl,λ_ h=>h,Nat.le_refl _,by lia,rfl⟩,g3,_,_,rfl⟩ (λi σ L hi W=> ?_) (λσ L W=> ?_)]
 ·obtain ⟨M',I,hg,ah,av,S,R,rfl⟩:=W
  have i0:(0:Int)+(i:Nat)=((i:Nat):Int):=by lia
  rw [i0]
  have il:i<hs.ls.length:=by lia
  have hl:hs.ls[i]? =some hs.ls[i]:=getElem?_eq_getElem il
  have ic:i<M2.cs.length:=by rw [B.len];exact il
  have hc:M'.cs[i]? =some M2.cs[i]:=by rw [ah.cs i @f];exact getElem?_eq_getElem ic
  have al:nU hs.fl M2.cs[i]:=B.cs _ (getElem_mem ic);have az:atC M' (i:Int) M2.cs[i]:=⟨by lia,by rw [show ((i:Int)).toNat=i by lia];exact hc⟩
  have aW:M'.ws.length<=64:=by have:=ah.wl;lia
  rwa[dI (I.s _ _ ae) O cC.rule (v:= .ref ru) rfl ?_];rwa[Hj.mk _ _ _ _ _ _ _ _ _ _ rfl ao (by rw [show ((i:Int)).toNat=i by lia];exact hl) ag I az al @b (λr hr=>B.ws r (ah.ws r hr)) aW (by have:=ah.log;lia) (ah.fire.trans aQ) λM'' H' aA j aN=> ?_];exact ⟨M'',aN,⟨M',_,_,hg,az,hl,aA⟩,ah.go al.len aW aA,gT _ _ j av,_,_,rfl⟩
 obtain ⟨M',I,hg,ah,av,S,R,rfl⟩:=W;rw [show ((hs.ls.length:Int)).toNat=hs.ls.length by lia] at hg;obtain ⟨a0,ba,a7,an,a5,a4,a3,fa⟩:=I;rwa[Aq.mk _ _ _ _ rfl ⟨a0,ba,a7,an,a5,a4,a3,fa⟩ λj H4 s4 aS=> ?_];have aR:=fa.same s4;rwa[cj aR cl cM.log (v:= .ref an) rfl ?_];rwa[bX (bA (by show 2<=1000000;decide)) λr H5 s5 n5 e5=> ?_];have a8:=aR.same s5;exact q r j an M' H5 (Y.nt.trans (Mn (by rw [a1];exact a8.s))) (gT _ _ (s4.trans s5).st av) e5 (aS.keep s5.st) hg
def xR (K:Fg)(H:Hp)(a:Addr)(fl:Int)(n:Nat):Prop:=∃p c0 so ls,aB K H a [.int fl,.ref p,c0,so]/\aB K H p ls/\ls.length=n/\2<=fl/\fl<=8/\1<=n/\n<=3
theorem xR.same {H H':Hp}{a:Addr}{fl:Int}{n:Nat}(h:xR K H a fl n)(s:ao H H'):xR K H' a fl n:=by
 obtain ⟨p,W,S,j,h1,h2,r⟩:=h;exact ⟨p,W,S,j,s.seqT h1,s.seqT h2,r⟩
theorem me.at' {H:Hp}{h:Addr}{hs:Hs}(c:me K H h hs):xR K H h hs.fl hs.ls.length:=by
 obtain ⟨o,p,xs,h1,h2,L⟩:=c;exact ⟨p,_,_,xs,h1,h2,L.len,o.f2,o.f8,o.l1,o.l3⟩
inductive kN (K:Fg)(vs:List V)(H:Hp)(Q:VK)(_e:XK):Prop
 |mk (h fl n i:_) (_:vs=[.ref h,.int i]) (_:xR K H h fl n) (_:0<=i) (_:i<fl) (_:Q .non H)
theorem BR (F:Z0 K "need_floor" jT f fd):au P w K mg base aT 1 f fd ["house","floor"] (kN K):=by
 rwa[F.ok wJ (by symm) (λj A outer s H vs Q E J h=> ?_)];obtain ⟨h,fl,n,i,rfl,⟨p,W,S,O,L,z,Z,R,B,I,Y⟩,z1,U,q⟩:=h;rwa[⟨_,(ac @bw),?_⟩];left;exact q
inductive uE (K:Fg)(vs:List V)(H:Hp)(Q:VK)(_e:XK):Prop
 |mk (h fl:_) (n:Nat) (i:Int) (_:vs=[.ref h,.int i]) (_:xR K H h fl n) (_:0<=i) (_:i<(n:Int)) (_:Q .non H)
theorem EI (F:Z0 K "need_lift" mN f fd)(bp:mg "len"=none):au P w K mg base aT 1 f fd ["house","lift"] (uE K):=by
 rwa[F.ok yA (by symm) (λj A outer s H vs Q E Y h=> ?_)];obtain ⟨h,fl,n,i,rfl,⟨p,I,S,B,J,L,W,Z,O,R,n3⟩,z1,U,q⟩:=h
 have z:(B.length:Int)=n:=by rw [W]
 rwa[⟨_,(ac @bw),?_⟩];left;exact q
inductive kL (K:Fg)(vs:List V)(H:Hp)(Q:VK)(_e:XK):Prop
 |mk (h fl n st go:_) (_:vs=[.ref h,.int st,.int go]) (_:xR K H h fl n) (_:0<=st) (_:st<fl) (_:0<=go) (_:go<fl) (_:st≠go) (_:Q .non H)
theorem EH (F:Z0 K "need_ride" mM f fd)(I:aU P w K mg base 1 "need_floor" ["house","floor"] (kN K)):au P w K mg base aT 2 f fd ["house","start","goal"] (kL K):=by
 rwa[F.ok yz (by symm) @be];obtain ⟨h,fl,n,st,B,rfl,j,W,J,Y,Z,L,q⟩:=h;rwa[⟨_,(aa @dp (aa @dp (ac @el))),?_⟩];rwa[kN.mk _ _ _ _ rfl j W J ?_];rwa[kN.mk _ _ _ _ rfl j Y Z ?_];left;exact q
inductive yj (K:Fg)(vs:List V)(H:Hp)(Q:VK)(_e:XK):Prop
 |mk (h fl n a d:_) (_:vs=[.ref h,.ref a]) (_:xR K H h fl n) (_:vT H a d) (_:Dd.fit fl n d) (_:∀H',ao H H'->Q .non H')
theorem IA (F:Z0 K "need_deed" mP f fd)(ib:aU P w K mg base 2 "need_ride" ["house","start","goal"] (kL K))(rG:aU P w K mg base 1 "need_lift" ["house","lift"] (uE K)):au P w K mg base aT 3 f fd ["house","deed"] (yj K):=by
 rwa[F.ok yB (by symm) (λW A outer s H vs Q E hr h=> ?_)];obtain ⟨h,fl,n,a,d,rfl,j,⟨U,ok⟩,z,q⟩:=h;have L:=aB.of (K:=K) U;rwa[⟨_,(ac (ax @a @H (ac (ax (bY (pj rfl) @a @a @U) @H aq)))),?_⟩]
 cases d with
 |come t s g k=>
  have L:aB K H a [.str An,.int t,.int s,.int g,.bl k]:=L;obtain ⟨s0,J,Y,Z,O⟩:=z;rwa[ak L rfl ?_];rwa[bO rfl ?_];left;exact kL.mk _ _ _ _ _ rfl j s0 J Y Z O (q _ (.refl _))
 |lf x i=>
  obtain ⟨B,I,S⟩:=z;have L:aB K H a [.str x,.int i]:=L;rwa[ak L rfl ?_];rwa[iT (by rw [B];decide+kernel) ?_];rwa[ak L rfl ?_];rwa[bX (bA (by show 2<=1000000;decide)) λl1 H1 J n1 R=> ?_];rwa[tG (aB.of R) rfl rfl ?_];rw [show vw (.str x) [.str "fire",.str "calm"]=false by rw [B];rfl];rwa[bO rfl ?_];rwa[ak (J.seqT L) rfl ?_];exact uE.mk _ _ _ _ rfl (j.same J) I S (q _ J)
 |sg x=>exact False.elim z
inductive pV (K:Fg)(vs:List V)(H:Hp)(Q:VK)(_e:XK):Prop
 |mk (st cs ws last fire:_) (_:vs=[.ref st]) (_:d6 K H st cs ws last fire) (_:ws.length<=64) (_:(∀c∈cs,c.ps.length<=64)) (_:cs.length<=10) (_:∀l H',ao H H'->H' l=some (.lst ((aV cs ws).map V.int))->Q (.ref l) H')
theorem rn {cs:List Cb}(h:∀c∈cs,c.ps.length<=64):(cs.flatMap λc=>c.ps.map (·.1)).length<=64*cs.length:=by
 induction cs with
 |nil=>simp
 |cons c cs ih=>
  rw [flatMap_cons,length_append,length_map,length_cons];have:=h c (.head _);have:=ih λc I=>h c (.tail _ I);lia
theorem Ir (F:Z0 K "tags_in" uW f fd):au P w K mg base aT 1 f fd ["state"] (pV K):=by
 rwa[F.ok wE (by symm) (λam A outer s H vs Q E hr h=> ?_)];obtain ⟨st,Y,J,ai,af,rfl,⟨tc,tw,xs,ys,h1,h2,h3,h4,h5⟩,wl,Z,cl,q⟩:=h;have yl:ys.length=J.length:=aE h5;have xl:xs.length=Y.length:=h4.len;rwa[⟨_,(aa (i9 (i:=1) rfl wE.nd rfl @o @Y @a @n @z @Q) (aa (cf PassesOwn.never rfl @a @a (ac (aF (ij rfl PySem.F.plainAttrs_list PySem.F.slot_list_extend PySem.F.type_list_extend pP (wv 1) (ar (bG rfl (aD (N':=["tag","goal"]) (pk:=[none,none]) @m) @a @v @z @Q) ap))))) @eU)),?_⟩];rwa[ak h1 rfl ?_];rwa[dN h3 ?_];rwa[cW (xs:=ys) (λj B z=>ao H z/\B=((J.take j).map (·.tag)).map V.int) @bq (λj B z h=>by rw [h.2,length_map,length_map,length_take];exact Nat.min_le_left _ _) ⟨.refl _,rfl⟩ (λj B z _ h=>h.1.seqT h3) @ck (λB z O l n=> ?_)]
 ·obtain ⟨R,rfl⟩:=O;obtain ⟨r,ab,dr⟩:=bC (f:=aO.d) h5 hy;obtain ⟨ra,rfl,hT⟩:=fD (bv.same dr R);rwa[ju hT rfl ?_];rwa[⟨kE,?_⟩];rwa[⟨R,?_⟩];rw [take_add_one,ab,map_append,map_append];rfl
 obtain ⟨R,rfl⟩:=O;rw [yl,take_of_length_le @f];have s2:ao z (upd z l (.lst ((J.map (·.tag)).map V.int))):= .upd n;have e2:upd z l (.lst ((J.map (·.tag)).map V.int)) l=some (.lst ((J.map (·.tag)).map V.int)):=ag;generalize an:upd z l (.lst ((J.map (·.tag)).map V.int))=H2 at s2 e2 ⊢;have n0:H l=none:=none_of R n;have L:=R.trans s2;rwa[ak (L.seqT h1) rfl ?_];rwa[dN (L.seqT h2) ?_];rwa[rj (xs:=xs) (λi σ I=>ao H I/\I l=some (.lst ((J.map (·.tag)++(Y.take i).flatMap λc=>c.ps.map (·.1)).map V.int))/\∃o2 o3 o4 o5 o6,σ=[some (.ref st),some (.ref l),o2,o3,o4,o5,o6]) ⟨L,by rw [take_zero,flatMap_nil,append_nil];exact e2,_,_,_,_,_,rfl⟩ (λi σ I _ W=>W.1.seqT h2) (λi x σ I hx W=> ?_) (λσ I W=> ?_)]
 ·obtain ⟨sY,U,o2,o3,o4,o5,o6,rfl⟩:=W;obtain ⟨c,hc,t,rfl,ad⟩:=h4.get1 hx;obtain ⟨b,bs,et,eb,db⟩:=ad.keep sY.st;have bl:bs.length=c.ps.length:=aE db;have ah:=Z c (mem_of_getElem? hc);rwa[ju (aB.of et) rfl ?_];rwa[⟨.inl ⟨rfl,_,aA.of U⟩,?_⟩];rwa[dN @eW ?_];rwa[cW (xs:=bs) (λj B z=>ao I z/\B=((c.ps.take j).map (·.1)).map V.int) @bq (λj B z h=>by rw [h.2,length_map,length_map,length_take];exact Nat.min_le_left _ _) ⟨.refl _,rfl⟩ (λj B z _ h=>h.1.seqT @eW) @ck (λB HZ O l3 n3=> ?_)]
  ·obtain ⟨R,rfl⟩:=O;obtain ⟨p,pt,hp,rfl,ae⟩:=lr db hy;rwa[ju (R.seqT ae) rfl ?_];rwa[⟨kF,?_⟩];rwa[⟨R,?_⟩];rw [take_add_one,hp,map_append,map_append];rfl
  obtain ⟨R,rfl⟩:=O;rw [bl,take_of_length_le @f];have s3:ao HZ (upd HZ l3 (.lst ((c.ps.map (·.1)).map V.int))):= .upd n3;have e3:upd HZ l3 (.lst ((c.ps.map (·.1)).map V.int)) l3=some (.lst ((c.ps.map (·.1)).map V.int)):=ag;generalize al:upd HZ l3 (.lst ((c.ps.map (·.1)).map V.int))=H3 at s3 e3 ⊢;have S:=R.trans s3;rwa[JY (S _ _ U) e3 (bA ?_) ?_]
  ·have h1:((Y.take i).flatMap λc=>c.ps.map (·.1)).length<=64*(Y.take i).length:=rn λc hc=>Z c (mem_of_mem_take hc)
   have h2:(Y.take i).length<=10:=by rw [length_take];lia
   simp only [length_map,length_append];lia
  ·rwa[⟨ao.updF (sY.trans S) n0,?_,_,_,_,_,_,rfl⟩];rw [ag,take_add_one,hc];simp only [Option.toList_some,flatMap_append,flatMap_cons,flatMap_nil,append_nil,map_append,append_assoc]
 obtain ⟨sY,U,o2,o3,o4,o5,o6,rfl⟩:=W;rw [xl,take_of_length_le @f] at U;exact q l I sY U
def jv (ts:List Int)(kvs:List (du×V)):Prop:=∀t:Int,(dJ kvs (Sum.inl t)).isSome=decide (t∈ts)
theorem jv.nil:jv [] []:=λt=>by
 show (none:Option V).isSome=_;simp
theorem jv.put {ts:List Int}{kvs:List (du×V)}(h:jv ts kvs)(t:Int)(v:V):jv (ts++[t]) (fW kvs (Sum.inl t) v):=λu=>by
 rw [Dc];by_cases e:u=t
 ·subst e;rw [if_pos rfl];simp
 ·rw [if_neg (λz=>e (by cases z;rfl)),h u];simp [e]
theorem Cn {ts:List Int}:∀ {us:List Int} {kvs:List (du×V)},jv us kvs->jv (us++ts) (gb kvs (ts.map λt=>(Sum.inl t,V.bl true))):=by
 induction ts with
 |nil=>intro us kvs h;rw [append_nil];exact h
 |cons t ts ih=>
  intro us kvs h;have:=ih (h.put t (V.bl true));rw [append_assoc] at this;exact this
theorem L5 (F:Z0 K "need_deeds" jU f fd)(Fd:mg "dict"=none)(lJ:aU P w K mg base 1 "tags_in" ["state"] (pV K))(rH:aU P w K mg base 3 "need_deed" ["house","deed"] (yj K)):au P w K mg base aT 7 f fd ["house","state","deeds"] (Ar K):=by
 rwa[F.ok og (by symm) (λaC A outer s H vs Q E hr h=> ?_)];obtain ⟨h,st,dl,hs,cs,ws,az,ay,ds,rfl,hH,aj,⟨xd,aX,pd⟩,wl,ab,ah,as,gd,q⟩:=h;have xl:xd.length=ds.length:=pd.len;rwa[⟨_,(aa (bP (i:=3) og.nd rfl @o (aM (G0 rfl) rfl Fd boot_dict (ar (bG rfl (aD (N':=["tag"]) (pk:=[none]) @m) @a @k @z @k) ap))) (ac (cf PassesOwn.never rfl @a @a (aa @dp (ac (ax @a (aa (ax (yS (LJ (JV hr) @a (wv 3))) @cq aq) (ac (HQ (JV hr) (wv 3) @a dQ rfl))) aq)))))),?_⟩];rwa[pV.mk _ _ _ _ _ rfl aj wl ab ah λl H1 s1 e1=> ?_]
 have tl:(aV cs ws).length<=1000:=by
  unfold aV;rw [length_append,length_map];have:=rn ab;lia
 generalize aG:aV cs ws=B at e1 gd tl;rwa[cZ @eY ?_];rwa[cx (xs:=B.map V.int) (λj J L=>ao H1 L/\Paired (λx (p:du×V)=>∃b,x=V.ref b/\L b=some (.tup [kV p.1,p.2])) J ((B.take j).map λt=>(Sum.inl t,V.bl true))) (bA (by rw [length_map];lia)) (λj J L h=>by have:=h.2.len;rw [length_map,length_take] at this;lia) ⟨.refl _,.nil⟩ (λj J L _ h=>h.1.seq @eY) (λj y J L hy hP=> ?_) (λJ L hP l2 n2=> ?_)]
 ·obtain ⟨sx,hp⟩:=hP;rw [getElem?_map] at hy;obtain ⟨v,hv,rfl⟩:=Option.map_eq_some_iff.mp hy;rwa[⟨cu,?_⟩];rwa[bX (bA (by show 2<=1000000;decide)) λb H3 Z n3 e3=>⟨sx.trans Z,?_⟩];rw [take_add_one,hv,map_append];exact Paired.app (Paired.imp' (λx p ⟨c,ec,hc⟩=>⟨c,ec,Z _ _ hc⟩) hp) (.cons ⟨b,rfl,e3⟩ .nil)
 obtain ⟨sx,hp⟩:=hP;rw [length_map,take_of_length_le @f] at hp;have s2:ao L (upd L l2 (.lst J)):= .upd n2;have e2:upd L l2 (.lst J) l2=some (.lst J):=ag;generalize aE:upd L l2 (.lst J)=H2 at s2 e2 ⊢;have ai:=s1.trans (sx.trans s2);rwa[⟨J,B.map λt=>(Sum.inl t,V.bl true),e2,Paired.imp' (λx p ⟨c,ec,hc⟩=>⟨c,ec,s2 _ _ hc⟩) hp,vW (by rw [length_map];lia),λd nd=> ?_⟩];have Z:ao H2 (upd H2 d (.dK (gb [] (B.map λt=>(Sum.inl t,V.bl true))))):= .upd nd;have e3:upd H2 d (.dK (gb [] (B.map λt=>(Sum.inl t,V.bl true)))) d=some (.dK (gb [] (B.map λt=>(Sum.inl t,V.bl true)))):=ag;generalize aI:upd H2 d (.dK (gb [] (B.map λt=>(Sum.inl t,V.bl true))))=H3 at Z e3 ⊢;have am:H d=none:=none_of ai nd
 have k0:jv B (gb [] (B.map λt=>(Sum.inl t,V.bl true))):=by
  have:=Cn (ts:=B) jv.nil;rw [nil_append] at this;exact this
 have an:∀(U:List (du×V)) (a:List (du×V)),(gb a U).length<=a.length+U.length:=by
  intro U
  induction U with
  |nil=>intro a;exact Nat.le_refl _
  |cons p U ih=>
   intro a;have h1:=ih (fW a p.1 p.2);have h2:=dg a p.1 p.2;show (gb (fW a p.1 p.2) U).length<=_;rw [length_cons];lia
 have l0:=an (B.map λt=>(Sum.inl t,V.bl true)) [];rw [length_map,length_nil] at l0;have af:=ai.trans Z;generalize aJ:gb [] (B.map λt=>((Sum.inl t:du),V.bl true))=al at e3 k0 l0;rwa[cZ (af.seq aX) ?_];rwa[eN (xs:=xd) (λi σ S=>ao H S/\∃z kvs o4,S d=some (.dK kvs)/\jv z kvs/\kvs.length<=1000+i/\zB hs.fl hs.ls.length z (ds.drop i)/\σ=[some (.ref h),some (.ref st),some (.ref dl),some (.ref d),o4]) ⟨af,B,al,_,e3,k0,by lia,gd,rfl⟩ (λi σ S _ W=>W.1.seq aX) (λi x σ S hx W=> ?_) (λσ S W=> ?_)]
 ·obtain ⟨sY,z,kvs,o4,eY,kk,kl,I,rfl⟩:=W;obtain ⟨dd,R,ad,rfl,aw⟩:=pd.get1 hx;have il:i<ds.length:=(List.getElem?_eq_some_iff.mp R).1;have O:=aw.same sY
  have av:ds.drop i=dd::ds.drop (i+1):=by
   rw [drop_eq_getElem_cons il];rw [getElem?_eq_getElem il] at R;cases R;rfl
  rw [av] at I;obtain ⟨g1,g2,g3⟩:=I;rwa[yj.mk _ _ _ _ _ rfl ((hH.same sY).at') O g1 λHZ sZ=> ?_];have ae:=sY.trans sZ;have eZ:=sZ _ _ eY;obtain ⟨Y,aH⟩:=O.same sZ
  cases dd with
  |come t' s' g' k'=>
   have hT:aB K HZ ad [.str An,.int t',.int s',.int g',.bl k']:=aB.of Y;rwa[ak hT rfl ?_];rwa[bO rfl ?_];rwa[ak hT rfl ?_];rwa[⟨d,_,rfl,GL.k (k:=Sum.inl t') eZ,?_⟩];rwa[⟨_,rfl,?_⟩];rwa[aY (by rw [kk t'];exact decide_eq_false (g2 t' (.head _))) ?_];rwa[ak hT rfl ?_];rwa[⟨d,_,rfl,GK.k (k:=Sum.inl t') eZ @cG,?_⟩];exact ⟨ao.updF ae am,z++[t'],_,_,ag,kk.put t' (.bl true),by have:=dg kvs (Sum.inl t') (V.bl true);lia,g3,rfl⟩
  |lf x' i'=>
   have hT:aB K HZ ad [.str x',.int i']:=aB.of Y;have g3:zB hs.fl hs.ls.length (z++[]) (ds.drop (i+1)):=g3;rw [append_nil] at g3;rwa[ak hT rfl ?_];rwa[iT (by rw [g1.1];decide+kernel) ?_];exact ⟨ae,z,kvs,_,eZ,kk,by lia,g3,rfl⟩
  |sg x'=>exact False.elim g1
 ·obtain ⟨sY,z,kvs,o4,eY,kk,kl,I,rfl⟩:=W;exact q S sY
def bQ (K:Fg)(H:Hp)(p:Addr)(cs:List lZ):Prop:=∃xs,(aA K H p xs\/aB K H p xs)/\aC K H xs (cs.map lZ.d)
theorem bQ.same {H H':Hp}{p:Addr}{cs:List lZ}(h:bQ K H p cs)(s:ao H H'):bQ K H' p cs:=let ⟨xs,h1,h2⟩:=h;⟨xs,s.any h1,aC.same h2 s⟩
theorem A2 {H:Hp}{x:V}{c:lZ}(h:bv K H x c.d):∃a b,x= .ref a/\aB K H a [.int c.pl,.int c.li,.int c.dr,.int c.mr,.ref b]:=by
 obtain ⟨a,xs,rfl,h1,h2⟩:=h.outT
 cases h2 with|cons q0 t0=>cases t0 with|cons q1 t1=>cases t1 with|cons q2 t2=>cases t2 with|cons q3 t3=>cases t3 with|cons q4 t4=>
 cases t4;cases q0.isInt;cases q1.isInt;cases q2.isInt;cases q3.isInt;obtain ⟨b,ys,rfl,_⟩:=q4.outT;exact ⟨a,b,rfl,h1⟩
theorem yQ {H:Hp}{x:V}{r:Rd}(h:bv K H x r.d):∃a,x= .ref a/\aB K H a [.int r.t,.int r.s,.int r.g,.int r.l]:=by
 obtain ⟨a,xs,rfl,h1,h2⟩:=h.outT
 cases h2 with|cons q0 t0=>cases t0 with|cons q1 t1=>cases t1 with|cons q2 t2=>cases t2 with|cons q3 t3=>
 cases t3;cases q0.isInt;cases q1.isInt;cases q2.isInt;cases q3.isInt;exact ⟨a,rfl,h1⟩
theorem bQ.at {H:Hp}{p:Addr}{cs:List lZ}(h:bQ K H p cs){i:Int}(L:0<=i)(h1:i<cs.length){Q:VK}(g:∀c a b,cs[i.toNat]? =some c->aB K H a [.int c.pl,.int c.li,.int c.dr,.int c.mr,.ref b]->Q (.ref a) H):k7 K p i H Q:=by
 obtain ⟨xs,F,J⟩:=h;have W:=aE J;obtain ⟨j,rfl⟩:=Int.eq_ofNat_of_zero_le L
 have Z:j<xs.length:=by lia
 obtain ⟨c,I,z⟩:=bC J (getElem?_eq_getElem Z);obtain ⟨a,b,O,B⟩:=A2 z;rwa[DO F (v:= .ref a) (bD (by rw [getElem?_eq_getElem Z,O])) (g c a b ?_ B)];rw [show ((j:Int)).toNat=j by lia];exact I
theorem bQ.len {H:Hp}{p:Addr}{cs:List lZ}(h:bQ K H p cs){Q:VK}(g:Q (.int cs.length) H):iG K p H Q:=by
 obtain ⟨xs,z,J⟩:=h;rwa[Av z ?_];rw [aE J];exact g
inductive tF (K:Fg)(vs:List V)(H:Hp)(Q:VK)(_e:XK):Prop
 |mk (a x0 x1 x2 m x4:_) (_:vs=[.ref a]) (_:aB K H a [x0,x1,x2,.int m,x4]) (_:Q (.bl (decide (m=0))) H)
theorem Ma (F:Z0 K "is_serving" jX f fd):au P w K mg base aT 1 f fd ["cabin"] (tF K):=by
 rwa[F.ok wN (by symm) @cf];obtain ⟨a,B,O,R,m,z,rfl,L,q⟩:=h;rwa[⟨_,@g,?_⟩];rwa[ak L rfl ?_];exact q
noncomputable abbrev bc (cs:List lZ):List Bool:=cs.map lZ.srv
theorem Du {cs:List lZ}{i:Nat}{c:lZ}(h:cs[i]? =some c):(bc cs).getD i false=decide (c.mr=0):=by
 rw [getD_eq_getElem?_getD,getElem?_map,h];rfl
inductive K7 (K:Fg)(vs:List V)(H:Hp)(Q:VK)(_e:XK):Prop
 |mk (p cs first:_) (_:vs=[.ref p,.int first]) (_:bQ K H p cs) (_:1<=cs.length) (_:cs.length<=3) (_:0<=first) (_:Q (.int (sf @dW first)) H)
theorem OO (F:Z0 K "serving_from" gH f fd)(bp:mg "len"=none)(aK:mg "range"=none){U:Tok}(bj:mg "NO_LIFT"=some (.int (-1) U))(fG:aU P w K mg base 1 "is_serving" ["cabin"] (tF K)):au P w K mg base aT 2 f fd ["cabins","first"] (K7 K):=by
 have fV:ay (.int (-1)) (.int (-1) U):=⟨_,rfl⟩;rwa[F.ok sq (by symm) @u];obtain ⟨p,B,first,rfl,Y,c1,c3,f0,q⟩:=h;have W:(bc B).length=B.length:=length_map _;rwa[⟨_,(aa @a (aa (cf PassesOwn.never rfl (bK rfl aK @dg) @a (aa @a (ac (ax @a (ac (aj (wv 4))) aq)))) @g)),?_⟩];rwa[Y.len ?_];rwa[⟨⟨by lia,by lia⟩,?_⟩];rwa[cr (λi σ I=>I=H/\sf (bc B) first=Lh (bc B) first i (B.length - i)/\∃O L,σ=[some (.ref p),some (.int first),some (.int B.length),O,L]) ⟨rfl,by unfold sf;rw [W];rfl,_,_,rfl⟩ (λi σ I hi R=> ?_) (λσ I R=> ?_)]
 ·obtain ⟨rfl,j,O,L,rfl⟩:=R
  have hi:i<B.length:=by lia
  have Z:(0:Int)+(i:Nat)=((i:Nat):Int):=by lia
  rw [Z];have S:0<=(first+(i:Int))% (B.length:Int):=Int.emod_nonneg _ @b;have J:(first+(i:Int))% (B.length:Int)<(B.length:Int):=Int.emod_lt_of_pos _ @b;rw [show B.length - i=(B.length - (i+1))+1 by lia] at j
  have j:sf (bc B) first=if (bc B).getD ((first+(i:Int))% (bc B).length).toNat false=true then (first+(i:Int))% (bc B).length else Lh (bc B) first (i+1) (B.length - (i+1)):=j
  rw [W] at j;rwa[⟨by lia,?_⟩];rwa[Y.at S J λc a b hc hT=> ?_];rwa[tF.mk _ _ _ _ _ _ rfl hT ?_];rw [Du hc] at j;rwa[jy @s @s]
  ·rw [if_pos @dk] at j;rw [j] at q;exact q
  ·rw [if_neg (by rw [decide_eq_false z];decide)] at j;exact ⟨rfl,j,_,_,rfl⟩
 obtain ⟨rfl,j,O,L,rfl⟩:=R;rw [show ((B.length:Int)).toNat=B.length by lia,Nat.sub_self] at j
 have j:sf (bc B) first= -1:=j
 rw [j] at q;exact q
inductive pz (K:Fg)(vs:List V)(H:Hp)(Q:VK)(_e:XK):Prop
 |mk (p cs x1 x2 last:_) (_:vs=[.ref p,x1,x2,.int last]) (_:bQ K H p cs) (_:1<=cs.length) (_:cs.length<=3) (_:0<=last) (_:∀r H',ao H H'->H' r=some (.tup [.int (sf @dW (last+1)),.int (if sf @dW (last+1)= -1 then last else sf @dW (last+1))])->Q (.ref r) H')
theorem EA (F:Z0 K "by_turns" qD f fd){L:Tok}(bj:mg "NO_LIFT"=some (.int (-1) L))(Z:aU P w K mg base 2 "serving_from" ["cabins","first"] (K7 K)):au P w K mg base aT 3 f fd ["cabins","waiting","rider","last"] (pz K):=by
 have fV:ay (.int (-1)) (.int (-1) L):=⟨_,rfl⟩;rwa[F.ok BE (by symm) (λI A outer s H vs Q E U h=> ?_)];obtain ⟨p,S,Y,x2,J,rfl,B,c1,R,l0,q⟩:=h;rwa[⟨_,@fJ,?_⟩];rwa[K7.mk _ _ _ rfl B c1 R @b ?_];rwa[jy @s @s]
 ·ext;rw [if_pos z] at q;exact bX (bA (by show 2<=1000000;decide)) λr H2 O W j=>q r H2 O j
 ·ext;rw [if_neg z] at q;exact bX (bA (by show 2<=1000000;decide)) λr H2 O W j=>q r H2 O j
theorem Gg {cs:List lZ}:(bc cs).length=cs.length:=length_map _
inductive mq (K:Fg)(vs:List V)(H:Hp)(Q:VK)(_e:XK):Prop
 |mk (p cs:_) (_:vs=[.ref p]) (_:bQ K H p cs) (_:cs.length<=3) (_:∀l H',ao H H'->H l=none->H' l=some (.lst ((srv @dW).map λi:Nat=>V.int i))->Q (.ref l) H')
theorem Iu (F:Z0 K "serving" qq f fd)(cq:mg "enumerate"=none)(fG:aU P w K mg base 1 "is_serving" ["cabin"] (tF K)):au P w K mg base aT 2 f fd ["cabins"] (mq K):=by
 rwa[F.ok Bt (by symm) @u];obtain ⟨p,B,rfl,hC,c3,q⟩:=h;rwa[⟨_,(ac (aj (bG rfl (aD (N':=["lift","cabin"]) (pk:=[none,none]) @m) (Af rfl rfl cq (wv 0)) @v @bm @Q))),?_⟩];obtain ⟨xs,J,hd⟩:=hC;have hl:xs.length=B.length:=aE hd
 have Y:∀ys H',ao H H'/\ys=(jm (bc B) xs.length).map (λi:Nat=>V.int i)->∀p,H' p=none->Q (.ref p) (upd H' p (.lst ys)):=by
  rintro ys H' ⟨S,rfl⟩ p0 n0;rwa[q p0 _ (S.trans (.upd n0)) ?_ ?_]
  ·cases z:H p0 with
   |none=>rfl
   |some o=>rw [S _ _ z] at n0;cases n0
  ·rw [ag,hl,<-Gg (cs:=B)]
 have aa:∀(i:Nat) x (ys:List V) H1 T H',xs[i]? =some x->(ao H H1/\ys=(jm (bc B) i).map (λi:Nat=>V.int i))->ao H1 H'->H' T=some (.tup [.int i,x])->∃c a b,x= .ref a/\B[i]? =some c/\aB K H' a [.int c.pl,.int c.li,.int c.dr,.int c.mr,.ref b]/\aB K H' T [.int i,.ref a]/\ao H H':=by
  rintro i x ys H1 T H' j ⟨S,_⟩ O I;obtain ⟨c,R,dc⟩:=bC hd j;obtain ⟨a,b,rfl,Z⟩:=A2 dc;exact ⟨c,a,b,rfl,R,(S.trans O).seqT Z,aB.of I,S.trans O⟩
 have W:∀(i:Nat) (c:lZ),B[i]? =some c->jm (bc B) (i+1)=jm (bc B) i++(if decide (c.mr=0)=true then [i] else []):=λi c R=>by rw [Bl,Du R]
 have U:∀(i:Nat) x (ys:List V) H1 T H',xs[i]? =some x->(ao H H1/\ys=(jm (bc B) i).map (λi:Nat=>V.int i))->ao H1 H'->H' T=some (.tup [.int i,x])->Be K 2 T H' λxs=>
  x9 (lG 0) (x9 (lG 1) JH) xs (cm [none,none] (L2.start [s!"cabins"] [V.ref p])) H' λσ2 H2=>sR (cm [none,none] (L2.start [s!"cabins"] [V.ref p])) σ2/\
   NS K (Ao (tF K) [] E0 (Do (G3 1) KZ)) σ2 H2 λb H3=>if b=true then G3 0 σ2 H3 λv H4=>ao H H4/\ys++[v]=List.map (λi:Nat=>V.int i) (jm (bc B) (i+1)) else ao H H3/\ys=List.map (λi:Nat=>V.int i) (jm (bc B) (i+1)):=by
  intro i x ys H1 T H' j L O I;obtain ⟨c,a,b,rfl,R,Z,hT,s3⟩:=aa i x ys H1 T H' j L O I;rwa[ju hT rfl ?_];rwa[⟨⟨rfl,λi v h=>match i,h with|0,h=>(nomatch h)|1,h=>(nomatch h)|(i+2),h=>(nomatch h)⟩,?_⟩];rwa[tF.mk _ _ _ _ _ _ rfl Z ?_];show if decide (c.mr=0)=true then _ else _;by_cases z:c.mr=0
  ·rw [if_pos @dk];rwa[⟨s3,?_⟩];rw [W i c R,if_pos @dk,L.2,map_append];rfl
  ·rw [if_neg (by rw [decide_eq_false z];decide)];rwa[⟨s3,?_⟩];rw [W i c R,if_neg (by rw [decide_eq_false z];decide),L.2,append_nil]
 ext
 rcases J with J|J
 ·rwa[.inl ⟨xs,J,?_⟩];exact F4 (xs:=xs) (λi ys H'=>ao H H'/\ys=(jm (bc B) i).map (λi:Nat=>V.int i)) @bq (λi ys H' h=>by rw [h.2,length_map];exact wz) ⟨.refl _,rfl⟩ (λi ys H' _ h=>h.1.seq J) (λi x ys H1 T H' j L O I=>U i x ys H1 T H' j L O I) (λys H' h=>Y ys H' h)
 ·rwa[.inr ⟨xs,J,?_⟩];exact F0 (xs:=xs) (λi ys H'=>ao H H'/\ys=(jm (bc B) i).map (λi:Nat=>V.int i)) @bq (λi ys H' h=>by rw [h.2,length_map];exact wz) ⟨.refl _,rfl⟩ (λi ys H' _ h=>h.1.seqT J) (λi x ys H1 T H' j L O I=>U i x ys H1 T H' j L O I) (λys H' h=>Y ys H' h)
theorem aA.nt {H H':Hp}(s:aI H H'){a:Addr}{xs:List V}(h:aA K H a xs):aA K H' a xs:=by
 rcases h with (h|⟨o,h⟩)|h
 ·exact .inl (.inl (s _ _ (λps z=>by cases z) h))
 ·exact .inl (.inr ⟨o,s _ _ (λps z=>by cases z) h⟩)
 ·exact .inr h
theorem aB.nt {H H':Hp}(s:aI H H'){a:Addr}{xs:List V}(h:aB K H a xs):aB K H' a xs:=by
 rcases h with (h|⟨o,h⟩)|h
 ·exact .inl (.inl (s _ _ (λps z=>by cases z) h))
 ·exact .inl (.inr ⟨o,s _ _ (λps z=>by cases z) h⟩)
 ·exact .inr h
theorem bv.nt {H H':Hp}(s:aI H H'){x:V}{d:D}(h:bv K H x d):bv K H' x d:=by
 induction h with
 |non=>exact .non
 |bl a=>exact .bl a
 |int a=>exact .int a
 |str a=>exact .str a
 |lst h hl hi ih=>exact .lst (aA.nt s h) hl λi x d R O=>ih i x d R O
 |tup h hl hi ih=>exact .tup (aB.nt s h) hl λi x d R O=>ih i x d R O
theorem aC.nt {H H':Hp}(s:aI H H'){xs:List V}{ds:List D}(h:aC K H xs ds):aC K H' xs ds:=Paired.imp' (λ_ _ z=>bv.nt s z) h
theorem bQ.nt {H H':Hp}(s:aI H H'){p:Addr}{cs:List lZ}(h:bQ K H p cs):bQ K H' p cs:=let ⟨xs,h1,h2⟩:=h;⟨xs,h1.elim (λz=> .inl (aA.nt s z)) (λz=> .inr (aB.nt s z)),aC.nt s h2⟩
theorem HU {cs:List lZ}{i:Nat}{c:lZ}(h:cs[i]? =some c):LD cs i=c.pl:=by unfold LD;rw [h]
theorem Ba {cs:List lZ}{i:Nat}{c:lZ}(h:cs[i]? =some c):Nd cs i=c.ab.length:=by unfold Nd;rw [h]
theorem ja {cs:List lZ}{i:Nat}{v:V}(h:((srv @dW).map λi:Nat=>V.int i)[i]? =some v):∃j,(srv @dW)[i]? =some j/\v= .int (j:Nat)/\(srv @dW).getD i 0=j/\j<cs.length:=by
 rw [getElem?_map] at h;obtain ⟨j,Z,rfl⟩:=Option.map_eq_some_iff.mp h;rwa[⟨j,Z,rfl,by rw [getD_eq_getElem?_getD,Z];rfl,?_⟩];have:=(pq.mp (mem_of_getElem? Z)).1;rw [Gg] at this;exact this
def Fa:Expr->Expr
 | .Call _ _ (⟨_,l,_⟩::_) _=>l
 |e=>e
noncomputable def AE:Expr:=match bu ez with
 |[_,.Return (some (.Tuple (e::_) _ _)) _]=>Fa e
 |_=> .Constant .none 0 ⟨0,0,0,0⟩
noncomputable def xf:Expr:=match bu cK with
 |[_,.Assign _ e _,_]=>Fa e
 |_=> .Constant .none 0 ⟨0,0,0,0⟩
noncomputable def IU (st:Stmt):Expr->Scope
 | .Lambda _ _ sc _=>sc
 |_=>ae st
theorem Mz:i7 ["lift"] ["cabins","place"] (IU ez AE):=⟨rfl,rfl,rfl,by decide+kernel,by decide+kernel,by decide+kernel,by decide+kernel,by decide+kernel⟩
theorem IV:i7 ["lift"] ["cabins","dealt"] (IU cK xf):=⟨rfl,rfl,rfl,by decide+kernel,by decide+kernel,by decide+kernel,by decide+kernel,by decide+kernel⟩
abbrev qN:Str:="near"++".<locals>."++"<lambda>"
abbrev qL:Str:="least"++".<locals>."++"<lambda>"
inductive uC (K:Fg)(Pn:Addr)(vs:List V)(H:Hp)(Q:VK)(_e:XK):Prop
 |mk (p cs x1 rv r last:_) (_:vs=[.ref p,x1,rv,.int last]) (_:bQ K H p cs) (_:cs.length<=3) (_:bv K H rv (Rd.d r)) (_:cF H Pn qN) (_:∀m t H',c7 @dW (tI cs r.s) m->fq Pn H H'->cF H' Pn qN->H' t=some (.tup [.int m,.int last])->Q (.ref t) H')
theorem IB {c Pn:Addr}{kV ab pm ct oc:Value}{an od:Option Addr}{am:Array @J}{t1:Tok}(lk:K.lookup f=some ⟨oc,od,.func (W.fnOf "near" "near" (bT ez) (bu ez) @gw .none kV ab pm an (.ref c) ct),am⟩)(ah:W.codeIn K (.ref c) "near"=true)
(O:PySem.W.CodeHd base c Pn)(U:jF base mg)(B6:mg "min"=none)(Mx:mg "abs"=none)(bj:mg "NO_LIFT"=some (.int (-1) t1))(lK:aU P w K mg base 2 "serving" ["cabins"] (mq K)):
 au P w K mg base aT 5 f (W.fnOf "near" "near" (bT ez) (bu ez) @gw .none kV ab pm an (.ref c) ct) ["cabins","waiting","rider","last"] (uC K Pn):=by
 have fV:ay (.int (-1)) (.int (-1) t1):=⟨_,rfl⟩;rwa[xk lk ah Ll @ba (λA outer s H vs Q E hr h=> ?_)]
 ·obtain ⟨p,B,x1,rv,r,J,rfl,_⟩:=h;rfl
 obtain ⟨p,B,x1,rv,r,J,rfl,hC,c3,aq,I,q⟩:=h;have S:PySem.closureFor (IU ez AE) (envOfC "near" (ae ez) s.heap.objs.size f (.ref c))=(pure [("place",s.heap.objs.size+1+1),("cabins",s.heap.objs.size+1)]:Sem (List (Str×Addr))):=rfl;have Z:oU (rB aT P w K mg base ["cabins","waiting","rider","last","place"] "near" (ae ez) f (.ref c) A outer s H E).nox ["cabins","place"] [0,4] [("place",s.heap.objs.size+1+1),("cabins",s.heap.objs.size+1)]:=oU.two @c rfl rfl rfl rfl rfl rfl (.inr rfl);have ad:=Mz;rwa[⟨_,(aa @a (ac (aj (fJ (ar (Ep rfl rfl B6 hr @a (Er rfl O U rfl S) @a ad Z rfl (λ_ _ _=>rfl) (λ_ _ s H hr=>(bx NQ rfl Mx boot_abs @E))) @fz))))),?_⟩];obtain ⟨ra,rfl,av⟩:=yQ aq;rwa[ak av rfl ?_];rwa[⟨hV @c @c,?_⟩];rwa[mq.mk _ _ rfl hC c3 λl H1 s1 n1 e1=> ?_];rwa[⟨I.same s1,λf' c' al H2 sP nf ef ec ag=> ?_⟩];obtain ⟨ps,hP,_⟩:=I.same s1;have sN:=sP.nt hP;have e2:H2 l=some (.lst ((srv (bc B)).map λi:Nat=>V.int i)):=sN l _ (λps z=>by cases z) e1;have as:bQ K H2 p B:=(hC.same s1).nt sN
 have Y:∀m F,c7 (bc B) (tI B r.s) m->ao H2 F->Mt [.int m,.int J] F Q:=λm F hb L=>
  bX (bA (by show 2<=1000000;decide)) λt H4 s4 n4 e4=>q m t H4 hb (λb o nb z=>s4 _ _ (L _ _ (sP b o nb (s1 b o z)))) ((ag.same L).same s4) e4
 show ∃l f xs,_;rwa[⟨l,f',_,rfl,rfl,e2,λhx=> ?_,λhx=> ?_⟩]
 ·have hs:srv (bc B)=[]:=map_eq_nil_iff.mp hx;exact Y (-1) H2 (vH hs) (.refl _)
 ·rwa[⟨c',al,[.ref p,.int (2*r.s)],λi=>tI B r.s ((srv (bc B)).getD i 0),λF=>ao H2 F,rfl,.refl _,λF L=>⟨L _ _ e2,L _ _ ef,L _ _ ec⟩,λi v F hv L=> ?_,λi v F hv hb L=> ?_⟩]
  ·obtain ⟨j,hj,rfl,gj,jl⟩:=ja hv;rwa[(as.same L).at (by lia) @b λcb a b R af=> ?_];rwa[ak af rfl ?_];rwa[⟨?_,L⟩];have R:B[j]? =some cb:=R;show V.int _=V.int (tI B r.s ((srv (bc B)).getD i 0));rw [gj];unfold tI PF;rw [HU R]
  ·obtain ⟨j,hj,rfl,gj,jl⟩:=ja hv;rwa[Y _ F (vG hj λi' ai=> ?_) L];exact hb i' (by rw [length_map];exact ai)
theorem Gb {H:Hp}{x:V}{c:lZ}(h:bv K H x c.d):∃a b ys,x= .ref a/\aB K H a [.int c.pl,.int c.li,.int c.dr,.int c.mr,.ref b]/\aB K H b ys/\ys.length=c.ab.length:=by
 obtain ⟨a,xs,rfl,h1,h2⟩:=h.outT
 cases h2 with|cons q0 t0=>cases t0 with|cons q1 t1=>cases t1 with|cons q2 t2=>cases t2 with|cons q3 t3=>cases t3 with|cons q4 t4=>
 cases t4;cases q0.isInt;cases q1.isInt;cases q2.isInt;cases q3.isInt;obtain ⟨b,ys,rfl,B,J⟩:=q4.outT;exact ⟨a,b,ys,rfl,h1,B,by have:=J.length;rw [length_map] at this;exact this⟩
theorem bQ.at2 {H:Hp}{p:Addr}{cs:List lZ}(h:bQ K H p cs){i:Int}(R:0<=i)(h1:i<cs.length){Q:VK}(g:∀c a b ys,cs[i.toNat]? =some c->aB K H a [.int c.pl,.int c.li,.int c.dr,.int c.mr,.ref b]->aB K H b ys->ys.length=c.ab.length->Q (.ref a) H):k7 K p i H Q:=by
 obtain ⟨xs,L,J⟩:=h;have W:=aE J;obtain ⟨j,rfl⟩:=Int.eq_ofNat_of_zero_le R
 have Z:j<xs.length:=by lia
 obtain ⟨c,I,z⟩:=bC J (getElem?_eq_getElem Z);obtain ⟨a,b,ys,S,F,O,B⟩:=Gb z;rwa[DO L (v:= .ref a) (bD (by rw [getElem?_eq_getElem Z,S])) (g c a b ys ?_ F O B)];rw [show ((j:Int)).toNat=j by lia];exact I
def Ka (K:Fg)(H:Hp)(p:Addr)(rs:List Rd):Prop:=∃xs,(aA K H p xs\/aB K H p xs)/\aC K H xs (rs.map Rd.d)
abbrev fA (rs:List Rd):List Int:=rs.map λr=>r.l
inductive As (K:Fg)(Pl:Addr)(vs:List V)(H:Hp)(Q:VK)(_e:XK):Prop
 |mk (p cs wp rs x2 last:_) (_:vs=[.ref p,.ref wp,x2,.int last]) (_:bQ K H p cs) (_:cs.length<=3) (_:Ka K H wp rs) (_:rs.length<=64) (_:cF H Pl qL) (_:∀m t H',c7 @dW (fM cs (fA rs)) m->fq Pl H H'->cF H' Pl qL->H' t=some (.tup [.int m,.int last])->Q (.ref t) H')
theorem EN {c Pl:Addr}{kV aC pm ct oc:Value}{an od:Option Addr}{aI:Array @J}{t1:Tok}(lk:K.lookup f=some ⟨oc,od,.func (W.fnOf "least" "least" (bT cK) (bu cK) @gx .none kV aC pm an (.ref c) ct),aI⟩)(aH:W.codeIn K (.ref c) "least"=true)
(al:PySem.W.CodeHd base c Pl)(aB:jF base mg)(B6:mg "min"=none)(bp:mg "len"=none)(bj:mg "NO_LIFT"=some (.int (-1) t1))(lK:aU P w K mg base 2 "serving" ["cabins"] (mq K)):
 au P w K mg base aT 5 f (W.fnOf "least" "least" (bT cK) (bu cK) @gx .none kV aC pm an (.ref c) ct) ["cabins","waiting","rider","last"] (As K Pl):=by
 have fV:ay (.int (-1)) (.int (-1) t1):=⟨_,rfl⟩;rwa[xk lk aH uQ @ba (λA outer s H vs Q E hr h=> ?_)]
 ·obtain ⟨p,J,wp,I,x2,ad,rfl,_⟩:=h;rfl
 obtain ⟨p,J,wp,I,x2,ad,rfl,hC,c3,hR,aJ,S,q⟩:=h;have ax:PySem.closureFor (IU cK xf) (envOfC "least" (ae cK) s.heap.objs.size f (.ref c))=(pure [("dealt",s.heap.objs.size+1+1),("cabins",s.heap.objs.size+1)]:Sem (List (Str×Addr))):=rfl;have aG:oU (rB aT P w K mg base ["cabins","waiting","rider","last","dealt","fewest"] "least" (ae cK) f (.ref c) A outer s H E).nox ["cabins","dealt"] [0,4] [("dealt",s.heap.objs.size+1+1),("cabins",s.heap.objs.size+1)]:=oU.two @c rfl rfl rfl rfl rfl rfl (.inr rfl);have aF:=IV;rwa[⟨_,(aa (bP (i:=4) uQ.nd rfl (Or.inr rfl) (bG rfl @Y @a @n @z (λC s H ex=>(wv 3)))) (aa (bP (i:=5) uQ.nd rfl @o (Ep rfl rfl B6 hr @a (Er rfl al aB rfl ax) @a aF aG rfl (λ_ _ _=>rfl) (λ_ _ s H hr=>(dE @eI @a (ij rfl PySem.F.plainAttrs_list PySem.F.slot_list_count PySem.F.type_list_count (G1 rfl) (wv 2) @eb))))) @g)),?_⟩];obtain ⟨xs,Z,hd⟩:=hR;have hl:xs.length=I.length:=aE hd;ext
 rcases Z with Z|Z
 ·rwa[cZ Z ?_];rwa[cx (xs:=xs) (λi ys H'=>ao H H'/\ys=((fA I).take i).map V.int) @bq (λi ys H' h=>by rw [h.2,length_map];exact length_take_le _ _) ⟨.refl _,rfl⟩ (λi ys H' _ h=>h.1.seq Z) (λi x ys H' av Y=> ?st) (λys H1 Y d n0=> ?rs)]
  case st=>
   obtain ⟨r,as,dr⟩:=bC hd av;obtain ⟨a,rfl,hT⟩:=yQ (bv.same dr Y.1);rwa[ju hT rfl ?_];rwa[⟨⟨rfl,λi v h=>match i,h with|0,h=>(nomatch h)|1,h=>(nomatch h)|2,h=>(nomatch h)|3,h=>(nomatch h)|(i+4),h=>(nomatch h)⟩,?_⟩];rwa[⟨Y.1,?_⟩];rw [Y.2,take_add_one,getElem?_map,as,map_append];rfl
  have e1:upd H1 d (.lst (((fA I).take xs.length).map V.int)) d=some (.lst ((fA I).map V.int)):=by rw [ag,take_of_length_le (by rw [length_map];lia)]
  have s1:ao H (upd H1 d (.lst (((fA I).take xs.length).map V.int))):=Y.1.trans (.upd n0);rw [Y.2];generalize upd H1 d (.lst (((fA I).take xs.length).map V.int))=H2 at e1 s1;rwa[mq.mk _ _ rfl @gG c3 λl H3 s3 n3 e3=> ?_];have L:=s1.trans s3;rwa[⟨S.same L,λf' c' aq U sP nf ef ec ah=> ?_⟩];obtain ⟨ps,ai,_⟩:=S.same L;have sN:=sP.nt ai;have e4:U l=some (.lst ((srv (bc J)).map λi:Nat=>V.int i)):=sN l _ (λps z=>by cases z) e3;have ed:U d=some (.lst ((fA I).map V.int)):=sN d _ (λps z=>by cases z) (s3 _ _ e1);have aw:bQ K U p J:=(hC.same L).nt sN
  have ab:∀m R,c7 (bc J) (fM J (fA I)) m->ao U R->Mt [.int m,.int ad] R Q:=λm R hb B=>
   bX (bA (by show 2<=1000000;decide)) λt H6 s6 n6 e6=>q m t H6 hb (λb o nb z=>s6 _ _ (B _ _ (sP b o nb (L b o z)))) ((ah.same B).same s6) e6
  show ∃l f xs,_;rwa[⟨l,f',_,rfl,rfl,e4,λZ=> ?_,λZ=> ?_⟩]
  ·have hs:srv (bc J)=[]:=map_eq_nil_iff.mp Z;exact ab (-1) U (vH hs) (.refl _)
  ·rwa[⟨c',aq,[.ref p,.ref d],λi=>fM J (fA I) ((srv (bc J)).getD i 0),λR=>ao U R,rfl,.refl _,λR B=>⟨B _ _ e4,B _ _ ef,B _ _ ec⟩,λi v R hv B=> ?_,λi v R hv hb B=> ?_⟩]
   ·obtain ⟨j,hj,rfl,gj,jl⟩:=ja hv;rwa[(aw.same B).at2 @b @b λcb a b ys O af hb hy=> ?_];rwa[ak af rfl ?_];rwa[eJ hb ?_];rwa[⟨.inl ⟨rfl,_,aA.of @fL⟩,?_⟩];rwa[⟨fA I,aA.of @fL,?_⟩];rwa[⟨?_,B⟩];have O:J[j]? =some cb:=O;show V.int _=V.int (fM J (fA I) ((srv (bc J)).getD i 0));rw [gj];unfold fM;rw [Ba O,hy]
   ·obtain ⟨j,hj,rfl,gj,jl⟩:=ja hv;rwa[ab _ R (vG hj λi' am=> ?_) B];exact hb i' (by rw [length_map];exact am)
 ·rwa[dN Z ?_];rwa[cW (xs:=xs) (λi ys H'=>ao H H'/\ys=((fA I).take i).map V.int) @bq (λi ys H' h=>by rw [h.2,length_map];exact length_take_le _ _) ⟨.refl _,rfl⟩ (λi ys H' _ h=>h.1.seqT Z) (λi x ys H' av Y=> ?stT) (λys H1 Y d n0=> ?rsT)]
  case stT=>
   obtain ⟨r,as,dr⟩:=bC hd av;obtain ⟨a,rfl,hT⟩:=yQ (bv.same dr Y.1);rwa[ju hT rfl ?_];rwa[⟨⟨rfl,λi v h=>match i,h with|0,h=>(nomatch h)|1,h=>(nomatch h)|2,h=>(nomatch h)|3,h=>(nomatch h)|(i+4),h=>(nomatch h)⟩,?_⟩];rwa[⟨Y.1,?_⟩];rw [Y.2,take_add_one,getElem?_map,as,map_append];rfl
  have e1:upd H1 d (.lst (((fA I).take xs.length).map V.int)) d=some (.lst ((fA I).map V.int)):=by rw [ag,take_of_length_le (by rw [length_map];lia)]
  have s1:ao H (upd H1 d (.lst (((fA I).take xs.length).map V.int))):=Y.1.trans (.upd n0);rw [Y.2];generalize upd H1 d (.lst (((fA I).take xs.length).map V.int))=H2 at e1 s1;rwa[mq.mk _ _ rfl @gG c3 λl H3 s3 n3 e3=> ?_];have L:=s1.trans s3;rwa[⟨S.same L,λf' c' aq U sP nf ef ec ah=> ?_⟩];obtain ⟨ps,ai,_⟩:=S.same L;have sN:=sP.nt ai;have e4:U l=some (.lst ((srv (bc J)).map λi:Nat=>V.int i)):=sN l _ (λps z=>by cases z) e3;have ed:U d=some (.lst ((fA I).map V.int)):=sN d _ (λps z=>by cases z) (s3 _ _ e1);have aw:bQ K U p J:=(hC.same L).nt sN
  have ab:∀m R,c7 (bc J) (fM J (fA I)) m->ao U R->Mt [.int m,.int ad] R Q:=λm R hb B=>
   bX (bA (by show 2<=1000000;decide)) λt H6 s6 n6 e6=>q m t H6 hb (λb o nb z=>s6 _ _ (B _ _ (sP b o nb (L b o z)))) ((ah.same B).same s6) e6
  show ∃l f xs,_;rwa[⟨l,f',_,rfl,rfl,e4,λZ=> ?_,λZ=> ?_⟩]
  ·have hs:srv (bc J)=[]:=map_eq_nil_iff.mp Z;exact ab (-1) U (vH hs) (.refl _)
  ·rwa[⟨c',aq,[.ref p,.ref d],λi=>fM J (fA I) ((srv (bc J)).getD i 0),λR=>ao U R,rfl,.refl _,λR B=>⟨B _ _ e4,B _ _ ef,B _ _ ec⟩,λi v R hv B=> ?_,λi v R hv hb B=> ?_⟩]
   ·obtain ⟨j,hj,rfl,gj,jl⟩:=ja hv;rwa[(aw.same B).at2 @b @b λcb a b ys O af hb hy=> ?_];rwa[ak af rfl ?_];rwa[eJ hb ?_];rwa[⟨.inl ⟨rfl,_,aA.of @fL⟩,?_⟩];rwa[⟨fA I,aA.of @fL,?_⟩];rwa[⟨?_,B⟩];have O:J[j]? =some cb:=O;show V.int _=V.int (fM J (fA I) ((srv (bc J)).getD i 0));rw [gj];unfold fM;rw [Ba O,hy]
   ·obtain ⟨j,hj,rfl,gj,jl⟩:=ja hv;rwa[ab _ R (vG hj λi' am=> ?_) B];exact hb i' (by rw [length_map];exact am)
inductive Dk where
 |near|least|turns
noncomputable def dq (c:Cb):lZ:=⟨c.pl,c.li,c.dr,c.mr,c.ps⟩
noncomputable def Rc (r:aO):Rd:=⟨r.tag,r.start,r.goal,r.lift⟩
noncomputable def xL (bs:List Bool)(ws:Nat->Int):Int:=Classical.epsilon (c7 bs ws)
theorem lS {bs:List Bool}{ws:Nat->Int}{m:Int}(h:c7 bs ws m):m=xL bs ws:=h.uniq (Classical.epsilon_spec ⟨m,h⟩)
noncomputable def eO (cs:List Cb)(last:Int):Int:=sf (bc @T) (last+1)
noncomputable def kg:Dk->vZ
 | .near=>λcs ws r last=>(xL (bc @T) (tI @T r.start),last)
 | .least=>λcs ws r last=>(xL (bc @T) (fM @T (fA (ws.map Rc))),last)
 | .turns=>λcs ws r last=>(eO cs last,if eO cs last= -1 then last else eO cs last)
def qG:List Cb->List aO->aO->Int->Prop:=λcs ws r last=>1<=cs.length/\cs.length<=3/\ws.length<=64/\0<=last
def lY (Pn Pl:Addr)(H:Hp):Prop:=cF H Pn qN/\cF H Pl qL
theorem fN {Pn Pl:Addr}:GT @cg:=λH H' s h=>⟨h.1.st s,h.2.st s⟩
theorem vD {H:Hp}{tc:Addr}{xs:List V}{cs:List Cb}(h1:H tc=some (.tup xs))(h2:Paired (eh K H) xs cs):bQ K H tc @T:=by
 rwa[⟨xs,.inr (aB.of h1),?_⟩];rw [map_map];rwa[PySem.Paired.of (by rw [length_map];exact h2.len) λi x d R O=> ?_];rw [getElem?_map] at O;obtain ⟨c,I,t,rfl,z⟩:=h2.get1 R;rw [I] at O;cases O;exact z.den
theorem Lx {H:Hp}{F:Addr}{ys:List V}{ws:List aO}(h1:H F=some (.tup ys))(h2:aC K H ys @eL):Ka K H F (ws.map Rc):=by
 rwa[⟨ys,.inr (aB.of h1),?_⟩];rw [map_map];exact h2
def Dk.ad (kn kl kT:Addr):Dk->Addr
 | .near=>kn| .least=>kl| .turns=>kT
theorem M4 {Pn Pl kn kl kT:Addr}(j:Pn≠Pl)(cn:ko P w K mg base 5 kn (uC K Pn))(cl:ko P w K mg base 5 kl (As K Pl))(ct:ko P w K mg base 3 kT (pz K))(k:Dk):ko P w K mg base 5 (k.ad kn kl kT) @ec:=by
 cases k with
 |near=>
  rwa[cn.imp @f λvs H Q E h=> ?_];obtain ⟨tc,Z,x,cs,Y,r,J,xs,ys,rfl,h1,h2,F,I,U,W,⟨c1,R,L,l0⟩,q⟩:=h;rwa[uC.mk _ _ _ _ (Rc r) _ rfl (vD h1 h2) (by rw [length_map];exact R) U W.1 λm t H' S z B e=> ?_];obtain ⟨ps,O,_⟩:=id W.1;rwa[q t H' (z.nt O) ⟨B,W.2.sameP z O j.symm⟩ ?_];rw [lS S] at e;exact e
 |least=>
  rwa[cl.imp @f λvs H Q E h=> ?_];obtain ⟨tc,Z,x,cs,Y,r,J,xs,ys,rfl,h1,h2,F,I,U,W,⟨c1,R,L,l0⟩,q⟩:=h;rwa[As.mk _ _ _ _ _ _ rfl (vD h1 h2) (by rw [length_map];exact R) (Lx F I) (by rw [length_map];exact L) W.2 λm t H' S z B e=> ?_];obtain ⟨ps,O,_⟩:=id W.2;rwa[q t H' (z.nt O) ⟨W.1.sameP z O j,B⟩ ?_];rw [lS S] at e;exact e
 |turns=>
  rwa[ct.imp @c λvs H Q E h=> ?_];obtain ⟨tc,Z,x,cs,Y,r,J,xs,ys,rfl,h1,h2,F,I,U,W,⟨c1,R,L,l0⟩,q⟩:=h;rwa[pz.mk _ _ _ _ _ rfl (vD h1 h2) (by rw [length_map];exact c1) (by rw [length_map];exact R) l0 λt H' s e=> ?_];exact q t H' s.nt (fN _ _ s.st W) e
abbrev wo:Str:=s!"o"
abbrev wx:Str:=s!"x"
abbrev wu:Str:=s!"u"
abbrev wd:Str:=s!"d"
abbrev ws:Str:=s!"s"
noncomputable def dz (li he up dn:Int):Str:=if he=2 then wo else if he=1/\((li=1/\up=0)\/(li= -1/\dn=0)) then wx else if li= -1/\0<dn then wd else if 0<up then wu else if 0<dn then wd else ws
noncomputable def OT (he up dn:Int):Str:=if 0<he then (if he=2 then wo else wx) else if 0<up/\(dn=0\/up<=dn) then wu else if 0<dn then wd else ws
noncomputable def wB (top fl li he:Int):Str:=if he=2 then wo else if he=1/\((fl=top/\li=1)\/(fl=0/\li= -1)) then wx else if li= -1 then (if fl≠0 then wd else wu) else if fl≠top then wu else wd
noncomputable def xi (fl li he up dn:Int):Str:=if dz li he up dn=ws/\fl≠0 then wd else dz li he up dn
theorem fo.li {li U S dn:Int}(s:fo li U S dn):li= -1\/li=0\/li=1:=by have:=s.l0;have:=s.l1;lia
theorem fo.he {li U S dn:Int}(s:fo li U S dn):U=0\/U=1\/U=2:=by have:=s.h0;have:=s.h1;lia
inductive kK (vs:List V)(H:Hp)(Q:VK)(_e:XK):Prop
 |mk (li he up dn:Int) (_:vs=[.int li,.int he,.int up,.int dn]) (_:fo li he up dn) (_:Q (.str (dz li he up dn)) H)
theorem K5 {H:Hp}{Q:VK}{x y:Str}(q:Q (.str x) H)(e:x=y):Q (.str y) H:=e▸q
set_option maxHeartbeats 0 in
theorem EE (F:Z0 K "swept" yJ f fd):au P w K mg base aT 1 f fd ["light","here","up","down"] kK:=by
 rwa[F.ok Hu @ed (λB A outer s H R Q E L h=> ?_)]
 ·obtain ⟨li,U,S,dn,rfl,_⟩:=h;rfl
 obtain ⟨li,U,S,dn,rfl,j,q⟩:=h;rwa[⟨_,(aa @B (aa @B (aa @B (aa @B @g)))),?_⟩];have O:=j.u0;have W:=j.d0;have J:=j.li;have I:=j.he;clear j
 iterate 16 (all_goals (try ((ext);first|refine bO rfl ?_|refine aY rfl ?_|refine pc @b ?_|refine iT @b ?_|refine jy @s @s)))
 all_goals
  rwa[K5 q ?_];unfold dz
  repeat (first|rw [if_pos @b]|rw [if_neg @b])
inductive mw (vs:List V)(H:Hp)(Q:VK)(_e:XK):Prop
 |mk (he up dn:Int) (_:vs=[.int he,.int up,.int dn]) (_:0<=he) (_:he<=2) (_:0<=up) (_:0<=dn) (_:Q (.str (OT he up dn)) H)
set_option maxHeartbeats 0 in
theorem y9 (F:Z0 K "nearest" qu f fd):au P w K mg base aT 1 f fd ["here","up","down"] mw:=by
 rwa[F.ok Bv @ed (λj A outer s H R Q E B h=> ?_)]
 ·obtain ⟨U,S,dn,rfl,_⟩:=h;rfl
 obtain ⟨U,S,dn,rfl,I,h1,O,W,q⟩:=h;rwa[⟨_,(aa @cp (aa @B @g)),?_⟩]
 iterate 16 (all_goals (try ((ext);first|refine bO rfl ?_|refine aY rfl ?_|refine pc @b ?_|refine iT @b ?_|refine jy @s @s)))
 all_goals
  rwa[K5 q ?_];unfold OT
  repeat (first|rw [if_pos @b]|rw [if_neg @b])
inductive jN (vs:List V)(H:Hp)(Q:VK)(_e:XK):Prop
 |mk (top fl li he:Int) (_:vs=[.int top,.int fl,.int li,.int he]) (_: -1<=li) (_:li<=1) (_:0<=he) (_:he<=2) (_:0<top) (_:Q (.str (wB top fl li he)) H)
set_option maxHeartbeats 0 in
theorem wZ (F:Z0 K "shuttled" mJ f fd):au P w K mg base aT 1 f fd ["top","floor","light","here"] jN:=by
 rwa[F.ok yw @ed @ch]
 ·obtain ⟨j,fl,li,U,rfl,_⟩:=h;rfl
 obtain ⟨j,fl,li,U,rfl,l0,l1,I,h1,J,q⟩:=h;rwa[⟨_,(aa @a (aa @B (aa @B (aa @cp @g)))),?_⟩]
 iterate 16 (all_goals (try ((ext);first|refine bO rfl ?_|refine aY rfl ?_|refine pc @b ?_|refine iT @b ?_|refine jy @s @s|refine O6 @b ?_|refine vx @b ?_|refine Rt @s @s)))
 all_goals
  rwa[K5 q ?_];unfold wB
  repeat (first|rw [if_pos @b]|rw [if_neg @b])
noncomputable def oY:List Nat:=[111,120,117,100,115]
theorem B8:(s!"oxuds").cps.toList=oY:=by decide+kernel
unseal nW FK in
theorem Bi (c:Nat):nW ⟨#[c]⟩ @fV=decide (c∈oY):=by
 unfold nW;rw [PySem.StrLaws.found_one,B8]
def zc (s:Str):Prop:=s.length=36/\∀c∈s.cps.toList,c∈oY
noncomputable instance (s:Str):Decidable (zc s):=by unfold zc;infer_instance
inductive kJ (K:Fg)(_:Addr)(vs:List V)(H:Hp)(Q:VK)(_e:XK):Prop
 |mk (a s C dx:_) (_:vs=[.ref a,.str s]) (_:H a=some (.ins C dx [])) (_:um K C) (_:aN K C "letters") (_:zc s) (_:∀H',(∀b o,b≠a->H b=some o->H' b=some o)->H' a=some (.ins C dx [(s!"letters",.str s)])->Q .non H')
theorem ED {q9:Addr}{S O:Tok}(F:bo K "__init__" "Table.__init__" jR f fd)(bp:mg "len"=none)(Mv:mg "any"=none)(fE:mg "TABLE_SIZE"=some (.int 36 S))(Fz:mg "WORDS"=some (.str "oxuds" O)):au P w K mg base @co 1 f fd ["self","letters"] (kJ K q9):=by
 have wT:ay (.int 36) (.int 36 S):=⟨_,rfl⟩;have j:ay (.str "oxuds") (.str "oxuds" O):=⟨_,rfl⟩;rwa[F.okX wG (by symm) @u];obtain ⟨a,z,C,dx,rfl,Z,Y,U,W,q⟩:=h;rwa[⟨_,(aa (ax (PW.pt (jt @a (iO (kz rfl (bx (NM rfl rfl) rfl Mv boot_any (ar (bG rfl (aD (N':=["letter"]) (pk:=[none]) @m) @a @k @z (λC s H ex=>(dG (pj rfl) (wv 0) @a @U))) ap)))))) @cq aq) (ac @bD)),?_⟩];have B:z.length<=sizeLine:=bA (by rw [W.1];decide);rwa[⟨B,?_⟩];rwa[vx (by rw [W.1];rfl) ?_];rwa[FX (λi ys H'=>H'=H/\ys=(z.cps.toList.take i).map λc=>V.bl (!decide (c∈oY))) (by show z.length<=sizeLine;exact B) (λi ys H' p=>by rw [p.2,length_map,length_take];exact Nat.min_le_left _ _) ⟨rfl,rfl⟩ (λi c ys H' L p=> ?_) (λys H' p l n=> ?_)]
 ·obtain ⟨rfl,rfl⟩:=p;rwa[⟨cu,?_⟩]
  have af:z.cps.toList[i]? =some c:=by rw [Array.getElem?_toList];exact L
  rwa[⟨rfl,?_⟩];show _++[V.bl (!nW ⟨#[c]⟩ @fV)]=_;rw [Bi,take_add_one,af,map_append];rfl
 ·obtain ⟨rfl,rfl⟩:=p
  have R:upd H' l (.lst ((z.cps.toList.take z.cps.size).map λc=>V.bl (!decide (c∈oY)))) l=some (.lst (List.map V.bl (z.cps.toList.map λc=> !decide (c∈oY)))):=by
   rw [ag,take_of_length_le @e,map_map];rfl
  have J:ao H' (upd H' l (.lst ((z.cps.toList.take z.cps.size).map λc=>V.bl (!decide (c∈oY))))):= .upd n;generalize upd H' l (.lst ((z.cps.toList.take z.cps.size).map λc=>V.bl (!decide (c∈oY))))=H1 at R J ⊢;rwa[Pz @fw ?_];rw [any_map];rwa[aY (any_eq_false.mpr λc L=>by simp [W.2 c L]) ?_];rwa[cL (J.get Z) Y U @c ?_];rwa[q _ (λb o I e=> ?_) ag];rw [ai I];exact J b o e
noncomputable def sD (li he up dn:Int):Int:=12*(li+1)+4*he+2*(if 0<up then 1 else 0)+(if 0<dn then 1 else 0)
theorem qM {li U S dn:Int}(s:fo li U S dn):0<=sD li U S dn/\sD li U S dn<36:=by
 have:=s.l0;have:=s.l1;have:=s.h0;have:=s.h1;unfold sD;split<;>split<;>lia
inductive uB (vs:List V)(H:Hp)(Q:VK)(_e:XK):Prop
 |mk (li he up dn:Int) (_:vs=[.int li,.int he,.int up,.int dn]) (_:Q (.int (sD li he up dn)) H)
theorem EG (F:Z0 K "place_in_table" fL f fd):au P w K mg base aT 1 f fd ["light","here","up","down"] uB:=by
 rwa[F.ok qe (by symm) (λj A outer s H R Q E B h=> ?_)];obtain ⟨li,U,S,dn,rfl,q⟩:=h;rwa[⟨_,@g,?_⟩];unfold sD at q;by_cases z:0<S<;>by_cases J:0<dn
 ·rw [if_pos z,if_pos J] at q;left;exact q
 ·rw [if_pos z,if_neg J] at q;left;exact q
 ·rw [if_neg z,if_pos J] at q;left;exact q
 ·rw [if_neg z,if_neg J] at q;left;exact q
inductive Rk where
 |sw|ho|ne
 |ba (top:Int)
 |ta (s:Str)
noncomputable def Rk.ix:Rk->Nat
 | .sw=>0| .ho=>1| .ne=>2| .ba _=>3| .ta _=>4
noncomputable def O2 (s:Str)(k:Int):Str:=⟨#[s.cps.toList.getD k.toNat 0]⟩
noncomputable def Rk.word (r:Rk)(fl li he up dn:Int):Str:=match r with
 | .sw=>dz li he up dn
 | .ho=>xi fl li he up dn
 | .ne=>OT he up dn
 | .ba top=>wB top fl li he
 | .ta s=>O2 s (sD li he up dn)
noncomputable def Rk.fs:Rk->List (Str×V)
 | .ba top=>[(s!"top",.int top)]
 | .ta s=>[(s!"letters",.str s)]
 |_=>[]
def Rk.ok:Rk->Prop
 | .ba top=>0<top
 | .ta s=>zc s
 |_=>True
structure Ks where
 r:Addr
 h:Addr
 n:Addr
 s:Addr
 t:Addr
noncomputable def Rk.cl (k:Ks):Rk->Addr
 | .sw=>k.r| .ho=>k.h| .ne=>k.n| .ba _=>k.s| .ta _=>k.t
structure Nr (K:Fg)(C:Addr):Prop where
 i:gm K C
 n:aN K C "top"
 l:aN K C "letters"
inductive dD (K:Fg)(i:Nat)(vs:List V)(H:Hp)(Q:VK)(_e:XK):Prop
 |mk (rk:Rk) (a s C dx:Addr) (fl li he up dn:Int) (_:vs=[.ref a,.ref s]) (_:rk.ix=i) (_:rk.ok) (_:H a=some (.ins C dx rk.fs)) (_:Nr K C) (_:aB K H s [.int fl,.int li,.int he,.int up,.int dn]) (_:fo li he up dn) (_:Q (.str (rk.word fl li he up dn)) H)
theorem Ez (F:bo K "word" "Rule.word" mK f fd)(Y:aU P w K mg base 1 "swept" ["light","here","up","down"] kK):au P w K mg base aT 2 f fd ["self","seen"] (dD K 0):=by
 rwa[F.ok yx (by symm) (λj A outer s H Z Q E L h=> ?_)];obtain ⟨I,a,z,C,dx,fl,li,U,O,dn,rfl,B,W,R,S,hs,J,q⟩:=h;cases I<;>cases B;rwa[⟨_,@g,?_⟩];left;exact kK.mk _ _ _ _ rfl J q
theorem y4 (F:bo K "word" "Homing.word" iK f fd)(Y:aU P w K mg base 1 "swept" ["light","here","up","down"] kK):au P w K mg base aT 2 f fd ["self","seen"] (dD K 1):=by
 rwa[F.ok uT (by symm) (λj A outer s H Z Q E O h=> ?_)];obtain ⟨I,a,z,C,dx,fl,li,U,S,dn,rfl,B,W,R,L,hs,J,q⟩:=h;cases I<;>cases B;rwa[⟨_,@fJ,?_⟩];have q:Q (.str (xi fl li U S dn)) H:=q;unfold xi at q;left;rwa[kK.mk _ _ _ _ rfl J ?_];by_cases h1:dz li U S dn=ws
 ·by_cases h2:fl=0
  ·rw [if_neg (λz=>z.2 h2)] at q;left;exact q
  ·rw [if_pos ⟨h1,h2⟩] at q;left;exact q
 ·rw [if_neg @cW] at q;left;exact q
theorem wY (F:bo K "word" "Nearest.word" gI f fd)(R:aU P w K mg base 1 "nearest" ["here","up","down"] mw):au P w K mg base aT 2 f fd ["self","seen"] (dD K 2):=by
 rwa[F.ok sr (by symm) (λB A outer s H Z Q E L h=> ?_)];obtain ⟨J,a,z,C,dx,fl,li,U,O,dn,rfl,I,W,Y,S,hs,j,q⟩:=h;cases J<;>cases I;rwa[⟨_,@g,?_⟩];left;exact mw.mk _ _ _ rfl j.h0 j.h1 j.u0 j.d0 q
theorem wX (F:bo K "word" "Shuttle.word" gE f fd)(L:aU P w K mg base 1 "shuttled" ["top","floor","light","here"] jN):au P w K mg base aT 2 f fd ["self","seen"] (dD K 3):=by
 rwa[F.ok sj (by symm) (λB A outer s H Z Q E R h=> ?_)];obtain ⟨J,a,z,C,dx,fl,li,U,Y,dn,rfl,I,W,O,S,hs,j,q⟩:=h;cases J<;>cases I;rwa[⟨_,@g,?_⟩];left;rwa[dI O S.i.cl S.n rfl ?_];left;exact jN.mk _ _ _ _ rfl j.l0 j.l1 j.h0 j.h1 W q
theorem BO (F:bo K "word" "Table.word" jQ f fd)(im:aU P w K mg base 1 "place_in_table" ["light","here","up","down"] uB):au P w K mg base aT 2 f fd ["self","seen"] (dD K 4):=by
 rwa[F.ok wF (by symm) (λB A outer s H vs Q E hr h=> ?_)];obtain ⟨O,a,z,C,dx,fl,li,U,j,dn,rfl,I,W,Y,S,hs,R,q⟩:=h;cases O<;>cases I;rename_i t;rwa[⟨_,@g,?_⟩];have W:zc t:=W;obtain ⟨J,L⟩:=qM R;left;rwa[dI Y S.i.cl S.l rfl ?_];left;erw[uB.mk _ _ _ _ rfl ?_]
 have Z:t.cps.toList.length=36:=by rw [aR];exact W.1
 rwa[uN (bA (by rw [W.1];decide)) (c:=t.cps.toList.getD (sD li U j dn).toNat 0) ?_ q];unfold l9 AK;rw [if_pos J,if_pos (by rw [Z];exact L)];show t.cps.toList[(sD li U j dn).toNat]? =_;rw [getElem?_eq_getElem @b,getD_eq_getElem?_getD,getElem?_eq_getElem @b];rfl
theorem AT (rk:Rk):rk.fs.lookup (s!"word")=none:=by cases rk<;>rfl
structure Qh (K:Fg)(P:Program)(w:World)(mg:Str->Option Value)(base:Heap)(k:Ks):Prop where
 c:∀rk:Rk,Nr K @eM
 m:∀rk:Rk,iy P w K mg base aT 2 "word" (rk.cl k) (dD K rk.ix)
unseal fY in
theorem OV {C j:Addr}{E:XK}{s:Str}{H:Hp}{Q:VK}(c:Nr K C)(W:zc s)(g:∀a dx H',ao H H'->H a=none->H' a=some (.ins C dx [(s!"letters",.str s)])->Q (.ref a) H'):fY C (kJ K j) E [.str s] H Q:=by
 show ∀a dx,H a=none->H dx=none->dx≠a->kJ K j (.ref a::([.str s]++[])) @l (λv H2=>v= .non/\Q (.ref a) H2) E;intro a dx h1 h2 B;rwa[kJ.mk _ _ _ _ rfl ag c.i.cl c.l W (λH' F O=>⟨rfl,g a dx H' (λL o e=> ?_) h1 O⟩)];exact F L o (λz=>by rw [z,h1] at e;cases e) (eL h1 h2 L o e)
inductive Dx (K:Fg)(vs:List V)(H:Hp)(Q:VK)(_e:XK):Prop
 |mk (a t C dx:_) (_:vs=[.ref a,.int t]) (_:H a=some (.ins C dx [])) (_:um K C) (_:aN K C "top") (_:Q .non (upd H a (.ins C dx [(s!"top",.int t)])))
theorem EF (F:bo K "__init__" "Shuttle.__init__" gG f fd):au P w K mg base aT 1 f fd ["self","top"] (Dx K):=by
 rwa[F.ok sk (by symm) @bd];obtain ⟨a,t,C,dx,rfl,O,S,B,q⟩:=h;rwa[⟨_,(ac @bD),?_⟩];exact cL O S B @c q
unseal fY in
theorem OW {C:Addr}{E:XK}{t:Int}{H:Hp}{Q:VK}(c:Nr K C)(g:∀a dx H',ao H H'->H a=none->H' a=some (.ins C dx [(s!"top",.int t)])->Q (.ref a) H'):fY C (Dx K) E [.int t] H Q:=by
 show ∀a dx,H a=none->H dx=none->dx≠a->Dx K (.ref a::([.int t]++[])) @l (λv H2=>v= .non/\Q (.ref a) H2) E;intro a dx h1 h2 L;rwa[Dx.mk _ _ _ _ rfl ag c.i.cl c.n ⟨rfl,g a dx _ ?_ h1 ag⟩];intro b u z;rw [ai (λe=>by rw [e,h1] at z;cases z)];exact eL h1 h2 b u z
theorem Eb {jp cP bS bN dU:Addr}(ac:iy P w K mg base aT 2 "word" jp (dD K 0))(U:iy P w K mg base aT 2 "word" cP (dD K 1))(L:iy P w K mg base aT 2 "word" bS (dD K 2))(z:iy P w K mg base aT 2 "word" bN (dD K 3))(Y:iy P w K mg base aT 2 "word" dU (dD K 4))(ad:gm K jp)(af:aN K jp "top")(ae:aN K jp "letters")(W:gm K cP)(R:aN K cP "top")(S:aN K cP "letters")(F:gm K bS)(O:aN K bS "top")(J:aN K bS "letters")(j:gm K bN)(B:aN K bN "top")(I:aN K bN "letters")(Z:gm K dU)(ab:aN K dU "top")(aa:aN K dU "letters"):Qh K P w mg base ⟨jp,cP,bS,bN,dU⟩ where
 c:=λrk=>by
  cases rk with
  |sw=>exact ⟨ad,af,ae⟩
  |ho=>exact ⟨W,R,S⟩
  |ne=>exact ⟨F,O,J⟩
  |ba top=>exact ⟨j,B,I⟩
  |ta s=>exact ⟨Z,ab,aa⟩
 m:=λrk=>by
  cases rk with
  |sw=>exact ac
  |ho=>exact U
  |ne=>exact L
  |ba top=>exact z
  |ta s=>exact Y
theorem IL {s:Str}(h:zc s):Qn s:=λc I=>by
 have:=h.2 c I;simp only [oY,mem_cons,not_mem_nil,or_false] at this;lia
abbrev KY:Str:=s!"sweep"
abbrev P7:Str:=s!"homing"
abbrev P6:Str:=s!"nearest"
abbrev P4:Str:=s!"shuttle"
abbrev sd:Str:=s!"table "
noncomputable def eS (s:Str)(fl:Int):Option Rk:=if s=KY then some .sw else if s=P7 then some .ho else if s=P6 then some .ne else if s=P4 then some (.ba (fl - 1)) else
 if Txt.slice s none @fl=sd/\zc (Txt.slice s @fl none) then some (.ta (Txt.slice s @fl none)) else none
theorem lj {s:Str}{fl:Int}(h:2<=fl){rk:Rk}(e:eS s fl=some rk):rk.ok:=by
 unfold eS at e;split at e
 ·cases e;trivial
 split at e
 ·cases e;trivial
 split at e
 ·cases e;trivial
 split at e
 ·cases e;show 0<fl - 1;lia
 split at e
 ·rename_i h;cases e;exact h.2
 ·cases e
theorem Bk {s:Str}:uy s sd=decide (Txt.slice s none @fl=sd):=by
 have c:=kZ (x:=s) (n:=6) @c
 have W:sd.cps.toList.length=6:=by decide
 unfold uy Builtin.Str.subAt
 have e:(decide (0+sd.length<=s.length)&&(s.cps.extract 0 (0+sd.length)==sd.cps))=decide (s.cps.toList.take 6=sd.cps.toList):=by
  rw [Bool.eq_iff_iff,Bool.and_eq_true,decide_eq_true_eq,decide_eq_true_eq,beq_iff_eq]
  have O:(s.cps.extract 0 (0+sd.length)).toList=s.cps.toList.take 6:=by
   show (s.cps.extract 0 6).toList=_;simp
  constructor
  ·rintro ⟨_,h⟩;rw [<-O,h]
  ·intro h;rwa[⟨?_,Array.toList_inj.mp (by rw [O,h])⟩];have:=congrArg List.length h;rw [length_take,W,aR] at this;show 0+6<=s.length;lia
 rw [e];rwa[decide_eq_decide.mpr ⟨λh=>ux (by rw [c];exact h),λh=> ?_⟩];have:=congrArg (λz:Str=>z.cps.toList) h;rw [<-this];exact c.symm
def J6 (s:Str):Prop:=s.length<=1000/\Qn s
def fS (K:Fg)(k:Ks)(_:Addr):Sp:=λvs H Q _=>∃s fl rk,vs=[.str s,.int fl]/\s.length<=1000/\eS s fl=some rk/\∀a dx H',ao H H'->H a=none->H' a=some (.ins @eM dx rk.fs)->Q (.ref a) H'
theorem pD {k:Ks}{j:Addr}{H:Hp}{s:Str}{fl:Int}{rk:Rk}{Q:VK}{E:XK}(h1:s.length<=1000)(h:eS s fl=some rk)(g:∀a dx H',ao H H'->H a=none->H' a=some (.ins @eM dx rk.fs)->Q (.ref a) H'):fS K k j [.str s,.int fl] H Q E:=⟨s,fl,rk,rfl,h1,h,g⟩
theorem BQ {k:Ks}{q9:Addr}{L:Tok}(F:Z0 K "rule_of" uY f fd)(bp:mg "len"=none)(cS:Nr K k.s)(Z:Nr K k.t)(O:mg "Rule"=some (.ref k.r))(R:mg "Homing"=some (.ref k.h))(rg:mg "Nearest"=some (.ref k.n))(J:Kb K k.r)(vn:Kb K k.h)(qT:Kb K k.n)(qX:i6 P w K mg base aT 1 "Shuttle" k.s (Dx K))(zj:i6 P w K mg base @co 1 "Table" k.t (kJ K q9))(lD:mg "TABLE_START"=some (.str "table " L)):au P w K mg base @co 3 f fd ["text","floors"] (fS K k q9):=by
 have B:ay (.str "table ") (.str "table " L):=⟨_,rfl⟩;rwa[F.okX DR @ba (λab A outer s H vs Q E S h=> ?_)]
 ·obtain ⟨s,fl,rk,rfl,_⟩:=h;rfl
 obtain ⟨z,fl,rk,rfl,ad,j,q⟩:=h;rwa[⟨_,(aa (ax @a (ac (aj (yW J rfl O))) aq) (aa (ax @a (ac (aj (yW vn rfl R))) aq) (aa (ax @a (ac (aj (yW qT rfl rg))) aq) (aa (ax @a (ac (aj (gv qX fX S @c rfl @E))) aq) (aa (ax (kz rfl (ij rfl PySem.F.plainAttrs_str PySem.F.slot_str_startswith PySem.F.type_str_startswith C4 (wv 0) @E)) (ac (aj (gv zj Jh.passes S @c rfl @E))) aq) @cq))))),?_⟩];have Y:z.length<=sizeLine:=bA @b;unfold eS at j;rwa[jy @bx @bx]
 ·rw [if_pos h] at j;cases j;exact Mu q
 rw [if_neg h] at j;rwa[jy @bx @bx]
 ·rw [if_pos h] at j;cases j;exact Mu q
 rw [if_neg h] at j;rwa[jy @bx @bx]
 ·rw [if_pos h] at j;cases j;exact Mu q
 rw [if_neg h] at j;rwa[jy @bx @bx]
 ·rw [if_pos h] at j;cases j;exact OW cS q
 rw [if_neg h] at j;have I:=Bk (s:=z);erw[⟨rfl,?_⟩];rw [I];rwa[jy @eX @eX]
 ·split at j
  ·cases j;rename_i W;rwa[⟨bA @c,?_⟩];rwa[⟨Y,?_⟩];exact OV Z W.2 q
  ·cases j
 ·rw [if_neg (λy=>U y.1)] at j;cases j
seal fS
noncomputable def KM (k:Int):List V:=[.int 1,.int (k / 12 - 1),.int (k / 4% 3),.int (k / 2% 2),.int (k% 2)]
theorem mh {k:Int}(B:0<=k)(h1:k<36):fo (k / 12 - 1) (k / 4% 3) (k / 2% 2) (k% 2):=⟨by lia,by lia,by lia,by lia,by lia,by lia⟩
inductive pW (K:Fg)(vs:List V)(H:Hp)(Q:VK)(_e:XK):Prop
 |mk (k:Int) (_:vs=[.int k]) (_:∀r H',ao H H'->H r=none->H' r=some (.tup (KM k))->Q (.ref r) H')
theorem BP (F:Z0 K "seen_at" uX f fd):au P w K mg base aT 1 f fd ["place"] (pW K):=by
 rwa[F.ok DQ (by symm) (λj A outer s H B Q E S h=> ?_)];obtain ⟨k,rfl,q⟩:=h;rwa[⟨_,@g,?_⟩];left;rwa[⟨by decide,?_⟩];left;rwa[⟨by decide,?_⟩];left;rwa[⟨by decide,?_⟩];left;exact bX P9 λr H1 J z R=>q r H1 J z R
theorem tS {z:Str}(F:z.length=0){ts:List Str}(h:∀t∈ts,t.length=1):(Builtin.Str.glued z ts).length<=ts.length/\ts.toArray.foldl (· + ·.length+z.length) 0<=ts.length:=by
 have I:∀(l:List Str) (j:Array Nat),(∀t∈l,t.length=1)->(l.foldl (λj p=>j++z.cps++p.cps) j).size=j.size+l.length:=by
  intro l
  induction l with
  |nil=>intro j _;simp
  |cons p l ih=>
   intro j W;have R:p.cps.size=1:=W p mem_cons_self;have S:z.cps.size=0:=F;rw [foldl_cons,ih _ λt J=>W t @dX,Array.size_append,Array.size_append,R,S,length_cons];lia
 have B:∀(l:List Str) (n:Nat),(∀t∈l,t.length=1)->l.foldl (λO L=>O+L.length+z.length) n=n+l.length:=by
  intro l
  induction l with
  |nil=>intro n _;simp
  |cons p l ih=>
   intro n W;rw [foldl_cons,ih _ λt J=>W t @dX,W p mem_cons_self,F,length_cons];lia
 rwa[⟨?_,?_⟩]
 ·cases ts with
  |nil=>exact Nat.le_refl _
  |cons p l=>
   show (l.foldl (λj p=>j++z.cps++p.cps) p.cps).size<=_;rw [I l _ λt J=>h t @dX];have R:p.cps.size=1:=h p mem_cons_self;rw [R,length_cons];lia
 ·rw [foldl_toArray,B ts 0 h];lia
def isL (x:Str):Prop:=x.length=1/\∀c∈x.cps.toList,c∈oY
theorem AL {x:Str}(h:x=wo\/x=wx\/x=wu\/x=wd\/x=ws):isL x:=by
 rcases h with rfl|rfl|rfl|rfl|rfl<;>exact ⟨by decide,by decide⟩
theorem Ap (li U S dn:Int):isL (dz li U S dn):=AL (by unfold dz;repeat (first|split|simp))
theorem Mp (U S dn:Int):isL (OT U S dn):=AL (by unfold OT;repeat (first|split|simp))
theorem Le (j fl li U:Int):isL (wB j fl li U):=AL (by unfold wB;repeat (first|split|simp))
theorem MQ (fl li U S dn:Int):isL (xi fl li U S dn):=by
 unfold xi;split
 ·exact AL (.inr (.inr (.inr (.inl rfl))))
 ·exact Ap ..
theorem Rk.isL {rk:Rk}(h:rk.ok){fl li U S dn:Int}(j:fo li U S dn):My.isL (rk.word fl li U S dn):=by
 cases rk with
 |sw=>exact Ap ..
 |ho=>exact MQ ..
 |ne=>exact Mp ..
 |ba top=>exact Le ..
 |ta s=>
  have h:zc s:=h;obtain ⟨J,z⟩:=qM j
  have W:s.cps.toList.length=36:=by rw [aR];exact h.1
  rwa[⟨rfl,λc I=> ?_⟩];have I:c∈[s.cps.toList.getD (sD li U S dn).toNat 0]:=I;rw [mem_singleton.mp I,getD_eq_getElem?_getD,getElem?_eq_getElem (show (sD li U S dn).toNat<s.cps.toList.length by lia)];exact h.2 _ (getElem_mem _)
noncomputable def Rk.at (rk:Rk)(k:Int):Str:=rk.word 1 (k / 12 - 1) (k / 4% 3) (k / 2% 2) (k% 2)
noncomputable def Rk.tbl (rk:Rk):Str:=Builtin.Str.glued "" ((List.range 36).map λ(k:Nat)=>rk.at k)
inductive DK (K:Fg)(k:Ks)(vs:List V)(H:Hp)(Q:VK)(_e:XK):Prop
 |mk (rk:Rk) (a dx:Addr) (_:vs=[.ref a]) (_:rk.ok) (_:H a=some (.ins @eM dx rk.fs)) (_:∀H',ao H H'->Q (.str rk.tbl) H')
theorem Mm {k:Ks}{L:Tok}(F:Z0 K "as_table" qF f fd)(aK:mg "range"=none)(R:Qh K P w mg base k)(fE:mg "TABLE_SIZE"=some (.int 36 L))(xx:aU P w K mg base 1 "seen_at" ["place"] (pW K)):au P w K mg base aT 3 f fd ["rule"] (DK K k):=by
 have wT:ay (.int 36) (.int 36 L):=⟨_,rfl⟩;rwa[F.ok BG (by symm) @bS];obtain ⟨I,a,dx,rfl,W,O,q⟩:=h;rwa[⟨_,(ac (aj (ij rfl PySem.F.plainAttrs_str PySem.F.slot_str_join PySem.F.type_str_join (ya rfl) cN (ar (bG rfl (aD (N':=["place","rule"]) (pk:=[none,some 0]) @m) @cx @k @z (λC s H ex=>(CY (P:=P) (w:=w) (K:=K) (mg:=mg) (base:=base) (n:=2) rfl rfl rfl rfl rfl fX hr @c (wv 1) @E))) ap)))),?_⟩];left;rwa[⟨rfl,?_⟩];rwa[⟨⟨by decide,by decide⟩,?_⟩];rwa[fi (λi ys H'=>ao H H'/\ys=((List.range i).map λ(k:Nat)=>I.at k).map V.str) (bA @c) (λi ys H' p=>by rw [p.2];simp) ⟨.refl _,rfl⟩ @dw (λys H' p l n=> ?_)]
 ·obtain ⟨B,rfl⟩:=p;rwa[⟨cu,?_⟩];rwa[gR (B.get O) (AT I) (R.m I) ?_];erw[pW.mk _ rfl λz H1 J n1 j=> ?_]
  have ak:(0+(i:Int))<36:=by lia
  rwa[dD.mk _ _ _ _ _ _ _ _ _ _ rfl rfl W ((B.trans J).get O) (R.c I) (aB.of j) (mh @b ak) ?_];rwa[⟨B.trans J,?_⟩];rw [range_succ,map_append,map_append];show _++[V.str (I.at (0+(i:Int)))]=_;rw [Int.zero_add];rfl
 ·obtain ⟨B,rfl⟩:=p
  obtain ⟨Z,U⟩:=tS (z:=s!"") @A (ts:=(List.range 36).map λ(k:Nat)=>I.at k) (λt S=>by
   obtain ⟨k,hk,rfl⟩:=mem_map.mp S;have:=mem_range.mp hk
   exact (Rk.isL W (mh @b @b)).1)
  simp only [length_map,length_range] at Z U;exact Fm (ts:=(List.range 36).map λ(k:Nat)=>I.at k) @eV @bq @bq (q _ (B.trans (.upd n)))
theorem xj {z:Str}(B:z.cps.toList=[])(ts:List Str):(Builtin.Str.glued z ts).cps.toList=(ts.map λt=>t.cps.toList).flatten:=by
 have J:∀(l:List Str) (j:Array Nat),(l.foldl (λj p=>j++z.cps++p.cps) j).toList=j.toList++(l.map λt=>t.cps.toList).flatten:=by
  intro l
  induction l with
  |nil=>intro j;simp
  |cons p l ih=>intro j;rw [foldl_cons,ih];simp [B]
 unfold Builtin.Str.glued;show ((ts.drop 1).foldl (λj p=>j++z.cps++p.cps) (ts.headD Str.empty).cps).toList=_;rw [J]
 cases ts with
 |nil=>rfl
 |cons t ts=>rfl
def PP (ts:List Str):Prop:=ts.length=36/\∀x∈ts,isL x
theorem tU:∀(ts:List Str),(∀x∈ts,isL x)->((ts.map λt=>t.cps.toList).flatten).length=ts.length
 |[],_=>rfl
 |t::ts,h=>by
  have h1:=(h t (.head _)).1;have h2:=tU ts λx z=>h x (.tail _ z);rw [map_cons,flatten_cons,length_append,h2,aR,h1,length_cons];lia
theorem AC {ts:List Str}(h:PP ts):zc (Builtin.Str.glued "" ts):=by
 have I:=xj (z:=s!"") @A ts;rwa[⟨?_,λc j=> ?_⟩]
 ·rw [<-aR,I,tU ts h.2,h.1]
 ·rw [I] at j;obtain ⟨l,W,j⟩:=mem_flatten.mp j;obtain ⟨x,ae,rfl⟩:=mem_map.mp W;exact (h.2 x ae).2 c j
theorem Fi {i:Int}(B:0<=i)(h1:i<5):∃c,l9 (s!"oxuds").cps.toList i=some c/\isL ⟨#[c]⟩:=by
 rcases (show i=0\/i=1\/i=2\/i=3\/i=4 by lia) with rfl|rfl|rfl|rfl|rfl<;>exact ⟨_,rfl,rfl,by decide⟩
theorem Di {rk:Rk}(h:rk.ok):PP ((List.range 36).map λ(k:Nat)=>rk.at k):=⟨by simp,λx z=>by
 obtain ⟨k,R,rfl⟩:=mem_map.mp z;have:=mem_range.mp R
 exact Rk.isL h (mh @b @b)⟩
theorem KP {rk:Rk}(h:rk.ok):zc rk.tbl:=AC (Di h)
theorem Rs {x:Str}(h:isL x):x∈cJ:=by
 obtain ⟨h1,h2⟩:=h
 have W:x.cps.toList.length=1:=by rw [aR];exact h1
 obtain ⟨⟨l⟩⟩:=x
 match l,W with
 |[c],_=>
  have I:c∈oY:=h2 c @e;unfold oY at I;simp only [mem_cons,not_mem_nil,or_false] at I
  rcases I with rfl|rfl|rfl|rfl|rfl
  ·exact (show (⟨#[111]⟩:Str)=s!"o" by decide+kernel)▸ .head _
  ·exact (show (⟨#[120]⟩:Str)=s!"x" by decide+kernel)▸ .tail _ (.head _)
  ·exact (show (⟨#[117]⟩:Str)=s!"u" by decide+kernel)▸ .tail _ (.tail _ (.head _))
  ·exact (show (⟨#[100]⟩:Str)=s!"d" by decide+kernel)▸ .tail _ (.tail _ (.tail _ (.head _)))
  ·exact (show (⟨#[115]⟩:Str)=s!"s" by decide+kernel)▸ .tail _ (.tail _ (.tail _ (.tail _ (.head _))))
theorem Ls {k:Ks}(R:Qh K P w mg base k){H:Hp}{a dx:Addr}{rk:Rk}(W:rk.ok)(e:H a=some (.ins @eM dx rk.fs)):CM P w K mg base H a rk.word:=
 ⟨rk.cl k,dx,rk.fs,dD K rk.ix,e,AT rk,R.m rk,λfl li U S dn s=>Rs (Rk.isL W s),λH' z fl li U S dn Q E h1 h2 L j=>dD.mk _ _ _ _ _ _ _ _ _ _ rfl rfl W h1 (R.c rk) h2 L j⟩
def Gp (x:Str):Prop:=x.length<=1000/\Qn x
instance (x:Str):Decidable (Gp x):=by unfold Gp Qn;infer_instance
def iq.d (l:iq):D:= .tup [.int l.start,.int l.room,.int l.turns,.str l.kind]
def AN (fl:Int)(ls:List iq)(lo:Int)(so:Str):List D:=[.int fl,.tup @fP,.int lo,.str so]
def vS (K:Fg)(H:Hp)(t:V)(fl:Int)(ls:List iq)(lo:Int)(so:Str):Prop:=∃p xs,t= .ref p/\H p=some (.tup xs)/\aC K H xs (AN fl ls lo so)
def Gq (K:Fg)(H:Hp)(a:Addr)(ds:List D):Prop:=bv K H (.ref a) (.lst ds)\/bv K H (.ref a) (.tup ds)
def mx (K:Fg)(_:Addr):Sp:=λvs H Q _=>∃fl a lo so ls,vs=[.int fl,.ref a,.int lo,.str so]/\Gq K H a @fP/\ls.length<=700/\Nn fl ls lo so=true/\∀t H',ao H H'->vS K H' t fl ls lo so->Q t H'
theorem OZ {c:Addr}{H:Hp}{fl:Int}{a:Addr}{lo:Int}{so:Str}{j:List iq}{Q:VK}{E:XK}(h1:Gq K H a (j.map iq.d))(L:j.length<=700)(z:Nn fl j lo so=true)(g:∀t H',ao H H'->vS K H' t fl j lo so->Q t H'):mx K c [.int fl,.ref a,.int lo,.str so] H Q E:=
 ⟨fl,a,lo,so,j,rfl,h1,L,z,g⟩
seal mx
inductive yq (K:Fg)(vs:List V)(H:Hp)(Q:VK)(_e:XK):Prop
 |mk (fl:_) (l:iq) (_:vs=[.int fl,.int l.start,.int l.room,.int l.turns,.str l.kind]) (_:Q (.bl (l.ok fl)) H)
theorem Gj {a x:Str}:(a==x)=decide (x=a):=by
 by_cases h:x=a
 ·rw [decide_eq_true h,h,beq_self_eq_true]
 ·rw [decide_eq_false h,beq_eq_false_iff_ne.mpr (Ne.symm h)]
theorem Sf {x a b c:Str}:vw (.str x) [.str a,.str b,.str c]=decide (x=a\/x=b\/x=c):=by
 show ((a==x)||((b==x)||((c==x)||false)))=_;rw [Gj,Gj,Gj,Bool.or_false,<-Bool.decide_or,<-Bool.decide_or]
theorem Sg {x a b:Str}:vw (.str x) [.str a,.str b]=decide (x=a\/x=b):=by
 show ((a==x)||((b==x)||false))=_;rw [Gj,Gj,Bool.or_false,<-Bool.decide_or]
theorem II {j:Addr}{W S:Tok}(F:Z0 K "fits_lift" mV f fd)(rh:mg "MOST_ROOM"=some (.int 6 W))(oq:mg "MOST_TURNS"=some (.int 4 S))(oz:mg "DOOR_KINDS"=some (.ref j))(iZ:∀H:Hp,aB K H j [.str "plain",.str "hasty",.str "slow"]):au P w K mg base aT 1 f fd ["floors","start","room","turns","kind"] (yq K):=by
 have I:ay (.int 6) (.int 6 W):=⟨_,rfl⟩;have B:ay (.int 4) (.int 4 S):=⟨_,rfl⟩;rwa[F.ok yE (by symm) @u];obtain ⟨fl,⟨st,O,tu,J⟩,rfl,q⟩:=h;have T:=iZ H
 have L: ¬(0<=st/\st<fl/\1<=O/\O<=6/\1<=tu/\tu<=4/\(J=s!"plain"\/J=s!"hasty"\/J=s!"slow"))->Q (.bl false) H:=λz=>by
  rw [show iq.ok fl ⟨st,O,tu,J⟩=false from decide_eq_false z] at q;exact q
 rwa[⟨_,(aa @db @g),?_⟩];by_cases h1:0<=st
 ·by_cases h2:st<fl
  ·by_cases Y:1<=O
   ·by_cases Z:O<=6
    ·by_cases U:1<=tu
     ·by_cases R:tu<=4
      ·left;rwa[Li T rfl rfl ?_];rw [Sf];have e:iq.ok fl ⟨st,O,tu,J⟩=decide (J=s!"plain"\/J=s!"hasty"\/J=s!"slow"):=decide_eq_decide.mpr ⟨λz=>z.2.2.2.2.2.2,λz=>⟨h1,h2,Y,Z,U,R,z⟩⟩;rw [e] at q;exact q
      ·left;exact L λz=>R z.2.2.2.2.2.1
     ·left;exact L λz=>U z.2.2.2.2.1
    ·left;exact L λz=>Z z.2.2.2.1
   ·left;exact L λz=>Y z.2.2.1
  ·left;exact L λz=>h2 z.2.1
 ·left;exact L λz=>h1 z.1
inductive yp (K:Fg)(vs:List V)(H:Hp)(Q:VK)(_e:XK):Prop
 |mk (fl a:_) (ls:List iq) (_:vs=[.int fl,.ref a]) (_:Gq K H a @fP) (_:ls.length<=700) (_:∀H',ao H H'->Q (.bl (decide (1<=ls.length/\ls.length<=3)&&ls.all @dt)) H')
theorem Gq.out {H:Hp}{a:Addr}{ds:List D}(h:Gq K H a ds):∃xs,(aA K H a xs\/aB K H a xs)/\aC K H xs ds:=by
 rcases h with h|h
 ·obtain ⟨_,xs,e,h1,h2⟩:=h.outL;cases e;exact ⟨xs,.inl h1,h2⟩
 ·obtain ⟨_,xs,e,h1,h2⟩:=h.outT;cases e;exact ⟨xs,.inr h1,h2⟩
theorem IH {L:Tok}(F:Z0 K "fits_lifts" j3 f fd)(bp:mg "len"=none)(Mw:mg "all"=none)(ow:mg "MOST_LIFTS"=some (.int 3 L))(rP:aU P w K mg base 1 "fits_lift" ["floors","start","room","turns","kind"] (yq K)):au P w K mg base aT 2 f fd ["floors","lifts"] (yp K):=by
 have j:ay (.int 3) (.int 3 L):=⟨_,rfl⟩;rwa[F.ok wP (by symm) @bS];obtain ⟨fl,a,I,rfl,Z,hl,q⟩:=h;obtain ⟨xs,B,dx⟩:=Z.out;have hx:=aE dx;rwa[⟨_,(aa @db (ac (aj (bx (NO rfl rfl) rfl Mw boot_all (ar (bG rfl (aD (N':=["start","room","turns","kind","floors"]) (pk:=[none,none,none,none,some 0]) @m) @a @n @z @k) ap))))),?_⟩]
 have S: ¬(1<=I.length/\I.length<=3)->Q (.bl false) H:=λz=>by
  have:=q H (.refl _);rw [decide_eq_false z] at this;exact this
 rwa[Av B ?_];by_cases h1:1<=I.length
 ·by_cases h2:I.length<=3
  ·left
   rcases B with B|B
   all_goals
    first|refine cZ B ?_|refine dN B ?_
    first
     |refine cx (xs:=xs) (λi ys H'=>H'=H/\ys=((I.map @dt).take i).map V.bl) @bq (λi ys H' p=>by rw [p.2,length_map,length_take];exact Nat.min_le_left _ _) ⟨rfl,rfl⟩ (λi ys H' _ p=>by rw [p.1];exact B) (λi x ys H' J p=> ?_) @du
     |refine cW (xs:=xs) (λi ys H'=>H'=H/\ys=((I.map @dt).take i).map V.bl) @bq (λi ys H' p=>by rw [p.2,length_map,length_take];exact Nat.min_le_left _ _) ⟨rfl,rfl⟩ (λi ys H' _ p=>by rw [p.1];exact B) (λi x ys H' J p=> ?_) @du
    ·obtain ⟨rfl,rfl⟩:=p;obtain ⟨l,O,U⟩:=bC dx J;obtain ⟨u,us,rfl,hu,R⟩:=U.outT
     cases R with|cons q0 t0=>cases t0 with|cons q1 L=>cases L with|cons q2 t2=>cases t2 with|cons q3 t3=>
     cases t3;cases q0.isInt;cases q1.isInt;cases q2.isInt;cases q3.isStr;left;rwa[⟨kE,?_⟩];left;rwa[yq.mk _ l rfl ?_];rwa[⟨rfl,?_⟩];rw [take_succ,map_append,getElem?_map,O];rfl
    ·obtain ⟨rfl,rfl⟩:=p;rwa[PB (bs:=I.map @dt) (aA.of (by rw [ag,take_of_length_le (by rw [length_map];lia)])) ?_];have:=q _ (ao.upd (o:= .lst (((I.map @dt).take xs.length).map V.bl)) W);rw [decide_eq_true ⟨h1,h2⟩,Bool.true_and] at this;rw [all_map];exact this
  ·left;exact S λz=>h2 z.2
 ·left;exact S λz=>h1 z.1
inductive uG (vs:List V)(H:Hp)(Q:VK)(_e:XK):Prop
 |mk (fl lo:Int) (_:vs=[.int fl,.int lo]) (_:2<=fl) (_:fl<=8) (_:Q (.bl (decide (0<=lo/\lo<2^fl.toNat/\lo% 2=0))) H)
theorem ES (F:Z0 K "fits_locked" iL f fd)(L:aU P w K mg base 1 "bit" ["k"] kU)(R:Z03 P w K mg base):au P w K mg base aT 3 f fd ["floors","locked"] uG:=by
 rwa[F.ok uU (by symm) @cf];obtain ⟨fl,lo,rfl,O,J,q⟩:=h;rwa[⟨_,@g,?_⟩];obtain ⟨n,rfl⟩:=Int.eq_ofNat_of_zero_le (show 0<=fl by lia)
 have B:((2:Int)^((n:Int)).toNat)=((2^n:Nat):Int):=by rw [Int.toNat_natCast,Int.natCast_pow];rfl
 by_cases h1:0<=lo
 ·obtain ⟨M,rfl⟩:=Int.eq_ofNat_of_zero_le h1;left;erw[kU.mk _ rfl @b ?_];rw [B] at q;by_cases h2:(M:Int)<((2^n:Nat):Int)
  ·rwa[pc h2 ?_];rwa[fB.mk _ 0 rfl @c ?_]
   have e:decide (0<=(M:Int)/\(M:Int)<((2^n:Nat):Int)/\(M:Int)% 2=0)= !(M.testBit 0):=by
    rw [Nat.testBit_zero,<-decide_not];exact decide_eq_decide.mpr ⟨λz=>by lia,λz=>⟨h1,h2,by lia⟩⟩
   rw [e] at q;exact q
  ·rwa[iT h2 ?_];rw [decide_eq_false (λz=>h2 z.2.1)] at q;left;exact q
 ·rw [decide_eq_false @cW] at q;left;exact q
unseal mx in
theorem IC {AG j:Addr}{t1 Z:Tok}(F:Z0 K "made_house" jW f fd)(bh:mg "tuple"=none)(jz:mg "LEAST_FLOORS"=some (.int 2 t1))(lE:mg "MOST_FLOORS"=some (.int 8 Z))(zC:mg "SORTS"=some (.ref j))(zY:∀H:Hp,aB K H j [.str "free",.str "way"])
(oO:aU P w K mg base 2 "fits_lifts" ["floors","lifts"] (yp K))(lP:aU P w K mg base 3 "fits_locked" ["floors","locked"] uG):
 au P w K mg base @co 4 f fd ["floors","lifts","locked","sort"] (mx K AG):=by
 have B:ay (.int 2) (.int 2 t1):=⟨_,rfl⟩;have I:ay (.int 8) (.int 8 Z):=⟨_,rfl⟩;rwa[F.okX wL @ba @N]
 ·obtain ⟨fl,a,lo,so,ls,rfl,_⟩:=h;rfl
 obtain ⟨fl,a,lo,so,ls,rfl,hD,hl,ae,q⟩:=h;obtain ⟨xs,hq,dx⟩:=hD.out;obtain ⟨⟨f2,f8⟩,R,J,ab,U⟩:=zd.mp ae;rwa[⟨_,(aa @bw (aa @bw (aa @bw (aa (ax (bY (pj rfl) (wv 3) (lm rfl zC) @U) @cq aq) (ac (aj (fJ (ar (wv 0) (ar (aM @eK rfl bh boot_tuple @bh) (ar (wv 2) @fz)))))))))),?_⟩];left;rwa[yp.mk _ _ _ rfl hD hl λH1 S=> ?_];rw [decide_eq_true R,J];rwa[aY rfl ?_];rwa[uG.mk _ _ rfl f2 f8 ?_];rw [decide_eq_true ab];rwa[aY rfl ?_];rwa[tG (zY H1) rfl rfl ?_];rw [Sg];rwa[vx U ?_];have z:=S.any hq;have O:=aC.same dx S
 rcases z with z|z
 ·rwa[jL z λl H2 s2 n2 e2=> ?_];rwa[bX (bA (by show 4<=1000000;decide)) λW H3 L n3 Y=> ?_];exact q _ _ ((S.trans s2).trans L) ⟨W,_,rfl,Y,.cons (.int _) (.cons (fg (aB.of (L.get e2)) (aC.same (aC.same O s2) L)) (.cons (.int _) (.cons (.str _) .nil)))⟩
 ·rwa[Od z ?_];rwa[bX (bA (by show 4<=1000000;decide)) λW H3 L n3 Y=> ?_];exact q _ _ (S.trans L) ⟨W,_,rfl,Y,.cons (.int _) (.cons (fg (L.seqT z) (aC.same O L)) (.cons (.int _) (.cons (.str _) .nil)))⟩
inductive Hl (K:Fg)(vs:List V)(H:Hp)(Q:VK)(_e:XK):Prop
 |mk (a h ru df C dx:_) (_:vs=[.ref a,.ref h,.ref ru,.ref df]) (_:H a=some (.ins C dx [])) (_:GU K C) (_:∀H',fq a H H'->H' a=some (.ins C dx @ff)->Q .non H')
theorem EW (F:bo K "__init__" "Court.__init__" j5 f fd):au P w K mg base aT 1 f fd ["self","house","rule","dealer"] (Hl K):=by
 rwa[F.ok wQ (by symm) @be];obtain ⟨a,h,B,I,C,dx,rfl,O,j,q⟩:=h;rwa[⟨_,(aa @bD (aa (cI rfl (wv 0) (wv 2)) (ac (cI rfl (wv 0) (wv 3))))),?_⟩];rwa[cL O j.i.cl j.house @c ?_];rwa[cL ag j.i.cl j.rule (by show 1<1000;decide) ?_];rwa[cL ag j.i.cl j.dealer (by show 2<1000;decide) ?_];rwa[q _ (λb o n e=> ?_) ag];rw [ai n,ai n,ai n];exact e
unseal fY in
theorem Ro {C:Addr}{E:XK}{H:Hp}{h j I:Addr}{Q:VK}(F:GU K C)(g:∀a dx H',ao H H'->H a=none->H' a=some (.ins C dx (nG h j I))->Q (.ref a) H'):fY C (Hl K) E [.ref h,.ref j,.ref I] H Q:=by
 show ∀a dx,H a=none->H dx=none->dx≠a->Hl K (.ref a::([.ref h,.ref j,.ref I]++[])) @l (λv H2=>v= .non/\Q (.ref a) H2) E;intro a dx h1 h2 L;have B:ao H @l:=eL h1 h2;exact ⟨a,h,j,I,C,dx,rfl,ag,F,λH' sp e=>⟨rfl,g a dx H' (λb o e=>sp b o (λz=>by rw [z,h1] at e;cases e) (B b o e)) h1 e⟩⟩
def xc (l:iq):Lf:=⟨l.start,l.room,l.turns,l.kind⟩
def zZ (hs:Hs):Prop:=∀l∈hs.ls,0<=l.st/\l.st<hs.fl
theorem O1 {H:Hp}{x:V}{l:iq}(h:bv K H x l.d):Nj K H x (xc l):=by
 obtain ⟨a,xs,rfl,h1,h2⟩:=h.outT
 cases h2 with|cons q0 t0=>cases t0 with|cons q1 t1=>cases t1 with|cons q2 t2=>cases t2 with|cons q3 t3=>
 cases t3;cases q0.isInt;cases q1.isInt;cases q2.isInt;cases q3.isStr;exact ⟨a,rfl,h1⟩
theorem Ft {H:Hp}{t:V}{fl:Int}{j:List iq}{lo:Int}{so:Str}(h:vS K H t fl j lo so)(S:Nn fl j lo so=true):∃p,t= .ref p/\me K H p ⟨fl,j.map xc,lo.toNat,so⟩/\zZ ⟨fl,j.map xc,lo.toNat,so⟩:=by
 obtain ⟨⟨Y,R⟩,⟨l1,l3⟩,J,⟨aa,_,_⟩,hs⟩:=zd.mp S;obtain ⟨p,xs,rfl,h1,h2⟩:=h;unfold AN at h2
 cases h2 with|cons q0 t0=>cases t0 with|cons q1 t1=>cases t1 with|cons q2 t2=>cases t2 with|cons q3 t3=>
 cases t3;cases q0.isInt;cases q2.isInt;cases q3.isStr;obtain ⟨b,ys,rfl,L,I⟩:=q1.outT;have F:∀l∈j,iq.ok fl l=true:=λl W=>all_eq_true.mp J l W;rwa[⟨p,rfl,⟨⟨Y,R,by show 1<=(j.map xc).length;rw [length_map];exact l1,by show (j.map xc).length<=3;rw [length_map];exact l3,λl W=> ?_,hs⟩,b,ys,?_,L,?_⟩,λl W=> ?_⟩]
 ·obtain ⟨m,B,rfl⟩:=mem_map.mp W;have z:=F m B;unfold iq.ok at z;have z:=of_decide_eq_true z;exact ⟨z.2.2.1,z.2.2.2.1,z.2.2.2.2.1,z.2.2.2.2.2.1,z.2.2.2.2.2.2⟩
 ·have e:((lo.toNat:Nat):Int)=lo:=by lia
  show aB K H p [.int fl,.ref b,.int ((lo.toNat:Nat):Int),.str so];rw [e];exact aB.of h1
 ·rwa[PySem.Paired.of (by rw [length_map];exact aE I) λi x l U O=> ?_];obtain ⟨m,B,Z⟩:=bC I U;rw [getElem?_map,B] at O;cases O;exact O1 Z
 ·obtain ⟨m,B,rfl⟩:=mem_map.mp W;have z:=F m B;unfold iq.ok at z;have z:=of_decide_eq_true z;exact ⟨z.1,z.2.1⟩
def Na (l:Lf):Cb:=⟨2*l.st,0,0,0,[]⟩
inductive DI (K:Fg)(vs:List V)(H:Hp)(Q:VK)(_e:XK):Prop
 |mk (x l:_) (_:vs=[x]) (_:Nj K H x l) (_:∀v H',ao H H'->eh K H' v (Na l)->Q v H')
theorem Mi (F:Z0 K "cabin_of" qC f fd):au P w K mg base aT 1 f fd ["lift"] (DI K):=by
 rwa[F.ok BD (by symm) @cf];obtain ⟨x,l,rfl,⟨b,rfl,L⟩,q⟩:=h;rwa[⟨_,@g,?_⟩];rwa[ak L rfl ?_];rwa[⟨hV @c @c,?_⟩];rwa[bX (bA (by show 0<=1000000;decide)) λb H1 J B R=> ?_];exact bX (bA (by show 5<=1000000;decide)) λa H2 O W z=>q _ H2 @gk ⟨a,rfl,b,[],z,O _ _ R,.nil⟩
inductive kY (K:Fg)(vs:List V)(H:Hp)(Q:VK)(_e:XK):Prop
 |mk (a C dx h ru df hs:_) (_:vs=[.ref a]) (_:H a=some (.ins C dx @ff)) (_:GU K C) (_:me K H h hs) (_:∀st H',ao H H'->d6 K H' st (hs.ls.map Na) [] ((hs.ls.length:Int) - 1) false->Q (.ref st) H')
theorem EY (F:bo K "begin" "Court.begin" iM f fd)(bp:mg "len"=none)(bh:mg "tuple"=none)(ug:aU P w K mg base 1 "cabin_of" ["lift"] (DI K)):au P w K mg base aT 2 f fd ["self"] (kY K):=by
 rwa[F.ok k9 (by symm) @u];obtain ⟨a,C,dx,h,ru,df,hs,rfl,ea,Y,⟨ae,p,xs,h1,h2,W⟩,q⟩:=h;have l3:=ae.l3;have xl:=W.len;rwa[⟨_,(aa (bP (i:=1) k9.nd rfl @o (aM @eK rfl bh boot_tuple (ar (bG rfl (aD (N':=["lift"]) (pk:=[none]) @m) @a @k @z @k) ap))) @g),?_⟩];rwa[dI ea Y.i.cl Y.house (v:= .ref h) rfl ?_];rwa[ak h1 rfl ?_];rwa[dN h2 ?_];rwa[cW (xs:=xs) (λi ys H'=>ao H H'/\Paired (eh K H') ys ((hs.ls.take i).map Na)) @bq @ee ⟨.refl _,by rw [take_zero];exact .nil⟩ (λi ys H' _ p=>p.1.seqT h2) (λi x ys H' R p=> ?_) (λys H' p l nl=> ?_)]
 ·rw [p.2.len,length_map,length_take];lia
 ·obtain ⟨J,B⟩:=p;obtain ⟨lf,U,S⟩:=W.get1 R;obtain ⟨b,rfl,hb⟩:=S;rwa[⟨cu,?_⟩];rwa[DI.mk _ _ rfl ⟨b,rfl,J.seqT hb⟩ λv H2 O hv=>⟨J.trans O,?_⟩];rw [take_add_one,U,map_append];exact Paired.app (Paired.imp' (λx c z=>eh.keep z O.st) B) (.cons hv .nil)
 ·obtain ⟨J,B⟩:=p;have O:ao H' (upd H' l (.lst ys)):= .upd nl;rw [xl,take_of_length_le @f] at B
  have yl:ys.length=hs.ls.length:=by rw [B.len,length_map]
  rwa[jL @eV λtc H3 s3 n3 Z=> ?_];rwa[bX (bA (by show 0<=1000000;decide)) λtw H4 L n4 e4=> ?_];erw[eJ (aB.of (L _ _ Z)) ?_];rw [yl];have j:=((O.trans s3).trans L);rwa[bX (bA (by show 4<=1000000;decide)) λst H5 I n5 e5=>q st H5 ((J.trans j).trans I) ⟨tc,tw,ys,[],aB.of e5,aB.of (I _ _ (L _ _ Z)),aB.of (I _ _ e4),Paired.imp' (λx c z=>eh.keep z (j.trans I).st) B,.nil⟩]
def Dk.tx:Dk->Str
 | .near=>s!"near"| .least=>s!"least"| .turns=>s!"turns"
def DG (kn kl kT:Addr):Sp:=λvs H Q _=>∃(k:Dk) (h:Addr),vs=[.str k.tx,.ref h]/\Q (.ref (k.ad kn kl kT)) H
theorem Sk {Z z j h:Addr}{k:Dk}{H:Hp}{Q:VK}{E:XK}(g:Q (.ref (k.ad Z z j)) H):DG Z z j [.str k.tx,.ref h] H Q E:=⟨k,h,rfl,g⟩
theorem OR {B z j:Addr}{L:Tok}(F:Z0 K "dealer_of" mZ f fd)(Y:mg "len"=none)(Z:mg "MOST_FIXED"=some (.int 9 L))(S:mg "near"=some (.ref B))(O:mg "least"=some (.ref z))(R:mg "by_turns"=some (.ref j)):au P w K mg base @co 2 f fd ["text","house"] (DG B z j):=by
 have I:ay (.int 9) (.int 9 L):=⟨_,rfl⟩;rwa[F.okX yH (λU H Q E h=> ?_) (λJ A outer s H U Q E W h=> ?_)]
 ·obtain ⟨k,h,rfl,_⟩:=h;rfl
 obtain ⟨k,h,rfl,q⟩:=h;rwa[⟨_,(aa (ax @a (ac (aj (lm rfl S))) aq) (aa (ax @a (ac (aj (lm rfl O))) aq) (aa (ax @a (ac (aj (lm rfl R))) aq) (aa @a (aa @a (aa @el (aa @el @cq))))))),?_⟩]
 cases k with
 |near=>
  rwa[pc rfl ?_];exact q
 |least=>
  rwa[iT @A ?_];rwa[pc rfl ?_];exact q
 |turns=>
  rwa[iT @A ?_];rwa[iT @A ?_];rwa[pc rfl ?_];exact q
seal DG
theorem Nt.uniq {hs:Hs}{wf:Wf}{M:MS}{i:Int}{c:Cb}{l:Lf}{rs:List aO}{A B:MS}(h:Nt hs wf M i c l rs A)(k:Nt hs wf M i c l rs B):A=B:=by
 obtain ⟨f,u,d,e,z,J,rfl⟩:=h;obtain ⟨F,O,L,I,aq,j,rfl⟩:=k
 obtain rfl:f=F:=by lia
 rw [z.uniq aq,J.uniq j]
theorem xY.uniq {hs:Hs}{wf:Wf}{M:MS}{i:Int}{c:Cb}{l:Lf}{A B:MS}(h:xY hs wf M i c l A)(k:xY hs wf M i c l B):A=B:=by
 unfold xY at h k;split at h
 ·rename_i z;rw [if_pos z] at k;rw [h,k]
 ·rename_i z;rw [if_neg z] at k;split at h
  ·rename_i y;rw [if_pos y] at k;rw [h,k]
  ·rename_i y;rw [if_neg y] at k;exact h.uniq k
theorem CO.uniq {hs:Hs}{wf:Wf}{M:MS}{i:Int}{c:Cb}{l:Lf}{A B:MS}(h:CO hs wf M i c l A)(k:CO hs wf M i c l B):A=B:=by
 rcases h with ⟨h1,h2⟩|⟨h1,h2,j⟩|⟨h1,h2,j⟩<;>rcases k with ⟨L,J⟩|⟨L,J,Y⟩|⟨L,J,Y⟩
 ·rw [h2,J]
 ·rw [h1] at L;cases L
 ·rw [h1] at L;cases L
 ·rw [h1] at L;cases L
 ·rw [j,Y]
 ·rw [h2] at J;cases J
 ·rw [h1] at L;cases L
 ·rw [h2] at J;cases J
 ·exact j.uniq Y
theorem GJ.uniq {hs:Hs}{wf:Wf}{M:MS}:∀ {n:Nat} {A B:MS},GJ hs wf n M A->GJ hs wf n M B->A=B
 |0,A,B,h,k=>by rw [show A=M from h,show B=M from k]
 |n+1,A,B,⟨M1,c1,l1,h1,h2,h3,h4⟩,⟨M2,c2,l2,k1,k2,k3,k4⟩=>by
  obtain rfl:=GJ.uniq h1 k1
  have I:c1=c2:=by have:=h2.2.symm.trans k2.2;exact Option.some.inj this
  have W:l1=l2:=by have:=h3.symm.trans k3;exact Option.some.inj this
  subst I;subst W;exact h4.uniq k4
structure Qg (hs:Hs)(n:Nat)(cs:List Cb)(ws:List aO)(last:Int):Prop where
 len:cs.length=hs.ls.length
 ck:∀c∈cs,nU hs.fl c
 rk:∀r∈ws,iw hs.fl r
 w:ws.length<=n
 l0:0<=last
theorem Hi {so:Str}{room pl fl:Int}{s:CI}{r:aO}(I:room<=64)(W: -1<=s.light/\s.light<=1)(R:s.kept.length<=64)(j:∀p∈s.kept,0<=p.2/\p.2<fl)(S:iw fl r):(-1<=(cQ so room pl s r).light/\(cQ so room pl s r).light<=1)/\(cQ so room pl s r).kept.length<=64/\∀p∈(cQ so room pl s r).kept,0<=p.2/\p.2<fl:=by
 unfold cQ;split
 ·rename_i e;unfold g9 at e
  have O:(s.kept.length:Int)<room:=by
   rw [Bool.and_eq_true,Bool.and_eq_true] at e;exact of_decide_eq_true e.1.2
  rwa[⟨?_,by show (s.kept++_).length<=64;rw [length_append];simp;lia,λp F=> ?_⟩]
  ·show -1<=(if so=s!"way" then wb r else s.light)/\(if so=s!"way" then wb r else s.light)<=1;split
   ·unfold wb;split<;>lia
   ·exact W
  ·rcases mem_append.mp F with z|z
   ·exact j p z
   ·rw [mem_singleton.mp z];exact ⟨S.g0,S.g1⟩
 ·exact ⟨W,R,j⟩
theorem pS {so:Str}{room pl fl:Int}(I:room<=64):∀(rs:List aO) (s:CI),(-1<=s.light/\s.light<=1)->s.kept.length<=64->(∀p∈s.kept,0<=p.2/\p.2<fl)->(∀r∈rs,iw fl r)->(-1<=(bq so room pl s rs).light/\(bq so room pl s rs).light<=1)/\(bq so room pl s rs).kept.length<=64/\∀p∈(bq so room pl s rs).kept,0<=p.2/\p.2<fl
 |[],s,hl,hk,hg,_=>⟨hl,hk,hg⟩
 |r::rs,s,hl,hk,hg,hr=>by
  have h:=Hi (so:=so) (room:=room) (pl:=pl) (fl:=fl) I hl hk hg (hr r (.head _));exact pS I rs @bA h.1 h.2.1 h.2.2 λq F=>hr q (.tail _ F)
theorem DM {α:Type}{xs:List α}{i:Nat}{x:α}(h:xs[i]? =some x):xs.set i x=xs:=by
 obtain ⟨h1,h2⟩:=List.getElem?_eq_some_iff.mp h;rw [<-h2];exact set_getElem_self h1
theorem Dt {hs:Hs}{l:Lf}{c:Cb}{B:Str}{f0:Nat}(W:nU hs.fl c)(e:c.pl=2*(f0:Int))(J: ¬0<c.dr)(I:B∈cJ):nU hs.fl (pT hs l c B):=by
 have F:=MW (iC (so:=hs.so) (pl:=c.pl) (li:=c.li) (ps:=c.ps) I);have U:=W.p0;have S:=W.p1;have l0:=W.l0;have l1:=W.l1
 have j: -1<=(if c.ps=[] then (0:Int) else c.li)/\(if c.ps=[] then (0:Int) else c.li)<=1:=by split<;>lia
 unfold pT;generalize bw hs.so c.pl c.li c.ps B=x at F
 rcases F with rfl|rfl|rfl|rfl|rfl
 ·rw [FQ];exact ⟨U,S,l0,l1,W.m0,λ_=>by show c.pl% 2=0;lia,W.len,W.gs⟩
 ·rw [FN];exact ⟨U,S,by show (-1:Int)<=0;decide,by show (0:Int)<=1;decide,W.m0,λ_=>by show c.pl% 2=0;lia,W.len,W.gs⟩
 ·by_cases z:c.pl / 2<hs.fl - 1
  ·rw [zI z];exact ⟨by show 0<=c.pl+1;lia,by show c.pl+1<=_;lia,by show (-1:Int)<=1;decide,by show (1:Int)<=1;decide,W.m0,λy=>absurd y J,W.len,W.gs⟩
  ·rw [zJ z];exact ⟨U,S,j.1,j.2,W.m0,λy=>absurd y J,W.len,W.gs⟩
 ·by_cases z:0<c.pl
  ·rw [zK z];exact ⟨by show 0<=c.pl - 1;lia,by show c.pl - 1<=_;lia,by show (-1:Int)<= -1;decide,by show (-1:Int)<=1;decide,W.m0,λy=>absurd y J,W.len,W.gs⟩
  ·rw [zL z];exact ⟨U,S,j.1,j.2,W.m0,λy=>absurd y J,W.len,W.gs⟩
 ·rw [FO];exact ⟨U,S,j.1,j.2,W.m0,λy=>absurd y J,W.len,W.gs⟩
theorem np {so:Str}{li:Int}{a b c:Bool}:0<=dY so li a b c/\dY so li a b c<=2:=by
 unfold dY;split
 ·lia
 ·split
  ·lia
  ·split<;>lia
theorem CO.ok {hs:Hs}{wf:Wf}{M M':MS}{i:Int}{c:Cb}{l:Lf}(h:CO hs wf M i c l M')(W:nU hs.fl c)(I:atC M i c)(U:l.rm<=6)(B:M.fire=false)(R:∀fl li he up dn,fo li he up dn->wf fl li he up dn∈cJ)(S:∀r∈M.ws,iw hs.fl r):M'.fire=false/\M'.last=M.last/\∃c',nU hs.fl c'/\M'.cs=M.cs.set i.toNat c':=by
 rcases h with ⟨_,rfl⟩|⟨_,h2,_⟩|⟨_,_,L⟩
 ·exact ⟨B,rfl,c,W,(DM I.2).symm⟩
 ·rw [B] at h2;cases h2
 ·unfold xY at L;split at L
  ·rename_i z;subst L;rwa[⟨B,rfl,_,?_,rfl⟩];have av:∀r∈aG i M,iw hs.fl r:=λr aj=>S r (by unfold aG at aj;exact (mem_filter.mp aj).1);have J:∀p∈dH c.pl c.ps,0<=p.2/\p.2<hs.fl:=λp F=>W.gs p (mem_filter.mp F).1;have st:=pS (so:=hs.so) (pl:=c.pl) (fl:=hs.fl) (show l.rm<=64 by lia) @cr ⟨c.li,dH c.pl c.ps,[]⟩ ⟨W.l0,W.l1⟩ (Nat.le_trans @bf W.len) J av;exact ⟨W.p0,W.p1,st.1.1,st.1.2,W.m0,λ_=>W.ev z,st.2.1,st.2.2⟩
  ·rename_i z;split at L
   ·rename_i y;subst L;have Y:=W.p0;have Z:=W.p1;have l0:=W.l0;have l1:=W.l1;exact ⟨B,rfl,⟨c.pl+c.li,c.li,0,c.mr,c.ps⟩,⟨by show 0<=c.pl+c.li;lia,by show c.pl+c.li<=_;lia,l0,l1,W.m0,λy=>absurd y (by show ¬(0:Int)<0;decide),W.len,W.gs⟩,rfl⟩
   ·obtain ⟨f0,u,d,e,j,O,rfl⟩:=L;rwa[⟨B,rfl,_,Dt W e z (R _ _ _ _ _ ?_),rfl⟩];exact ⟨W.l0,W.l1,np.1,np.2,by rcases j with ⟨h,_⟩|⟨h,_⟩<;>lia,by rcases O with ⟨h,_⟩|⟨h,_⟩<;>lia⟩
theorem GJ.ok {hs:Hs}{wf:Wf}{M:MS}(R:hs.ok)(B:∀fl li he up dn,fo li he up dn->wf fl li he up dn∈cJ)(J:M.fire=false)(I:∀c∈M.cs,nU hs.fl c)(S:∀r∈M.ws,iw hs.fl r)(L:M.ws.length<=64):∀ {n:Nat} {M':MS},GJ hs wf n M M'->M'.fire=false/\M'.last=M.last/\(∀c∈M'.cs,nU hs.fl c)/\jG hs M n M'
 |0,M',h=>by
  obtain rfl:M'=M:=h;exact ⟨J,rfl,I,⟨rfl,λ_ _=>rfl,λ_ h=>h,Nat.le_refl _,by lia,rfl⟩⟩
 |n+1,M',⟨M1,c,l,h1,h2,h3,h4⟩=>by
  obtain ⟨W,l1,c1,U⟩:=GJ.ok R B J I S L h1;have j:c∈M1.cs:=mem_of_getElem? h2.2;have O:M1.ws.length<=64:=Nat.le_trans U.wl L;obtain ⟨g1,g2,c',Z,Y⟩:=h4.ok (c1 c j) h2 (R.lf l (mem_of_getElem? h3)).2.1 W B λr aj=>S r (U.ws r aj);rwa[⟨g1,g2.trans l1,λx F=> ?_,U.go (c1 c j).len O h4⟩];rw [Y] at F
  rcases AB F with z|z
  ·exact c1 x z
  ·rw [z];exact Z
theorem Lg {bs:List Bool}{first:Int}(h:0<=first): -1<=sf bs first:=by
 have J:∀(n k:Nat),-1<=Lh bs first k n:=by
  intro n
  induction n with
  |zero=>intro k;simp [Lh]
  |succ n ih=>
   intro k;unfold Lh;split
   ·by_cases z:(bs.length:Int)=0
    ·rw [z,Int.emod_zero];lia
    ·have:=Int.emod_nonneg (first+(k:Int)) z;lia
   ·exact ih _
 exact J _ _
theorem FT {k:Dk}{cs:List Cb}{ws:List aO}{r:aO}{last:Int}(h:0<=last):0<=(kg k cs ws r last).2:=by
 cases k with
 |near=>exact h
 |least=>exact h
 |turns=>
  show 0<=(if eO cs last= -1 then last else eO cs last);split
  ·exact h
  ·have:=Lg (bs:=bc @T) (first:=last+1) @b;rename_i z;unfold eO at z ⊢;lia
theorem rz {dl:vZ}(J:∀cs ws r last,0<=last->0<=(dl cs ws r last).2){W:List aO}{M:MS}(h:0<=M.last):∀i,0<=(aQ dl W i M).last/\(aQ dl W i M).fire=M.fire
 |0=>⟨h,rfl⟩
 |i+1=>by
  have j:=rz J (W:=W) h i;unfold aQ;split
  ·split
   ·unfold gc;split
    ·exact ⟨J _ _ _ _ j.1,j.2⟩
    ·exact ⟨J _ _ _ _ j.1,j.2⟩
   ·exact j
  ·exact j
theorem FJ {α:Type}{CX:nV}{k:Nat}{ps:List Str}{sp:α->Sp}(F:∀a,au P w K mg base CX k f fd ps (sp a))(W:∀vs H Q E,(∃a,sp a vs H Q E)->vs.length=ps.length):au P w K mg base CX k f fd ps (λvs H Q E=>∃a,sp a vs H Q E):=
 ⟨λvs H Q E ⟨a,q⟩=>(F a).len vs H Q E q,λA outer s H z j vs Q E S U B Y ⟨a,hs⟩=>(F a).run A outer s H z j vs Q E S U B Y hs⟩
theorem A1 {n:Nat}{x:Str}{ps:List Str}{sp j:Sp}(c:aU P w K mg base n x ps sp)(h:∀vs H Q E,j vs H Q E->sp vs H Q E):aU P w K mg base n x ps j:=by
 obtain ⟨f,fd,F,b⟩:=c.ex;exact ⟨f,fd,F.imp h,b⟩
def pC (P:Program)(w:World)(K:Fg)(mg:Str->Option Value)(base:Heap)(C Pn Pl:Addr):Sp:=λvs H Q E=>∃k:Dk,uH P w K mg base C @cg qG (kg k) vs H Q E
def kQ (P:Program)(w:World)(K:Fg)(mg:Str->Option Value)(base:Heap)(C Pn Pl:Addr):Sp:=λvs H Q E=>∃k:Dk,kR P w K mg base C @cg qG (kg k) vs H Q E
def kI (P:Program)(w:World)(K:Fg)(mg:Str->Option Value)(base:Heap)(Pn Pl:Addr):Sp:=λvs H Q E=>∃k:Dk,yh P w K mg base @cg qG (kg k) vs H Q E
theorem EU {C Pn Pl:Addr}{L:Tok}(F:Z0 K "deal" Aw f fd)(j:xU K C)(I:mg "tuple"=none)(z:mg "NO_LIFT"=some (.int (-1) L))(B:aU P w K mg base 1 "dealt_to" ["rider","lift"] (pB K)):au P w K mg base aT 6 f fd ["moment","dealer","place","rider"] (pC P w K mg base C Pn Pl):=
 FJ (λk=>Az (dl:=kg k) (pre:=qG) F fN j I z B) λR H Q E ⟨k,h⟩=>(Az (P:=P) (w:=w) (base:=base) (dl:=kg k) (pre:=qG) F fN j I z B).len R H Q E h
theorem BY {C Pn Pl:Addr}{L:Tok}(F:Z0 K "deal_all" lh f fd)(z:xU K C)(j:mg "list"=none)(I:mg "enumerate"=none)(B:mg "NO_LIFT"=some (.int (-1) L))(J:aU P w K mg base 6 "deal" ["moment","dealer","place","rider"] (pC P w K mg base C Pn Pl)):au P w K mg base aT 7 f fd ["moment","dealer"] (kQ P w K mg base C Pn Pl):=by
 have G:∀k,au P w K mg base aT 7 f fd ["moment","dealer"] (kR P w K mg base C @cg qG (kg k)):=λk=>EV F fN z j I B (A1 J λR H Q E h=>⟨k,h⟩);exact FJ G λR H Q E ⟨k,h⟩=>(G k).len R H Q E h
theorem EB {U Pn Pl:Addr}(F:bo K "turn" "Court.turn" gN f fd)(z:xU K U)(Y:mg "len"=none)(J:mg "range"=none)(I:aU P w K mg base 7 "need_deeds" ["house","state","deeds"] (Ar K))(L:i6 P w K mg base aT 1 "Moment" U (DB K))(O:aU P w K mg base 5 "do_deed" ["moment","deed"] (Hk K U))(B:aU P w K mg base 7 "deal_all" ["moment","dealer"] (kQ P w K mg base U Pn Pl))(bh:aU P w K mg base 8 "go" ["moment","rule","lift"] (Hj P w K mg base U))(j:aU P w K mg base 1 "state_of" ["moment"] (Aq K U)):au P w K mg base aT 9 f fd ["self","state","deeds"] (kI P w K mg base Pn Pl):=by
 have G:∀k,au P w K mg base aT 9 f fd ["self","state","deeds"] (yh P w K mg base @cg qG (kg k)):=λk=>Iq fN F z Y J I L O (A1 B λR H Q E h=>⟨k,h⟩) bh j;exact FJ G λR H Q E ⟨k,h⟩=>(G k).len R H Q E h
seal pC kQ
def xQ (fl:Int)(k:Int×Int):Prop:=0<=k.1/\k.1<fl/\0<=k.2/\k.2<fl/\k.1≠k.2
def fu (K:Fg)(H:Hp)(p:Addr)(fl:Int)(ks:List (Int×Int)):Prop:=∃xs,H p=some (.lst xs)/\aC K H xs @ev/\1<=ks.length/\ks.length<=4/\∀k∈ks,xQ fl k
theorem fu.nt {H H':Hp}(s:aI H H'){p:Addr}{fl:Int}{ks:List (Int×Int)}(h:fu K H p fl ks):fu K H' p fl ks:=by
 obtain ⟨xs,h1,h2,r⟩:=h;exact ⟨xs,s _ _ (λ_ z=>by cases z) h1,s.dens h2,r⟩
theorem fu.den {H:Hp}{p:Addr}{fl:Int}{ks:List (Int×Int)}(h:fu K H p fl ks):bv K H (.ref p) (.lst @ev):=by
 obtain ⟨xs,h1,h2,r⟩:=h;exact Co (aA.of h1) h2
structure vY (K:Fg)(H:Hp)(st:Addr)(hs:Hs)(n:Nat)(cs:List Cb)(ws:List aO)(last:Int):Prop where
 a:d6 K H st cs ws last false
 o:Qg hs n cs ws last
 h:hs.ok
theorem vY.nt {H H':Hp}(s:aI H H'){st:Addr}{hs:Hs}{n:Nat}{cs:List Cb}{ws:List aO}{last:Int}(h:vY K H st hs n cs ws last):vY K H' st hs n cs ws last:=⟨nY s h.a,h.o,h.h⟩
theorem vY.cl {H:Hp}{st:Addr}{hs:Hs}{n:Nat}{cs:List Cb}{ws:List aO}{last:Int}(h:vY K H st hs n cs ws last):cs.length<=10:=by have:=h.o.len;have:=h.h.l3;lia
theorem vY.c64 {H:Hp}{st:Addr}{hs:Hs}{n:Nat}{cs:List Cb}{ws:List aO}{last:Int}(h:vY K H st hs n cs ws last):∀c∈cs,c.ps.length<=64:=λc I=>(h.o.ck c I).len
def gA (K:Fg):Sp:=λvs H Q _=>∃st hs n cs ws last k,vs=[.ref st,.int k]/\vY K H st hs n cs ws last/\n<=64/\∀H',ao H H'->Q (.bl (decide (k∈aV cs ws))) H'
theorem JO {H:Hp}{st:Addr}{hs:Hs}{n:Nat}{cs:List Cb}{ws:List aO}{last k:Int}{Q:VK}{E:XK}(h1:vY K H st hs n cs ws last)(h2:n<=64)(g:∀H',ao H H'->Q (.bl (decide (k∈aV cs ws))) H'):gA K [.ref st,.int k] H Q E:=⟨st,hs,n,cs,ws,last,k,rfl,h1,h2,g⟩
theorem Ix (F:Z0 K "present" qr f fd)(U:aU P w K mg base 1 "tags_in" ["state"] (pV K)):au P w K mg base aT 2 f fd ["state","kind"] (gA K):=by
 rwa[F.ok Bu (λL H Q E h=> ?_) (λB A outer s H L Q E S h=> ?_)]
 ·obtain ⟨st,hs,n,I,j,J,k,rfl,_⟩:=h;rfl
 obtain ⟨st,hs,n,I,j,J,k,rfl,O,bs,q⟩:=h;rwa[⟨_,@g,?_⟩];rwa[pV.mk _ _ _ _ _ rfl O.a (Nat.le_trans O.o.w bs) O.c64 O.cl λl H1 z R=> ?_];rwa[qc @fw rfl (nv _) ?_];rw [vv];exact q H1 z
seal gA
def AU (ts:List Int)(i:Nat):List Int:=((List.range i).filter λ(k:Nat)=> !decide ((k:Int)∈ts)).map λk:Nat=>(k:Int)
def fP (n:Nat)(ts:List Int):List Int:= -1::AU ts n
theorem gW {ts:List Int}{i:Nat}:(AU ts i).length<=i:=by
 unfold AU;rw [length_map];exact Nat.le_trans @bf @e
def uI (K:Fg):Sp:=λvs H Q _=>∃st kp hs n cs ws last fl ks,vs=[.ref st,.ref kp]/\vY K H st hs n cs ws last/\n<=64/\fu K H kp fl ks/\∀l H',ao H H'->H l=none->H' l=some (.lst ((fP ks.length @cP).map V.int))->Q (.ref l) H'
theorem RU {H:Hp}{st z:Addr}{hs:Hs}{n:Nat}{cs:List Cb}{ws:List aO}{last fl:Int}{ks:List (Int×Int)}{Q:VK}{E:XK}(h1:vY K H st hs n cs ws last)(h2:n<=64)(L:fu K H z fl ks)(g:∀l H',ao H H'->H l=none->H' l=some (.lst ((fP ks.length @cP).map V.int))->Q (.ref l) H'):uI K [.ref st,.ref z] H Q E:=⟨st,z,hs,n,cs,ws,last,fl,ks,rfl,h1,h2,L,g⟩
theorem pM {i:Nat}{ts:List Int}:AU ts (i+1)=AU ts i++if decide ((i:Int)∈ts)=true then [] else [(i:Int)]:=by
 unfold AU;rw [range_succ,filter_append,map_append];congr 1;cases e:decide ((i:Int)∈ts)<;>simp [e]
theorem OS {R:Tok}(F:Z0 K "choices" qB f fd)(bp:mg "len"=none)(aK:mg "range"=none)(pJ:mg "NOBODY"=some (.int (-1) R))(xy:aU P w K mg base 2 "present" ["state","kind"] (gA K)):au P w K mg base aT 3 f fd ["state","kinds"] (uI K):=by
 have HG:ay (.int (-1)) (.int (-1) R):=⟨_,rfl⟩;rwa[F.ok BC @ba @bP]
 ·obtain ⟨st,kp,hs,n,j,J,I,fl,ks,rfl,_⟩:=h;rfl
 obtain ⟨st,kp,hs,n,j,J,I,fl,ks,rfl,Z,bs,⟨xs,hx,hd,k1,k4,hk⟩,q⟩:=h;have xl:xs.length=ks.length:=aE hd;rwa[⟨_,(ac (aj (dE @eI @a (bG rfl (aD (N':=["kind","state"]) (pk:=[none,some 0]) @m) @cx @k (λC s H ex=>(eK (b7 @a))) @Q)))),?_⟩];rwa[jo @bB λl1 H1 L n1 Y=> ?_];erw[bH (aA.of (L _ _ hx)) ?_];rw [xl];rwa[⟨⟨by lia,by lia⟩,?_⟩];rwa[fi (λi ys H'=>ao H1 H'/\ys=(AU (aV j J) i).map V.int) @bq @ee ⟨.refl _,rfl⟩ @dw (λys H' p l nl=> ?_)]
 ·rw [p.2,length_map];exact gW
 ·obtain ⟨B,rfl⟩:=p;rwa[⟨cu,?_⟩];rwa[JO ((Z.nt L.nt).nt B.nt) bs λH2 O=> ?_]
  have U:(0:Int)+(i:Nat)=((i:Nat):Int):=by lia
  rw [U];ext
  cases S:decide ((i:Int)∈aV j J) with
  |true=>
   rwa[⟨B.trans O,?_⟩];rw [pM,S];simp
  |false=>
   rwa[⟨B.trans O,?_⟩];rw [pM,S];simp
 ·obtain ⟨B,rfl⟩:=p;rw [show ((ks.length:Int)).toNat=ks.length by lia];have O:ao H' (upd H' l (.lst ((AU (aV j J) ks.length).map V.int))):= .upd nl;rwa[A0 (O _ _ (B _ _ Y)) ag (bA ?_) λl3 W s3 n3 e3=> ?_]
  ·have:=gW (ts:=aV j J) (i:=ks.length);simp only [length_map,length_cons,length_nil];lia
  ·have z:=((L.trans B).trans O).trans s3;rwa[q l3 W z (none_of ((L.trans B).trans O) n3) ?_];rw [e3];rfl
seal uI
def oQ (hs:Hs)(wf:Wf)(k:Dk)(cs:List Cb)(ws:List aO)(last:Int)(ds:List Dd)(cs':List Cb)(ws':List aO)(last':Int):Prop:=∃M',GJ hs wf hs.ls.length (oX (kg k) @q) M'/\M'.cs=cs'/\M'.ws=ws'/\M'.last=last'
theorem oQ.uniq {hs:Hs}{wf:Wf}{k:Dk}{cs:List Cb}{ws:List aO}{last:Int}{ds:List Dd}{a F:List Cb}{b L:List aO}{c z:Int}(h:oQ hs wf k cs ws last ds a b c)(h':oQ hs wf k cs ws last ds F L z):a=F/\b=L/\c=z:=by
 obtain ⟨M,h1,rfl,rfl,rfl⟩:=h;obtain ⟨M',j,rfl,rfl,rfl⟩:=h';rw [h1.uniq j];exact ⟨rfl,rfl,rfl⟩
def z7 (fl:Int)(ts:List Int)(ds:List Dd):Prop:=ds=[]\/∃t s g,ds=[.come t s g false]/\xQ fl (s,g)/\t∉ts
theorem z7.good {fl:Int}{n:Nat}{ts:List Int}{ds:List Dd}(h:z7 fl ts ds):zB fl n ts ds:=by
 rcases h with rfl|⟨t,s,g,rfl,k,J⟩
 ·trivial
 ·exact ⟨k,λu j z=>by rw [mem_singleton.mp j] at z;exact J z,trivial⟩
theorem z7.deeds {fl:Int}{ts:List Int}{ds:List Dd}{lo:Nat}{cs:List Cb}{ws:List aO}{last:Int}(h:z7 fl ts ds)(S:∀r∈ws,iw fl r):(aP lo ⟨cs,ws,last,false,0,[]⟩ ds).fire=false/\(aP lo ⟨cs,ws,last,false,0,[]⟩ ds).cs=cs/\(aP lo ⟨cs,ws,last,false,0,[]⟩ ds).last=last/\(aP lo ⟨cs,ws,last,false,0,[]⟩ ds).ws.length<=ws.length+1/\∀r∈(aP lo ⟨cs,ws,last,false,0,[]⟩ ds).ws,iw fl r:=by
 rcases h with rfl|⟨t,s,g,rfl,⟨L,J,Y,j,B⟩,F⟩
 ·exact ⟨rfl,rfl,rfl,Nat.le_succ _,S⟩
 ·show (fj lo ⟨cs,ws,last,false,0,[]⟩ t s g false).fire=false/\(fj lo ⟨cs,ws,last,false,0,[]⟩ t s g false).cs=cs/\(fj lo ⟨cs,ws,last,false,0,[]⟩ t s g false).last=last/\(fj lo ⟨cs,ws,last,false,0,[]⟩ t s g false).ws.length<=ws.length+1/\∀r∈(fj lo ⟨cs,ws,last,false,0,[]⟩ t s g false).ws,iw fl r;unfold fj;split
  ·exact ⟨rfl,rfl,rfl,Nat.le_succ _,S⟩
  ·rw [if_neg (λz=>by have z:false=true:=z;cases z)];rwa[⟨rfl,rfl,rfl,by simp,λr aj=> ?_⟩]
   rcases mem_append.mp aj with z|z
   ·exact S r z
   ·rw [mem_singleton.mp z];exact ⟨L,J,Y,j,B⟩
theorem JL {Pn Pl C:Addr}{H:Hp}{a st R dx h Y J:Addr}{hs:Hs}{wf:Wf}{cs:List Cb}{ws:List aO}{last:Int}{ds:List Dd}{n:Nat}{k:Dk}{Q:VK}{E:XK}(h1:H a=some (.ins C dx (nG h Y J)))(cC:GU K C)(hH:me K H h hs)(ad:CM P w K mg base H Y wf)(ab:ko P w K mg base 5 J @ec)(hg:lY Pn Pl H)(O:vY K H st hs n cs ws last)(ae:n<60)(L:xS K H R ds)(U:z7 hs.fl @cP ds)
(g:∀r st' ll cs' ws' last' H',aI H H'->lY Pn Pl H'->H' r=some (.tup [.ref st',.ref ll])->vY K H' st' hs (n+1) cs' ws' last'->oQ hs wf k cs ws last ds cs' ws' last'->Q (.ref r) H'):kI P w K mg base Pn Pl [.ref a,.ref st,.ref R] H Q E:=by
 have ai:=U.good (n:=hs.ls.length);have hw:=O.o.w
 have am:ds.length<=1:=by rcases U with rfl|⟨t,s,g,rfl,_⟩<;>simp
 obtain ⟨f1,c1,l1,w1,r1⟩:=U.deeds (lo:=hs.lo) (cs:=cs) (last:=last) O.o.rk;have F:∀i,0<=(aQ (kg k) (aP hs.lo ⟨cs,ws,last,false,0,[]⟩ ds).ws i @q).last/\(aQ (kg k) (aP hs.lo ⟨cs,ws,last,false,0,[]⟩ ds).ws i @q).fire=(aP hs.lo ⟨cs,ws,last,false,0,[]⟩ ds).fire:=rz (λ_ _ _ _ h=>FT h) (by rw [l1];exact O.o.l0)
 have S:∀fl li he up dn,fo li he up dn->wf fl li he up dn∈cJ:=by
  obtain ⟨_,_,_,_,_,_,_,z,_⟩:=ad;exact z
 have ac:=O.h.l1;have aa:=O.h.l3;have cl:=O.o.len;rwa[⟨k,a,st,R,C,dx,h,Y,J,hs,wf,cs,ws,last,ds,rfl,h1,cC,hH,ad,ab,hg,O.a,L,⟨O.o.len,O.o.ck,O.o.rk,by simp⟩,by lia,ai,λi r _ _=> ?_,λr st' ll M' H' sN I er aS aA=> ?_⟩]
 ·have j:=fh (dl:=kg k) (W:=(aP hs.lo ⟨cs,ws,last,false,0,[]⟩ ds).ws) (M:=aP hs.lo ⟨cs,ws,last,false,0,[]⟩ ds) i;rwa[⟨?_,?_,?_,(F i).1⟩]
  ·rw [j.2.1,c1];lia
  ·rw [j.2.1,c1];lia
  ·rw [j.1];lia
 ·have mo:rZ hs (ws.length+1) @q:=by
   have z:rZ hs ws.length ⟨cs,ws,last,false,0,[]⟩:=⟨O.o.len,O.o.ck,O.o.rk,by simp⟩;have:=z.deeds (ds:=ds) (λd Z=> ?_) ds.length
   ·rw [take_of_length_le @f] at this;exact ⟨this.len,this.cs,this.ws,by have:=this.sum;lia⟩
   ·exact zA ai d Z
  have j:=fh (dl:=kg k) (W:=(aP hs.lo ⟨cs,ws,last,false,0,[]⟩ ds).ws) (M:=aP hs.lo ⟨cs,ws,last,false,0,[]⟩ ds) (aP hs.lo ⟨cs,ws,last,false,0,[]⟩ ds).ws.length;have B:=mo.deals (dl:=kg k) mo.ws (aP hs.lo ⟨cs,ws,last,false,0,[]⟩ ds).ws.length;obtain ⟨g1,g2,g3,g4⟩:=aA.ok O.h S ((F _).2.trans f1) B.cs B.ws (by rw [j.1];lia);rwa[g r st' ll M'.cs M'.ws M'.last H' sN I er ⟨?_,⟨?_,g3,λr hr=>B.ws r (g4.ws r hr),?_,?_⟩,O.h⟩ ⟨M',aA,rfl,rfl,rfl⟩]
  ·rw [g1] at aS;exact aS
  ·rw [g4.len];exact B.len
  ·have:=g4.wl;rw [j.1] at this;lia
  ·rw [g2];exact (F _).1
seal kI
structure CP (P:Program)(w:World)(K:Fg)(mg:Str->Option Value)(base:Heap)(C Pn Pl:Addr)(H:Hp)(a:Addr)(hs:Hs)(wf:Wf)(k:Dk):Prop where
 ex:∃dx h ru df,H a=some (.ins C dx @ff)/\me K H h hs/\CM P w K mg base H ru wf/\ko P w K mg base 5 df @ec
 gg:lY Pn Pl H
theorem CP.nt {C Pn Pl:Addr}{H H':Hp}{a:Addr}{hs:Hs}{wf:Wf}{k:Dk}(c:CP P w K mg base C Pn Pl H a hs wf k)(s:aI H H')(g:lY Pn Pl H'):CP P w K mg base C Pn Pl H' a hs wf k:=by
 obtain ⟨dx,h,B,I,h1,h2,L,j⟩:=c.ex;exact ⟨⟨dx,h,B,I,s _ _ (λ_ z=>by cases z) h1,JX s h2,JM s L,j⟩,g⟩
theorem CP.same {C Pn Pl:Addr}{H H':Hp}{a:Addr}{hs:Hs}{wf:Wf}{k:Dk}(c:CP P w K mg base C Pn Pl H a hs wf k)(s:ao H H'):CP P w K mg base C Pn Pl H' a hs wf k:=c.nt s.nt (fN _ _ s.st c.gg)
def Ac (n:Nat)(ts:List Int)(ch:Int):Prop:=ch= -1\/(0<=ch/\ch<(n:Int)/\ch∉ts)
def CL (ks:List (Int×Int))(ch:Int):List Dd:=if ch= -1 then [] else [.come ch (ks.getD ch.toNat (0,0)).1 (ks.getD ch.toNat (0,0)).2 false]
theorem M9 {fl:Int}{ks:List (Int×Int)}{ts:List Int}{ch:Int}(R:∀k∈ks,xQ fl k)(h:Ac ks.length ts ch):z7 fl ts (CL ks ch):=by
 unfold CL
 rcases h with rfl|⟨B,h1,h2⟩
 ·rw [if_pos rfl];exact .inl rfl
 ·rw [if_neg @b];rwa[.inr ⟨_,_,_,rfl,?_,h2⟩]
  have:ch.toNat<ks.length:=by lia
  rw [getD_eq_getElem?_getD,getElem?_eq_getElem this];exact R _ (getElem_mem this)
def tE (P:Program)(w:World)(K:Fg)(mg:Str->Option Value)(base:Heap)(C Pn Pl:Addr):Sp:=λvs H Q _=>∃a kp st ch hs wf k n cs ws last ks,vs=[.ref a,.ref kp,.ref st,.int ch]/\CP P w K mg base C Pn Pl H a hs wf k/\fu K H kp hs.fl ks/\vY K H st hs n cs ws last/\n<60/\Ac ks.length @cP ch/\∀st' cs' ws' last' H',aI H H'->lY Pn Pl H'->vY K H' st' hs (n+1) cs' ws' last'->oQ hs wf k cs ws last (CL ks ch) cs' ws' last'->Q (.ref st') H'
theorem O3 {C Pn Pl:Addr}{H:Hp}{a z st:Addr}{ch:Int}{hs:Hs}{wf:Wf}{k:Dk}{n:Nat}{cs:List Cb}{ws:List aO}{last:Int}{ks:List (Int×Int)}{Q:VK}{E:XK}(h1:CP P w K mg base C Pn Pl H a hs wf k)(h2:fu K H z hs.fl ks)(L:vY K H st hs n cs ws last)(j:n<60)(U:Ac ks.length @cP ch)(g:∀st' cs' ws' last' H',aI H H'->lY Pn Pl H'->vY K H' st' hs (n+1) cs' ws' last'->oQ hs wf k cs ws last (CL ks ch) cs' ws' last'->Q (.ref st') H'):tE P w K mg base C Pn Pl [.ref a,.ref z,.ref st,.int ch] H Q E:=⟨a,z,st,ch,hs,wf,k,n,cs,ws,last,ks,rfl,h1,h2,L,j,U,g⟩
theorem O5 {H:Hp}{xs:List V}{ks:List (Int×Int)}{ch:Int}(J:aC K H xs @ev)(B:0<=ch)(h1:ch<(ks.length:Int)):∃b,l9 xs ch=some (.ref b)/\aB K H b [.int (ks.getD ch.toNat (0,0)).1,.int (ks.getD ch.toNat (0,0)).2]:=by
 have I:xs.length=ks.length:=aE J;obtain ⟨j,rfl⟩:=Int.eq_ofNat_of_zero_le B
 have Z:j<xs.length:=by lia
 obtain ⟨p,z,F,e,L⟩:=lr J (getElem?_eq_getElem Z);rwa[⟨z,by rw [bD (getElem?_eq_getElem Z),e],?_⟩];rw [show ((j:Int)).toNat=j by lia,getD_eq_getElem?_getD,F];exact L
theorem L7 {kC Pn Pl:Addr}{t1:Tok}(F:Z0 K "led" Lm f fd)(pJ:mg "NOBODY"=some (.int (-1) t1))(cC:GU K kC)(fH:iy P w K mg base aT 9 "turn" kC (kI P w K mg base Pn Pl)):au P w K mg base aT 10 f fd ["court","kinds","state","choice"] @cX:=by
 have HG:ay (.int (-1)) (.int (-1) t1):=⟨_,rfl⟩;rwa[F.ok Op @ba @N]
 ·obtain ⟨a,kp,st,I,hs,wf,k,n,cs,ws,W,ks,rfl,_⟩:=h;rfl
 obtain ⟨a,kp,st,I,hs,wf,k,n,cs,ws,W,ks,rfl,hC,hK,hS,ae,U,q⟩:=h;rwa[⟨_,(aa @a (ac (aj (eV @eN (pi (n:=9) fX hr @c (wv 0) (ar (wv 2) (ar (wv 4) ap))) bz @P)))),?_⟩]
 have Y:z7 hs.fl @cP (CL ks I):=by obtain ⟨_,_,_,_,_,hk⟩:=hK;exact M9 hk U
 ext;by_cases z:I= -1
 ·rwa[pc z ?_];rwa[jo @bB λdp H9 B n9 e9=> ?_]
  have L:xS K H9 dp (CL ks I):=by unfold CL;rw [if_pos z];exact ⟨[],aA.of e9,.nil⟩
  obtain ⟨dx,h,ru,df,Z,e2,e3,e4⟩:=(hC.same B).ex;rwa[gR Z rfl fH ?_];rwa[JL Z cC e2 e3 e4 (hC.same B).gg (hS.nt B.nt) ae L Y λr R ll J S j H3 sN g3 er O ht=> ?_];rwa[ak (aB.of er) rfl ?_];exact q R J S j H3 (B.nt.trans sN) g3 O ht
 ·rwa[iT z ?_]
  obtain ⟨h0,h1,h2⟩:0<=I/\I<(ks.length:Int)/\I∉aV cs ws:=by rcases U with y|y;exact absurd y z;exact y
  obtain ⟨xs,hx,hd,_,_,_⟩:=id hK;obtain ⟨b,hb,hT⟩:=O5 hd h0 h1;rwa[bb (aA.of hx) hb ?_];rwa[ak hT rfl ?_];rwa[bb (aA.of hx) hb ?_];rwa[ak hT rfl ?_];rwa[bX (bA (by show 5<=1000000;decide)) λdt H8 s8 n8 e8=> ?_];rwa[jo @bB λdp H9 ab n9 e9=> ?_];have B:=s8.trans ab
  have L:xS K H9 dp (CL ks I):=by unfold CL;rw [if_neg z];exact ⟨_,aA.of e9,.cons ⟨dt,rfl,ab _ _ e8,trivial⟩ .nil⟩
  obtain ⟨dx,h,ru,df,Z,e2,e3,e4⟩:=(hC.same B).ex;rwa[gR Z rfl fH ?_];rwa[JL Z cC e2 e3 e4 (hC.same B).gg (hS.nt B.nt) ae L Y λr R ll J S j H3 sN g3 er O ht=> ?_];rwa[ak (aB.of er) rfl ?_];exact q R J S j H3 (B.nt.trans sN) g3 O ht
seal tE
noncomputable def Ps (c:Cb):D:= .tup (Gc c.pl c.li c.dr c.mr c.ps)
noncomputable def Q8 (cs:List Cb)(ws:List aO)(last:Int):D:= .tup [.tup (cs.map Ps),.tup @eL,.int last,.bl false]
theorem gz {H:Hp}{st:Addr}{cs:List Cb}{ws:List aO}{last:Int}(h:d6 K H st cs ws last false):bv K H (.ref st) (Q8 cs ws last):=by
 obtain ⟨tc,F,xs,ys,h1,h2,L,j,U⟩:=h;rwa[fg h1 (.cons (fg h2 ?_) (.cons (fg L U) (.cons (.int _) (.cons (.bl _) .nil))))];rwa[PySem.Paired.of (by rw [length_map];exact j.len) λi x d R O=> ?_];rw [getElem?_map] at O;obtain ⟨c,I,t,rfl,z⟩:=j.get1 R;rw [I] at O;cases O;exact z.den
theorem hU {α:Type}{g:α->D}{n:Nat}(h:∀a,gu (g a)<=n):∀as:List α,deps (as.map g)<=n
 |[]=>Nat.zero_le _
 |a::as=>by rw [map_cons,deps];exact Nat.max_le.mpr ⟨h a,hU h as⟩
theorem M6 (c:Cb):gu (Ps c)<=3:=by
 have:=tY c.ps;show max 0 (max 0 (max 0 (max 0 (max (deps @fQ+1) 0))))+1<=3;lia
theorem F7 {n:Nat}{ts:List Int}{ch:Int}(h:ch∈fP n ts):Ac n ts ch:=by
 rcases mem_cons.mp h with z|z
 ·exact .inl z
 ·unfold AU at z;obtain ⟨k,R,rfl⟩:=mem_map.mp z;have R:=mem_filter.mp R;have U:=mem_range.mp R.1;exact .inr ⟨by lia,by lia,by simpa using R.2⟩
structure SS where
 cs:List Cb
 ws:List aO
 last:Int
noncomputable def SS.d (s:SS):D:=Q8 s.cs s.ws s.last
noncomputable def SS.ts (s:SS):List Int:=aV s.cs s.ws
noncomputable instance decS:DecidableEq SS:=λ_ _=>Classical.propDecidable _
theorem ly {α β:Type}{f:α->β}(B:∀a b,f a=f b->a=b):∀ {xs ys:List α},xs.map f=ys.map f->xs=ys
 |[],[],_=>rfl
 |[],_::_,h=>by simp at h
 |_::_,[],h=>by simp at h
 |x::xs,y::ys,h=>by
  rw [map_cons,map_cons] at h;injection h with h1 h2;rw [B _ _ h1,ly B h2]
theorem SS.inj {s t:SS}(h:s.d=t.d):s=t:=by
 obtain ⟨I,B,l⟩:=s;obtain ⟨J,S,L⟩:=t;unfold SS.d Q8 at h;injection h with h;injection h with h1 h;injection h with h2 h;injection h with h3 h;injection h1 with h1;injection h2 with h2;injection h3 with h3
 have R:I=J:=ly (λa b z=>by
  obtain ⟨p,l,d,m,ps⟩:=a;obtain ⟨U,L,F,W,j⟩:=b;unfold Ps Gc at z;injection z with z;injection z with z1 z;injection z with z2 z;injection z with z3 z;injection z with z4 z;injection z with z5 z;injection z1 with z1;injection z2 with z2;injection z3 with z3;injection z4 with z4;injection z5 with z5
  have:ps=j:=ly (λa b y=>by
   obtain ⟨Y,a2⟩:=a;obtain ⟨b1,Z⟩:=b;unfold cB at y;injection y with y;injection y with y1 y;injection y with y2 y;injection y1 with y1;injection y2 with y2;simp only at y1 y2
   rw [y1,y2]) z5
  simp only at z1 z2 z3 z4
  rw [z1,z2,z3,z4,this]) h1
 have O:B=S:=ly (λa b z=>by
  obtain ⟨p,l,d,m⟩:=a;obtain ⟨U,L,F,W⟩:=b;unfold aO.d at z;injection z with z;injection z with z1 z;injection z with z2 z;injection z with z3 z;injection z with z4 z;injection z1 with z1;injection z2 with z2;injection z3 with z3;injection z4 with z4;simp only at z1 z2 z3 z4
  rw [z1,z2,z3,z4]) h2
 simp only at h3;rw [R,O,h3]
theorem vm {α:Type}{g:α->D}(h:∀a,pF (g a)=true):∀as:List α,nbDs (as.map g)=true
 |[]=>rfl
 |a::as=>by rw [map_cons,nbDs,h a,vm h as];rfl
theorem SS.gd (s:SS):AS s.d:=by
 rwa[⟨?_,_,_,_,rfl,?_,?_,rfl⟩]
 ·have h1:=hU M6 s.cs;have h2:deps @fA<=1:=hU (λr=>by show max 0 (max 0 (max 0 @eH))+1<=1;decide) s.ws;show max (deps (s.cs.map Ps)+1) (max (deps @fA+1) (max 0 @eH))+1<=7;lia
 ·rw [pF];rwa[vm (λc=> ?_) _];show (true&&(true&&(true&&(true&&(nbDs @fQ&&true)))))=true;rw [vm (λp=>rfl)];rfl
 ·rw [pF];exact vm (λr=>rfl) _
noncomputable def fZ:Nat->List SS->List (D×V)
 |_,[]=>[]
 |n,s::S=>(s.d,.int (n:Int))::fZ (n+1) S
theorem zq:∀ {S T:List SS} {n:Nat},fZ n (S++T)=fZ n S++fZ (n+S.length) T
 |[],T,n=>by simp [fZ]
 |s::S,T,n=>by
  rw [cons_append,fZ,zq,fZ,length_cons,cons_append,show n+1+S.length=n+(S.length+1) by lia]
theorem vp:∀ {S:List SS} {n:Nat},(fZ n S).length=S.length
 |[],_=>rfl
 |s::S,n=>by rw [fZ,length_cons,vp,length_cons]
theorem j9 {s:SS}:∀ {S:List SS} {n:Nat},dJ (fZ n S) s.d=if s∈S then some (.int ((n+S.idxOf s:Nat):Int)) else none
 |[],_=>by simp [fZ,dJ]
 |t::S,n=>by
  rw [fZ];by_cases z:t=s
  ·subst z;rw [bU (by rfl),if_pos (.head _),List.idxOf_cons_self];rfl
  ·rw [bV (λy=>z (SS.inj y)),j9];by_cases y:s∈S
   ·rw [if_pos y,if_pos (.tail _ y),show (t::S).idxOf s=(S.idxOf s).succ by rw [List.idxOf_cons,beq_eq_false_iff_ne.mpr z];rfl,show n+1+S.idxOf s=n+(S.idxOf s).succ by lia]
   ·rw [if_neg y,if_neg (λx=>by rcases mem_cons.mp x with x|x;exact z x.symm;exact y x)]
structure Gr where
 S:List SS
 W:List (List (Int×Nat))
 F:List (Option (Nat×Int))
def Gr.push (G:Gr)(s:SS)(f:Option (Nat×Int)):Gr:=⟨G.S++[s],G.W++[[]],G.F++[f]⟩
noncomputable def Gr.put (G:Gr)(s:SS)(f:Option (Nat×Int)):Gr:=if s∈G.S then G else G.push s f
def Gr.way (G:Gr)(n:Nat)(w:Int×Nat):Gr:=⟨G.S,G.W.set n (G.W.getD n []++[w]),G.F⟩
noncomputable def Gr.visit (nx:SS->Int->SS)(s:SS)(n:Nat)(G:Gr)(c:Int):Gr:=(G.put @cy (some (n,c))).way n (c,(G.put @cy (some (n,c))).S.idxOf @cy)
noncomputable def Gr.row (nx:SS->Int->SS)(nk n:Nat)(G:Gr):Gr:=match G.S[n]? with|some s=>(fP nk s.ts).foldl @eZ G|none=>G
noncomputable def Fx (nx:SS->Int->SS)(nk:Nat)(b:SS):Nat->Gr
 |0=>⟨[b],[[]],[none]⟩
 |n+1=>(Fx nx nk b n).row nx nk n
structure GI (nx:SS->Int->SS)(nk:Nat)(b:SS)(Good:SS->Prop)(n:Nat)(c1:List Int)(G:Gr):Prop where
 lw:G.W.length=G.S.length
 lf:G.F.length=G.S.length
 nd:G.S.Nodup
 b0:G.S[0]? =some b
 gd:∀s∈G.S,Good s
 dn:∀i s,i<n->G.S[i]? =some s->G.W[i]? =some ((fP nk s.ts).map λc=>(c,G.S.idxOf @cy))/\∀c∈fP nk s.ts,nx s c∈G.S
 md:∀s,G.S[n]? =some s->G.W[n]? =some (c1.map λc=>(c,G.S.idxOf @cy))/\∀c∈c1,nx s c∈G.S
 rs:∀i,n<i->i<G.S.length->G.W[i]? =some []
 f0:G.F[0]? =some none
 ff:∀j,1<=j->j<G.S.length->∃i c s,G.F[j]? =some (some (i,c))/\i<j/\i<=n/\G.S[i]? =some s/\(i<n->c∈fP nk s.ts)/\(i=n->c∈c1)/\G.S[j]? =some @cy
section
variable {nx:SS->Int->SS}{nk:Nat}{b:SS}{Good:SS->Prop}{n:Nat}{c1:List Int}{G:Gr}{s:SS}{c:Int}
theorem AM {S T:List SS}{s:SS}(h:s∈S):(S++T).idxOf s=S.idxOf s:=by rw [List.idxOf_append,if_pos h]
theorem MP {S:List SS}{s:SS}{i:Nat}(J:S.Nodup)(h:S[i]? =some s):S.idxOf s=i:=by
 obtain ⟨hi,e⟩:=List.getElem?_eq_some_iff.mp h;have B:s∈S:=mem_of_getElem? h;have h1:=List.idxOf_lt_length_of_mem B
 have h2:S[S.idxOf s]? =some s:=by rw [getElem?_eq_getElem h1,List.getElem_idxOf h1]
 exact (List.getElem?_inj h1 J).mp (h2.trans h.symm)
theorem qR {S:List SS}{s:SS}(h:S.Nodup)(hs:s∉S):(S++[s]).Nodup:=by
 rw [nodup_append];exact ⟨h,by simp,λa j b B=>by rw [mem_singleton.mp B];rintro rfl;exact hs j⟩
theorem GI.put (I:GI nx nk b Good n c1 G)(hs:G.S[n]? =some s)(hg:Good @cy):∃G',G'=G.put @cy (some (n,c))/\(nx s c∈G.S->G'=G)/\(nx s c∉G.S->G'=G.push @cy (some (n,c)))/\nx s c∈G'.S/\G'.S[n]? =some s/\GI nx nk b Good n (c1++[c]) (G'.way n (c,G'.S.idxOf @cy)):=by
 have Y:n<G.S.length:=(List.getElem?_eq_some_iff.mp hs).1;have L:=I.md s hs;rwa[⟨_,rfl,?_,?_,?_⟩]
 ·intro z;unfold Gr.put;rw [if_pos z]
 ·intro z;unfold Gr.put;rw [if_neg z]
 by_cases z:nx s c∈G.S
 ·unfold Gr.put;rw [if_pos z]
  have hw:G.W.getD n []=c1.map λc=>(c,G.S.idxOf @cy):=by rw [getD_eq_getElem?_getD,L.1];rfl
  rwa[⟨z,hs,⟨?_,I.lf,I.nd,I.b0,I.gd,λi t hi J=> ?_,λt J=> ?_,λi hi R=> ?_,I.f0,λj h1 h2=> ?_⟩⟩]
  ·show (G.W.set n _).length=_;rw [length_set];exact I.lw
  ·show (G.W.set n _)[i]? =_/\_;rw [getElem?_set_ne @b];exact I.dn i t hi J
  ·show (G.W.set n _)[n]? =_/\_
   obtain rfl:s=t:=by have J:G.S[n]? =some t:=J;rw [hs] at J;cases J;rfl
   rw [getElem?_set_self (by rw [I.lw];exact Y),hw,map_append];rwa[⟨rfl,λd O=> ?_⟩]
   rcases mem_append.mp O with y|y
   ·exact L.2 d y
   ·rw [mem_singleton.mp y];exact z
  ·show (G.W.set n _)[i]? =_;rw [getElem?_set_ne @b];exact I.rs i hi R
  ·obtain ⟨i,d,t,e1,e2,e3,e4,Z,e6,e7⟩:=I.ff j h1 h2;exact ⟨i,d,t,e1,e2,e3,e4,Z,λy=>mem_append_left _ (e6 y),e7⟩
 ·unfold Gr.put;rw [if_neg z];show nx s c∈G.S++[nx s c]/\(G.S++[nx s c])[n]? =some s/\GI nx nk b Good n (c1++[c]) ⟨G.S++[nx s c],(G.W++[[]]).set n ((G.W++[[]]).getD n []++[(c,(G.S++[nx s c]).idxOf @cy)]),G.F++[some (n,c)]⟩
  have up:∀ {i:Nat} {t:SS},i<G.S.length->(G.S++[nx s c])[i]? =some t->G.S[i]? =some t:=λhi h=>by rwa [getElem?_append_left hi] at h
  have B:∀ {i:Nat} {t:SS},G.S[i]? =some t->(G.S++[nx s c])[i]? =some t:=λh=>by rw [getElem?_append_left (List.getElem?_eq_some_iff.mp h).1];exact h
  have hw:(G.W++[[]]).getD n []=c1.map λd=>(d,(G.S++[nx s c]).idxOf (nx s d)):=by
   rw [getD_eq_getElem?_getD,getElem?_append_left (by rw [I.lw];exact Y),L.1];rwa[map_congr_left λd O=> ?_];rw [AM (L.2 d O)]
  have U:nx s c∈G.S++[nx s c]:=by simp
  rwa[⟨U,B hs,⟨?_,?_,qR I.nd z,B I.b0,λt J=> ?_,λi t hi J=> ?_,λt J=> ?_,λi hi R=> ?_,?_,λj h1 h2=> ?_⟩⟩]
  ·show ((G.W++[[]]).set n _).length=(G.S++[nx s c]).length;rw [length_set,length_append,length_append,I.lw];rfl
  ·show (G.F++_).length=(G.S++[nx s c]).length;rw [length_append,length_append,I.lf];rfl
  ·rcases mem_append.mp J with y|y
   ·exact I.gd t y
   ·rw [mem_singleton.mp y];exact hg
  ·have h':=I.dn i t hi (up @b J);rwa[⟨?_,λd O=>mem_append_left _ (h'.2 d O)⟩];show ((G.W++[[]]).set n _)[i]? =_;rw [getElem?_set_ne @b,getElem?_append_left (by rw [I.lw];lia),h'.1];congr 1;rwa[map_congr_left λd O=> ?_];show _=(d,(G.S++[nx s c]).idxOf (nx t d));rw [AM (h'.2 d O)]
  ·obtain rfl:s=t:=by have:=up Y J;rw [hs] at this;cases this;rfl
   show ((G.W++[[]]).set n _)[n]? =_/\_;rw [getElem?_set_self (by rw [length_append,I.lw];simp;lia),hw,map_append];rwa[⟨rfl,λd O=> ?_⟩]
   rcases mem_append.mp O with y|y
   ·exact mem_append_left _ (L.2 d y)
   ·rw [mem_singleton.mp y];exact U
  ·show ((G.W++[[]]).set n _)[i]? =_;rw [getElem?_set_ne @b];have R:i<(G.S++[nx s c]).length:=R;rw [length_append] at R;by_cases y:i<G.S.length
   ·rw [getElem?_append_left (by rw [I.lw];exact y)];exact I.rs i hi y
   ·rw [getElem?_append_right (by rw [I.lw];lia),I.lw,show i - G.S.length=0 by simp at R;lia];rfl
  ·show (G.F++[some (n,c)])[0]? =some none;rw [getElem?_append_left (by rw [I.lf];lia)];exact I.f0
  ·show ∃i d t,(G.F++[some (n,c)])[j]? =some (some (i,d))/\i<j/\i<=n/\(G.S++[nx s c])[i]? =some t/\(i<n->d∈fP nk t.ts)/\(i=n->d∈c1++[c])/\(G.S++[nx s c])[j]? =some (nx t d);have h2:j<(G.S++[nx s c]).length:=h2;rw [length_append] at h2;by_cases y:j<G.S.length
   ·obtain ⟨i,d,t,e1,e2,e3,e4,Z,e6,e7⟩:=I.ff j h1 y;exact ⟨i,d,t,by rw [getElem?_append_left (by rw [I.lf];exact y)];exact e1,e2,e3,B e4,Z,λx=>mem_append_left _ (e6 x),B e7⟩
   ·have e:j=G.S.length:=by simp at h2;lia
    subst e;rwa[⟨n,c,s,?_,Y,Nat.le_refl _,B hs,λx=>absurd x @I,λ_=>by simp,?_⟩]
    ·rw [getElem?_append_right (by rw [I.lf];exact Nat.le_refl _),I.lf,Nat.sub_self];rfl
    ·rw [getElem?_append_right @f,Nat.sub_self];rfl
theorem GI.next (I:GI nx nk b Good n c1 G)(hs:G.S[n]? =some s)(B:c1=fP nk s.ts):GI nx nk b Good (n+1) [] G:=by
 rwa[⟨I.lw,I.lf,I.nd,I.b0,I.gd,λi t hi J=> ?_,λt J=> ?_,λi hi W=>I.rs i @b W,I.f0,λj h1 h2=> ?_⟩]
 ·by_cases y:i<n
  ·exact I.dn i t y J
  ·obtain rfl:i=n:=by lia
   obtain rfl:s=t:=by rw [hs] at J;cases J;rfl
   rw [<-B];exact I.md s hs
 ·exact ⟨I.rs (n+1) @b (List.getElem?_eq_some_iff.mp J).1,λd L=>nomatch L⟩
 ·obtain ⟨i,d,t,R,O,Y,z,Z,F,U⟩:=I.ff j h1 h2;rwa[⟨i,d,t,R,O,by lia,z,λy=> ?_,λy=>by lia,U⟩];by_cases x:i<n
  ·exact Z x
  ·obtain rfl:i=n:=by lia
   obtain rfl:s=t:=by rw [hs] at z;cases z;rfl
   rw [<-B];exact F rfl
theorem GI.start (B:Good b):GI nx nk b Good 0 [] ⟨[b],[[]],[none]⟩:=by
 rwa[⟨rfl,rfl,by simp,rfl,λs hs=>by rw [mem_singleton.mp hs];exact B,λi s hi=>absurd hi @b,λs _=>⟨rfl,λd J=>nomatch J⟩,λi h1 h2=>by simp at h2;lia,rfl,λj h1 h2=>by simp at h2;lia⟩]
end
def Ja:HO->Prop
 | .tup _=>True
 | .frz _ (.tup _)=>True
 |_=>False
def bJ (H H':Hp):Prop:=∀b o,Ja o->H b=some o->H' b=some o
section
variable {H H' H2:Hp}{a p:Addr}{xs:List V}{x:V}{d:D}
theorem bJ.trans (s:bJ H H')(t:bJ H' H2):bJ H H2:=λb o z e=>t b o z (s b o z e)
theorem bJ.sqT (s:bJ H H')(h:aB K H a xs):aB K H' a xs:=by
 rcases h with (h|⟨u,h⟩)|h
 ·exact .inl (.inl (s _ _ trivial h))
 ·exact .inl (.inr ⟨u,s _ _ trivial h⟩)
 ·exact .inr h
theorem bJ.den (s:bJ H H')(h:bv K H x d)(j:L2.noL d=true):bv K H' x d:=by
 induction h with
 |non=>exact .non
 |bl b=>exact .bl b
 |int i=>exact .int i
 |str z=>exact .str z
 |lst h hl hi ih=>rw [L2.noL] at j;cases j
 |tup h hl hi ih=>
  rw [L2.noL] at j;exact .tup @ga hl λi x d h1 h2=>ih i x d h1 h2 @fX
theorem bJ.dens {ds:List D}(s:bJ H H')(h:aC K H xs ds)(z:∀d∈ds,L2.noL d=true):aC K H' xs ds:=
 PySem.Paired.of h.len λi x d h1 h2=>by
  obtain ⟨e,L,r⟩:=h.get1 h1;rw [h2] at L;cases L;exact s.den r (z _ (mem_of_getElem? h2))
theorem _root_.L2.aI.su (s:aI H H'):bJ H H':=λb o z e=>s b o (λps y=>by subst y;exact z) e
theorem gy {o:HO}(h:∀o,H p=some o-> ¬Ja o):bJ H @er:=λb u z e=>by
 rw [ai (λy=>by subst y;exact h _ e z)];exact e
theorem d6.su {st:Addr}{cs:List Cb}{ws:List aO}{last:Int}{j:Bool}(h:d6 K H st cs ws last j)(s:bJ H H'):d6 K H' st cs ws last j:=by
 obtain ⟨tc,F,xs,ys,h1,h2,L,I,O⟩:=h;rwa[⟨tc,F,xs,ys,s.sqT h1,s.sqT h2,s.sqT L,Paired.imp' (λx c z=> ?_) I,s.dens O λd J=> ?_⟩]
 ·obtain ⟨t,e,b,R,S,U,B⟩:=z;rwa[⟨t,e,b,R,s _ _ trivial S,s _ _ trivial U,s.dens B λd J=> ?_⟩];obtain ⟨p,_,rfl⟩:=mem_map.mp J;rfl
 ·obtain ⟨p,_,rfl⟩:=mem_map.mp J;rfl
end
def Ae (w:Int×Nat):D:= .tup [.int w.1,.int (w.2:Int)]
def GN:Option (Nat×Int)->D
 |none=> .non
 |some f=> .tup [.int (f.1:Int),.int f.2]
theorem FD:∀f,L2.noL (GN f)=true
 |none=>rfl
 |some _=>rfl
structure sU (K:Fg)(H:Hp)(g l0 l1 l2:Addr)(wl:List Addr)(xs zs:List V)(G:Gr):Prop where
 eg:H g=some (.tup [.ref l0,.ref l1,.ref l2])
 e0:H l0=some (.lst xs)
 e1:H l1=some (.lst @em)
 e2:H l2=some (.lst zs)
 dS:Paired (λx (s:SS)=>∃a,x=V.ref a/\d6 K H a s.cs s.ws s.last false) xs G.S
 lW:wl.length=G.W.length
 dW:∀(i:Nat) a w,wl[i]? =some a->G.W[i]? =some w->∃vs,H a=some (.lst vs)/\aC K H vs (w.map Ae)
 dF:aC K H zs @dY
 nd:(l0::l1::l2::wl).Nodup
theorem pK (F:List (Option (Nat×Int))):∀d∈F.map GN,L2.noL d=true:=λd J=>by
 obtain ⟨f,_,rfl⟩:=mem_map.mp J;exact FD f
theorem ky (F:List (Int×Nat)):∀d∈F.map Ae,L2.noL d=true:=λd J=>by
 obtain ⟨f,_,rfl⟩:=mem_map.mp J;rfl
section
variable {H H':Hp}{g dn l0 l1 l2:Addr}{wl:List Addr}{xs zs:List V}{G:Gr}
theorem sU.keep (h:sU K H g l0 l1 l2 wl xs zs G)(s:∀b o,(Ja o\/∃xs,o= .lst xs)->H b=some o->H' b=some o):sU K H' g l0 l1 l2 wl xs zs G:=by
 have j:bJ H H':=λb o z e=>s b o (.inl z) e;rwa[⟨s _ _ (.inl trivial) h.eg,s _ _ (.inr ⟨_,rfl⟩) h.e0,s _ _ (.inr ⟨_,rfl⟩) h.e1,s _ _ (.inr ⟨_,rfl⟩) h.e2,Paired.imp' (λx t ⟨a,e,z⟩=>⟨a,e,z.su j⟩) h.dS,h.lW,λi a w F B=> ?_,j.dens h.dF (pK _),h.nd⟩];obtain ⟨I,R,U⟩:=h.dW i a w F B;exact ⟨I,s _ _ (.inr ⟨_,rfl⟩) R,j.dens U (ky _)⟩
theorem sU.nt (h:sU K H g l0 l1 l2 wl xs zs G)(s:aI H H'):sU K H' g l0 l1 l2 wl xs zs G:=h.keep λb o z e=>s b o (λps y=>by subst y;rcases z with z|⟨_,z⟩;exact z;cases z) e
theorem je {kvs:List (D×V)}(h:cX K H dn kvs)(s:bJ H H')(e:H' dn=H dn)(F:∀p∈kvs,L2.noL p.1=true):cX K H' dn kvs:=by
 obtain ⟨ys,h1,h2,L,j⟩:=h;rwa[⟨ys,e.trans h1,h2,L,PySem.Paired.of j.len λi p q R O=> ?_⟩];obtain ⟨U,z,I,B,S,J⟩:=j.get1 R;rw [O] at z;cases z;exact ⟨I,B,s.den S (F p (mem_of_getElem? R)),J⟩
theorem pE {α:Type}{f:α->D}(h:∀a,L2.noL (f a)=true):∀as:List α,noLs (as.map f)=true
 |[]=>rfl
 |a::as=>by rw [map_cons,noLs,h a,pE h as];rfl
theorem SS.noL (s:SS):L2.noL s.d=true:=by
 show (noLs (s.cs.map Ps)&&(noLs @fA&&(true&&(true&&true))))=true;rw [pE (λc=> ?_),pE (λr=>rfl)];rfl;show (true&&(true&&(true&&(true&&(noLs @fQ&&true)))))=true;rw [pE (λp=>rfl)];rfl
theorem m9:∀ {S:List SS} {n:Nat},∀p∈fZ n S,L2.noL p.1=true
 |[],_,p,h=>nomatch h
 |s::S,n,p,h=>by
  rcases mem_cons.mp h with z|z
  ·rw [z];exact s.noL
  ·exact m9 p z
theorem Jd {Pn Pl:Addr}{kvs:List (D×V)}{o:HO}(h:cX K H dn kvs)(g:lY Pn Pl H):lY Pn Pl (upd H dn o):=by
 have ext:∃φ,H dn=some (.ext φ):=by obtain ⟨ys,h1,_⟩:=h;exact ⟨_,h1⟩
 obtain ⟨φ,e⟩:=ext
 have U:∀ {P:Addr} {q:Str},cF H P q->cF (upd H dn o) P q:=λ{P q} t=>by
  obtain ⟨ps,h1,h2,L⟩:=t;rwa[⟨ps,by rw [ai (λz=>by subst z;rw [e] at h1;cases h1)];exact h1,h2,λpos B z=> ?_⟩];obtain ⟨j,R,O⟩:=L pos B z;exact ⟨j,R,by rw [ai (Jn h O)];exact O⟩
 exact ⟨U g.1,U g.2⟩
end
inductive uA (K:Fg)(Pn Pl:Addr)(vs:List V)(H:Hp)(Q:VK)(_e:XK):Prop
 |mk (g dn st x l0 l1 l2 wl xs zs G s f:_) (most:Int) (_:vs=[.ref g,.ref dn,.ref st,x,.int most]) (_:sU K H g l0 l1 l2 wl xs zs G) (_:cX K H dn (fZ 0 G.S)) (_:lY Pn Pl H) (_:d6 K H st (SS.cs s) (SS.ws s) (SS.last s) false) (_:bv K H x (GN f)) (_:s∉G.S) (_:G.S.length<1000) (_:(G.S.length:Int)<most) (_:G.F.length=G.S.length) (_:G.W.length=G.S.length) (_:∀H' a xs' zs',H a=none->(∀b o,b≠dn->b≠l0->b≠l1->b≠l2->H b=some o->H' b=some o)->lY Pn Pl H'->sU K H' g l0 l1 l2 (wl++[a]) xs' zs' (G.push s f)->cX K H' dn (fZ 0 (G.push s f).S)->Q .non H')
theorem Iw {Pn Pl:Addr}(F:Z0 K "put_state" mL f fd)(bp:mg "len"=none):au P w K mg base aT 1 f fd ["graph","numbers","state","first","most"] (uA K Pn Pl):=by
 rwa[F.ok yy (by symm) (λaO A outer s H vs Q E hr h=> ?_)];obtain ⟨g,dn,st,x,l0,l1,l2,wl,xs,zs,G,s,f,aM,rfl,j,hD,hg,hS,hx,hn,n1,n2,lF,aI,q⟩:=h;have xl:xs.length=G.S.length:=j.dS.len
 have zl:zs.length=G.S.length:=by have:=j.dF.len;rw [length_map] at this;lia
 have aP:wl.length=G.S.length:=j.lW.trans aI;have nd:=j.nd
 obtain ⟨φ,J⟩:∃φ,H dn=some (.ext φ):=by obtain ⟨ys,h1,_⟩:=id hD;exact ⟨_,h1⟩
 have d0:l0≠dn:=λz=>by have:=j.e0;rw [z,J] at this;cases this
 have d1:l1≠dn:=λz=>by have:=j.e1;rw [z,J] at this;cases this
 have d2:l2≠dn:=λz=>by have:=j.e2;rw [z,J] at this;cases this
 have gT:∀ {b:Addr} {o:HO},H b=some o->(Ja o\/∃xs,o= .lst xs)->b≠dn:=λe z y=>by rw [y,J] at e;cases e;rcases z with z|⟨_,z⟩;exact z;cases z
 rwa[⟨_,(aa @a (aa @el (aa (wU rfl @fR (wv 1) (wv 2) (wv 5) rfl) (aa @dp (aa @dp @H))))),?_⟩];rwa[ak @dZ rfl ?_];rwa[bH @ge ?_];rw [xl];rwa[iT @b ?_];rwa[⟨dn,rfl,fZ 0 G.S,st,s.d,rfl,hD,gz hS,s.gd,vW (by rw [vp];lia),by rw [j9,if_neg hn],λys hd=> ?_⟩];have Y:=hd _ rfl
 have as:bJ H @gz:=gy λo e z=>by rw [J] at e;cases e;exact z
 have g1:lY Pn Pl @gz:=Jd hD hg
 have k1:∀b o,b≠dn->H b=some o->(upd H dn @fa) b=some o:=λb o z e=>by rw [ai z];exact e
 have o1:∀b,b≠dn->(upd H dn @fa) b=H b:=λb z=>ai z;generalize upd H dn @fa=H1 at Y as g1 k1 o1;have B:sU K H1 g l0 l1 l2 wl xs zs G:=j.keep λb o z e=>k1 b o (gT e z) e;rwa[ak @gf rfl ?_];rwa[⟨.inl ⟨rfl,_,aA.of B.e0⟩,?_⟩];rwa[eF B.e0 @cG ?_]
 have Z:bJ H1 (upd H1 l0 (.lst (xs++[.ref st]))):=gy λo e z=>by rw [B.e0] at e;cases e;exact z
 have g2:=fN _ _ (aH.updL (o:= .lst (xs++[.ref st])) B.e0) g1;have o2:∀b,b≠l0->(upd H1 l0 (.lst (xs++[.ref st]))) b=H1 b:=λb z=>ai z;have af:(upd H1 l0 (.lst (xs++[.ref st]))) l0=some (.lst (xs++[.ref st])):=ag;generalize upd H1 l0 (.lst (xs++[.ref st]))=H2 at Z g2 o2 af;simp only [nodup_cons,mem_cons,not_or] at nd;obtain ⟨⟨ah,aj,aw⟩,⟨ae,az⟩,ao,aK⟩:=nd;have aE:H2 g=some (.tup [.ref l0,.ref l1,.ref l2]):=Z _ _ trivial B.eg
 have ab:H2 l1=some (.lst @em):=by rw [o2 l1 (Ne.symm ah)];exact B.e1
 have ap:H2 l2=some (.lst zs):=by rw [o2 l2 (Ne.symm aj)];exact B.e2
 rwa[ak (aB.of aE) rfl ?_];rwa[⟨.inl ⟨rfl,_,aA.of ab⟩,?_⟩];rwa[jo @bB λa H3 s3 O ea=> ?_];have g3:=fN _ _ s3.st g2;have ad:=s3 _ _ ab;rwa[eF ad (vW (by rw [length_map];lia)) ?_]
 have an:a≠l1:=λz=>by rw [z,ab] at O;cases O
 have am:a≠l0:=λz=>by rw [z,af] at O;cases O
 have aG:a≠l2:=λz=>by rw [z,ap] at O;cases O
 have U:bJ H3 (upd H3 l1 (.lst (wl.map V.ref++[.ref a]))):=gy λo e z=>by rw [ad] at e;cases e;exact z
 have g4:=fN _ _ (aH.updL (o:= .lst (wl.map V.ref++[.ref a])) ad) g3;have o4:∀b,b≠l1->(upd H3 l1 (.lst (wl.map V.ref++[.ref a]))) b=H3 b:=λb z=>ai z;have av:(upd H3 l1 (.lst (wl.map V.ref++[.ref a]))) l1=some (.lst (wl.map V.ref++[.ref a])):=ag;generalize upd H3 l1 (.lst (wl.map V.ref++[.ref a]))=H4 at U g4 o4 av;have aD:H4 g=some (.tup [.ref l0,.ref l1,.ref l2]):=U _ _ trivial (s3 _ _ aE)
 have R:H4 l2=some (.lst zs):=by rw [o4 l2 (Ne.symm ae)];exact s3 _ _ ap
 rwa[ak (aB.of aD) rfl ?_];rwa[⟨.inl ⟨rfl,_,aA.of R⟩,?_⟩];rwa[eF R @cG ?_]
 have L:bJ H4 (upd H4 l2 (.lst (zs++[x]))):=gy λo e z=>by rw [R] at e;cases e;exact z
 have g5:=fN _ _ (aH.updL (o:= .lst (zs++[x])) R) g4;have o5:∀b,b≠l2->(upd H4 l2 (.lst (zs++[x]))) b=H4 b:=λb z=>ai z;have ar:(upd H4 l2 (.lst (zs++[x]))) l2=some (.lst (zs++[x])):=ag;generalize upd H4 l2 (.lst (zs++[x]))=H5 at L g5 o5 ar;have ay:bJ H2 H3:=λb o _ e=>s3 b o e;have I:bJ H H5:=(((as.trans Z).trans ay).trans U).trans L
 have fr:∀b o,b≠dn->b≠l0->b≠l1->b≠l2->H b=some o->H5 b=some o:=λb o z z0 z1 z2 e=>by
  rw [o5 b z2,o4 b z1];exact s3 _ _ (by rw [o2 b z0];exact k1 b o z e)
 have aJ:a≠dn:=λz=>by obtain ⟨_,y,_⟩:=id Y;rw [z,o2 dn (Ne.symm d0),y] at O;cases O
 have al:H a=none:=by rw [<-o1 a aJ,<-o2 a am];exact O
 have aL:a∉wl:=λz=>by
  obtain ⟨i,hi⟩:=mem_iff_getElem?.mp z
  obtain ⟨vs,e,_⟩:=j.dW i a (G.W.getD i []) hi (by
   have:i<G.W.length:=by have:=(List.getElem?_eq_some_iff.mp hi).1;lia
   rw [getD_eq_getElem?_getD,getElem?_eq_getElem this];rfl)
  rw [al] at e;cases e
 rwa[q H5 a (xs++[.ref st]) (zs++[x]) al fr g5 ⟨L _ _ trivial aD,?_,?_,ar,?_,?_,λi b w' hb hw=> ?_,?_,?_⟩ ?_]
 ·rw [o5 l0 aj,o4 l0 ah];exact s3 _ _ af
 ·rw [o5 l1 ae,av,map_append];rfl
 ·exact Paired.app (Paired.imp' (λx t ⟨b,e,z⟩=>⟨b,e,z.su I⟩) j.dS) (.cons ⟨st,rfl,hS.su I⟩ .nil)
 ·show (wl++[a]).length=(G.W++[[]]).length;rw [length_append,length_append,j.lW];rfl
 ·have hw:(G.W++[[]])[i]? =some w':=hw;by_cases y:i<wl.length
  ·rw [getElem?_append_left y] at hb;rw [getElem?_append_left (by rw [<-j.lW];exact y)] at hw;obtain ⟨vs,e,z⟩:=j.dW i b w' hb hw;have bm:b∈wl:=mem_of_getElem? hb;exact ⟨vs,fr b _ (gT e (.inr ⟨_,rfl⟩)) (λz=>aw (z▸bm)) (λz=>az (z▸bm)) (λz=>ao (z▸bm)) e,I.dens z (ky _)⟩
  ·rw [getElem?_append_right @b] at hb;rw [getElem?_append_right (by rw [<-j.lW];lia),<-j.lW] at hw
   have i0:i - wl.length=0:=by have:=(List.getElem?_eq_some_iff.mp hb).1;simp at this;lia
   rw [i0] at hb hw;simp at hb hw;subst hb;subst hw;rwa[⟨[],?_,.nil⟩];rw [o5 a aG,o4 a an];exact ea
 ·show aC K H5 (zs++[x]) ((G.F++[f]).map GN);rw [map_append];exact Paired.app (I.dens j.dF (pK _)) (.cons (I.den hx (FD _)) .nil)
 ·simp only [nodup_cons,mem_cons,mem_append,not_or,mem_singleton];rwa[⟨⟨ah,aj,aw,Ne.symm am,by simp⟩,⟨ae,az,Ne.symm an,by simp⟩,⟨ao,Ne.symm aG,by simp⟩,?_⟩];rw [nodup_append];exact ⟨aK,by simp,λu hu v hv=>by rw [mem_singleton.mp hv];rintro rfl;exact aL hu⟩
 ·show cX K H5 dn (fZ 0 (G.S++[s]));rw [zq,Nat.zero_add]
  have e5:H5 dn=H1 dn:=by
   obtain ⟨aN,y,_⟩:=id Y;rw [o5 dn (Ne.symm d2),o4 dn (Ne.symm d1),y];exact s3 _ _ (by rw [o2 dn (Ne.symm d0)];exact y)
  rwa[je (H:=H1) Y (((Z.trans ay).trans U).trans L) e5 λp hp=> ?_]
  rcases mem_append.mp hp with z|z
  ·exact m9 p z
  ·rw [mem_singleton.mp z];exact s.noL
inductive Dz (K:Fg)(vs:List V)(H:Hp)(Q:VK)(_e:XK):Prop
 |mk (h kp hs ks:_) (_:vs=[.ref h,.ref kp]) (_:me K H h hs) (_:fu K H kp hs.fl ks) (_:Q .non H)
theorem LZ (F:Z0 K "need_kinds" jS f fd)(ib:aU P w K mg base 2 "need_ride" ["house","start","goal"] (kL K)):au P w K mg base aT 3 f fd ["house","kinds"] (Dz K):=by
 rwa[F.ok wH (by symm) (λZ A outer s H vs Q E hr h=> ?_)];obtain ⟨h,kp,hs,ks,rfl,J,⟨xs,z,R,_,_,hk⟩,q⟩:=h;rwa[⟨_,(ac (cf PassesOwn.never rfl @a @a @H)),?_⟩];rwa[cZ (aA.of z) ?_];rwa[eN (xs:=xs) (λi σ j=>j=H/\∃L B,σ=[some (.ref h),some (.ref kp),L,B]) ⟨rfl,_,_,rfl⟩ (λi σ j _ O=>by rw [O.1];exact aA.of z) (λi x σ j hx O=> ?_) (λσ j O=> ?_)]
 ·obtain ⟨rfl,L,B,rfl⟩:=O;obtain ⟨p,pt,W,rfl,hT⟩:=lr R hx;obtain ⟨U,S,k3,Y,I⟩:=hk p (mem_of_getElem? W);rwa[ju hT rfl ?_];exact kL.mk _ _ _ _ _ rfl J.at' U S k3 Y I ⟨rfl,_,_,rfl⟩
 ·obtain ⟨rfl,_⟩:=O;exact q
def TR (hs:Hs)(wf:Wf)(k:Dk)(ks:List (Int×Int))(s:SS)(c:Int)(s':SS):Prop:=oQ hs wf k s.cs s.ws s.last (CL ks c) s'.cs s'.ws s'.last
theorem TR.uniq {hs:Hs}{wf:Wf}{k:Dk}{ks:List (Int×Int)}{s:SS}{c:Int}{a b:SS}(h:TR hs wf k ks s c a)(h':TR hs wf k ks s c b):a=b:=by
 obtain ⟨U,F,S⟩:=a;obtain ⟨j,Z,B⟩:=b;obtain ⟨R,O,z⟩:=oQ.uniq h h';simp only at R O z;rw [R,O,z]
instance:Nonempty SS:=⟨⟨[],[],0⟩⟩
noncomputable def iP (hs:Hs)(wf:Wf)(k:Dk)(ks:List (Int×Int))(s:SS)(c:Int):SS:=Classical.epsilon (TR hs wf k ks s c)
theorem JR {hs:Hs}{wf:Wf}{k:Dk}{ks:List (Int×Int)}{s:SS}{c:Int}{a:SS}(h:TR hs wf k ks s c a):iP hs wf k ks s c=a:=TR.uniq (Classical.epsilon_spec ⟨a,h⟩) h
def s0 (hs:Hs):SS:=⟨hs.ls.map Na,[],(hs.ls.length:Int) - 1⟩
structure xN (hs:Hs)(wf:Wf)(k:Dk)(ks:List (Int×Int))(most:Nat)(Good:SS->Prop):Prop where
 b:Good @cs
 st:∀s c s',Good s->Ac ks.length s.ts c->TR hs wf k ks s c s'->Good s'
 ok:∀s,Good s->Qg hs 8 s.cs s.ws s.last
 fn:∀L:List SS,L.Nodup->(∀s∈L,Good s)->L.length<=most
theorem sU.way {H:Hp}{g l0 l1 l2 a:Addr}{wl:List Addr}{xs zs vs:List V}{G:Gr}{n:Nat}{J:List (Int×Nat)}{w1:Int×Nat}{t:V}(h:sU K H g l0 l1 l2 wl xs zs G)(F:wl[n]? =some a)(U:G.W[n]? =some J)(ha:H a=some (.lst vs))(dv:aC K H vs (J.map Ae))(Z:bv K H t (Ae w1)):sU K (upd H a (.lst (vs++[t]))) g l0 l1 l2 wl xs zs (G.way n w1):=by
 have B:bJ H (upd H a (.lst (vs++[t]))):=gy λo e z=>by rw [ha] at e;cases e;exact z
 have L:a∈wl:=mem_of_getElem? F;have S:=h.nd;simp only [nodup_cons,mem_cons,not_or] at S;obtain ⟨⟨ah,aj,aw⟩,⟨ae,az⟩,ao,aK⟩:=S;have R:n<G.W.length:=(List.getElem?_eq_some_iff.mp U).1
 have gw:G.W.getD n []=J:=by rw [getD_eq_getElem?_getD,U];rfl
 rwa[⟨B _ _ trivial h.eg,by rw [ai (λz:l0=a=>aw (by rw [z];exact L))];exact h.e0,by rw [ai (λz:l1=a=>az (by rw [z];exact L))];exact h.e1,by rw [ai (λz:l2=a=>ao (by rw [z];exact L))];exact h.e2,Paired.imp' (λx s ⟨b,e,z⟩=>⟨b,e,z.su B⟩) h.dS,?_,λi b u I j=> ?_,B.dens h.dF (pK _),h.nd⟩]
 ·show wl.length=(G.W.set n _).length;rw [length_set];exact h.lW
 ·have j:(G.W.set n (G.W.getD n []++[w1]))[i]? =some u:=j;by_cases y:n=i
  ·subst y;rw [F] at I;cases I;rw [getElem?_set_self R,gw] at j;cases j;rwa[⟨_,ag,?_⟩];rw [map_append];exact Paired.app (B.dens dv (ky _)) (.cons (B.den Z rfl) .nil)
  ·rw [getElem?_set_ne y] at j;obtain ⟨O,e,z⟩:=h.dW i b u I j
   have Y:b≠a:=λz=>by
    subst z;exact y ((List.getElem?_inj (List.getElem?_eq_some_iff.mp F).1 aK).mp (F.trans I.symm))
   exact ⟨O,by rw [ai Y];exact e,B.dens z (ky _)⟩
def GS (H:Hp)(b:Addr):Prop:=∀o,H b=some o->∃ps,o= .tbl ps
theorem nu {H H':Hp}{b:Addr}(s:aI H H')(h:H' b=none):GS H b:=λo e=>Classical.byContradiction λz=>by
 rw [s b o (λps y=>z ⟨ps,y⟩) e] at h;cases h
theorem d9 {H:Hp}{b c:Addr}{o:HO}(j:∀ps,o≠ .tbl ps)(e:H b=some o)(f:GS H c):b≠c:=λz=>by
 subst z;obtain ⟨ps,y⟩:=f o e;exact j ps y
structure CH (hs:Hs)(wf:Wf)(k:Dk)(ks:List (Int×Int))(Good:SS->Prop)(n:Nat)(G:Gr):Prop where
 e:G=Fx @w ks.length @cs n
 ln:n=G.S.length
 a:∀j,j<n->j<(Fx @w ks.length @cs j).S.length
 I:GI @w ks.length @cs Good n [] G
theorem CH.uniq {hs:Hs}{wf:Wf}{k:Dk}{ks:List (Int×Int)}{Good:SS->Prop}{n m:Nat}{G j:Gr}(h:CH hs wf k ks Good n G)(h':CH hs wf k ks Good m j):G=j:=by
 have e:n=m:=by
  rcases Nat.lt_trichotomy n m with z|z|z
  ·have:=h'.a n z;rw [<-h.e,<-h.ln] at this;lia
  ·exact z
  ·have:=h.a m z;rw [<-h'.e,<-h'.ln] at this;lia
 rw [h.e,h'.e,e]
inductive pA (P:Program)(w:World)(K:Fg)(mg:Str->Option Value)(base:Heap)(C Pn Pl:Addr)(vs:List V)(H:Hp)(Q:VK)(_e:XK):Prop
 |mk (a kp hs wf k ks Good:_) (most:Nat) (_:vs=[.ref a,.ref kp,.int (most:Int)]) (_:CP P w K mg base C Pn Pl H a hs wf k) (_:fu K H kp hs.fl ks) (_:xN hs wf k ks most Good) (_:1<=most) (_:most<=500) (_:∀g l0 l1 l2 wl xs zs n G H',aI H H'->lY Pn Pl H'->sU K H' g l0 l1 l2 wl xs zs G->(∀b∈l0::l1::l2::wl,GS H b)->CH hs wf k ks Good n G->Q (.ref g) H')
theorem yc {nx:SS->Int->SS}{s:SS}{n:Nat}{G:Gr}{cs:List Int}{c:Int}{i:Nat}(h:cs[i]? =some c):(cs.take (i+1)).foldl @eZ G=Gr.visit nx s n ((cs.take i).foldl @eZ G) c:=by
 rw [take_add_one,h,foldl_append];rfl
theorem EO {kC Pn Pl:Addr}(F:Z0 K "graph_of" qy f fd)(cC:GU K kC)(bp:mg "len"=none)(oG:aU P w K mg base 3 "need_kinds" ["house","kinds"] (Dz K))(kh:aU P w K mg base 1 "put_state" ["graph","numbers","state","first","most"] (uA K Pn Pl))(cz:iy P w K mg base aT 2 "begin" kC (kY K))(xF:aU P w K mg base 3 "choices" ["state","kinds"] (uI K))(Ju:aU P w K mg base 10 "led" ["court","kinds","state","choice"] @cX):au P w K mg base aT 11 f fd ["court","kinds","most"] (pA P w K mg base kC Pn Pl):=by
 rwa[F.ok mG (by symm) (λb5 A outer s H vs Q E hr h=> ?_)];obtain ⟨a,kp,hs,wf,k,ks,Good,aM,rfl,hC,hK,ab,m1,m5,q⟩:=h;obtain ⟨dx,h,ru,df,ea,eH,eR,eD⟩:=id hC.ex;have bu:hs.ok:=eH.1;rwa[⟨_,(aa @dp (aa @a (aa (bP (i:=4) mG.nd rfl @o lq) (aa (aF (cO kh hr @c rfl (ar (wv 3) (ar (wv 4) (ar (v9 (n:=2) fX hr @c (wv 0)) (ar vh @dg)))))) (aa @a (aa (CV PassesOwn.never @a (aa @a (aa (cf PassesOwn.never rfl @a @a (aa @a (gP (ax (yS (yX rfl @fR (wv 8) (wv 4))) @H aq) (ac (aF (ij rfl PySem.F.plainAttrs_list PySem.F.slot_list_append PySem.F.type_list_append pQ @a (ar (fJ (ar (wv 7) (ar (Et rfl @fR (wv 4) (wv 8) @P) ap))) ap))))))) (ac (LC (i:=5) mG.nd rfl @o bz MO))))) (ac (aj (wv 3))))))))),?_⟩];rwa[dI ea cC.i.cl cC.house (v:= .ref h) rfl ?_];rwa[Dz.mk _ _ _ _ rfl eH hK ?_];rwa[jo @bB λl0 H1 s1 n1 e1=> ?_];rwa[jo @bB λl1 H2 s2 n2 e2=> ?_];rwa[jo @bB λl2 H3 s3 n3 e3=> ?_];rwa[bX @bB λg H4 R n4 e4=> ?_];intro dn nd a1;have aL:=((s1.trans s2).trans s3).trans R;have bK:=R _ _ (s3 _ _ (s2 _ _ e1));have bN:=R _ _ (s3 _ _ e2);have bF:=R _ _ e3
 have bW:l0≠l1:=λz=>by subst z;rw [e1] at n2;cases n2
 have bY:l0≠l2:=λz=>by subst z;rw [s2 _ _ e1] at n3;cases n3
 have bR:l1≠l2:=λz=>by subst z;rw [e2] at n3;cases n3
 have f0:GS H l0:=nu (.refl _) n1;have f1:GS H l1:=nu s1.nt n2;have f2:GS H l2:=nu (s1.trans s2).nt n3;have fd:GS H dn:=nu aL.nt nd;have s5:ao H4 (upd H4 dn @ea):= .upd nd;have ah:cX K (upd H4 dn @ea) dn (fZ 0 []):=FW a1;generalize upd H4 dn @ea=H5 at s5 ah;have aO:sU K H5 g l0 l1 l2 [] [] [] ⟨[],[],[]⟩:=⟨s5 _ _ e4,s5 _ _ bK,s5 _ _ bN,s5 _ _ bF,.nil,rfl,λi a w h=>by simp at h,.nil,by simp [bW,bY,bR]⟩;have bn:=hC.same (aL.trans s5);obtain ⟨b3,h',b6,b2,bB,bG,b1,b7⟩:=id bn.ex;rwa[gR bB rfl cz ?_];rwa[kY.mk _ _ _ _ _ _ _ rfl bB cC bG λst H6 Y ay=> ?_];have a2:=(aL.trans s5).trans Y;have bd:=aO.nt Y.nt;have a6:bJ H5 H6:=Y.nt.su
 have bs:cX K H6 dn (fZ 0 []):=je ah a6 (by obtain ⟨_,y,_⟩:=id ah;rw [y];exact Y _ _ y) λp hp=>nomatch hp
 have nx:=iP hs wf k ks;rwa[uA.mk _ _ _ _ _ _ _ _ _ _ _ @cs none _ rfl bd bs ((bn.same Y).gg) ay .non (λz=>nomatch z) @c (by show ((0:Nat):Int)<_;lia) rfl rfl λH7 a7 bw bj bh bg g7 bt a3=> ?_];rwa[Kt (λm σ HX=>∃n wl xs zs o6 o7 o8,aI H HX/\lY Pn Pl HX/\sU K HX g l0 l1 l2 wl xs zs @fS/\cX K HX dn (fZ 0 (Fx @w ks.length @cs n).S)/\(∀b∈wl,GS H b)/\GI @w ks.length @cs Good n [] @fS/\(∀j,j<n->j<(Fx @w ks.length @cs j).S.length)/\n<=(Fx @w ks.length @cs n).S.length/\m=1000 - n/\σ=[some (.ref a),some (.ref kp),some (.int (aM:Int)),some (.ref g),some (.ref dn),some (.int (n:Int)),o6,o7,o8]) ⟨_,0,[a7],bw,bj,_,_,_,?_,g7,bt,a3,?_,GI.start ab.b,λj hj=>absurd hj (Nat.not_lt_zero _),Nat.zero_le _,rfl,rfl⟩ λm σ HX hW=> ?_]
 ·exact λb o nt e=>bg b o (d9 nt e fd) (d9 nt e f0) (d9 nt e f1) (d9 nt e f2) (a2 b o e)
 ·intro b hb;rw [mem_singleton.mp hb];exact nu a2.nt bh
 clear bt a3 g7 bg bh bw bj bs bd ay nx;obtain ⟨n,wl,xs,zs,o6,o7,o8,sN,gX,B,hD,fw,L,hA,bE,rfl,rfl⟩:=hW;generalize aW:Fx @w ks.length @cs n=G at B hD L bE;have xl:xs.length=G.S.length:=B.dS.len;have bZ:=ab.fn G.S L.nd L.gd;rwa[ak @gf rfl ?_];rwa[bH (aA.of B.e0) ?_];rw [xl];by_cases z:n<G.S.length
 ·rwa[pc @b ?_];rwa[⟨_,λσ' H' y=>y,?_⟩];have ba:=getElem?_eq_getElem (show n<xs.length by lia);obtain ⟨s,ae,st,ay,I⟩:=B.dS.get1 ba;rwa[ak @gf rfl ?_];rwa[bb (aA.of B.e0) (v:= .ref st) (by rw [bD ba,ay]) ?_];have gs:=L.gd s (mem_of_getElem? ae);have hS:vY K HX st hs 8 s.cs s.ws s.last:=⟨I,ab.ok s gs,bu⟩;rwa[RU hS @c (hK.nt sN) λlc H2 s2 aR ad=> ?_]
  have aw:∀ {O:Hp} {kvs:List (D×V)},cX K O dn kvs->∃φ,O dn=some (.ext φ):=λh=>by obtain ⟨ys,h1,_⟩:=h;exact ⟨_,h1⟩
  have ag:∀ {O HZ:Hp} {S:List SS},aI O HZ->cX K O dn @fm->cX K HZ dn @fm:=λ{O HZ S} s h=>je h s.su (by obtain ⟨φ,e⟩:=aw h;rw [e];exact s _ _ (λ_ z=>by cases z) e) m9
  have c0:lc≠l0:=λz=>by rw [z,B.e0] at aR;cases aR
  have c1:lc≠l1:=λz=>by rw [z,B.e1] at aR;cases aR
  have c2:lc≠l2:=λz=>by rw [z,B.e2] at aR;cases aR
  have cd:lc≠dn:=λz=>by obtain ⟨φ,e⟩:=aw hD;rw [z,e] at aR;cases aR
  have cw:lc∉wl:=λz=>by
   obtain ⟨i,hi⟩:=mem_iff_getElem?.mp z
   have:i<G.W.length:=by have:=(List.getElem?_eq_some_iff.mp hi).1;have:=B.lW;lia
   obtain ⟨vs,e,_⟩:=B.dW i lc _ hi (getElem?_eq_getElem this);rw [aR] at e;cases e
  rwa[cZ (aA.of ad) ?_]
  refine eN (xs:=(fP ks.length @cz).map V.int) (λi σ O=>∃wl xs zs o7 o8,aI H O/\lY Pn Pl O/\sU K O g l0 l1 l2 wl xs zs (((fP ks.length s.ts).take i).foldl @bN G)/\cX K O dn (fZ 0 (((fP ks.length s.ts).take i).foldl @bN G).S)/\(∀b∈wl,GS H b)/\GI @w ks.length @cs Good n ((fP ks.length s.ts).take i) (((fP ks.length s.ts).take i).foldl @bN G)/\O lc=some (.lst ((fP ks.length @cz).map V.int))/\lc∉wl/\(((fP ks.length s.ts).take i).foldl @bN G).S[n]? =some s/\d6 K O st s.cs s.ws s.last false/\σ=[some (.ref a),some (.ref kp),some (.int (aM:Int)),some (.ref g),some (.ref dn),some (.int (n:Int)),some (.ref st),o7,o8])
   ⟨wl,xs,zs,_,_,sN.trans s2.nt,fN _ _ s2.st gX,B.nt s2.nt,ag s2.nt hD,fw,L,ad,cw,ae,nY s2.nt I,rfl⟩ (λi σ O _ pv=>by obtain ⟨_,_,_,_,_,_,_,_,_,_,_,e,_⟩:=pv;exact aA.of e) (λi x σ O hx pv=> ?_) (λσ O pv=> ?_)
  ·obtain ⟨wl,xs,zs,o7,o8,sY,gY,B,hD,fw,L,ad,cw,ae,I,rfl⟩:=pv
   obtain ⟨c,hc,rfl⟩:∃c,(fP ks.length s.ts)[i]? =some c/\x= .int c:=by
    rw [getElem?_map] at hx;obtain ⟨c,h1,h2⟩:=Option.map_eq_some_iff.mp hx;exact ⟨c,h1,h2.symm⟩
   have bk:c∈fP ks.length s.ts:=mem_of_getElem? hc;have hv:=yc (nx:=iP hs wf k ks) (s:=s) (n:=n) (G:=G) hc;rw [hv]
   have bS:(fP ks.length s.ts).take (i+1)=(fP ks.length s.ts).take i++[c]:=by rw [take_add_one,hc];rfl
   rw [bS]
   have l5:((fP ks.length s.ts).take i).length<=5:=by
    have h1:((fP ks.length s.ts).take i).length<=(fP ks.length s.ts).length:=by rw [length_take];exact Nat.min_le_right _ _
    have h2:=gW (ts:=s.ts) (i:=ks.length);have h3:(fP ks.length s.ts).length=(AU s.ts ks.length).length+1:=rfl;obtain ⟨_,_,_,_,k4,_⟩:=hK;lia
   generalize (fP ks.length s.ts).take i=bC at *;generalize b4:bC.foldl @bN G=Gi at *;rwa[O3 (hC.nt sY gY) (hK.nt sY) ⟨I,ab.ok s gs,bu⟩ @c (F7 bk) λal a4 bc av H3 am g3 bi ht=> ?_];have aG:iP hs wf k ks s c=⟨a4,bc,av⟩:=JR (a:=⟨a4,bc,av⟩) ht
   have a9:Good @ca:=by rw [aG];exact ab.st s c _ gs (F7 bk) ht
   obtain ⟨J,bU,p1,p2,pm,ps,pI⟩:=L.put (c:=c) ae a9;have aX:=B.nt am;have aC:=ag am hD;have aE:=nY am I
   have aS:d6 K H3 al (iP hs wf k ks s c).cs (iP hs wf k ks s c).ws (iP hs wf k ks s c).last false:=by rw [aG];exact bi.a
   have a0:=sY.trans am;have bm:=am _ _ (λ_ z=>by cases z) ad;clear bi ht aG;unfold Gr.visit;rw [<-bU];generalize iP hs wf k ks s c=s' at *;rwa[zP (λσ HZ=>∃wl xs zs,aI H HZ/\lY Pn Pl HZ/\sU K HZ g l0 l1 l2 wl xs zs J/\cX K HZ dn (fZ 0 J.S)/\(∀b∈wl,GS H b)/\HZ lc=some (.lst ((fP ks.length @cz).map V.int))/\lc∉wl/\d6 K HZ st s.cs s.ws s.last false/\d6 K HZ al s'.cs s'.ws s'.last false/\σ=[some (.ref a),some (.ref kp),some (.int (aM:Int)),some (.ref g),some (.ref dn),some (.int (n:Int)),some (.ref st),some (.int c),some (.ref al)]) ?_ ?_]
   ·rwa[⟨dn,dJ (fZ 0 Gi.S) s'.d,rfl,⟨fZ 0 Gi.S,al,s'.d,rfl,aC,gz aS,s'.gd,rfl⟩,?_⟩];rw [j9];by_cases y:s'∈Gi.S
    ·rw [if_pos y,p1 y];rwa[⟨_,rfl,aY rfl ?_⟩];exact ⟨wl,xs,zs,a0,g3,aX,aC,fw,bm,cw,aE,aS,rfl⟩
    ·rw [if_neg y,p2 y];rwa[⟨_,rfl,bO rfl ?_⟩];rwa[bX @bB λtf H4 R n4 e4=> ?_]
     have aD:=ab.fn (Gi.S++[s']) (qR L.nd y) λu hu=>by
      rcases mem_append.mp hu with x|x
      ·exact L.gd u x
      ·rw [mem_singleton.mp x];exact a9
     rw [length_append] at aD;simp only [length_cons,length_nil] at aD;rwa[uA.mk _ _ _ _ _ _ _ _ _ _ _ _ (some (n,c)) _ rfl (aX.nt R.nt) (ag R.nt aC) (fN _ _ R.st g3) (nY R.nt aS) (fg (aB.of e4) (.cons (.int _) (.cons (.int _) .nil))) y @b @b L.lf L.lw λH5 a5 bM bV aP aQ g5 aO ah=> ?_];have bv:=a0.trans R.nt;have bx:=R _ _ bm
     have bf:bJ H4 H5:=λb o z e=>by
      have aJ:=aX.nt R.nt;obtain ⟨φ,ed⟩:=aw (ag R.nt aC);exact aQ b o (λy=>by rw [y,ed] at e;cases e;exact z) (λy=>by rw [y,aJ.e0] at e;cases e;exact z) (λy=>by rw [y,aJ.e1] at e;cases e;exact z) (λy=>by rw [y,aJ.e2] at e;cases e;exact z) e
     rwa[⟨wl++[a5],bM,bV,λb o nt e=> ?_,g5,aO,ah,λb hb=> ?_,aQ _ _ cd c0 c1 c2 bx,λx=> ?_,(nY R.nt aE).su bf,(nY R.nt aS).su bf,rfl⟩]
     ·exact aQ b o (d9 nt e fd) (d9 nt e f0) (d9 nt e f1) (d9 nt e f2) (bv b o nt e)
     ·rcases mem_append.mp hb with x|x
      ·exact fw b x
      ·rw [mem_singleton.mp x];exact nu bv aP
     ·rcases mem_append.mp x with x|x
      ·exact cw x
      ·rw [<-mem_singleton.mp x,bx] at aP;cases aP
   ·rintro σ' HZ ⟨wl,xs,zs,sZ,gZ,as,aZ,bq,bQ,be,br,aK,rfl⟩
    have bT:J.W.length=J.S.length:=by
     have:=pI.lw;rw [show (J.way n (c,J.S.idxOf s')).W=J.W.set n (J.W.getD n []++[(c,J.S.idxOf s')]) from rfl,length_set] at this;exact this
    have af:n<J.W.length:=by rw [bT];exact (List.getElem?_eq_some_iff.mp ps).1
    obtain ⟨an,az⟩:∃an,wl[n]? =some an:=⟨_,getElem?_eq_getElem (by rw [as.lW];exact af)⟩;obtain ⟨vs,aN,dvs⟩:=as.dW n an _ az (getElem?_eq_getElem af);have a8:an∈wl:=mem_of_getElem? az;rwa[ak (aB.of as.eg) rfl ?_];rwa[bb (aA.of as.e1) (v:= .ref an) (bD (by rw [getElem?_map,az];rfl)) ?_];rwa[⟨.inl ⟨rfl,_,aA.of aN⟩,?_⟩];rwa[⟨dn,.int ((J.S.idxOf s':Nat):Int),rfl,⟨fZ 0 J.S,al,s'.d,rfl,aZ,gz aK,s'.gd,by rw [j9,if_pos pm,Nat.zero_add]⟩,?_⟩];rwa[bX @bB λtp H6 Y n6 e6=> ?_];have Z:=Y _ _ aN
    have b0:vs.length<=100:=by
     have h1:=(pI.md s ps).1;rw [show (J.way n (c,J.S.idxOf s')).W=J.W.set n (J.W.getD n []++[(c,J.S.idxOf s')]) from rfl,getElem?_set_self af] at h1;have h2:=congrArg List.length (Option.some.inj h1);rw [length_append,length_map,length_append,getD_eq_getElem?_getD,getElem?_eq_getElem af] at h2;have h3:=dvs.len;rw [length_map] at h3;simp only [Option.getD_some,length_cons,length_nil] at h2;lia
    rwa[eF Z @cG ?_]
    have bl:bJ H6 (upd H6 an (.lst (vs++[.ref tp]))):=gy λo e z=>by rw [Z] at e;cases e;exact z
    have bL:dn≠an:=λz=>by obtain ⟨φ,e⟩:=aw aZ;rw [z,aN] at e;cases e
    rwa[⟨wl,xs,zs,_,_,λb o nt e=> ?_,fN _ _ (Y.st.trans (aH.updL Z)) gZ,(as.nt Y.nt).way (w1:=(c,J.S.idxOf s')) az (getElem?_eq_getElem af) Z (Y.nt.dens dvs) (fg (aB.of e6) (.cons (.int _) (.cons (.int _) .nil))),?_,bq,pI,?_,be,ps,((br.su Y.nt.su).su bl),rfl⟩]
    ·rw [ai (d9 nt e (bq an a8))];exact Y _ _ (sZ b o nt e)
    ·rwa[je (ag Y.nt aZ) bl (ai bL) m9]
    ·rw [ai (λz:lc=an=>be (by rw [z];exact a8))];exact Y _ _ bQ
  ·obtain ⟨wl,xs,zs,o7,o8,sY,gY,B,hD,fw,L,ad,cw,U,I,rfl⟩:=pv;rw [show ((fP ks.length @cz).map V.int).length=(fP ks.length s.ts).length from length_map ..] at B hD L U;rw [take_length] at B hD L U
   have e1:Fx @w ks.length @cs (n+1)=(fP ks.length s.ts).foldl @bN G:=by
    show (Fx @w ks.length @cs n).row _ _ n=_;rw [aW];unfold Gr.row;rw [ae]
   rwa[⟨_,rfl,(n:Int),1,rfl,rfl,?_⟩];rwa[⟨1000 - (n+1),by lia,n+1,wl,xs,zs,_,_,_,sY,gY,by rw [e1];exact B,by rw [e1];exact hD,fw,by rw [e1];exact L.next U rfl,λj hj=> ?_,by rw [e1];exact (List.getElem?_eq_some_iff.mp U).1,rfl,rfl⟩];by_cases y:j<n
   ·exact hA j y
   ·obtain rfl:j=n:=by lia
    rw [aW];exact z
 ·rwa[iT @b ?_]
  have e:n=G.S.length:=by lia
  exact q g l0 l1 l2 wl xs zs n G HX sN gX B (λb hb=>by
   rcases mem_cons.mp hb with rfl|hb
   ·exact f0
   ·rcases mem_cons.mp hb with rfl|hb
    ·exact f1
    ·rcases mem_cons.mp hb with rfl|hb
     ·exact f2
     ·exact fw b hb) ⟨aW.symm,e,hA,L⟩
theorem lR {bs:List Bool}{ws:Nat->Int}(h1:bs=[true]\/bs=[true,true]):0<=xL bs ws/\xL bs ws<(bs.length:Int):=by
 rcases h1 with rfl|rfl
 ·have h:c7 [true] ws 0:= .inr ⟨0,rfl,by decide,rfl,λj Z _=>by
   obtain rfl:j=0:=by simp at Z;lia
   exact ⟨Int.le_refl _,λz=>absurd z @I⟩⟩
  rw [<-lS h];decide
 ·by_cases z:ws 0<=ws 1
  ·have h:c7 [true,true] ws 0:= .inr ⟨0,rfl,by decide,rfl,λj Z _=>by
    rcases (show j=0\/j=1 by simp at Z;lia) with rfl|rfl
    ·exact ⟨Int.le_refl _,λz=>absurd z @I⟩
    ·exact ⟨z,λz=>absurd z @b⟩⟩
   rw [<-lS h];decide
  ·have h:c7 [true,true] ws 1:= .inr ⟨1,rfl,by decide,rfl,λj Z _=>by
    rcases (show j=0\/j=1 by simp at Z;lia) with rfl|rfl
    ·exact ⟨by lia,λ_=>by lia⟩
    ·exact ⟨Int.le_refl _,λz=>absurd z @I⟩⟩
   rw [<-lS h];decide
theorem Pj {k:Dk}{cs:List Cb}{ws:List aO}{r:aO}{last:Int}(B:bc @T=[true]\/bc @T=[true,true])(l0:0<=last)(l1:last<((bc @T).length:Int)):0<=(kg k cs ws r last).1/\(kg k cs ws r last).1<((bc @T).length:Int)/\0<=(kg k cs ws r last).2/\(kg k cs ws r last).2<((bc @T).length:Int):=by
 cases k with
 |near=>exact ⟨(lR B).1,(lR B).2,l0,l1⟩
 |least=>exact ⟨(lR B).1,(lR B).2,l0,l1⟩
 |turns=>
  have h:0<=eO cs last/\eO cs last<((bc @T).length:Int):=by
   unfold eO
   rcases B with e|e
   ·rw [e] at l1 ⊢
    obtain rfl:last=0:=by simp at l1;lia
    decide
   ·rw [e] at l1 ⊢
    rcases (show last=0\/last=1 by simp at l1;lia) with rfl|rfl<;>decide
  show 0<=eO cs last/\eO cs last<_/\0<=(if eO cs last= -1 then last else eO cs last)/\(if eO cs last= -1 then last else eO cs last)<_;rw [if_neg @b];exact ⟨h.1,h.2,h.1,h.2⟩
theorem nF {dl:vZ}{W:List aO}{M:MS}:∀n,(∀i r,i<n->W[i]? =some r->r.lift≠ -1)->aQ dl W n M=M
 |0,_=>rfl
 |n+1,h=>by
  have j:=nF (dl:=dl) (W:=W) (M:=M) n λi r hi=>h i r @b;unfold aQ;split
  ·rename_i r S;rw [if_neg (h n r @b S),j]
  ·exact j
theorem Fb {k:Dk}{lo:Nat}{cs:List Cb}{ws:List aO}{last:Int}{ks:List (Int×Int)}{c:Int}(j:∀r∈ws,r.lift≠ -1)(F:bc @T=[true]\/bc @T=[true,true])(l0:0<=last)(l1:last<((bc @T).length:Int)):
 ∃ws' last' lg,oX (kg k) (aP lo ⟨cs,ws,last,false,0,[]⟩ (CL ks c))=⟨cs,ws',last',false,0,lg⟩/\0<=last'/\last'<((bc @T).length:Int)/\(ws'=ws\/c≠ -1/\∃i:Int,0<=i/\i<((bc @T).length:Int)/\ws'=ws++[⟨c,(ks.getD c.toNat (0,0)).1,(ks.getD c.toNat (0,0)).2,i⟩]):=by
 have B:∀M:MS,M.ws=ws->oX (kg k) M=M:=λM e=>by
  unfold oX;exact nF _ λi r _ S=>j r (by rw [<-e];exact mem_of_getElem? S)
 unfold CL;by_cases z:c= -1
 ·rw [if_pos z];exact ⟨ws,last,[],B _ rfl,l0,l1,.inl rfl⟩
 ·rw [if_neg z];show ∃ws' last' lg,oX (kg k) (fj lo ⟨cs,ws,last,false,0,[]⟩ c (ks.getD c.toNat (0,0)).1 (ks.getD c.toNat (0,0)).2 false)=_/\_;unfold fj;split
  ·exact ⟨ws,last,_,B _ rfl,l0,l1,.inl rfl⟩
  ·rw [if_neg (λy=>by have y:false=true:=y;cases y)];generalize S:(⟨c,(ks.getD c.toNat (0,0)).1,(ks.getD c.toNat (0,0)).2,-1⟩:aO)=r;have d:=Pj (k:=k) (ws:=ws++[r]) (r:=r) F l0 l1;rwa[⟨ws++[{r with lift:=(kg k cs (ws++[r]) r last).1}],(kg k cs (ws++[r]) r last).2,[Lw r.tag (kg k cs (ws++[r]) r last).1],?_,d.2.2.1,d.2.2.2,.inr ⟨z,_,d.1,d.2.1,by rw [<-S]⟩⟩]
   have W:r.lift= -1:=by rw [<-S]
   unfold oX;show aQ (kg k) (ws++[_]) (ws++[_]).length _=_;rw [length_append];show aQ (kg k) (ws++[_]) (ws.length+1) _=_;unfold aQ;rw [getElem?_append_right @f,Nat.sub_self];show (if r.lift= -1 then _ else _)=_;rw [if_pos W,nF _ λi r hi S=>j r (by rw [getElem?_append_left hi] at S;exact mem_of_getElem? S)];unfold gc;rw [if_neg (by show ¬(kg k cs (ws++[r]) r last).1= -1;lia)];show (⟨cs,(ws++[r]).set ws.length _,_,false,0,[]++[_]⟩:MS)=_;rw [List.set_append_right _ _ @f,Nat.sub_self];rfl
theorem nX {so:Str}{room pl:Int}:∀(rs:List aO) (s:CI),∃I,List.Sublist I rs/\(bq so room pl s rs).kept=s.kept++I.map (λr=>(r.tag,r.goal))/\(bq so room pl s rs).ins=s.ins++I.map aO.tag
 |[],s=>⟨[],.slnil,by simp [bq],by simp [bq]⟩
 |r::rs,s=>by
  obtain ⟨I,h1,h2,L⟩:=nX rs @bA;have e:bq so room pl s (r::rs)=bq so room pl @bA rs:=rfl;rw [e,h2,L];unfold cQ;split
  ·exact ⟨r::I,h1.cons_cons r,by simp,by simp⟩
  ·exact ⟨I,h1.cons r,rfl,rfl⟩
theorem sub_le {α:Type}{xs:List α}:∀ {ys:List α},xs.Nodup->(∀x∈xs,x∈ys)->xs.length<=ys.length:=by
 classical
 induction xs with
 |nil=>exact λ_ _=>Nat.zero_le _
 |cons x xs ih=>
  intro ys J h;rw [nodup_cons] at J;have j:=h x (.head _);have:=ih (ys:=ys.erase x) J.2 λy B=>(List.mem_erase_of_ne (λz=>J.1 (by rw [<-z];exact B))).mpr (h y (.tail _ B));rw [List.length_erase_of_mem j] at this;have:0<ys.length:=List.length_pos_of_mem j;simp only [length_cons];lia
theorem few {α:Type}{Good:SS->Prop}{f:SS->α}{ys:List α}(j:∀s t,Good s->Good t->f s=f t->s=t)(U:∀s,Good s->f s∈ys){L:List SS}(O:L.Nodup)(F:∀s∈L,Good s):L.length<=ys.length:=by
 have h:(L.map f).Nodup:=by
  rw [List.Nodup,List.pairwise_map];exact List.Pairwise.imp_of_mem (λ{a b} I B z y=>z (j a b (F a I) (F b B) y)) O
 have:=sub_le h λy J=>by
  obtain ⟨s,hs,rfl⟩:=mem_map.mp J;exact U s (F s hs)
 rwa [length_map] at this
def FR (ks:List (Int×Int))(r:aO):Prop:=r.lift=0/\0<=r.tag/\r.tag<(ks.length:Int)/\r.start=(ks.getD r.tag.toNat (0,0)).1/\r.goal=(ks.getD r.tag.toNat (0,0)).2
def FP (ks:List (Int×Int))(p:Int×Int):Prop:=0<=p.1/\p.1<(ks.length:Int)/\p.2=(ks.getD p.1.toNat (0,0)).2
structure gp (hs:Hs)(ks:List (Int×Int))(s:SS):Prop where
 ex:∃c:Cb,s.cs=[c]/\0<=c.pl/\c.pl<=2*(hs.fl - 1)/\ -1<=c.li/\c.li<=1/\0<=c.dr/\(∀l∈hs.ls,c.dr<=l.tn)/\c.mr=0/\(c.pl% 2=1->c.dr=0/\c.li≠0)/\(∀p∈c.ps,FP ks p)/\(c.ps.map (·.1)++s.ws.map aO.tag).Nodup
 fr:∀r∈s.ws,FR ks r
 l:s.last=0
theorem FF {ks:List (Int×Int)}:∀ {ps qs:List (Int×Int)},(∀p∈ps,FP ks p)->(∀p∈qs,FP ks p)->ps.map (·.1)=qs.map (·.1)->ps=qs
 |[],[],_,_,_=>rfl
 |[],_::_,_,_,h=>by simp at h
 |_::_,[],_,_,h=>by simp at h
 |p::ps,q::qs,h1,h2,h=>by
  rw [map_cons,map_cons] at h;injection h with e1 e2;have a:=h1 p (.head _);have b:=h2 q (.head _);rw [FF (λx z=>h1 x (.tail _ z)) (λx z=>h2 x (.tail _ z)) e2];congr 1;exact Prod.ext e1 (by rw [a.2.2,b.2.2,e1])
theorem FE {ks:List (Int×Int)}:∀ {ps qs:List aO},(∀p∈ps,FR ks p)->(∀p∈qs,FR ks p)->ps.map aO.tag=qs.map aO.tag->ps=qs
 |[],[],_,_,_=>rfl
 |[],_::_,_,_,h=>by simp at h
 |_::_,[],_,_,h=>by simp at h
 |p::ps,q::qs,h1,h2,h=>by
  rw [map_cons,map_cons] at h;injection h with e1 e2;obtain ⟨U,_,_,I,O⟩:=h1 p (.head _);obtain ⟨F,_,_,B,j⟩:=h2 q (.head _);rw [FE (λx z=>h1 x (.tail _ z)) (λx z=>h2 x (.tail _ z)) e2];congr 1;cases p;cases q;simp only at e1 U I O F B j;rw [I,O,B,j,U,F,e1]
def hd1 (s:SS):Cb:=s.cs.headD ⟨0,0,0,0,[]⟩
def M8 (s:SS):(Int×Int×Int)×(List Int×List Int):=(((hd1 s).pl,(hd1 s).li,(hd1 s).dr),((hd1 s).ps.map (·.1),s.ws.map aO.tag))
def RD:List (Int×Int×Int):=([0,2,4].flatMap λp:Int=>[-1,0,1].flatMap λl:Int=>[0,1,2].map λd:Int=>(p,l,d))++[(1,-1,0),(1,1,0),(3,-1,0),(3,1,0)]
def KQ:List (List Int×List Int):=[([],[]),([],[0]),([],[1]),([],[0,1]),([],[1,0]),([0],[]),([0],[1]),([1],[]),([1],[0]),([0,1],[]),([1,0],[])]
def RH:List ((Int×Int×Int)×(List Int×List Int)):=RD.flatMap λc=>KQ.map λt=>(c,t)
theorem wq:∀ {xs:List Int},xs.Nodup->(∀x∈xs,x=0\/x=1)->xs∈[[],[0],[1],[0,1],[1,0]]
 |[],_,_=>by simp
 |[x],_,h=>by rcases h x @e with rfl|rfl<;>simp
 |[x,y],nd,h=>by
  rcases h x @e with rfl|rfl<;>rcases h y @e with rfl|rfl<;>simp at nd ⊢
 |x::y::z::r,nd,h=>by
  exfalso;simp only [nodup_cons,mem_cons,not_or] at nd;have j:=h x @e;have J:=h y @e;have B:=h z @e;lia
theorem G8 {xs ys:List Int}(J:(xs++ys).Nodup)(h:∀x∈xs++ys,x=0\/x=1):(xs,ys)∈KQ:=by
 have j:=(nodup_append.mp J);have h1:=wq j.1 λx z=>h x (mem_append_left _ z);have h2:=wq j.2.1 λx z=>h x (mem_append_right _ z);have B:=j.2.2;simp only [mem_cons,not_mem_nil,or_false] at h1 h2;unfold KQ
 rcases h1 with rfl|rfl|rfl|rfl|rfl<;>rcases h2 with rfl|rfl|rfl|rfl|rfl<;>first|exact absurd J @c|simp
theorem Ry {hs:Hs}{ks:List (Int×Int)}(f3:hs.fl<=3)(k2:ks.length<=2)(t2:∃l∈hs.ls,l.tn<=2){L:List SS}(nd:L.Nodup)(hL:∀s∈L,gp hs ks s):L.length<=400:=by
 have h:=few (f:=M8) (ys:=RH) (Good:=gp hs ks) (λs t j S e=> ?_) (λs j=> ?_) nd hL
 ·exact Nat.le_trans h @A
 ·obtain ⟨c,R,_,_,_,_,_,_,m,_,fp,_⟩:=j.ex;obtain ⟨c',F,_,_,_,_,_,_,m',_,I,_⟩:=S.ex;have l:=j.l;have l':=S.l;have fr:=j.fr;have B:=S.fr;obtain ⟨cs,ws,aa⟩:=s;obtain ⟨ab,ac,J⟩:=t;simp only at R F l l' fr B;subst R;subst F;subst l;subst l';unfold M8 hd1 at e;simp only [List.headD_cons,Prod.mk.injEq] at e;obtain ⟨⟨z1,z2,Z⟩,z4,z5⟩:=e;have W:=FF fp I z4;have y2:=FE fr B z5;cases c;cases c';simp only at z1 z2 Z W m m';rw [z1,z2,Z,W,y2,m,m']
 ·obtain ⟨c,R,p0,p1,l0,l1,d0,Y,m,U,fp,O⟩:=j.ex;obtain ⟨l,hl,lt⟩:=t2;have Y:=Y l hl;unfold M8 hd1;rw [R];simp only [List.headD_cons];rwa[mem_flatMap.mpr ⟨(c.pl,c.li,c.dr),?_,mem_map.mpr ⟨(c.ps.map (·.1),s.ws.map aO.tag),G8 O λx hx=> ?_,rfl⟩⟩]
  ·rcases (show c.pl=0\/c.pl=1\/c.pl=2\/c.pl=3\/c.pl=4 by lia) with e|e|e|e|e<;>rw [e] at U ⊢
   ·rcases (show c.li= -1\/c.li=0\/c.li=1 by lia) with z|z|z<;>rcases (show c.dr=0\/c.dr=1\/c.dr=2 by lia) with y|y|y<;>rw [z,y]<;>decide
   ·obtain ⟨y,x⟩:=U @c
    rcases (show c.li= -1\/c.li=1 by lia) with z|z<;>rw [z,y]<;>decide
   ·rcases (show c.li= -1\/c.li=0\/c.li=1 by lia) with z|z|z<;>rcases (show c.dr=0\/c.dr=1\/c.dr=2 by lia) with y|y|y<;>rw [z,y]<;>decide
   ·obtain ⟨y,x⟩:=U @c
    rcases (show c.li= -1\/c.li=1 by lia) with z|z<;>rw [z,y]<;>decide
   ·rcases (show c.li= -1\/c.li=0\/c.li=1 by lia) with z|z|z<;>rcases (show c.dr=0\/c.dr=1\/c.dr=2 by lia) with y|y|y<;>rw [z,y]<;>decide
  ·rcases mem_append.mp hx with y|y
   ·obtain ⟨p,hp,rfl⟩:=mem_map.mp y;have:=fp p hp;unfold FP at this;lia
   ·obtain ⟨r,hr,rfl⟩:=mem_map.mp y;have:=j.fr r hr;unfold FR at this;lia
structure Qi (hs:Hs)(ks:List (Int×Int))(l:Lf):Prop where
 ls:hs.ls=[l]
 fl:hs.fl<=3
 tn:l.tn<=2
 ok:hs.ok
 kl:ks.length<=2
 kd:∀k∈ks,xQ hs.fl k
theorem MZ {k:Str}{t n:Int}{b s:Bool}(h1:1<=n)(h2:n<=t):0<=fe k t n b s/\fe k t n b s<=t:=by
 unfold fe;split
 ·lia
 ·split<;>lia
theorem FR.ok {fl:Int}{ks:List (Int×Int)}{r:aO}(R:∀k∈ks,xQ fl k)(h:FR ks r):iw fl r:=by
 obtain ⟨_,h1,h2,j,F⟩:=h
 have W:r.tag.toNat<ks.length:=by lia
 have B:ks.getD r.tag.toNat (0,0)∈ks:=by rw [getD_eq_getElem?_getD,getElem?_eq_getElem W];exact getElem_mem W
 obtain ⟨L,J,Y,S,z⟩:=R _ B;rw [<-j] at L J z;rw [<-F] at Y S z;exact ⟨L,J,Y,S,z⟩
theorem FP.ok {fl:Int}{ks:List (Int×Int)}{p:Int×Int}(R:∀k∈ks,xQ fl k)(h:FP ks p):0<=p.2/\p.2<fl:=by
 obtain ⟨h1,h2,L⟩:=h
 have W:p.1.toNat<ks.length:=by lia
 have B:ks.getD p.1.toNat (0,0)∈ks:=by rw [getD_eq_getElem?_getD,getElem?_eq_getElem W];exact getElem_mem W
 obtain ⟨j,J,Y,S,z⟩:=R _ B;rw [L];exact ⟨Y,S⟩
theorem G7 {xs:List Int}{n:Nat}(J:xs.Nodup)(h:∀x∈xs,0<=x/\x<(n:Int)):xs.length<=n:=by
 have:=sub_le J (ys:=(List.range n).map λi:Nat=>(i:Int)) λx z=>mem_map.mpr ⟨x.toNat,mem_range.mpr (by have:=h x z;lia),by have:=h x z;lia⟩;rwa [length_map,length_range] at this
theorem gp.len {hs:Hs}{ks:List (Int×Int)}{s:SS}(g:gp hs ks s):(∃c,s.cs=[c]/\c.ps.length<=ks.length)/\s.ws.length<=ks.length:=by
 obtain ⟨c,e,_,_,_,_,_,_,_,_,fp,J⟩:=g.ex
 have h:=G7 (n:=ks.length) J λx z=>by
  rcases mem_append.mp z with y|y
  ·obtain ⟨p,F,rfl⟩:=mem_map.mp y;have:=fp p F;exact ⟨this.1,this.2.1⟩
  ·obtain ⟨r,S,rfl⟩:=mem_map.mp y;have:=g.fr r S;exact ⟨this.2.1,this.2.2.1⟩
 rw [length_append,length_map,length_map] at h;exact ⟨⟨c,e,by lia⟩,by lia⟩
theorem gp.sok {hs:Hs}{ks:List (Int×Int)}{l:Lf}{s:SS}(o:Qi hs ks l)(g:gp hs ks s):Qg hs 8 s.cs s.ws s.last:=by
 obtain ⟨⟨J,j,R⟩,lw⟩:=g.len;obtain ⟨c,e,U,S,l0,l1,W,Y,m,L,fp,O⟩:=g.ex;rw [j] at e;cases e;have Z:=o.kl;rwa[⟨by rw [j,o.ls];rfl,λx B=> ?_,λr I=>(g.fr r I).ok o.kd,by lia,by rw [g.l];decide⟩];rw [j] at B;rw [mem_singleton.mp B]
 exact ⟨U,S,l0,l1,by lia,(λz=>by
  have: ¬J.pl% 2=1:=λy=>by have:=(L y).1;lia
  lia),by lia,λp F=>(fp p F).ok o.kd⟩
theorem gp.start {hs:Hs}{ks:List (Int×Int)}{l:Lf}(o:Qi hs ks l)(st:zZ hs):gp hs ks @cs:=by
 have h:=st l (by rw [o.ls];exact .head _);rwa[⟨⟨Na l,by unfold s0;rw [o.ls];rfl,?_⟩,(λr S=>nomatch S),by unfold s0;rw [o.ls];rfl⟩];show 0<=2*l.st/\2*l.st<=2*(hs.fl - 1)/\(-1:Int)<=0/\(0:Int)<=1/\(0:Int)<=0/\(∀l∈hs.ls,(0:Int)<=l.tn)/\(0:Int)=0/\(2*l.st% 2=1->_)/\(∀p∈([]:List (Int×Int)),FP ks p)/\([]:List Int).Nodup;exact ⟨by lia,by lia,by decide,by decide,by decide,λl W=>by have:=(o.ok.lf l W).2.2.1;lia,rfl,λz=>by lia,(λp F=>nomatch F),.nil⟩
theorem gp.step {hs:Hs}{wf:Wf}{k:Dk}{ks:List (Int×Int)}{l:Lf}(o:Qi hs ks l)(hw:∀fl li he up dn,fo li he up dn->wf fl li he up dn∈cJ){s s':SS}{c:Int}(g:gp hs ks s)(hc:Ac ks.length s.ts c)(ht:TR hs wf k ks s c s'):gp hs ks s':=by
 obtain ⟨b,e,p0,p1,l0,l1,d0,d1,m,od,fp,nd⟩:=g.ex
 have hb:bc (s.cs.map dq)=[true]:=by
  rw [e];show [decide (b.mr=0)]=[true];rw [m];rfl
 obtain ⟨j,aa,J,em,a1,a2,al⟩:=Fb (k:=k) (lo:=hs.lo) (last:=s.last) (ks:=ks) (c:=c) (λr S z=>by have:=(g.fr r S).1;lia) (.inl hb) (by rw [g.l];decide) (by rw [g.l,hb];decide);rw [hb] at a2 al
 have el:aa=0:=by simp at a2;lia
 subst el
 have O:∀r∈j,FR ks r:=by
  rcases al with rfl|⟨z,i,i0,i1,rfl⟩
  ·exact g.fr
  ·intro r S
   rcases mem_append.mp S with y|y
   ·exact g.fr r y
   ·rw [mem_singleton.mp y]
    obtain ⟨c0,c1,_⟩:0<=c/\c<(ks.length:Int)/\c∉s.ts:=by rcases hc with x|x;exact absurd x z;exact x
    exact ⟨by simp at i1;show i=0;lia,c0,c1,rfl,rfl⟩
 have ab:(b.ps.map (·.1)++j.map aO.tag).Nodup:=by
  rcases al with rfl|⟨z,i,i0,i1,rfl⟩
  ·exact nd
  ·obtain ⟨_,_,c2⟩:0<=c/\c<(ks.length:Int)/\c∉s.ts:=by rcases hc with x|x;exact absurd x z;exact x
   rw [map_append,<-append_assoc,nodup_append];rwa[⟨nd,by simp,λx hx y Y=> ?_⟩]
   have Y:y=c:=by simpa using Y
   rw [Y];rintro rfl;rwa[c2 ?_];unfold SS.ts aV;rw [e]
   rcases mem_append.mp hx with w|w
   ·exact mem_append_right _ (by simpa using w)
   ·exact mem_append_left _ w
 obtain ⟨M',aA,L,f2,f3⟩:=ht;rw [em,o.ls,e] at aA;obtain ⟨M0,c',W,h0,Z,hl,hR⟩:=aA;obtain rfl:M0=_:=h0;rw [o.ls] at hl;have hl:some l=some W:=hl;cases hl;have Z:some b=some c':=Z.2;cases Z;have af:=o.ok.lf l (by rw [o.ls];exact .head _);have tn:=o.tn
 rcases hR with ⟨z,_⟩|⟨_,z,_⟩|⟨_,_,hG⟩
 ·rw [m] at z;exact absurd z @c
 ·have z:false=true:=z;cases z
 unfold xY at hG;split at hG
 ·
  rename_i dr;subst hG
  have ev:b.pl% 2=0:=by
   have: ¬b.pl% 2=1:=λy=>by have:=(od y).1;lia
   lia
  have av:aG 0 ⟨[b],j,0,false,0,J⟩=j:=by
   unfold aG;exact List.filter_eq_self.mpr λr S=>decide_eq_true (O r S).1
  obtain ⟨I,s1,s2,s3⟩:=nX (so:=hs.so) (room:=l.rm) (pl:=b.pl) j ⟨b.li,dH b.pl b.ps,[]⟩
  have sl:=pS (so:=hs.so) (pl:=b.pl) (fl:=hs.fl) (show l.rm<=64 by lia) j ⟨b.li,dH b.pl b.ps,[]⟩ ⟨l0,l1⟩ (by
   have:=(g.len).1;obtain ⟨x,ex,lx⟩:=this;rw [e] at ex;cases ex;have k2:=o.kl
   exact Nat.le_trans @bf @b) (λp R=>(fp p (mem_filter.mp R).1).ok o.kd) (λr S=>(O r S).ok o.kd)
  have kp:∀p∈dH b.pl b.ps,p∈b.ps:=λp R=>(mem_filter.mp R).1;have ae:∀r∈I,r∈j:=λr S=>s1.subset S;rwa[⟨⟨_,L.symm,?_⟩,λr S=> ?_,f3.symm⟩]
  ·have dl:=MZ (k:=l.kd) (b:=(0:Nat).testBit 0) (s:=decide (((c9 b.pl b.ps).length:Int)+((dh hs b l @j).ins.length:Int)>0)) (show 1<=b.dr by lia) (d1 l (by rw [o.ls];exact .head _));rwa[⟨p0,p1,?_,?_,dl.1,λW F=>by rw [o.ls] at F;rw [mem_singleton.mp F];exact dl.2,m,λy=>by have y:b.pl% 2=1:=y;lia,?_,?_⟩]
   ·show -1<=(dh hs b l @j).light;rw [av];exact sl.1.1
   ·show (dh hs b l @j).light<=1;rw [av];exact sl.1.2
   ·intro p R;have R:p∈(dh hs b l @j).kept:=R;rw [av] at R;rw [show (dh hs b l j).kept=dH b.pl b.ps++I.map (λr=>(r.tag,r.goal)) from s2] at R
    rcases mem_append.mp R with y|y
    ·exact fp p (kp p y)
    ·obtain ⟨r,S,rfl⟩:=mem_map.mp y;obtain ⟨_,r1,r2,_,r4⟩:=O r (ae r S);exact ⟨r1,r2,r4⟩
   ·rw [<-f2];show ((dh hs b l @j).kept.map (·.1)++(j.filter λr=> !decide (r.tag∈(dh hs b l @j).ins)).map aO.tag).Nodup;rw [av,show (dh hs b l j).kept=dH b.pl b.ps++I.map (λr=>(r.tag,r.goal)) from s2,show (dh hs b l j).ins=[]++I.map aO.tag from s3,nil_append,map_append,map_map,append_assoc];obtain ⟨na,nb,nc⟩:=nodup_append.mp ab;have fs:(j.filter λr=> !decide (r.tag∈I.map aO.tag)).Sublist j:=List.filter_sublist;rw [nodup_append];rwa[⟨(List.filter_sublist.map _).nodup na,?_,λx hx y Y=> ?_⟩]
    ·show (I.map aO.tag++_).Nodup;rw [nodup_append];rwa[⟨(s1.map _).nodup nb,(fs.map _).nodup nb,λx hx y Y=> ?_⟩];obtain ⟨r,S,rfl⟩:=mem_map.mp Y;have:=(mem_filter.mp S).2;rintro rfl;simp only [Bool.not_eq_true',decide_eq_false_iff_not] at this;exact this hx
    ·obtain ⟨p,R,rfl⟩:=mem_map.mp hx;rwa[nc _ (mem_map.mpr ⟨p,kp p R,rfl⟩) y ?_]
     rcases mem_append.mp Y with w|w
     ·obtain ⟨r,S,rfl⟩:=mem_map.mp w;exact mem_map.mpr ⟨r,ae r S,rfl⟩
     ·obtain ⟨r,S,rfl⟩:=mem_map.mp w;exact mem_map.mpr ⟨r,(mem_filter.mp S).1,rfl⟩
  ·rw [<-f2] at S;exact O r (mem_filter.mp S).1
 rename_i dr
 have ad:b.dr=0:=by lia
 split at hG
 ·rename_i ac;subst hG;obtain ⟨_,li⟩:=od ac;rwa[⟨⟨_,L.symm,?_,?_,l0,l1,Int.le_refl _,λW F=>by have:=(o.ok.lf W F).2.2.1;show (0:Int)<=_;lia,m,λy=> ?_,fp,by rw [<-f2];exact ab⟩,λr S=>O r (by rw [<-f2] at S;exact S),f3.symm⟩]
  ·show 0<=b.pl+b.li;lia
  ·show b.pl+b.li<=_;lia
  ·have y:(b.pl+b.li)% 2=1:=y;lia
 ·rename_i ac;obtain ⟨U,u,d,e1,hu,hd,rfl⟩:=hG;have h5:=MW (iC (so:=hs.so) (pl:=b.pl) (li:=b.li) (ps:=b.ps) (hw U b.li (dY hs.so b.li (tk l.rm b.ps @j U) (CG b.ps U) (A8 @j U b.li)) u d ⟨l0,l1,np.1,np.2,by rcases hu with ⟨h,_⟩|⟨h,_⟩<;>lia,by rcases hd with ⟨h,_⟩|⟨h,_⟩<;>lia⟩))
  have lt: -1<=(if b.ps=[] then (0:Int) else b.li)/\(if b.ps=[] then (0:Int) else b.li)<=1:=by split<;>lia
  have ag:l∈hs.ls:=by rw [o.ls];exact .head _
  have tl:∀W∈hs.ls,l.tn<=W.tn:=λW F=>by rw [o.ls] at F;rw [mem_singleton.mp F];exact Int.le_refl _
  have B:∀ {q:Int×Int×Int},0<=q.1->q.1<=2*(hs.fl - 1)-> -1<=q.2.1->q.2.1<=1->0<=q.2.2->(∀W∈hs.ls,q.2.2<=W.tn)->(q.1% 2=1->q.2.2=0/\q.2.1≠0)->[(⟨q.1,q.2.1,q.2.2,b.mr,b.ps⟩:Cb)]=s'.cs->gp hs ks s':=λh1 h2 h3 h4 h5 h6 h7 h8=>⟨⟨_,h8.symm,h1,h2,h3,h4,h5,h6,m,h7,fp,by rw [<-f2];exact ab⟩,λr S=>O r (by rw [<-f2] at S;exact S),f3.symm⟩;have L:[(⟨(dL hs.fl l.tn b.pl b.li b.dr b.ps @D).1,(dL hs.fl l.tn b.pl b.li b.dr b.ps @D).2.1,(dL hs.fl l.tn b.pl b.li b.dr b.ps @D).2.2,b.mr,b.ps⟩:Cb)]=s'.cs:=L;generalize bw hs.so b.pl b.li b.ps _=x at h5 L;have t1:=af.2.2.1
  rcases h5 with rfl|rfl|rfl|rfl|rfl
  ·rw [FQ] at L;exact B p0 p1 l0 l1 (by show 0<=l.tn;lia) tl (λy=>by have y:b.pl% 2=1:=y;lia) L
  ·rw [FN] at L;exact B p0 p1 (by show (-1:Int)<=0;decide) (by show (0:Int)<=1;decide) (by show 0<=l.tn;lia) tl (λy=>by have y:b.pl% 2=1:=y;lia) L
  ·by_cases z:b.pl / 2<hs.fl - 1
   ·rw [zI z] at L;exact B (by show 0<=b.pl+1;lia) (by show b.pl+1<=_;lia) (by show (-1:Int)<=1;decide) (by show (1:Int)<=1;decide) d0 d1 (λ_=>⟨ad,by show (1:Int)≠0;decide⟩) L
   ·rw [zJ z] at L;exact B p0 p1 lt.1 lt.2 d0 d1 (λy=>by have y:b.pl% 2=1:=y;lia) L
  ·by_cases z:0<b.pl
   ·rw [zK z] at L;exact B (by show 0<=b.pl - 1;lia) (by show b.pl - 1<=_;lia) (by show (-1:Int)<= -1;decide) (by show (-1:Int)<=1;decide) d0 d1 (λ_=>⟨ad,by show (-1:Int)≠0;decide⟩) L
   ·rw [zL z] at L;exact B p0 p1 lt.1 lt.2 d0 d1 (λy=>by have y:b.pl% 2=1:=y;lia) L
  ·rw [FO] at L;exact B p0 p1 lt.1 lt.2 d0 d1 (λy=>by have y:b.pl% 2=1:=y;lia) L
theorem Lc {hs:Hs}{wf:Wf}{k:Dk}{ks:List (Int×Int)}{l:Lf}(o:Qi hs ks l)(st:zZ hs)(j:∀fl li he up dn,fo li he up dn->wf fl li he up dn∈cJ):xN hs wf k ks 400 (gp hs ks):=
 ⟨.start o st,λs c s' g I z=>g.step o j I z,λs g=>g.sok o,λL J F=>Ry o.fl o.kl ⟨l,by rw [o.ls];exact .head _,o.tn⟩ J F⟩
abbrev T3:=Int×Int×Int
def JG (st:Int):List T3:=[(2*st,-1,0),(2*st,0,0),(2*st,1,0),(2*st,-1,1),(2*st,0,1),(2*st,1,1),(1,2*st - 1,0),(2*(1 - st),-1,0),(2*(1 - st),0,0),(2*(1 - st),1,0)]
def J5 (st:Int):List T3:=[(2*st,-1,0),(2*st,0,0),(2*st,1,0),(1,1 - 2*st,0),(2*(1 - st),1 - 2*st,0),(2*(1 - st),1 - 2*st,1)]
def zx:List T3:=[(0,0,0),(0,-1,0),(2,0,0),(2,1,0)]
noncomputable def MR (so kd:Str)(rm:Int)(c:T3)(ps:List (Int×Int))(rs:List aO):T3×List (Int×Int)×List Int:=
 if 0<c.2.2 then ((c.1,(nz so rm c.1 c.2.1 ps rs).light,fe kd 1 c.2.2 false (decide (((c9 c.1 ps).length:Int)+((nz so rm c.1 c.2.1 ps rs).ins.length:Int)>0))),(nz so rm c.1 c.2.1 ps rs).kept,(nz so rm c.1 c.2.1 ps rs).ins)
 else if c.1% 2=1 then ((c.1+c.2.1,c.2.1,0),ps,[])
 else (dL 2 1 c.1 c.2.1 c.2.2 ps (bw so c.1 c.2.1 ps (dz c.2.1 (dY so c.2.1 (tk rm ps rs (c.1 / 2)) (CG ps (c.1 / 2)) (A8 rs (c.1 / 2) c.2.1)) (if c.1=0/\tk rm ps rs 1=true then 1 else 0) (if c.1=2/\tk rm ps rs 0=true then 1 else 0))),ps,[])
def vV (c:Cb):T3:=(c.pl,c.li,c.dr)
def RC (t:T3)(ps:List (Int×Int)):Cb:=⟨t.1,t.2.1,t.2.2,0,ps⟩
theorem zy {hs:Hs}{wf:Wf}{M M':MS}{i:Int}{c:Cb}{l:Lf}(fl:hs.fl=2)(Y:l.tn=1)(hw:∀fl li he up dn,fo li he up dn->wf fl li he up dn=dz li he up dn)(F:M.bl=0)(m:c.mr=0)(I:M.fire=false)(p3:c.pl=0\/c.pl=1\/c.pl=2)(l0: -1<=c.li)(l1:c.li<=1)(R:∀f,tk l.rm c.ps @cr f=true->f=0\/f=1)(h:CO hs wf M i c l M'):
 M'.cs=M.cs.set i.toNat (RC (MR hs.so l.kd l.rm (vV c) c.ps @cr).1 (MR hs.so l.kd l.rm (vV c) c.ps @cr).2.1)/\M'.ws=M.ws.filter (λr=> !decide (r.tag∈(MR hs.so l.kd l.rm (vV c) c.ps @cr).2.2))/\M'.last=M.last/\M'.fire=false/\M'.bl=0:=by
 have j:M.ws.filter (λr=> !decide (r.tag∈([]:List Int)))=M.ws:=List.filter_eq_self.mpr λr _=>by simp
 rcases h with ⟨z,_⟩|⟨_,z,_⟩|⟨_,_,B⟩
 ·rw [m] at z;exact absurd z @c
 ·rw [I] at z;cases z
 unfold xY at B;unfold MR vV;simp only;split at B
 ·rename_i d;rw [if_pos d];subst B;rwa[⟨?_,rfl,rfl,I,F⟩];show M.cs.set i.toNat ⟨c.pl,(dh hs c l @cr).light,fe l.kd l.tn c.dr (M.bl.testBit i.toNat) _,c.mr,(dh hs c l @cr).kept⟩=_;rw [F,Nat.zero_testBit,Y,m];rfl
 ·rename_i d;rw [if_neg d];split at B
  ·rename_i O;rw [if_pos O];subst B;rwa[⟨?_,j.symm,rfl,I,F⟩];show M.cs.set i.toNat ⟨c.pl+c.li,c.li,0,c.mr,c.ps⟩=_;rw [m];rfl
  ·rename_i O;rw [if_neg O];obtain ⟨U,u,Z,e,W,S,rfl⟩:=B
   have eu:u=if c.pl=0/\tk l.rm c.ps @cr 1=true then 1 else 0:=by
    rcases W with ⟨J,h1⟩|⟨h1,h2,L,h4⟩
    ·rw [if_neg (λz=>by
      have:=h1 1 @c @c
      rw [show (U:Int)+1=1 by lia,z.2] at this;cases this)]
     exact J
    ·have:=R _ L;rw [if_pos ⟨by lia,by rw [show (1:Int)=(U:Int)+u by lia];exact L⟩];lia
   have ed:Z=if c.pl=2/\tk l.rm c.ps @cr 0=true then 1 else 0:=by
    rcases S with ⟨J,h1⟩|⟨h1,h2,h5,L,h4⟩
    ·rw [if_neg (λz=>by
      have:=h1 1 @c @c @b
      rw [show (U:Int) - 1=0 by lia,z.2] at this;cases this)]
     exact J
    ·have:=R _ L;rw [if_pos ⟨by lia,by rw [show (0:Int)=(U:Int) - Z by lia];exact L⟩];lia
   have ef:c.pl / 2=(U:Int):=by lia
   rwa[⟨?_,j.symm,rfl,I,F⟩];show M.cs.set i.toNat (pT hs l c _)=_;rw [hw _ _ _ _ _ ⟨l0,l1,np.1,np.2,by rcases W with ⟨h,_⟩|⟨h,_⟩<;>lia,by rcases S with ⟨h,_⟩|⟨h,_⟩<;>lia⟩,<-eu,<-ed,ef];unfold pT RC;rw [fl,Y,m]
def iN (st i:Int):aO:=⟨0,st,1 - st,i⟩
noncomputable def Qe (so kd:Str)(rm st:Int):Bool:=
 (zx.all λt=>decide (MR so kd rm t [] []∈zx.map λt=>(t,([]:List (Int×Int)),([]:List Int))))&&
 ([0,1].all λi=>(JG st).all λt=>decide (MR so kd rm t [] [iN st i]∈((JG st).map λt=>(t,([]:List (Int×Int)),([]:List Int)))++((J5 st).map λt=>(t,[((0:Int),1 - st)],[(0:Int)]))))&&
 ((J5 st).all λt=>decide (MR so kd rm t [(0,1 - st)] []∈((J5 st).map λt=>(t,[((0:Int),1 - st)],([]:List Int)))++(zx.map λt=>(t,([]:List (Int×Int)),([]:List Int)))))
theorem zQ {so j:Str}{rm st:Int}(h1:so=s!"free"\/so=s!"way")(h2:j=yT\/j=hst)(L:rm=1\/rm=2)(z:st=0\/st=1):Qe so j rm st=true:=by
 rcases h1 with rfl|rfl<;>rcases h2 with rfl|rfl<;>rcases L with rfl|rfl<;>rcases z with rfl|rfl<;>decide+kernel
structure RK (hs:Hs)(st:Int)(la lb:Lf):Prop where
 ls:hs.ls=[la,lb]
 fl:hs.fl=2
 ok:hs.ok
 ta:la.tn=1
 tb:lb.tn=1
 ka:la.kd=yT\/la.kd=hst
 kb:lb.kd=yT\/lb.kd=hst
 ra:la.rm=1\/la.rm=2
 rb:lb.rm=1\/lb.rm=2
 s:st=0\/st=1
def GR (c:Cb):Prop:=c.mr=0/\c.ps=[]/\vV c∈zx
def PJ (st:Int)(c:Cb):Prop:=c.mr=0/\c.ps=[]/\vV c∈JG st
def P1 (st:Int)(c:Cb):Prop:=c.mr=0/\c.ps=[(0,1 - st)]/\vV c∈J5 st
def G2 (st:Int)(a b:Cb)(ws:List aO):Prop:=(ws=[]/\GR a/\GR b)\/(ws=[iN st 0]/\PJ st a/\GR b)\/(ws=[iN st 1]/\GR a/\PJ st b)\/(ws=[]/\P1 st a/\GR b)\/(ws=[]/\GR a/\P1 st b)
def lX (st:Int)(s:SS):Prop:=∃a b,s.cs=[a,b]/\0<=s.last/\s.last<2/\G2 st a b s.ws
def JF (t:T3):Prop:=(t.1=0\/t.1=1\/t.1=2)/\ -1<=t.2.1/\t.2.1<=1/\0<=t.2.2/\(0<t.2.2->t.1% 2=0)
instance (t:T3):Decidable (JF t):=by unfold JF;exact inferInstance
theorem zU {c:Cb}(h:vV c∈zx):JF (vV c):=(show ∀t∈zx,JF t by decide) _ h
theorem zT {st:Int}{c:Cb}(hs:st=0\/st=1)(h:vV c∈JG st):JF (vV c):=(show ∀t∈JG st,JF t by rcases hs with rfl|rfl<;>decide) _ h
theorem zV {st:Int}{c:Cb}(hs:st=0\/st=1)(h:vV c∈J5 st):JF (vV c):=(show ∀t∈J5 st,JF t by rcases hs with rfl|rfl<;>decide) _ h
theorem JU {st:Int}{c:Cb}(hs:st=0\/st=1)(h:GR c):PJ st c:=by
 have k:∀t∈zx,t∈JG st:=by rcases hs with rfl|rfl<;>decide
 exact ⟨h.1,h.2.1,k _ h.2.2⟩
structure oS (hs:Hs)(wf:Wf)(st:Int)(l:Lf):Prop where
 fl:hs.fl=2
 so:hs.so=s!"free"\/hs.so=s!"way"
 tn:l.tn=1
 kd:l.kd=yT\/l.kd=hst
 rm:l.rm=1\/l.rm=2
 s:st=0\/st=1
 hw:∀fl li he up dn,fo li he up dn->wf fl li he up dn=dz li he up dn
section
variable {hs:Hs}{wf:Wf}{st:Int}{l:Lf}{M M':MS}{i:Int}{c:Cb}
theorem rF {t:T3}{ps:List (Int×Int)}:vV (RC t ps)=t:=rfl
theorem oS.idle (L:oS hs wf st l)(J:GR c)(Y:M.bl=0)(S:M.fire=false)(I:aG i M=[])(h:CO hs wf M i c l M'):∃c',GR c'/\M'.cs=M.cs.set i.toNat c'/\M'.ws=M.ws/\M'.last=M.last/\M'.fire=false/\M'.bl=0:=by
 obtain ⟨m,p,t⟩:=J;obtain ⟨U,F,W,b4,b5⟩:=zU t;obtain ⟨R,O,e3,B,Z⟩:=zy L.fl L.tn L.hw Y m S U F W (λf z=>by rw [p,I] at z;simp [tk] at z) h;have j:=zQ L.so L.kd L.rm L.s;unfold Qe at j;simp only [Bool.and_eq_true,all_eq_true,decide_eq_true_eq] at j;have:=j.1.1 _ t;rw [p,I] at R O;obtain ⟨t',h1,h2⟩:=mem_map.mp this;rw [<-h2] at R O;exact ⟨_,⟨rfl,rfl,by rw [rF];exact h1⟩,R,by rw [O];exact List.filter_eq_self.mpr λr _=>by simp,e3,B,Z⟩
theorem oS.wait (L:oS hs wf st l)(hi:i=0\/i=1)(W:PJ st c)(bl:M.bl=0)(Y:M.fire=false)(I:aG i M=[iN st i])(h:CO hs wf M i c l M'):∃c',M'.cs=M.cs.set i.toNat c'/\((PJ st c'/\M'.ws=M.ws)\/(P1 st c'/\M'.ws=M.ws.filter λr=> !decide (r.tag∈[(0:Int)])))/\M'.last=M.last/\M'.fire=false/\M'.bl=0:=by
 obtain ⟨m,p,t⟩:=W;obtain ⟨b1,S,b3,b4,b5⟩:=zT L.s t;have U:=L.s
 obtain ⟨R,O,F,B,Z⟩:=zy L.fl L.tn L.hw bl m Y b1 S b3 (λf z=>by
  rw [p,I] at z;simp [tk,iN] at z
  lia) h
 have j:=zQ L.so L.kd L.rm L.s;unfold Qe at j;simp only [Bool.and_eq_true,all_eq_true,decide_eq_true_eq] at j;have:=j.1.2 i (by rcases hi with rfl|rfl<;>simp) _ t;rw [p,I] at R O
 rcases mem_append.mp this with z|z
 ·obtain ⟨J,h1,h2⟩:=mem_map.mp z;rw [<-h2] at R O;exact ⟨_,R,.inl ⟨⟨rfl,rfl,by rw [rF];exact h1⟩,by rw [O];exact List.filter_eq_self.mpr λr _=>by simp⟩,F,B,Z⟩
 ·obtain ⟨J,h1,h2⟩:=mem_map.mp z;rw [<-h2] at R O;exact ⟨_,R,.inr ⟨⟨rfl,rfl,by rw [rF];exact h1⟩,O⟩,F,B,Z⟩
theorem oS.ride (L:oS hs wf st l)(W:P1 st c)(bl:M.bl=0)(Y:M.fire=false)(I:aG i M=[])(h:CO hs wf M i c l M'):∃c',M'.cs=M.cs.set i.toNat c'/\(P1 st c'\/GR c')/\M'.ws=M.ws/\M'.last=M.last/\M'.fire=false/\M'.bl=0:=by
 obtain ⟨m,p,t⟩:=W;obtain ⟨b1,S,b3,b4,b5⟩:=zV L.s t;have U:=L.s
 obtain ⟨R,O,F,B,Z⟩:=zy L.fl L.tn L.hw bl m Y b1 S b3 (λf z=>by
  rw [p,I] at z;simp [tk] at z
  lia) h
 have j:=zQ L.so L.kd L.rm L.s;unfold Qe at j;simp only [Bool.and_eq_true,all_eq_true,decide_eq_true_eq] at j;have:=j.2 _ t;rw [p,I] at R O
 rcases mem_append.mp this with z|z
 ·obtain ⟨J,h1,h2⟩:=mem_map.mp z;rw [<-h2] at R O;exact ⟨_,R,.inl ⟨rfl,rfl,by rw [rF];exact h1⟩,by rw [O];exact List.filter_eq_self.mpr λr _=>by simp,F,B,Z⟩
 ·obtain ⟨J,h1,h2⟩:=mem_map.mp z;rw [<-h2] at R O;exact ⟨_,R,.inr ⟨rfl,rfl,by rw [rF];exact h1⟩,by rw [O];exact List.filter_eq_self.mpr λr _=>by simp,F,B,Z⟩
end
theorem eW {M:MS}{i:Int}(h:M.ws=[]):aG i M=[]:=by unfold aG;rw [h];rfl
theorem w4 {M:MS}{st i:Int}(h:M.ws=[iN st i]):aG i M=[iN st i]:=by
 unfold aG;rw [h,filter_cons_of_pos (by simp [iN])];rfl
theorem w5 {M:MS}{st i j:Int}(h:M.ws=[iN st i])(z:i≠j):aG j M=[]:=by
 unfold aG;rw [h,filter_cons_of_neg (by simp [iN,z])];rfl
theorem O7 {st i:Int}:[iN st i].filter (λr=> !decide (r.tag∈[(0:Int)]))=[]:=by
 rw [filter_cons_of_neg (by simp [iN])];rfl
theorem lX.step {hs:Hs}{wf:Wf}{k:Dk}{st:Int}{la lb:Lf}(o:RK hs st la lb)(hw:∀fl li he up dn,fo li he up dn->wf fl li he up dn=dz li he up dn){s s':SS}{c:Int}(g:lX st s)(hc:Ac 1 s.ts c)(ht:TR hs wf k [(st,1 - st)] s c s'):lX st s':=by
 obtain ⟨a,b,e,g0,g1,hg⟩:=g;have os:=o.s
 have hm:a.mr=0/\b.mr=0:=by
  rcases hg with ⟨_,x,y⟩|⟨_,x,y⟩|⟨_,x,y⟩|⟨_,x,y⟩|⟨_,x,y⟩<;>exact ⟨x.1,y.1⟩
 have hb:bc (s.cs.map dq)=[true,true]:=by
  rw [e];show [decide (a.mr=0),decide (b.mr=0)]=[true,true];rw [hm.1,hm.2];rfl
 have ah:∀r∈s.ws,r.lift≠ -1:=λr hr=>by
  rcases hg with ⟨x,_⟩|⟨x,_⟩|⟨x,_⟩|⟨x,_⟩|⟨x,_⟩<;>rw [x] at hr
  ·cases hr
  ·rw [mem_singleton.mp hr];show (0:Int)≠ -1;decide
  ·rw [mem_singleton.mp hr];show (1:Int)≠ -1;decide
  ·cases hr
  ·cases hr
 obtain ⟨ag,aa,lg,em,a1,a2,al⟩:=Fb (k:=k) (lo:=hs.lo) (last:=s.last) (ks:=[(st,1 - st)]) (c:=c) ah (.inr hb) g0 (by rw [hb];exact g1);rw [hb] at a2 al;have a2:aa<2:=a2
 have ai:G2 st a b ag:=by
  rcases al with rfl|⟨z,i,i0,i1,rfl⟩
  ·exact hg
  ·obtain ⟨c0,c1,c2⟩:0<=c/\c<((1:Nat):Int)/\c∉s.ts:=by rcases hc with x|x;exact absurd x z;exact x
   obtain rfl:c=0:=by lia
   have hi:i=0\/i=1:=by have i1:i<2:=i1;lia
   unfold SS.ts aV at c2;rw [e] at c2;simp only [mem_append,not_or] at c2
   rcases hg with ⟨x,I,F⟩|⟨x,I,F⟩|⟨x,I,F⟩|⟨x,I,F⟩|⟨x,I,F⟩
   ·rw [x]
    rcases hi with rfl|rfl
    ·exact .inr (.inl ⟨rfl,JU os I,F⟩)
    ·exact .inr (.inr (.inl ⟨rfl,I,JU os F⟩))
   ·exact absurd (by rw [x];simp [iN]) c2.1
   ·exact absurd (by rw [x];simp [iN]) c2.1
   ·exact absurd (by simp [I.2.1]) c2.2
   ·exact absurd (by simp [F.2.1]) c2.2
 obtain ⟨M',aA,f1,f2,f3⟩:=ht;rw [em,o.ls,e] at aA;obtain ⟨M1,cb,l',⟨M0,ca,l,h0,ab,aB,ad⟩,af,ae,W⟩:=aA;obtain rfl:M0=_:=h0;rw [o.ls] at aB ae;have aB:some la=some l:=aB;cases aB;have ae:some lb=some l':=ae;cases ae;have ab:some a=some ca:=ab.2;cases ab;have La:oS hs wf st la:=⟨o.fl,o.ok.so,o.ta,o.ka,o.ra,os,hw⟩;have Lb:oS hs wf st lb:=⟨o.fl,o.ok.so,o.tb,o.kb,o.rb,os,hw⟩;have B:∀ {Z b':Cb},M'.cs=[Z,b']->M'.last=aa->G2 st Z b' M'.ws->lX st s':=λh1 h2 h3=>⟨_,_,by rw [<-f1];exact h1,by rw [<-f3,h2];exact a1,by rw [<-f3,h2];exact a2,by rw [<-f2];exact h3⟩
 have ac:∀ {Z:Cb},M1.cs=[Z,b]->cb=b:=λh=>by
  have:=af.2;rw [h] at this;have:some b=some cb:=this;cases this;rfl
 have j:∀ {Z b':Cb},M1.cs=[Z,b]->M'.cs=M1.cs.set 1 b'->M'.cs=[Z,b']:=λh1 h2=>by rw [h2,h1];rfl
 rcases ai with ⟨x,I,F⟩|⟨x,I,F⟩|⟨x,I,F⟩|⟨x,I,F⟩|⟨x,I,F⟩
 ·obtain ⟨Z,O,L,J,Y,k4,k5⟩:=La.idle I rfl rfl (eW x) ad;obtain rfl:=ac L;obtain ⟨b',an,U,R,S,m4,m5⟩:=Lb.idle F k5 k4 (eW @bu) W;exact B @ew @cb (.inl ⟨R.trans @bu,O,an⟩)
 ·obtain ⟨Z,L,kk,Y,k4,k5⟩:=La.wait (.inl rfl) I rfl rfl (w4 x) ad;obtain rfl:=ac L
  rcases kk with ⟨O,J⟩|⟨O,J⟩
  ·obtain ⟨b',an,U,R,S,m4,m5⟩:=Lb.idle F k5 k4 (w5 @bu (by show (0:Int)≠1;decide)) W;exact B @ew @cb (.inr (.inl ⟨R.trans @bu,O,an⟩))
  ·have J:M1.ws=[]:=by rw [J,show ({cs:=[a,cb],ws:=ag,last:=aa,fire:=false,bl:=0,log:=lg}:MS).ws=[iN st 0] from x];exact O7
   obtain ⟨b',an,U,R,S,m4,m5⟩:=Lb.idle F k5 k4 (eW J) W;exact B @ew @cb (.inr (.inr (.inr (.inl ⟨R.trans J,O,an⟩))))
 ·obtain ⟨Z,O,L,J,Y,k4,k5⟩:=La.idle I rfl rfl (w5 x @c) ad;obtain rfl:=ac L;obtain ⟨b',U,mm,S,m4,m5⟩:=Lb.wait (.inr rfl) F k5 k4 (w4 @bu) W
  rcases mm with ⟨an,R⟩|⟨an,R⟩
  ·exact B @ew @cb (.inr (.inr (.inl ⟨R.trans @bu,O,an⟩)))
  ·exact B @ew @cb (.inr (.inr (.inr (.inr ⟨by rw [R,J.trans x];exact O7,O,an⟩))))
 ·obtain ⟨Z,L,O,J,Y,k4,k5⟩:=La.ride I rfl rfl (eW x) ad;obtain rfl:=ac L;obtain ⟨b',an,U,R,S,m4,m5⟩:=Lb.idle F k5 k4 (eW @bu) W
  rcases O with O|O
  ·exact B @ew @cb (.inr (.inr (.inr (.inl ⟨R.trans @bu,O,an⟩))))
  ·exact B @ew @cb (.inl ⟨R.trans @bu,O,an⟩)
 ·obtain ⟨Z,O,L,J,Y,k4,k5⟩:=La.idle I rfl rfl (eW x) ad;obtain rfl:=ac L;obtain ⟨b',U,an,R,S,m4,m5⟩:=Lb.ride F k5 k4 (eW @bu) W
  rcases an with an|an
  ·exact B @ew @cb (.inr (.inr (.inr (.inr ⟨R.trans @bu,O,an⟩))))
  ·exact B @ew @cb (.inl ⟨R.trans @bu,O,an⟩)
def PD (st:Int):List ((T3×T3)×(List (Int×Int)×List (Int×Int))×List Int×Int):=
 let pr (xs ys:List T3) (pa pb:List (Int×Int)) (w:List Int):=xs.flatMap λx=>ys.flatMap λy=>[(((x,y):T3×T3),(pa,pb),w,(0:Int)),((x,y),(pa,pb),w,1)]
 pr zx zx [] [] []++pr (JG st) zx [] [] [0]++pr zx (JG st) [] [] [1]++pr (J5 st) zx [(0,1 - st)] [] []++pr zx (J5 st) [] [(0,1 - st)] []
def M7 (s:SS):(T3×T3)×(List (Int×Int)×List (Int×Int))×List Int×Int:=((vV (hd1 s),vV (s.cs.getD 1 (hd1 s))),((hd1 s).ps,(s.cs.getD 1 (hd1 s)).ps),s.ws.map aO.lift,s.last)
theorem Rx {st:Int}(hs:st=0\/st=1){L:List SS}(nd:L.Nodup)(hL:∀s∈L,lX st s):L.length<=400:=by
 have I:∀ {xs ys:List T3} {x y:T3} {S J:List (Int×Int)} {w:List Int} {l:Int},x∈xs->y∈ys->0<=l->l<2->((x,y),(S,J),w,l)∈xs.flatMap λx=>ys.flatMap λy=>[(((x,y):T3×T3),(S,J),w,(0:Int)),((x,y),(S,J),w,1)]:=λ{xs ys x y S J w l} h1 h2 h3 h4=>by
  rwa[mem_flatMap.mpr ⟨x,h1,mem_flatMap.mpr ⟨y,h2,?_⟩⟩]
  rcases (show l=0\/l=1 by lia) with rfl|rfl<;>simp
 have h:=few (f:=M7) (ys:=PD st) (Good:=lX st) (λs t gs gt e=> ?_) (λs gs=> ?_) nd hL
 ·exact Nat.le_trans h (by rcases hs with rfl|rfl<;>decide+kernel)
 ·obtain ⟨a,b,O,_,_,g⟩:=gs;obtain ⟨a',b',z,_,_,W⟩:=gt;obtain ⟨cs,ws,ac⟩:=s;obtain ⟨ad,ab,aa⟩:=t;simp only at O z g W;subst O;subst z;unfold M7 hd1 at e;simp only [List.headD_cons,List.getD_cons_succ,List.getD_cons_zero,Prod.mk.injEq] at e;obtain ⟨⟨R,U⟩,⟨z3,z4⟩,z5,z6⟩:=e
  have hw:ws=ab:=by
   rcases g with ⟨x,_⟩|⟨x,_⟩|⟨x,_⟩|⟨x,_⟩|⟨x,_⟩<;>rcases W with ⟨j,_⟩|⟨j,_⟩|⟨j,_⟩|⟨j,_⟩|⟨j,_⟩<;>rw [x,j] at z5 ⊢ <;>first|rfl|(exact absurd z5 (by simp [iN]))
  have m1:a.mr=0/\b.mr=0:=by rcases g with ⟨_,x,y⟩|⟨_,x,y⟩|⟨_,x,y⟩|⟨_,x,y⟩|⟨_,x,y⟩<;>exact ⟨x.1,y.1⟩
  have m2:a'.mr=0/\b'.mr=0:=by rcases W with ⟨_,x,y⟩|⟨_,x,y⟩|⟨_,x,y⟩|⟨_,x,y⟩|⟨_,x,y⟩<;>exact ⟨x.1,y.1⟩
  cases a;cases b;cases a';cases b';unfold vV at R U;simp only [Prod.mk.injEq] at R U z3 z4 m1 m2;rw [hw,z6,R.1,R.2.1,R.2.2,U.1,U.2.1,U.2.2,z3,z4,m1.1,m1.2,m2.1,m2.2]
 ·obtain ⟨a,b,O,Y,Z,g⟩:=gs;unfold M7 hd1;rw [O];simp only [List.headD_cons,List.getD_cons_succ,List.getD_cons_zero];unfold PD;simp only [mem_append]
  rcases g with ⟨x,F,B⟩|⟨x,F,B⟩|⟨x,F,B⟩|⟨x,F,B⟩|⟨x,F,B⟩<;>rw [x,F.2.1,B.2.1]
  ·exact .inl (.inl (.inl (.inl @cc)))
  ·exact .inl (.inl (.inl (.inr @cc)))
  ·exact .inl (.inl (.inr @cc))
  ·exact .inl (.inr @cc)
  ·exact .inr @cc
theorem lX.sok {hs:Hs}{st:Int}{la W:Lf}{s:SS}(o:RK hs st la W)(g:lX st s):Qg hs 8 s.cs s.ws s.last:=by
 obtain ⟨a,b,e,Y,g1,g⟩:=g;have fl:=o.fl;have os:=o.s
 have j:∀ {c:Cb},JF (vV c)->c.mr=0->(c.ps=[]\/c.ps=[(0,1 - st)])->nU hs.fl c:=λ{c} h m L=>by
  obtain ⟨O,Z,b3,b4,U⟩:=h;have O:c.pl=0\/c.pl=1\/c.pl=2:=O;rwa[⟨by lia,by lia,Z,b3,by lia,U,?_,λp J=> ?_⟩]
  ·rcases L with z|z<;>rw [z]<;>simp
  ·rcases L with z|z<;>rw [z] at J
   ·cases J
   ·rw [mem_singleton.mp J];show 0<=1 - st/\1 - st<hs.fl;lia
 have R:∀i,iw hs.fl (iN st i):=λi=>⟨by show 0<=st;lia,by show st<_;lia,by show 0<=1 - st;lia,by show 1 - st<_;lia,by show st≠1 - st;lia⟩;rwa[⟨by rw [e,o.ls];rfl,λx I=> ?_,λr S=> ?_,?_,Y⟩]
 ·rw [e] at I
  rcases g with ⟨_,F,B⟩|⟨_,F,B⟩|⟨_,F,B⟩|⟨_,F,B⟩|⟨_,F,B⟩<;>rcases mem_cons.mp I with rfl|I<;>first|exact j (zU F.2.2) F.1 (.inl F.2.1)|exact j (zT os F.2.2) F.1 (.inl F.2.1)|exact j (zV os F.2.2) F.1 (.inr F.2.1)|(rw [mem_singleton.mp I];first|exact j (zU B.2.2) B.1 (.inl B.2.1)|exact j (zT os B.2.2) B.1 (.inl B.2.1)|exact j (zV os B.2.2) B.1 (.inr B.2.1))
 ·rcases g with ⟨x,_⟩|⟨x,_⟩|⟨x,_⟩|⟨x,_⟩|⟨x,_⟩<;>rw [x] at S
  ·cases S
  ·rw [mem_singleton.mp S];exact R 0
  ·rw [mem_singleton.mp S];exact R 1
  ·cases S
  ·cases S
 ·rcases g with ⟨x,_⟩|⟨x,_⟩|⟨x,_⟩|⟨x,_⟩|⟨x,_⟩<;>rw [x]<;>simp
theorem K9 {hs:Hs}{wf:Wf}{k:Dk}{st:Int}{j O:Lf}(o:RK hs st j O)(so:zZ hs)(B:∀fl li he up dn,fo li he up dn->wf fl li he up dn=dz li he up dn):xN hs wf k [(st,1 - st)] 400 (lX st):=by
 rwa[⟨⟨Na j,Na O,by unfold s0;rw [o.ls];rfl,(by show (0:Int)<=(hs.ls.length:Int) - 1;rw [o.ls];show (0:Int)<=2 - 1;decide),(by show (hs.ls.length:Int) - 1<2;rw [o.ls];show (2:Int) - 1<2;decide),.inl ⟨rfl,?_,?_⟩⟩,λs c s' g I R=>g.step o B I R,λs g=>g.sok o,λL J F=>Rx o.s J F⟩]
 ·have h:=so j (by rw [o.ls];exact .head _);rw [o.fl] at h;rwa[⟨rfl,rfl,?_⟩];show (2*j.st,(0:Int),(0:Int))∈zx
  rcases (show j.st=0\/j.st=1 by lia) with z|z<;>rw [z]<;>decide
 ·have h:=so O (by rw [o.ls];exact .tail _ (.head _));rw [o.fl] at h;rwa[⟨rfl,rfl,?_⟩];show (2*O.st,(0:Int),(0:Int))∈zx
  rcases (show O.st=0\/O.st=1 by lia) with z|z<;>rw [z]<;>decide
inductive py (vs:List V)(H:Hp)(Q:VK)(_e:XK):Prop
 |mk (i:Int) (_:vs=[.int i]) (_:Q (.bl true) H)
theorem Ey (F:Z0 K "_law_whole" u4 f fd)(j:mg "isinstance"=none)(z:mg "int"=none)(I:mg "bool"=none):au P w K mg base aT 1 f fd ["_law_thing"] py:=by
 rwa[F.ok DX (by symm) @ch];obtain ⟨i,rfl,q⟩:=h;rwa[⟨_,(ac (aj (pO (bx @fT rfl j boot_isinstance (ar (wv 0) (ar (gQ (v:= .ty "int") rfl z boot_int rfl) ap))) (yV (CW rfl (bx @fT rfl j boot_isinstance (ar (wv 0) (ar (gQ (v:= .ty "bool") rfl I boot_bool rfl) ap)))))))),?_⟩];rwa[⟨rfl,bO rfl ⟨rfl,q⟩⟩]
theorem bW {H H':Hp}{a:Addr}{R:List Int}(h:GO K H a R)(s:ao H H'):GO K H' a R:=⟨s.seq h.1,h.2⟩
theorem MB (j:List iq):noLs (j.map iq.d)=true:=by
 induction j with
 |nil=>rfl
 |cons l j ih=>rw [map_cons,noLs,ih];rfl
theorem K8 {i:Int}(B:0<=i)(h1:i<2):∃s,l9 [V.str "free",.str "way"] i=some (.str s)/\(s=s!"free"\/s=s!"way")/\Gp s:=by
 rcases (show i=0\/i=1 by lia) with rfl|rfl
 ·exact ⟨_,rfl,.inl rfl,by decide+kernel⟩
 ·exact ⟨_,rfl,.inr rfl,by decide+kernel⟩
def Qk (two:Bool)(hs:Hs):Prop:=match two with
 |false=>∃l,hs.ls=[l]/\hs.fl<=3/\l.tn<=2
 |true=>hs.fl=2/\∃la lb,hs.ls=[la,lb]/\la.tn=1/\lb.tn=1/\(la.kd=yT\/la.kd=hst)/\(lb.kd=yT\/lb.kd=hst)/\(la.rm=1\/la.rm=2)/\(lb.rm=1\/lb.rm=2)
def Sm (two:Bool)(tu:Int)(x:iq):Prop:=x.turns=tu/\(x.room=1\/x.room=2)/\(two=true->x.kind=yT\/x.kind=hst)
theorem MH {i:Int}{two:Bool}(B:0<=i)(h1:i<3 - (if two then 1 else 0)):∃s,l9 [V.str "plain",.str "hasty",.str "slow"] i=some (.str s)/\(s=s!"plain"\/s=s!"hasty"\/s=s!"slow")/\(two=true->s=yT\/s=hst):=by
 rcases (show i=0\/i=1\/i=2 by split at h1<;>lia) with rfl|rfl|rfl
 ·exact ⟨_,rfl,.inl rfl,λ_=> .inl rfl⟩
 ·exact ⟨_,rfl,.inr (.inl rfl),λ_=> .inr rfl⟩
 ·exact ⟨_,rfl,.inr (.inr rfl),λz=>by rw [z] at h1;simp at h1⟩
inductive yn (K:Fg)(vs:List V)(H:Hp)(Q:VK)(_e:XK):Prop
 |mk (a ns two:_) (_:vs=[.ref a,.bl two]) (_:GO K H a ns) (_:∀p hs H',ao H H'->me K H' p hs->zZ hs->Qk two hs->Q (.ref p) H')
abbrev Z00:=λP w K mg base=>aU P w K mg base 1 "_law_draw" ["_law_script","_law_k","_law_many"] (se K)
theorem IF {ak:Addr}(F:Z0 K "_law_house" u7 f fd)(aK:mg "range"=none)(qW:mg "int"=none)(cy:Z00 P w K mg base)(iX:aU P w K mg base 4 "made_house" ["floors","lifts","locked","sort"] (λvs H Q _=>mx K ak vs H Q E0)):au P w K mg base aT 5 f fd ["_law_script","_law_two"] (yn K):=by
 rwa[F.ok qg (by symm) (λav A outer s H vs Q E hr h=> ?_)];obtain ⟨a,ns,B,rfl,hS,q⟩:=h;rwa[⟨_,(aa @a (aa @a (gP @es (gP @es (aa @a (aa (cf PassesOwn.never rfl (bK rfl aK (ar (dE @eI bz (aM Aj rfl qW boot_int @bh)) ap)) @a (aa (bP (i:=6) qg.nd rfl @o (eV @eN @a (cO cy hr @c rfl (ar (wv 0) (ar @a (ar (dE C3 bz (aM Aj rfl qW boot_int @bh)) ap)))) @P)) @H)) (aa (bP (i:=7) qg.nd rfl @o (dE C5 bz (aM Aj rfl qW boot_int @E))) (ac (aj (cO iX hr @c rfl (ar (wv 2) (ar (wv 4) (ar (wv 7) @E))))))))))))),?_⟩];rwa[zP (λσ S=>S=H/\∃(fl:Int) (o4 Z U W:Option V),σ=[some (.ref a),some (.bl B),some (.int fl),some (.int 1),o4,Z,U,W]/\2<=fl/\fl<=3/\(B=true->fl=2)) ?_ ?_]
 ·cases B with
  |true=>exact aY rfl (aY rfl ⟨rfl,2,_,_,_,_,rfl,by decide,by decide,λ_=>rfl⟩)
  |false=>
   rwa[bO rfl ?_];rwa[se.mk _ _ _ _ rfl hS @c @c @c λd d0 d1=> ?_];rwa[jy @dh @dh]
   ·exact ⟨rfl,3,_,_,_,_,rfl,by decide,by decide,λz=>nomatch z⟩
   ·exact ⟨rfl,2,_,_,_,_,rfl,by decide,by decide,λ_=>rfl⟩
 rintro σ S ⟨rfl,fl,o4,Z,U,W,rfl,f2,f3,ft⟩;rwa[zP (λσ HY=>HY=S/\∃(tu:Int) (o4 Z U W:Option V),σ=[some (.ref a),some (.bl B),some (.int fl),some (.int tu),o4,Z,U,W]/\1<=tu/\tu<=2/\(B=true->tu=1)) ?_ ?_]
 ·cases B with
  |true=>exact aY rfl (aY rfl ⟨rfl,1,_,_,_,_,rfl,by decide,by decide,λ_=>rfl⟩)
  |false=>
   rwa[bO rfl ?_];rwa[se.mk _ _ _ _ rfl hS @c @c @c λd d0 d1=> ?_];rwa[jy @dh @dh]
   ·exact ⟨rfl,2,_,_,_,_,rfl,by decide,by decide,λz=>nomatch z⟩
   ·exact ⟨rfl,1,_,_,_,_,rfl,by decide,by decide,λ_=>rfl⟩
 rintro σ HY ⟨rfl,tu,an,aD,az,aw,rfl,t1,t2,tt⟩;rwa[jo @bB λl H1 s1 n1 e1=> ?_];rwa[⟨⟨by cases B<;>decide,by cases B<;>decide⟩,?_⟩];rwa[cr (λj σ S=>ao HY S/\∃(ys:List V) (J:List iq) (Z U W:Option V),σ=[some (.ref a),some (.bl B),some (.int fl),some (.int tu),some (.ref l),Z,U,W]/\S l=some (.lst ys)/\aC K S ys (J.map iq.d)/\J.length=j/\∀x∈J,iq.ok fl x=true/\Sm B tu x) ⟨s1,[],[],_,_,_,rfl,e1,.nil,rfl,λx L=>nomatch L⟩ (λj σ S hj pv=> ?_) (λσ S pv=> ?_)]
 ·obtain ⟨sX,ys,J,Z,U,W,rfl,eX,dX,rfl,L⟩:=pv
  have aH:(J.length:Int)<2:=by
   have:(1+if B=true then (1:Int) else 0).toNat<=2:=by cases B<;>decide
   lia
  have yl:ys.length=J.length:=aE dX;have I:=bW hS sX;rwa[jo @bB λlk H2 O n2 e2=> ?_];rwa[se.mk _ _ _ _ rfl (bW I O) @b @b (by cases B<;>decide) λi i0 i1=> ?_];obtain ⟨kd,ek,hk,al⟩:=MH (two:=B) i0 i1;rwa[bb (aA.of e2) ek ?_];rwa[⟨.inl ⟨rfl,_,aA.of (O _ _ eX)⟩,?_⟩];rwa[se.mk _ _ _ _ rfl (bW I O) @b @b @b λst am ay=> ?_];rwa[se.mk _ _ _ _ rfl (bW I O) @b @b @c λr r0 r1=> ?_];rwa[bX (bA (by show 4<=1000000;decide)) λt H3 s3 n3 e3=> ?_];have R:=O.trans s3;rwa[eF (R _ _ eX) @cG ?_];have af:=R _ _ eX;rwa[⟨ao.updF (sX.trans R) n1,ys++[.ref t],J++[⟨st,1+r,tu,kd⟩],_,_,_,rfl,ag,?_,by simp,λx ae=> ?_⟩]
  ·rw [map_append];exact Paired.app (lH (aC.same dX R) (MB J) af) (.cons (bv.noL (d:=iq.d ⟨st,1+r,tu,kd⟩) (fg @fK (.cons (.int _) (.cons (.int _) (.cons (.int _) (.cons (.str _) .nil))))) rfl af) .nil)
  ·rcases mem_append.mp ae with z|z
   ·exact L x z
   ·rw [mem_singleton.mp z];unfold iq.ok;exact ⟨decide_eq_true ⟨am,ay,by show 1<=1+r;lia,by show 1+r<=6;lia,by show 1<=tu;lia,by show tu<=4;lia,hk⟩,rfl,by show 1+r=1\/1+r=2;lia,al⟩
 obtain ⟨sX,ys,J,Z,U,W,rfl,eX,dX,hl,L⟩:=pv;have I:=bW hS sX;rwa[se.mk _ _ _ _ rfl I @c @c @c λz z0 z1=> ?_];rwa[⟨hV @c @c,?_⟩];rwa[jo @bB λl2 H2 O n2 e2=> ?_];rwa[se.mk _ _ _ _ rfl (bW I O) @c @c @c λi i0 i1=> ?_];obtain ⟨so,es,ai,as⟩:=K8 i0 i1;rwa[bb (aA.of e2) es ?_]
 have ab:0<=2*(if decide (z=1)=true then (1:Int) else 0)/\2*(if decide (z=1)=true then (1:Int) else 0)<2^fl.toNat/\2*(if decide (z=1)=true then (1:Int) else 0)% 2=0:=by
  have p4:(4:Int)<=2^fl.toNat:=by
   rcases (show fl=2\/fl=3 by lia) with rfl|rfl<;>decide
  split<;>lia
 generalize 2*(if decide (z=1)=true then (1:Int) else 0)=lo at ab
 have Y:J.length=1+(if B=true then 1 else 0):=by cases B<;>simp at hl ⊢ <;>lia
 have ad:Nn fl J lo so=true:=zd.mpr ⟨⟨f2,by lia⟩,⟨by lia,by split at Y<;>lia⟩,all_eq_true.mpr λx ae=>(L x ae).1,ab,ai⟩;rwa[OZ (.inl (Co (aA.of (O _ _ eX)) (aC.same dX O))) (by split at Y<;>lia) ad λt H3 s3 hh=> ?_];obtain ⟨p,rfl,hC,ah⟩:=Ft hh ad;rwa[q p _ H3 ((sX.trans O).trans s3) hC ah ?_]
 cases B with
 |false=>
  match J,Y,L with
  |[x],_,L=>exact ⟨xc x,rfl,f3,by show x.turns<=2;rw [(L x (.head _)).2.1];exact t2⟩
 |true=>
  match J,Y,L with
  |[x,y],_,L=>
   obtain ⟨x1,x2,x3⟩:=(L x (.head _)).2;obtain ⟨y1,y2,y3⟩:=(L y (.tail _ (.head _))).2;exact ⟨ft rfl,xc x,xc y,rfl,x1.trans (tt rfl),y1.trans (tt rfl),x3 rfl,y3 rfl,x2,y2⟩
theorem Dj {s:Str}{fl:Int}(h:zc s):eS (sd++s) fl=some (.ta s)/\J6 (sd++s):=by
 have W:s.cps.toList.length=36:=by rw [aR];exact h.1
 have B:sd.cps.toList.length=6:=by decide
 have j:(sd++s).cps.toList=sd.cps.toList++s.cps.toList:=nN ..
 have R:Txt.slice (sd++s) none @fl=sd:=by
  apply ux;rw [kZ @c,j];show (sd.cps.toList++s.cps.toList).take 6=_;rw [take_append_of_le_length @b,take_of_length_le @b]
 have O:Txt.slice (sd++s) @fl none=s:=by
  apply ux;rw [jP @c,j];show (sd.cps.toList++s.cps.toList).drop 6=_;rw [drop_append_of_le_length @b,drop_of_length_le @b,nil_append]
 have L:∀t:Str,t.cps.toList.length<40->sd++s≠t:=λt J z=>by
  have:=congrArg (λx:Str=>x.cps.toList.length) z;simp only [j,length_append] at this;lia
 rwa[⟨?_,?_,?_⟩]
 ·unfold eS;rw [if_neg (L _ @c),if_neg (L _ @c),if_neg (L _ @c),if_neg (L _ @c),R,O,if_pos ⟨rfl,h⟩]
 ·rw [<-aR,j,length_append];lia
 ·intro c I;rw [j] at I
  rcases mem_append.mp I with z|z
  ·exact (show ∀c∈sd.cps.toList,c<128 by decide) c z
  ·exact IL h c z
theorem LA {s:Str}{k:Int}{c:Nat}(h:zc s)(F:0<=k)(L:k<36)(I:isL ⟨#[c]⟩):zc (Txt.slice s none (some k)++⟨#[c]⟩++Txt.slice s (some (k+1)) none):=by
 have W:s.cps.toList.length=36:=by rw [aR];exact h.1
 have B:(Txt.slice s none (some k)++⟨#[c]⟩++Txt.slice s (some (k+1)) none).cps.toList=s.cps.toList.take k.toNat++[c]++s.cps.toList.drop (k+1).toNat:=by
  rw [nN,nN,kZ F,jP @b]
 rwa[⟨?_,λx j=> ?_⟩]
 ·rw [<-aR,B];simp only [length_append,length_take,length_drop,length_cons,length_nil];lia
 ·rw [B] at j
  rcases mem_append.mp j with z|z
  ·rcases mem_append.mp z with z|z
   ·exact h.2 x (mem_of_mem_take z)
   ·rw [mem_singleton.mp z];exact I.2 c @e
  ·exact h.2 x (mem_of_mem_drop z)
theorem Ck {i fl:Int}(B:0<=i)(h1:i<4):∃s rk,l9 [V.str KY,.str P7,.str P6,.str P4] i=some (.str s)/\eS s fl=some rk/\J6 s:=by
 rcases (show i=0\/i=1\/i=2\/i=3 by lia) with rfl|rfl|rfl|rfl
 ·exact ⟨KY,.sw,rfl,by unfold eS;rw [if_pos rfl],by decide,show ∀c∈KY.cps.toList,c<128 by decide⟩
 ·exact ⟨P7,.ho,rfl,by unfold eS;rw [if_neg @c,if_pos rfl],by decide,show ∀c∈P7.cps.toList,c<128 by decide⟩
 ·exact ⟨P6,.ne,rfl,by unfold eS;rw [if_neg @c,if_neg @c,if_pos rfl],by decide,show ∀c∈P6.cps.toList,c<128 by decide⟩
 ·exact ⟨P4,.ba (fl - 1),rfl,by unfold eS;rw [if_neg @c,if_neg @c,if_neg @c,if_pos rfl],by decide,show ∀c∈P4.cps.toList,c<128 by decide⟩
inductive Dy (K:Fg)(k:Ks)(vs:List V)(H:Hp)(Q:VK)(_e:XK):Prop
 |mk (a ns fl:_) (_:vs=[.ref a,.int fl]) (_:GO K H a ns) (_:2<=fl) (_:∀ra dx (rk:Rk) H',rk.ok->ao H H'->H' ra=some (.ins @eM dx rk.fs)->Q (.ref ra) H')
theorem LY {k:Ks}{ad:Addr}(F:Z0 K "_law_rule" yK f fd)(aK:mg "range"=none)(cy:Z00 P w K mg base)(d5:aU P w K mg base 3 "rule_of" ["text","floors"] (λvs H Q _=>fS K k ad vs H Q E0))(nM:aU P w K mg base 3 "as_table" ["rule"] (DK K k)):au P w K mg base aT 4 f fd ["_law_script","_law_floors"] (Dy K k):=by
 rwa[F.ok uS (by symm) (λah A outer s H vs Q E hr h=> ?_)];obtain ⟨a,ns,fl,rfl,hS,f2,q⟩:=h;rwa[⟨_,(aa @a (aa (ax @a (ac (aj (cO d5 hr @c rfl @gn))) aq) (aa (bP (i:=3) uS.nd rfl @o (cO nM hr @c rfl (ar (cO d5 hr @c rfl (ar cN @bh)) ap))) (gP (ax @a (aa @a (ac @a)) (ac (bP (i:=3) uS.nd rfl @o (ij rfl PySem.F.plainAttrs_str PySem.F.slot_str_join PySem.F.type_str_join (ya rfl) cN (ar (bG rfl (aD (N':=["_law_k","_law_script"]) (pk:=[none,some 0]) @m) (bK rfl aK (ar bz ap)) @k @z @k) ap))))) (ac (aj (cO d5 hr @c rfl @gn))))))),?_⟩];rwa[se.mk _ _ _ _ rfl hS @c @c @c λae w0 w1=> ?_];rwa[jy @s @s]
 ·ext;rwa[jo @bB λl1 H1 s1 n1 e1=> ?_];obtain ⟨s,rk,es,Y,U⟩:=Ck (fl:=fl) w0 z;rwa[bb @eY es ?_];exact pD U.1 Y λra dx H2 s2 n2 e2=>q ra dx rk H2 (lj f2 Y) (s1.trans s2) e2
 ext
 have Y:eS KY fl=some .sw:=by unfold eS;rw [if_pos rfl]
 rwa[pD (s:=KY) @c Y λra dx H1 s1 n1 e1=> ?_];rwa[DK.mk _ _ _ rfl (lj f2 Y) e1 λH2 s2=> ?_];have J:=KP (lj f2 Y);generalize Rk.tbl .sw=L at J ⊢;have R:=s1.trans s2;have I:=bW hS R;rwa[zP (λσ S=>ao H S/\∃(t:Str) (o3:Option V),σ=[some (.ref a),some (.int fl),some (.int ae),some (.str t),o3]/\zc t) ?_ ?_]
 ·ext;rwa[jy @dh @dh]
  ·ext;erw[se.mk _ _ _ _ rfl I @c @c @c λZ a0 a1=> ?_];have lL:L.length=36:=J.1;rwa[⟨bA @b,?_⟩];rwa[se.mk _ _ _ _ rfl I @c @c @c λj j0 j1=> ?_];obtain ⟨c,ec,hL⟩:=Fi j0 j1;rwa[uN (bA @c) ec ?_]
   have la:(Txt.slice L none (some Z)).length<=36:=by rw [<-aR,kZ a0,length_take,aR];lia
   have lb:(Txt.slice L (some (Z+1)) none).length<=36:=by rw [<-aR,jP @b,length_drop,aR];lia
   have lc:(⟨#[c]⟩:Str).length=1:=rfl;rwa[⟨bA @b,?_⟩];rwa[⟨bA @b,?_⟩];rwa[⟨bA (by rw [strLen_append];lia),?_⟩];exact ⟨R,_,_,rfl,LA J a0 a1 hL⟩
  ·ext;rwa[⟨rfl,?_⟩];rwa[⟨⟨by decide,by decide⟩,?_⟩];rwa[fi (λi ys S=>S=H2/\∃B:List Str,ys=B.map V.str/\B.length=i/\∀x∈B,isL x) (bA @c) (λi ys S p=>by obtain ⟨_,B,rfl,l,_⟩:=p;rw [length_map,l];exact Nat.le_refl _) ⟨rfl,[],rfl,rfl,λx O=>nomatch O⟩ (λi ys S hi p=> ?_) (λys S p l n=> ?_)]
   ·obtain ⟨rfl,B,rfl,W,U⟩:=p;have ak:i<36:=hi;rwa[⟨cu,?_⟩];rwa[se.mk _ _ _ _ rfl I @b @b @c λj j0 j1=> ?_];obtain ⟨c,ec,hL⟩:=Fi j0 j1;rwa[uN (bA @c) ec ?_];rwa[⟨rfl,B++[⟨#[c]⟩],by rw [map_append];rfl,by rw [length_append,W];rfl,λx O=> ?_⟩]
    rcases mem_append.mp O with O|O
    ·exact U x O
    ·rw [mem_singleton.mp O];exact hL
   ·obtain ⟨rfl,B,rfl,W,U⟩:=p;have W:B.length=36:=W;obtain ⟨g1,g2⟩:=tS (z:=s!"") @A (ts:=B) λt h=>(U t h).1;rwa[Fm (ts:=B) @eV @bq @bq ?_];exact ⟨R.trans (.upd n),_,_,rfl,AC ⟨W,U⟩⟩
 rintro σ' H' ⟨sX,t,o3,rfl,ot⟩;obtain ⟨ab,af⟩:=Dj (fl:=fl) ot;ext;have W:t.length=36:=ot.1
 have l6:(s!"table ").length=6:=by decide
 rwa[⟨bA @b,?_⟩];exact pD af.1 ab λra dx H3 s3 n3 e3=>q ra dx _ H3 (lj f2 ab) (sX.trans s3) e3
theorem Pk {i:Int}(B:0<=i)(h1:i<3):∃k:Dk,l9 [V.str "near",.str "turns",.str "least"] i=some (.str k.tx):=by
 rcases (show i=0\/i=1\/i=2 by lia) with rfl|rfl|rfl
 ·exact ⟨.near,rfl⟩
 ·exact ⟨.turns,rfl⟩
 ·exact ⟨.least,rfl⟩
def RV (two:Bool)(wf:Wf):Prop:=two=true->∀fl li he up dn,fo li he up dn->wf fl li he up dn=dz li he up dn
inductive DH (P:Program)(w:World)(K:Fg)(mg:Str->Option Value)(base:Heap)(C Pn Pl:Addr)(vs:List V)(H:Hp)(Q:VK)(_e:XK):Prop
 |mk (a ns:_) (_:vs=[.ref a]) (_:GO K H a ns) (_:lY Pn Pl H) (_:∀ca hs wf k two H',ao H H'->CP P w K mg base C Pn Pl H' ca hs wf k->zZ hs->Qk two hs->RV two wf->Q (.ref ca) H')
theorem Mg {kC Pn Pl Z Y U ah:Addr}{k:Ks}(ag:Pn≠Pl)(F:Z0 K "_law_court" u8 f fd)(R:Qh K P w mg base k)(cC:GU K kC)(zn:i6 P w K mg base aT 1 "Court" kC (Hl K))(tT:mg "near"=some (.ref Z))(nr:mg "least"=some (.ref Y))(eM:mg "by_turns"=some (.ref U))(Gd:aU P w K mg base 5 "near" ["cabins","waiting","rider","last"] (uC K Pn))(zS:aU P w K mg base 5 "least" ["cabins","waiting","rider","last"] (As K Pl))(nL:aU P w K mg base 3 "by_turns" ["cabins","waiting","rider","last"] (pz K))(kj:aU P w K mg base 2 "dealer_of" ["text","house"] (λvs H Q _=>DG Z Y U vs H Q E0))(d5:aU P w K mg base 3 "rule_of" ["text","floors"] (λvs H Q _=>fS K k ah vs H Q E0))(cy:Z00 P w K mg base)(rN:aU P w K mg base 5 "_law_house" ["_law_script","_law_two"] (yn K))(ub:aU P w K mg base 4 "_law_rule" ["_law_script","_law_floors"] (Dy K k)):au P w K mg base aT 6 f fd ["_law_script"] (DH P w K mg base kC Pn Pl):=by
 rwa[F.ok wM (by symm) (λav A outer s H vs Q E hr h=> ?_)];obtain ⟨a,ns,rfl,W,hG,q⟩:=h
 have cv:∀d:Dk,ko P w K mg base 5 (d.ad Z Y U) (p9 K @cg qG (kg d)):=by
  obtain ⟨f1,x1,F1⟩:=Gd.fnv;rw [tT] at x1;cases x1;obtain ⟨f2,x2,F2⟩:=zS.fnv;rw [nr] at x2;cases x2;obtain ⟨f3,x3,F3⟩:=nL.fnv;rw [eM] at x3;cases x3;exact M4 ag F1.cal F2.cal F3.cal
 rwa[⟨_,(aa @a (aa @a (aa @a (gP (ax @a (ac (bP (i:=3) wM.nd rfl @o (cO d5 hr @c rfl (ar cN (ar bz ap))))) aq) (ac (aj (gv zn fX hr @c rfl (ar (wv 2) (ar (wv 3) (ar (cO kj hr @c rfl (ar @a @dg)) ap)))))))))),?_⟩];rwa[se.mk _ _ _ _ rfl W @c @c @c λd d0 d1=> ?_];rwa[yn.mk _ _ _ rfl W λh hs H1 s1 hH ab hP=> ?_];have aL:=bW W s1;obtain ⟨al,hp,aw,ai,_,_⟩:=id hH;rwa[ak ai rfl ?_];rwa[Dy.mk _ _ _ rfl aL al.f2 λJ ae I H2 j s2 e2=> ?_];generalize decide (d=3)=B at hP;have am:=s1.trans s2;rwa[zP (λσ HX=>ao H2 HX/\∃(J dx:Addr) (I:Rk),σ=[some (.ref a),some (.bl B),some (.ref h),some (.ref J)]/\I.ok/\HX J=some (.ins (I.cl k) dx I.fs)/\(B=true->I= .sw)) ?_ ?_]
 ·rwa[zw @s @s]
  ·rwa[pD (s:=KY) (rk:= .sw) @c (by unfold eS;rw [if_pos rfl]) λrb dx H3 O n3 e3=> ?_];exact ⟨O,rb,dx,.sw,rfl,trivial,e3,λ_=>rfl⟩
  ·exact ⟨.refl _,J,ae,I,rfl,j,e2,λy=>by rw [y] at z;cases z⟩
 rintro σ H3 ⟨O,J,dx,I,rfl,j,e3,an⟩;have af:=am.trans O;have bi:=bW W af;rwa[jo @bB λl2 H4 S n4 e4=> ?_];rwa[se.mk _ _ _ _ rfl (bW bi S) @c @c @c λi i0 i1=> ?_];obtain ⟨dk,ed⟩:=Pk i0 i1;rwa[bb (aA.of e4) ed ?_];rwa[Sk ?_];rwa[Ro cC λca as H5 s5 n5 e5=> ?_];have L:=(af.trans S).trans s5;rwa[q ca hs I.word dk B H5 L ⟨⟨as,h,J,dk.ad Z Y U,e5,hH.same (((s2.trans O).trans S).trans s5),Ls R j ((S.trans s5) _ _ e3),cv dk⟩,fN _ _ L.st hG⟩ ab hP λz=> ?_];rw [an z];exact λ_ _ _ _ _ _=>rfl
theorem O4 {s i fl:Int}(W:0<=s)(J:s<fl)(j:0<=i)(B:i<fl - 1):xQ fl (s,(s+1+i)% fl):=by
 rwa[⟨W,J,Int.emod_nonneg _ @b,Int.emod_lt_of_pos _ @b,λz=> ?_⟩];have z:s=(s+1+i)% fl:=z;by_cases w:s+1+i<fl
 ·rw [Int.emod_eq_of_lt @b w] at z;lia
 ·have e:(s+1+i)% fl=s+1+i - fl:=by
   rw [show s+1+i=(s+1+i - fl)+fl by lia,Int.add_emod_right,Int.emod_eq_of_lt @b @b];lia
  lia
def RP (two:Bool)(ks:List (Int×Int)):Prop:=if two=true then ks.length=1 else ks.length<=2
inductive DC (K:Fg)(vs:List V)(H:Hp)(Q:VK)(_e:XK):Prop
 |mk (a ns h hs two:_) (_:vs=[.ref a,.ref h]) (_:GO K H a ns) (_:me K H h hs) (_:Qk two hs) (_:∀p ks H',ao H H'->fu K H' p hs.fl ks->RP two ks->Q (.ref p) H')
theorem L9 (F:Z0 K "_law_kinds" u6 f fd)(aK:mg "range"=none)(qW:mg "int"=none)(bp:mg "len"=none)(cy:Z00 P w K mg base):au P w K mg base aT 2 f fd ["_law_script","_law_house_here"] (DC K):=by
 rwa[F.ok DZ (by symm) @N];obtain ⟨a,ns,h,hs,B,rfl,hS,hH,hP,q⟩:=h;obtain ⟨ae,hp,R,I,bc,bq⟩:=id hH;have f2:=ae.f2;have f8:=ae.f8;have xl:R.length=hs.ls.length:=bq.len
 have O:decide ((hs.ls.length:Int)=1)= !B:=by
  cases B with
  |false=>obtain ⟨l,e,_⟩:=hP;rw [e];rfl
  |true=>obtain ⟨_,la,lb,e,_⟩:=hP;rw [e];rfl
 rwa[⟨_,(aa @a (aa (cf PassesOwn.never rfl (bK rfl aK (ar (dE @eI bz (dE C5 @a (aM Aj rfl qW boot_int @E))) ap)) @a (aa @a @H)) @dv)),?_⟩];rwa[jo @bB λl H1 U n1 e1=> ?_];rwa[se.mk _ _ _ _ rfl (bW hS U) @c @c @c λm m0 m1=> ?_];rwa[ak (U.seqT I) rfl ?_];rwa[eJ (U.seqT bc) ?_];rwa[⟨hV @b @b,?_⟩]
 have ab:∃n:Nat,1+m*(if decide ((R.length:Int)=1)=true then (1:Int) else 0)=(n:Int)/\1<=n/\n<=2/\(B=true->n=1):=by
  rw [xl,O]
  cases B with
  |true=>exact ⟨1,by simp,by decide,by decide,λ_=>rfl⟩
  |false=>
   rwa[⟨(1+m).toNat,?_,by lia,by lia,λz=>nomatch z⟩];show 1+m*1=_;lia
 obtain ⟨n,en,k1,k2,k3⟩:=ab;rwa[⟨⟨by rw [en];lia,by rw [en];lia⟩,?_⟩];rw [en,show (((n:Nat):Int)).toNat=n by lia];rwa[cr (λj σ L=>ao H L/\∃(ys:List V) (ks:List (Int×Int)) (o3 o4:Option V),σ=[some (.ref a),some (.ref h),some (.ref l),o3,o4]/\L l=some (.lst ys)/\aC K L ys @ev/\ks.length=j/\∀k∈ks,xQ hs.fl k) ⟨U,[],[],_,_,rfl,e1,.nil,rfl,λx hx=>nomatch hx⟩ (λj σ L hj Z=> ?_) (λσ L Z=> ?_)]
 ·obtain ⟨J,ys,ks,o3,o4,rfl,W,Y,rfl,hk⟩:=Z
  have aH:(ks.length:Int)<2:=by lia
  have yl:ys.length=ks.length:=aE Y;have S:=bW hS J;rwa[⟨hV @c @c,?_⟩];rwa[ak (J.seqT I) rfl ?_];rwa[se.mk _ _ _ _ rfl S @b @b @b λst am ay=> ?_];rwa[⟨.inl ⟨rfl,_,aA.of W⟩,?_⟩];rwa[⟨hV @c @c,?_⟩];rwa[ak (J.seqT I) rfl ?_];rwa[se.mk _ _ _ _ rfl S @b @b @b λi i0 i1=> ?_];rwa[ak (J.seqT I) rfl ?_];rwa[⟨by lia,?_⟩];rwa[bX (bA (by show 2<=1000000;decide)) λt H3 s3 n3 e3=> ?_];have af:=s3 _ _ W;rwa[eF af @cG ?_];rwa[⟨ao.updF (J.trans s3) n1,ys++[.ref t],ks++[(st,(st+1+i)% hs.fl)],_,_,rfl,ag,?_,by simp,λx hx=> ?_⟩]
  ·rw [map_append];exact Paired.app (lH (aC.same Y s3) (jb ks) af) (.cons (bv.noL (d:=cB (st,(st+1+i)% hs.fl)) (fg @fK (.cons (.int _) (.cons (.int _) .nil))) rfl af) .nil)
  ·rcases mem_append.mp hx with z|z
   ·exact hk x z
   ·rw [mem_singleton.mp z];exact O4 am ay i0 i1
 obtain ⟨J,ys,ks,o3,o4,rfl,W,Y,hl,hk⟩:=Z;rwa[q l ks L J ⟨ys,W,Y,by lia,by lia,hk⟩ ?_];unfold RP;split
 ·rename_i z;rw [hl,k3 z]
 ·lia
theorem Mb (F:Z0 K "_law_inside" qv f fd):au P w K mg base aT 2 f fd ["_law_state","_law_kind"] (gA K):=by
 rwa[F.ok mF @ba (λal A outer s H vs Q E hr h=> ?_)]
 ·unfold gA at h;obtain ⟨st,hs,n,S,J,Y,k,rfl,_⟩:=h;rfl
 unfold gA at h;obtain ⟨st,hs,n,S,J,Y,k,rfl,hS,ab,q⟩:=h;have Z:=hS.c64;have cl:=hS.cl;have wl:J.length<=64:=Nat.le_trans hS.o.w ab;obtain ⟨tc,tw,xs,ys,h1,h2,h3,h4,h5⟩:=hS.a;have yl:ys.length=J.length:=aE h5;have xl:xs.length=S.length:=h4.len;rwa[⟨_,(aa (i9 (i:=2) rfl mF.nd rfl @o (aD (N':=["_law_rider"]) (pk:=[none]) @m) @a @k @z @k) (aa (cf PassesOwn.never rfl @a @a (ac (bP (i:=2) mF.nd rfl @o (dE @eI (wv 2) (bG rfl (aD (N':=["_law_pair_here"]) (pk:=[none]) @m) @a @k @z @k))))) @g)),?_⟩];rwa[ak h1 rfl ?_];rwa[dN h3 ?_];rwa[cW (xs:=ys) (λj B z=>ao H z/\B=((J.take j).map (·.tag)).map V.int) @bq (λj B z h=>by rw [h.2,length_map,length_map,length_take];exact Nat.min_le_left _ _) ⟨.refl _,rfl⟩ (λj B z _ h=>h.1.seqT h3) @ck (λB z O l n=> ?_)]
 ·obtain ⟨R,rfl⟩:=O;obtain ⟨r,ad,dr⟩:=bC (f:=aO.d) h5 hy;obtain ⟨ra,rfl,hT⟩:=fD (bv.same dr R);rwa[⟨cu,?_⟩];rwa[ak hT rfl ?_];rwa[⟨R,?_⟩];rw [take_add_one,ad,map_append,map_append];rfl
 obtain ⟨R,rfl⟩:=O;rw [yl,take_of_length_le @f];have s2:ao z (upd z l (.lst ((J.map (·.tag)).map V.int))):= .upd n;have e2:upd z l (.lst ((J.map (·.tag)).map V.int)) l=some (.lst ((J.map (·.tag)).map V.int)):=ag;generalize am:upd z l (.lst ((J.map (·.tag)).map V.int))=H2 at s2 e2 ⊢;have L:=R.trans s2;rwa[ak (L.seqT h1) rfl ?_];rwa[dN (L.seqT h2) ?_];rwa[rj (xs:=xs) (λi σ I=>ao H I/\∃(lt:Addr) (o3:Option V),σ=[some (.ref st),some (.int k),some (.ref lt),o3]/\I lt=some (.lst ((J.map (·.tag)++(S.take i).flatMap λc=>c.ps.map (·.1)).map V.int))) ⟨L,l,_,rfl,by rw [take_zero,flatMap_nil,append_nil];exact e2⟩ (λi σ I _ W=>W.1.seqT h2) (λi x σ I hx W=> ?_) (λσ I W=> ?_)]
 ·obtain ⟨sY,lt,o3,rfl,eY⟩:=W;obtain ⟨c,hc,t,rfl,ae⟩:=h4.get1 hx;obtain ⟨b,bs,et,eb,db⟩:=ae.keep sY.st;have bl:bs.length=c.ps.length:=aE db;have ah:=Z c (mem_of_getElem? hc);rwa[ak (aB.of et) rfl ?_];rwa[dN @eW ?_];rwa[cW (xs:=bs) (λj B z=>ao I z/\B=((c.ps.take j).map (·.1)).map V.int) @bq (λj B z h=>by rw [h.2,length_map,length_map,length_take];exact Nat.min_le_left _ _) ⟨.refl _,rfl⟩ (λj B z _ h=>h.1.seqT @eW) @ck (λB HZ O l3 n3=> ?_)]
  ·obtain ⟨R,rfl⟩:=O;obtain ⟨p,pt,hp,rfl,af⟩:=lr db hy;rwa[⟨cu,?_⟩];rwa[ak (R.seqT af) rfl ?_];rwa[⟨R,?_⟩];rw [take_add_one,hp,map_append,map_append];rfl
  obtain ⟨R,rfl⟩:=O;rw [bl,take_of_length_le @f];have s3:ao HZ (upd HZ l3 (.lst ((c.ps.map (·.1)).map V.int))):= .upd n3;have e3:upd HZ l3 (.lst ((c.ps.map (·.1)).map V.int)) l3=some (.lst ((c.ps.map (·.1)).map V.int)):=ag;generalize ai:upd HZ l3 (.lst ((c.ps.map (·.1)).map V.int))=H3 at s3 e3 ⊢;have U:=R.trans s3;rwa[A0 (U _ _ eY) e3 (bA ?_) λl4 H4 s4 n4 e4=> ?_]
  ·have h1:((S.take i).flatMap λc=>c.ps.map (·.1)).length<=64*(S.take i).length:=rn λc hc=>Z c (mem_of_mem_take hc)
   have h2:(S.take i).length<=10:=by rw [length_take];lia
   simp only [length_map,length_append];lia
  ·rwa[⟨(sY.trans U).trans s4,l4,_,rfl,?_⟩];rw [e4,take_add_one,hc];simp only [Option.toList_some,flatMap_append,flatMap_cons,flatMap_nil,append_nil,map_append,append_assoc]
 obtain ⟨sY,lt,o3,rfl,eY⟩:=W;rw [xl,take_of_length_le @f] at eY;rwa[qc (aA.of eY) rfl (nv _) ?_];rw [vv];exact q I sY
theorem Mh (F:Z0 K "_law_choices" mT f fd)(bp:mg "len"=none)(aK:mg "range"=none)(oK:aU P w K mg base 2 "_law_inside" ["_law_state","_law_kind"] (gA K)):au P w K mg base aT 3 f fd ["_law_state","_law_kinds_here"] (uI K):=by
 rwa[F.ok yD @ba @bP]
 ·unfold uI at h;obtain ⟨st,kp,hs,n,j,J,I,fl,ks,rfl,_⟩:=h;rfl
 unfold uI at h;obtain ⟨st,kp,hs,n,j,J,I,fl,ks,rfl,Y,bs,⟨xs,hx,hd,k1,k4,hk⟩,q⟩:=h;have xl:xs.length=ks.length:=aE hd;rwa[⟨_,(ac (aj (dE @eI @a (bG rfl (aD (N':=["_law_kind","_law_state"]) (pk:=[none,some 0]) @m) @cx @k (λC s H ex=>(eK (b7 @a))) @Q)))),?_⟩];rwa[jo @bB λl1 H1 L n1 W=> ?_];erw[bH (aA.of (L _ _ hx)) ?_];rw [xl];rwa[⟨⟨by lia,by lia⟩,?_⟩];rwa[fi (λi ys H'=>ao H1 H'/\ys=(AU (aV j J) i).map V.int) @bq @ee ⟨.refl _,rfl⟩ @dw (λys H' p l Z=> ?_)]
 ·rw [p.2,length_map];exact gW
 ·obtain ⟨B,rfl⟩:=p;rwa[⟨cu,?_⟩];rwa[JO ((Y.nt L.nt).nt B.nt) bs λH2 O=> ?_]
  have S:(0:Int)+(i:Nat)=((i:Nat):Int):=by lia
  rw [S];ext
  cases R:decide ((i:Int)∈aV j J) with
  |true=>
   rwa[⟨B.trans O,?_⟩];rw [pM,R];simp
  |false=>
   rwa[⟨B.trans O,?_⟩];rw [pM,R];simp
 ·obtain ⟨B,rfl⟩:=p;rw [show ((ks.length:Int)).toNat=ks.length by lia];have O:ao H' (upd H' l (.lst ((AU (aV j J) ks.length).map V.int))):= .upd Z;rwa[A0 (O _ _ (B _ _ W)) ag (bA ?_) λl3 U s3 n3 e3=> ?_]
  ·have:=gW (ts:=aV j J) (i:=ks.length);simp only [length_map,length_cons,length_nil];lia
  ·have z:=((L.trans B).trans O).trans s3;rwa[q l3 U z (none_of ((L.trans B).trans O) n3) ?_];rw [e3];rfl
inductive Dw (K:Fg)(vs:List V)(H:Hp)(Q:VK)(_e:XK):Prop
 |mk (g l0 l1 l2 wl xs zs G:_) (_:vs=[.ref g]) (_:sU K H g l0 l1 l2 wl xs zs G) (_:G.W.length=G.S.length) (_:G.F.length=G.S.length) (_:1<=G.S.length) (_:Q (.bl true) H)
theorem LX (F:Z0 K "_law_shape" u5 f fd)(R:mg "isinstance"=none)(bh:mg "tuple"=none)(W:mg "list"=none)(bp:mg "len"=none):au P w K mg base aT 1 f fd ["_law_graph"] (Dw K):=by
 rwa[F.ok DY (by symm) (λZ A outer s H vs Q E hr h=> ?_)];obtain ⟨g,l0,l1,l2,wl,xs,zs,G,rfl,j,lw,lf,Y,q⟩:=h;have L:xs.length=G.S.length:=j.dS.len
 have U:zs.length=G.S.length:=by have:=j.dF.len;rw [length_map] at this;lia
 have aP:(wl.map V.ref).length=G.S.length:=by rw [length_map,j.lW,lw]
 rwa[⟨_,(aa (ax (PW.pt (jt (b7 (kz rfl (bx @fT rfl R boot_isinstance (ar (wv 0) (ar (gQ (v:= .ty "tuple") rfl bh boot_tuple rfl) ap))))) (iO @a))) @X aq) (aa (cf PassesOwn.never rfl @a @a (ac (ax (PW.pt (jt (b7 (kz rfl (bx @fT rfl R boot_isinstance (ar (wv 1) (ar (gQ (v:= .ty "list") rfl W boot_list rfl) ap))))) (iO @a))) @X aq))) @g)),?_⟩];rwa[lC rfl (.tup j.eg) rfl ?_];rwa[aY rfl ?_];rwa[eJ @dZ ?_];rwa[vx rfl ?_];rwa[dN @dZ ?_];rwa[rj (xs:=[.ref l0,.ref l1,.ref l2]) (λi σ B=>B=H/\∃I,σ=[some (.ref g),I]) ⟨rfl,_,rfl⟩ (λi σ B _ O=>by rw [O.1];exact aB.of j.eg) (λi x σ B z O=> ?_) (λσ B O=> ?_)]
 ·obtain ⟨rfl,I,rfl⟩:=O
  have:∃l ys,x= .ref l/\B l=some (.lst ys)/\ys.length=G.S.length:=by
   match i,z with
   |0,z=>cases z;exact ⟨l0,xs,rfl,j.e0,L⟩
   |1,z=>cases z;exact ⟨l1,_,rfl,j.e1,aP⟩
   |2,z=>cases z;exact ⟨l2,zs,rfl,j.e2,U⟩
  obtain ⟨l,ys,rfl,J,yl⟩:=this;rwa[lC rfl (.lst J) rfl ?_];rwa[aY rfl ?_];rwa[bH (aA.of J) ?_];rwa[ak @dZ rfl ?_];rwa[bH @ge ?_];rw [yl,L];rwa[vx @e ?_];exact ⟨rfl,_,rfl⟩
 ·obtain ⟨rfl,I,rfl⟩:=O;rwa[ak @dZ rfl ?_];rwa[bH @ge ?_];have e:decide ((0:Int)<(xs.length:Int))=true:=decide_eq_true @b;show Q (.bl (decide ((0:Int)<(xs.length:Int)))) B;rw [e];exact q
inductive pX (K:Fg)(vs:List V)(H:Hp)(Q:VK)(_e:XK):Prop
 |mk (t:_) (i j:Int) (_:vs=[.ref t]) (_:aB K H t [.int i,.int j]) (_:Q (.bl true) H)
theorem Iy (F:Z0 K "_law_pair" yL f fd)(J:mg "isinstance"=none)(I:mg "tuple"=none)(Y:mg "len"=none)(z:aU P w K mg base 1 "_law_whole" ["_law_thing"] py):au P w K mg base aT 2 f fd ["_law_thing"] (pX K):=by
 rwa[F.ok Hv (by symm) @ch];obtain ⟨t,i,j,rfl,L,q⟩:=h;rwa[⟨_,(ac (aj (pO (bx (Ai rfl) rfl J boot_isinstance (ar (wv 0) (ar (gQ (v:= .ty "tuple") rfl I boot_tuple rfl) ap))) (pO (dG (wg rfl S) (bx (Ah rfl) rfl Y PySem.boot_len @eb) bz (bF _)) (pO (cO z S @c rfl (ar (eV @eN (wv 0) bz @P) ap)) (yV (cO z S @c rfl (ar (eV @eN (wv 0) bz @P) ap)))))))),?_⟩];rwa[Fo L rfl rfl ?_];rwa[bO rfl ?_];rwa[eJ L ?_];rwa[bO rfl ?_];rwa[ak L rfl ?_];rwa[py.mk _ rfl ?_];rwa[bO rfl ?_];rwa[ak L rfl ?_];exact py.mk _ rfl q
inductive yi (K:Fg)(vs:List V)(H:Hp)(Q:VK)(_e:XK):Prop
 |mk (l xs S:_) (_:vs=[.ref l]) (_:H l=some (.lst xs)) (_:Paired (λx (s:SS)=>∃a,x=V.ref a/\d6 K H a s.cs s.ws s.last false) xs S) (_:S.Nodup) (_:S.length<=500) (_:∀dn H',ao H H'->H dn=none->cX K H' dn @fm->Q (.ref dn) H')
theorem IX {S:List SS}{s:SS}:fZ 0 S++[(s.d,.int (S.length:Int))]=fZ 0 (S++[s]):=by
 rw [zq,Nat.zero_add];rfl
theorem Bh {S:List SS}{s:SS}{i:Nat}(h:S[i]? =some s):S.take (i+1)=S.take i++[s]:=by rw [take_add_one,h];rfl
theorem B1 {S:List SS}{s:SS}{i:Nat}(J:S.Nodup)(h:S[i]? =some s):s∉S.take i:=λz=>by
 obtain ⟨j,Z⟩:=mem_iff_getElem?.mp z;rw [List.getElem?_take] at Z;split at Z
 ·rename_i B;have:=(List.getElem?_inj (List.getElem?_eq_some_iff.mp h).1 J).mp (h.trans Z.symm);lia
 ·cases Z
theorem Iz (F:Z0 K "_law_numbers" mR f fd)(aL:mg "isinstance"=none)(bh:mg "tuple"=none)(bp:mg "len"=none)(aK:mg "range"=none):au P w K mg base aT 1 f fd ["_law_states"] (yi K):=by
 rwa[F.ok qf (by symm) @N];obtain ⟨l,xs,S,rfl,Y,dS,nd,ab,q⟩:=h;have xl:xs.length=S.length:=dS.len;rwa[⟨_,(aa (bP (i:=1) qf.nd rfl @o lq) (aa (cf PassesOwn.never rfl (bK rfl aK (ar (bx (Ah rfl) rfl bp PySem.boot_len @eb) ap)) @a (aa (ax (PW.pt (jt (b7 (kz rfl (bx (Ai rfl) rfl aL boot_isinstance (ar @ct (ar (gQ (v:= .ty "tuple") rfl bh boot_tuple rfl) ap))))) (iO (yS (Ie rfl @fR @ct (wv 1)))))) (ac (aj lq)) aq) (ac (wU rfl @fR (wv 1) @ct (wv 2) rfl)))) @eU)),?_⟩];intro dn B a1;have s1:ao H (upd H dn @ea):= .upd B;have O:cX K (upd H dn @ea) dn (fZ 0 []):=FW a1;generalize upd H dn @ea=H1 at s1 O;rwa[bH (aA.of (s1 _ _ Y)) ?_];rwa[⟨⟨by lia,by lia⟩,?_⟩];rw [xl,show ((S.length:Int)).toNat=S.length by lia];rwa[cr (λj σ L=>ao H L/\cX K L dn (fZ 0 @gq)/\∃o2,σ=[some (.ref l),some (.ref dn),o2]) ⟨s1,O,_,rfl⟩ (λj σ L hj pv=> ?_) (λσ L pv=> ?_)]
 ·obtain ⟨J,Z,o2,rfl⟩:=pv;have R:=getElem?_eq_getElem (show j<xs.length by lia);obtain ⟨t,ht,a,ha,z⟩:=dS.get1 R;have z:=z.keep J.st
  have I:l9 xs ((0:Int)+(j:Int))=some (.ref a):=by rw [Int.zero_add,bD R,ha]
  obtain ⟨tc,tw,_,_,hT,_⟩:=id z;have U:=B1 nd ht;rwa[bb @eP I ?_];rwa[Fo hT rfl rfl ?_];rwa[aY rfl ?_];rwa[bb @eP I ?_];rwa[⟨dn,dJ (fZ 0 @gq) t.d,rfl,⟨_,a,t.d,rfl,Z,gz z,t.gd,rfl⟩,?_⟩];rw [j9,if_neg U];rwa[⟨_,rfl,aY rfl ?_⟩];rwa[bb @eP I ?_]
  have W:(S.take j).length=j:=by rw [length_take];lia
  rwa[⟨dn,rfl,fZ 0 @gq,a,t.d,rfl,Z,gz z,t.gd,vW (by rw [vp,W];lia),by rw [j9,if_neg U],λys hd=> ?_⟩];rwa[⟨ao.updF J B,?_,_,rfl⟩];have:=hd _ rfl;rw [Bh ht,<-IX,W];rw [show ((0:Int)+(j:Int))=(j:Int) by lia] at this;exact this
 ·obtain ⟨J,Z,o2,rfl⟩:=pv;rw [take_length] at Z;exact q dn L J B Z
def RZ (G:Gr):Prop:=G.F[0]? =some none/\G.W.length=G.F.length/\∀j,1<=j->j<G.F.length->∃i c u,G.F[j]? =some (some (i,c))/\i<j/\G.W[i]? =some u/\(c,j)∈u
inductive DE (K:Fg)(vs:List V)(H:Hp)(Q:VK)(_e:XK):Prop
 |mk (g l0 l1 l2 wl xs zs G:_) (_:vs=[.ref l1,.ref l2]) (_:sU K H g l0 l1 l2 wl xs zs G) (_:RZ G) (_:G.F.length<=500) (_:∀H',ao H H'->Q (.bl true) H')
theorem Me (F:Z0 K "_law_found_right" gL f fd)(bp:mg "len"=none)(aK:mg "range"=none)(ge:aU P w K mg base 2 "_law_pair" ["_law_thing"] (pX K)):au P w K mg base aT 3 f fd ["_law_ways","_law_firsts"] (DE K):=by
 rwa[F.ok jw (by symm) (λae A outer s H vs Q E hr h=> ?_)];obtain ⟨g,l0,l1,l2,wl,xs,zs,G,rfl,B,⟨f0,af,ff⟩,ad,q⟩:=h
 have zl:zs.length=G.F.length:=by have:=B.dF.len;rwa [length_map] at this
 rwa[⟨_,(aa (ax (bY Kv (eV @eN (wv 1) bz @P) vh (bF _)) @X aq) (aa (cf PassesOwn.never rfl (Bd rfl aK (ar bz (ar (bx (Ah rfl) rfl bp PySem.boot_len @bh) ap))) @a (aa (bP (i:=3) jw.nd rfl @o (eV @eN (wv 1) (wv 2) @P)) (ac (ax (PW.pt (jt (b7 (kz rfl (cO ge hr @c rfl @fz))) (jt (bY w_lt @bK bz (bF _)) (jt (bY Kx @bK (wv 2) (bF _)) (iO (bY (Kw rfl hr) (fJ (ar @bK @dg)) (eV @eN (wv 0) @bK @P) @U)))))) @X aq)))) @X)),?_⟩]
 have W:zs[0]? =some .non:=by
  obtain ⟨x,hx,dx⟩:=B.dF.get2 (i:=0) (d:= .non) (by rw [getElem?_map,f0];rfl);rw [hx,dx.isNon]
 rwa[bb (aA.of B.e2) (v:= .non) (bD (j:=0) W) ?_];rwa[aY rfl ?_];rwa[bH (aA.of B.e2) ?_];rwa[⟨⟨by decide,by decide,by lia,by lia⟩,?_⟩];rw [zl];rwa[cr (λj σ J=>ao H J/\∃S Y,σ=[some (.ref l1),some (.ref l2),S,Y]) ⟨.refl _,_,_,rfl⟩ (λj σ J hj U=> ?_) (λσ J U=> ?_)]
 ·obtain ⟨R,S,Y,rfl⟩:=U
  have ej:(1:Int)+(j:Int)=((j+1:Nat):Int):=by lia
  obtain ⟨i,c,u,e1,e2,e3,e4⟩:=ff (j+1) @b @b;have z:=B.nt R.nt;obtain ⟨x,hx,dx⟩:=z.dF.get2 (i:=j+1) (d:=GN (some (i,c))) (by rw [getElem?_map,e1];rfl);obtain ⟨t,ts,rfl,L,dT⟩:=dx.outT
  have L:aB K J t [.int (i:Int),.int c]:=by
   cases dT with|cons q0 t0=>cases t0 with|cons q1 t1=>
   cases t1;cases q0.isInt;cases q1.isInt;exact L
  rwa[bb (aA.of z.e2) (v:= .ref t) (by rw [ej];exact bD hx) ?_];rwa[pX.mk _ _ _ rfl L ?_];rwa[aY rfl ?_];rwa[ak L rfl ?_];rwa[iT @b ?_];rwa[ak L rfl ?_];rwa[iT @b ?_];rwa[ak L rfl ?_];rwa[bX @bB λtp H2 Z n2 ab=> ?_];have O:=z.nt Z.nt
  have I:i<wl.length:=by rw [B.lW];exact (List.getElem?_eq_some_iff.mp e3).1
  obtain ⟨vs,ea,dv⟩:=O.dW i _ u (getElem?_eq_getElem I) e3;rwa[ak (Z.seqT L) rfl ?_];rwa[bb (aA.of O.e1) (v:= .ref wl[i]) (bD (by rw [getElem?_map,getElem?_eq_getElem I];rfl)) ?_];rwa[Rm (e:=Ae (c,j+1)) (aA.of ea) dv (fg (aB.of ab) (.cons (.int _) (.cons (by rw [ej];exact .int _) .nil))) (λd hd=> ?_) (mem_map.mpr ⟨_,e4,rfl⟩) ?_]
  ·obtain ⟨w',_,rfl⟩:=mem_map.mp hd;show max 0 @eH+1<=50;decide
  ·rwa[aY rfl ?_];exact ⟨R.trans Z,_,_,rfl⟩
 ·obtain ⟨R,S,Y,rfl⟩:=U;exact q J R
inductive Dv (P:Program)(w:World)(K:Fg)(mg:Str->Option Value)(base:Heap)(C Pn Pl:Addr)(vs:List V)(H:Hp)(Q:VK)(_e:XK):Prop
 |mk (a kp dn st al hs wf k ks S s vs' Good:_) (most:Nat) (_:vs=[.ref a,.ref kp,.ref dn,.ref st,.ref al]) (_:CP P w K mg base C Pn Pl H a hs wf k) (_:fu K H kp hs.fl ks) (_:xN hs wf k ks most Good) (_:cX K H dn @fm) (_:d6 K H st (SS.cs s) (SS.ws s) (SS.last s) false) (_:Good s) (_:H al=some (.lst vs')) (_:aC K H vs' (((fP ks.length s.ts).map λc=>(c,S.idxOf @ca)).map Ae)) (_:(∀c∈fP ks.length s.ts,iP hs wf k ks s c∈S)) (_:∀H',aI H H'->lY Pn Pl H'->Q (.bl true) H')
theorem LU {kC Pn Pl:Addr}(F:Z0 K "_law_ways_right" iJ f fd)(aL:mg "isinstance"=none)(cU:mg "list"=none)(bp:mg "len"=none)(aK:mg "range"=none)(lO:aU P w K mg base 3 "_law_choices" ["_law_state","_law_kinds_here"] (uI K))(ge:aU P w K mg base 2 "_law_pair" ["_law_thing"] (pX K))(Ju:aU P w K mg base 10 "led" ["court","kinds","state","choice"] @cX):au P w K mg base aT 11 f fd ["_law_court_here","_law_kinds_here","_law_numbers_here","_law_state","_law_some"] (Dv P w K mg base kC Pn Pl):=by
 rwa[F.ok uR (by symm) (λay A outer s H vs Q E hr h=> ?_)];obtain ⟨a,kp,dn,st,al,hs,wf,k,ks,S,s,ag,Good,aM,rfl,hC,hK,ab,hD,Y,gs,L,ae,av,q⟩:=h
 have bu:hs.ok:=by obtain ⟨_,_,_,_,_,z,_⟩:=hC.ex;exact z.1
 have vl:ag.length=(fP ks.length s.ts).length:=by have:=ae.len;rwa [length_map,length_map] at this
 have c5:(fP ks.length s.ts).length<=5:=by
  have h2:=gW (ts:=s.ts) (i:=ks.length);have h3:(fP ks.length s.ts).length=(AU s.ts ks.length).length+1:=rfl;obtain ⟨_,_,_,_,k4,_⟩:=hK;lia
 rwa[⟨_,(aa @a (aa (ax (PW.pt (jt (b7 (kz rfl (bx @fT rfl aL boot_isinstance (ar (wv 4) (ar (gQ (v:= .ty "list") rfl cU boot_list rfl) ap))))) (iO @a))) @X aq) (aa (cf PassesOwn.never rfl @cx @a (aa (ax @a @X aq) (ac (ax (bY (Ag rfl hr) (BJ rfl @fR (wv 2) @a ⟨rfl,rfl,rfl,rfl⟩) @a (bF _)) @X aq)))) @X))),?_⟩];rwa[RU ⟨Y,ab.ok s gs,bu⟩ @c hK λlc H1 W n1 e1=> ?_];rwa[lC rfl (.lst (W _ _ L)) rfl ?_];rwa[aY rfl ?_];rwa[bH (aA.of (W _ _ L)) ?_];rwa[bH @eY ?_];rw [length_map];rwa[vx (by rw [vl];simp [SS.ts]) ?_];rwa[bH @eY ?_];rw [length_map];rwa[⟨⟨by lia,by show ((fP ks.length s.ts).length:Int)<_;lia⟩,?_⟩];rw [show (((fP ks.length @cz).length:Nat):Int).toNat=(fP ks.length s.ts).length from Int.toNat_natCast _];have aw:∀ {HY HZ:Hp},aI HY HZ->cX K HY dn @fm->cX K HZ dn @fm:=λ{HY HZ} s h=>je h s.su (by obtain ⟨ys,e,_⟩:=h;rw [e];exact s _ _ (λ_ z=>by cases z) e) m9;rwa[cr (λj σ U=>aI H1 U/\lY Pn Pl U/\∃o6,σ=[some (.ref a),some (.ref kp),some (.ref dn),some (.ref st),some (.ref al),some (.ref lc),o6]) ⟨.refl _,fN _ _ W.st hC.gg,_,rfl⟩ (λj σ U hj pv=> ?_) (λσ U pv=> ?_)]
 ·obtain ⟨Z,gX,o6,rfl⟩:=pv;have B:=W.nt.trans Z;have af:=Z _ _ (λ_ z=>by cases z) e1;have O:=B _ _ (λ_ z=>by cases z) L;have J:=getElem?_eq_getElem (show j<(fP ks.length s.ts).length from hj);generalize (fP ks.length s.ts)[j]=c at J;have ah:c∈fP ks.length s.ts:=mem_of_getElem? J;obtain ⟨x,hx,dx⟩:=(B.dens ae).get2 (i:=j) (d:=Ae (c,S.idxOf @ca)) (by rw [getElem?_map,getElem?_map,J];rfl);obtain ⟨t,ts,rfl,hT,dT⟩:=dx.outT
  have hT:aB K U t [.int c,.int ((S.idxOf @ca:Nat):Int)]:=by
   cases dT with|cons q0 t0=>cases t0 with|cons q1 t1=>
   cases t1;cases q0.isInt;cases q1.isInt;exact hT
  have ej:(0:Int)+(j:Int)=(j:Int):=by lia
  have R:l9 ag ((0:Int)+(j:Int))=some (.ref t):=by rw [ej];exact bD hx
  have an:l9 ((fP ks.length @cz).map V.int) ((0:Int)+(j:Int))=some (.int c):=by rw [ej];exact bD (by rw [getElem?_map];show ((fP ks.length s.ts)[j]?).map V.int=_;rw [J];rfl)
  rwa[bb (aA.of O) R ?_];rwa[pX.mk _ _ _ rfl hT ?_];rwa[aY rfl ?_];rwa[bb (aA.of O) R ?_];rwa[ak hT rfl ?_];rwa[bb (aA.of af) an ?_];rwa[vx @e ?_];rwa[⟨dn,_,rfl,aw B hD,?_⟩];rwa[bb (aA.of af) an ?_];rwa[O3 (hC.nt B gX) (hK.nt B) ⟨nY B Y,ab.ok s gs,bu⟩ @c (F7 ah) λas ad ai I H3 am g3 bi ht=> ?_];have aG:iP hs wf k ks s c=⟨ad,ai,I⟩:=JR (a:=⟨ad,ai,I⟩) ht;have hi:=av c ah;have ao:=B.trans am;rwa[⟨some (.int ((S.idxOf @ca:Nat):Int)),⟨fZ 0 S,as,(iP hs wf k ks s c).d,rfl,aw ao hD,gz (by rw [aG];exact bi.a),SS.gd _,by rw [j9,if_pos hi,Nat.zero_add]⟩,?_⟩];rwa[bb (aA.of (am _ _ (λ_ z=>by cases z) O)) R ?_];rwa[ak (am.sqT hT) rfl ?_];rwa[vx @e ?_];exact ⟨Z.trans am,g3,_,rfl⟩
 ·obtain ⟨Z,gX,o6,rfl⟩:=pv;exact q U (W.nt.trans Z) gX
theorem DL {C Pn Pl:Addr}{H:Hp}{W:Addr}{hs:Hs}{wf:Wf}{k:Dk}{two:Bool}{kp:Addr}{ks:List (Int×Int)}(hC:CP P w K mg base C Pn Pl H W hs wf k)(st:zZ hs)(O:Qk two hs)(hw:RV two wf)(Y:fu K H kp hs.fl ks)(B:RP two ks):∃Good,xN hs wf k ks 400 Good:=by
 obtain ⟨_,h,ru,_,_,L,ad,_⟩:=hC.ex;obtain ⟨_,_,_,k1,_,R⟩:=Y
 have S:∀fl li F j dn,fo li F j dn->wf fl li F j dn∈cJ:=by
  obtain ⟨_,_,_,_,_,_,_,z,_⟩:=ad;exact z
 cases two with
 |false=>
  obtain ⟨l,e,f3,t2⟩:=O;exact ⟨_,Lc ⟨e,f3,t2,L.1,B,R⟩ st S⟩
 |true=>
  obtain ⟨I,la,lb,e,ta,tb,ka,Z,ra,rb⟩:=O;have kl:ks.length=1:=B
  match ks,kl,R with
  |[(s,g)],_,R=>
   obtain ⟨z1,U,z3,J,z5⟩:=R (s,g) (.head _);rw [I] at U J;simp only at z1 U z3 J z5
   obtain rfl:g=1 - s:=by lia
   exact ⟨_,K9 ⟨e,I,L.1,ta,tb,ka,Z,ra,rb,by lia⟩ st (hw rfl)⟩
noncomputable def Ru (G:Gr):D:= .tup [.lst @fF,.lst (G.W.map λu=> .lst @ef),.lst @dY]
theorem Fv {H:Hp}{g l0 l1 l2:Addr}{wl:List Addr}{xs zs:List V}{G:Gr}(L:H g=some (.tup [.ref l0,.ref l1,.ref l2]))(Y:H l0=some (.lst xs))(R:H l1=some (.lst @em))(e2:H l2=some (.lst zs))(j:Paired (λx (s:SS)=>∃a,x=V.ref a/\d6 K H a s.cs s.ws s.last false) xs G.S)(Z:wl.length=G.W.length)(O:∀(i:Nat) a w,wl[i]? =some a->G.W[i]? =some w->∃vs,H a=some (.lst vs)/\aC K H vs (w.map Ae))(I:aC K H zs @dY):bv K H (.ref g) (Ru G):=by
 rwa[fg (aB.of L) (.cons (Co (aA.of Y) ?_) (.cons (Co @fw ?_) (.cons (Co (aA.of e2) I) .nil)))]
 ·rwa[PySem.Paired.of (by rw [length_map];exact j.len) λi x d h1 h2=> ?_];obtain ⟨s,hs,a,rfl,z⟩:=j.get1 h1;rw [getElem?_map,hs] at h2;cases h2;exact gz z
 ·rwa[PySem.Paired.of (by rw [length_map,length_map];exact Z) λi x d h1 h2=> ?_];rw [getElem?_map] at h1 h2;obtain ⟨a,J,rfl⟩:=Option.map_eq_some_iff.mp h1;obtain ⟨u,B,rfl⟩:=Option.map_eq_some_iff.mp h2;obtain ⟨vs,z1,U⟩:=O i a u J B;exact Co (aA.of z1) U
theorem sU.den {H:Hp}{g l0 l1 l2:Addr}{wl:List Addr}{xs zs:List V}{G:Gr}(h:sU K H g l0 l1 l2 wl xs zs G):bv K H (.ref g) (Ru G):=Fv h.eg h.e0 h.e1 h.e2 h.dS h.lW h.dW h.dF
theorem M5 (G:Gr):gu (Ru G)<=60:=by
 have h1:deps @fF<=7:=hU (λs=>s.gd.1) _
 have h2:deps (G.W.map λu=>D.lst @ef)<=3:=hU (λu=>by
  have:deps @ef<=1:=hU (λw=>by show max 0 @eH+1<=1;decide) u
  rw [gu];lia) _
 have L:deps @dY<=1:=hU (λf=>by cases f with|none=>decide|some f=>(show max 0 @eH+1<=1;decide)) _;show max (deps @fF+1) (max (deps (G.W.map λu=>D.lst @ef)+1) (max (deps @dY+1) 0))+1<=60;lia
theorem CH.found {hs:Hs}{wf:Wf}{k:Dk}{ks:List (Int×Int)}{Good:SS->Prop}{n:Nat}{G:Gr}(h:CH hs wf k ks Good n G):RZ G:=by
 rwa[⟨h.I.f0,h.I.lw.trans h.I.lf.symm,λj h1 h2=> ?_⟩];obtain ⟨i,c,s,R,O,F,z,Z,L,U⟩:=h.I.ff j h1 (by rw [<-h.I.lf];exact h2);have B:=h.ln
 have hi:i<n:=by have:=h.I.lf;lia
 have J:=h.I.dn i s hi z;exact ⟨i,c,_,R,O,J.1,mem_map.mpr ⟨c,Z hi,by rw [MP h.I.nd U]⟩⟩
theorem Jo (ks:List (Int×Int)):gu (.lst @ev)<=60:=by
 have:=tY ks;rw [gu];lia
theorem tz {H:Hp}{P:Addr}{q:Str}(h:H P=some (.tbl #[])):cF H P q:=⟨#[],h,trivial,λpos z e=>by cases e⟩
inductive wA (K:Fg)(Pn Pl:Addr)(vs:List V)(H:Hp)(Q:VK)(_e:XK):Prop
 |mk (a:Addr) (ns:List Int) (_:vs=[.ref a]) (_:GO K H a ns) (_:cF H Pn qN) (_:cF H Pl qL) (_:∀H',Q (.bl true) H')
theorem L8 {kC Pn Pl:Addr}(F:Z0 K "law" Ln f fd)(cC:GU K kC)(aK:mg "range"=none)(bp:mg "len"=none)(cU:mg "list"=none)(cz:iy P w K mg base aT 2 "begin" kC (kY K))(uc:aU P w K mg base 11 "graph_of" ["court","kinds","most"] (pA P w K mg base kC Pn Pl))(rO:aU P w K mg base 6 "_law_court" ["_law_script"] (DH P w K mg base kC Pn Pl))(rM:aU P w K mg base 2 "_law_kinds" ["_law_script","_law_house_here"] (DC K))(rL:aU P w K mg base 1 "_law_shape" ["_law_graph"] (Dw K))(lN:aU P w K mg base 1 "_law_numbers" ["_law_states"] (yi K))(io:aU P w K mg base 11 "_law_ways_right" ["_law_court_here","_law_kinds_here","_law_numbers_here","_law_state","_law_some"] (Dv P w K mg base kC Pn Pl))(gf:aU P w K mg base 3 "_law_found_right" ["_law_ways","_law_firsts"] (DE K)):au P w K mg base aT 12 f fd ["_law_script"] (wA K Pn Pl):=by
 rwa[F.ok DW (by symm) (λb9 A outer s H Z Q E hr h=> ?_)];obtain ⟨a,ns,rfl,hS,tN,tL,q⟩:=h;rwa[⟨_,(aa @a (aa @a (aa (bP (i:=3) DW.nd rfl @o (aM (jI rfl) rfl cU boot_list @dg)) (aa @a (aa (ax @a @X aq) (aa (m6 (wv 4) @a) (aa @a (aa (ax (PW.pt (jt (bY (Kz rfl hr) (wv 8) lq (bF _)) (iO (bY (Ag rfl hr) @a (v9 (n:=2) fX hr @c (wv 1)) (bF _))))) @X aq) (aa (cf PassesOwn.never rfl @cx @a (ac @db)) (aa @db (aa (bP (i:=10) DW.nd rfl @o (fJ (ar (aM (jI rfl) rfl cU boot_list (ar (wv 5) ap)) (ar (bG rfl (aD (N':=["_law_some"]) (pk:=[none]) @m) @a @k @z (λC s H ex=>(aM (jI rfl) rfl cU boot_list @eb))) (ar (aM (jI rfl) rfl cU boot_list (ar (wv 7) ap)) ap))))) (aa @dp (aa @dp (aa (m6 @a (qI (wv 7) bz wc)) (ac (aj (dG (wg rfl hr) @a (wv 10) (bF _)))))))))))))))))),?_⟩];rwa[DH.mk _ _ rfl hS ⟨tN,tL⟩ λca hs wf k co H1 s1 hC bL hP hw=> ?_];obtain ⟨dx,h,ru,df,ea,hH,cn,bV⟩:=id hC.ex;rwa[dI ea cC.i.cl cC.house (v:= .ref h) rfl ?_];rwa[DC.mk _ _ _ _ _ rfl (bW hS s1) hH hP λkp ks H2 s2 hK kP=> ?_];have a8:=hC.same s2;obtain ⟨Good,ah⟩:=DL a8 bL hP hw hK kP;obtain ⟨bq,bx,bi,k1,k4,hk⟩:=id hK;rwa[gU (.inl (aA.of bx)) λkq H3 s3 n3 e3=> ?_];have aX:=hK.nt s3.nt;have az:fu K H3 kq hs.fl ks:=⟨bq,e3,aC.same bi s3,k1,k4,hk⟩;have ak:=a8.same s3;rwa[pA.mk _ _ _ _ _ _ _ 400 rfl ak az ah @c @c λg l0 l1 l2 wl xs zs n G H4 s4 g4 aJ fr T=> ?_];have I:=T.I;have bQ:1<=G.S.length:=(List.getElem?_eq_some_iff.mp I.b0).1;have b1:=ah.fn G.S I.nd I.gd;have xl:xs.length=G.S.length:=aJ.dS.len
 have zl:zs.length=G.S.length:=by have:=aJ.dF.len;rw [length_map,I.lf] at this;exact this
 have ce:wl.length=G.S.length:=aJ.lW.trans I.lw;rwa[Dw.mk _ _ _ _ _ _ _ _ rfl aJ I.lw I.lf bQ ?_];rwa[aY rfl ?_];rwa[zH (az.nt s4).den (aX.nt s4).den (Jo ks) ?_];rwa[aY rfl ?_];rwa[ju (aB.of aJ.eg) rfl ?_];rwa[yi.mk _ _ _ rfl aJ.e0 aJ.dS I.nd @b λdn H5 s5 n5 aW=> ?_];have bN:=aJ.nt s5.nt;intro pe bg ch;have s6:ao H5 (upd H5 pe @fG):= .upd bg;have e6:upd H5 pe @fG pe=some @fG:=ag;generalize upd H5 pe @fG=H6 at s6 e6;have am:∀ {HY HZ:Hp},aI HY HZ->cX K HY dn (fZ 0 G.S)->cX K HZ dn (fZ 0 G.S):=λ{HY HZ} s h=>je h s.su (by obtain ⟨ys,e,_⟩:=h;rw [e];exact s _ _ (λ_ z=>by cases z) e) m9;rwa[⟨dn,pe,fZ 0 G.S,rfl,rfl,am s6.nt aW,λz=>by have:=congrArg List.length z;rw [vp] at this;have this:G.S.length=0:=this;lia,e6,?_⟩];rwa[aY rfl ?_];have aO:aI H3 H6:=s4.trans (s5.trans s6).nt;have g6:=fN _ _ (s5.trans s6).st g4;have bd:=bN.nt s6.nt;have aQ:=getElem?_eq_getElem (show 0<xs.length by lia);obtain ⟨t0,a5,a0,bk,aP⟩:=bd.dS.get1 aQ
 obtain rfl:t0=s0 hs:=by rw [I.b0] at a5;cases a5;rfl
 rwa[bb (aA.of bd.e0) (v:= .ref a0) (by rw [show (0:Int)=((0:Nat):Int) from rfl,bD aQ,bk]) ?_];have bu:=ak.nt aO g6;obtain ⟨b5,h',cg,b4,bB,bm,_,_⟩:=id bu.ex;rwa[gR bB rfl cz ?_];rwa[kY.mk _ _ _ _ _ _ _ rfl bB cC bm λsb H7 s7 bf=> ?_];rwa[zH (d:=(s0 hs).d) (gz (nY s7.nt aP)) (gz bf) (Nat.le_trans (s0 hs).gd.1 @c) ?_];rwa[aY rfl ?_];have bt:=bd.nt s7.nt;have bw:=am (s6.trans s7).nt aW;have a6:=aO.trans s7.nt;rwa[bH (aA.of bt.e0) ?_];rwa[⟨⟨by lia,by lia⟩,?_⟩];rw [xl,show ((G.S.length:Int)).toNat=G.S.length by lia];rwa[cr (λj σ O=>aI H7 O/\lY Pn Pl O/\∃o9 aN,σ=[some (.ref a),some (.ref ca),some (.ref kp),some (.ref kq),some (.ref g),some (.ref l0),some (.ref l1),some (.ref l2),some (.ref dn),o9,aN]) ⟨.refl _,fN _ _ s7.st g6,_,_,rfl⟩ (λj σ O hj pv=> ?_) (λσ O pv=> ?_)]
 ·obtain ⟨sX,gX,o9,aN,rfl⟩:=pv;have U:=bt.nt sX
  have ej:(0:Int)+(j:Int)=(j:Int):=by lia
  have a9:=getElem?_eq_getElem (show j<xs.length by lia);obtain ⟨t,ht,b,hb,aZ⟩:=U.dS.get1 a9;have a3:=getElem?_eq_getElem (show j<wl.length by lia)
  have bE:j<n:=by rw [T.ln];exact hj
  obtain ⟨hW,bl⟩:=I.dn j t bE ht;obtain ⟨Z,bR,be⟩:=U.dW j _ _ a3 hW;rwa[bb (aA.of U.e0) (v:= .ref b) (by rw [ej,bD a9,hb]) ?_];rwa[bb (aA.of U.e1) (v:= .ref wl[j]) (by rw [ej];exact bD (by rw [getElem?_map,a3];rfl)) ?_];have ba:=a6.trans sX;rwa[Dv.mk _ _ _ _ _ _ _ _ _ _ _ _ _ _ rfl (ak.nt ba gX) (aX.nt ba) ah (am sX bw) aZ (I.gd t (mem_of_getElem? ht)) bR be bl λH8 s8 g8=> ?_];rwa[aY rfl ?_];exact ⟨sX.trans s8,g8,_,_,rfl⟩
 obtain ⟨sX,gX,o9,aN,rfl⟩:=pv;have U:=bt.nt sX;rwa[DE.mk _ _ _ _ _ _ _ _ rfl U T.found (by rw [I.lf];lia) λH8 s8=> ?_];rwa[aY rfl ?_];have L:=U.nt s8.nt;have bn:=(a6.trans sX).trans s8.nt;have g8:=fN _ _ s8.st gX;rwa[gU (.inl (aA.of L.e0)) λk0 H9 s9 n9 e9=> ?_];have ad:=L.nt s9.nt;rwa[cZ (aA.of ad.e1) ?_];rwa[cx (xs:=wl.map V.ref) (λi ys O=>ao H9 O/\∃J:List Addr,ys=J.map V.ref/\J.length=i/\(∀b∈J,H9 b=none)/\∀(j:Nat) b u,J[j]? =some b->G.W[j]? =some u->∃Z,O b=some (.lst Z)/\aC K O Z @ef) (bA (by rw [length_map];lia)) (λi ys O p=>by obtain ⟨_,J,rfl,e,_⟩:=p;rw [length_map];lia) ⟨.refl _,[],rfl,rfl,(λb hb=>nomatch hb),λj b u h=>by simp at h⟩ (λi ys O _ p=>(ad.nt p.1.nt).e1 |> aA.of) (λi x ys O aS p=> ?_) (λys O p lk aR=> ?_)]
 ·obtain ⟨sm,J,rfl,av,aL,aw⟩:=p;rw [getElem?_map] at aS;obtain ⟨b,hb,rfl⟩:=Option.map_eq_some_iff.mp aS
  have a2:i<G.W.length:=by have:=(List.getElem?_eq_some_iff.mp hb).1;have:=ad.lW;lia
  obtain ⟨Z,eb,db⟩:=(ad.nt sm.nt).dW i b _ hb (getElem?_eq_getElem a2);rwa[⟨cu,?_⟩];rwa[gU (.inl (aA.of eb)) λnb HZ sZ nZ eZ=> ?_];rwa[⟨sm.trans sZ,J++[nb],by rw [map_append];rfl,by rw [length_append,av];rfl,λc hc=> ?_,λj c u hc hu=> ?_⟩]
  ·rcases mem_append.mp hc with z|z
   ·exact aL c z
   ·rw [mem_singleton.mp z];exact none_of sm nZ
  ·by_cases y:j<J.length
   ·rw [getElem?_append_left y] at hc;obtain ⟨us,z1,z2⟩:=aw j c u hc hu;exact ⟨us,sZ _ _ z1,aC.same z2 sZ⟩
   ·rw [getElem?_append_right @b] at hc
    have j0:j - J.length=0:=by have:=(List.getElem?_eq_some_iff.mp hc).1;simp at this;lia
    rw [j0] at hc;simp at hc;subst hc
    obtain rfl:j=i:=by lia
    rw [getElem?_eq_getElem a2] at hu;cases hu;exact ⟨Z,eZ,aC.same db sZ⟩
 obtain ⟨sm,J,rfl,av,aL,aw⟩:=p;have sA:ao O (upd O lk (.lst @dE)):= .upd aR;have eA:upd O lk (.lst @dE) lk=some (.lst @dE):=ag;generalize upd O lk (.lst @dE)=HA at sA eA;have af:=sm.trans sA;have bM:=ad.nt af.nt;rwa[gU (.inl (aA.of bM.e2)) λk2 HB sB nB eB=> ?_];rwa[bX @bB λkt Y sC nC eC=> ?_];have as:=(s9.trans af).trans @eO;have B:=L.nt as.nt;have q0:H8 k0=none:=n9;have qk:H8 lk=none:=none_of (s9.trans sm) aR;have q2:H8 k2=none:=none_of (s9.trans af) nB;have qt:H8 kt=none:=none_of ((s9.trans af).trans sB) nC;have qw:∀b∈J,H8 b=none:=λb hb=>none_of s9 (aL b hb);have c0:Y k0=some (.lst xs):=(af.trans @eO) _ _ e9;have ck:Y lk=some (.lst @dE):=(sB.trans sC) _ _ eA;have c2:Y k2=some (.lst zs):=sC _ _ eB
 have cw:∀(j:Nat) b u,J[j]? =some b->G.W[j]? =some u->∃Z,Y b=some (.lst Z)/\aC K Y Z @ef:=λj b u h1 h2=>by
  obtain ⟨Z,z1,z2⟩:=aw j b u h1 h2;exact ⟨Z,(sA.trans @eO) _ _ z1,aC.same z2 (sA.trans @eO)⟩
 have a7:J.length=G.W.length:=by rw [av,length_map];exact ad.lW
 have h0:H8 l0≠none:=by rw [L.e0];exact λz=>nomatch z
 have h2:H8 l2≠none:=by rw [L.e2];exact λz=>nomatch z
 have ae:=getElem?_eq_getElem (show 0<wl.length by lia);have an:=getElem?_eq_getElem (show 0<G.W.length by rw [<-L.lW];lia);generalize wl[0]=R at ae;have ay:R∈wl:=mem_of_getElem? ae
 have hw:H8 R≠none:=by obtain ⟨Z,e,_⟩:=L.dW 0 R _ ae an;rw [e];exact λz=>nomatch z
 have nd:=L.nd;simp only [nodup_cons,mem_cons,not_or] at nd;obtain ⟨⟨bT,bU,bs⟩,⟨ci,cm⟩,bh,b8⟩:=nd;rwa[⟨.inl ⟨rfl,_,aA.of B.e0⟩,?_⟩];rwa[eF B.e0 @cG ?_]
 have uD:bJ Y (upd Y l0 (.lst (xs++[.int 0]))):=gy λo e z=>by rw [B.e0] at e;cases e;exact z
 have gD:=fN _ _ (as.st.trans (aH.updL (o:= .lst (xs++[.int 0])) B.e0)) g8;have oD:∀b,b≠l0->(upd Y l0 (.lst (xs++[.int 0]))) b=Y b:=λb z=>ai z;generalize upd Y l0 (.lst (xs++[.int 0]))=HD at uD gD oD
 have bC:HD l1=some (.lst @em):=by rw [oD l1 (Ne.symm bT)];exact B.e1
 have bS:HD l2=some (.lst zs):=by rw [oD l2 (Ne.symm bU)];exact B.e2
 obtain ⟨ab,bv,br⟩:=B.dW 0 R _ ae an
 have b6:ab.length<=5:=by
  have h1:=(I.dn 0 _ (by rw [T.ln];lia) I.b0).1;rw [an] at h1;have h2:=congrArg List.length (Option.some.inj h1);have h3:=br.len;rw [length_map] at h2 h3;have h4:=gW (ts:=(s0 hs).ts) (i:=ks.length);have h5:(fP ks.length (s0 hs).ts).length=(AU (s0 hs).ts ks.length).length+1:=rfl;lia
 have aV:HD R=some (.lst ab):=by rw [oD R (λz:R=l0=>bs (by rw [<-z];exact ay))];exact bv
 rwa[bb (aA.of bC) (v:= .ref R) (by rw [show (0:Int)=((0:Nat):Int) from rfl];exact bD (by rw [getElem?_map,ae];rfl)) ?_];rwa[⟨.inl ⟨rfl,_,aA.of aV⟩,?_⟩];rwa[bX @bB λt7 HE sE nE eE=> ?_];have aG:=sE _ _ aV;rwa[eF aG @cG ?_]
 have uF:bJ HE (upd HE R (.lst (ab++[.ref t7]))):=gy λo e z=>by rw [aG] at e;cases e;exact z
 have gF:=fN _ _ (sE.st.trans (aH.updL (o:= .lst (ab++[.ref t7])) aG)) gD;have oF:∀b,b≠R->(upd HE R (.lst (ab++[.ref t7]))) b=HE b:=λb z=>ai z;generalize upd HE R (.lst (ab++[.ref t7]))=HF at uF gF oF
 have bc:HF l2=some (.lst zs):=by rw [oF l2 (λz:l2=R=>bh (by rw [z];exact ay))];exact sE _ _ bS
 rwa[bX @bB λt0 HI sI nI eI=> ?_];have aE:=sI _ _ bc;rwa[wD (j:=0) aE (by unfold AK;rw [if_pos @b,if_pos @b];rfl) ?_]
 have uJ:bJ HI (upd HI l2 (.lst @cH)):=gy λo e z=>by rw [aE] at e;cases e;exact z
 have gJ:=fN _ _ (sI.st.trans (aH.updL (o:= .lst @cH) aE)) gF;have oJ:∀b,b≠l2->(upd HI l2 (.lst @cH)) b=HI b:=λb z=>ai z;generalize upd HI l2 (.lst @cH)=HJ at uJ gJ oJ
 have a4:∀b o,b≠l0->b≠R->b≠l2->Y b=some o->HJ b=some o:=λb o z1 z2 z3 e=>by
  rw [oJ b z3];exact sI _ _ (by rw [oF b z2];exact sE _ _ (by rw [oD b z1];exact e))
 have fk:∀b o,H8 b=none->Y b=some o->HJ b=some o:=λb o nb e=>a4 b o (λz=>h0 (z▸nb)) (λz=>hw (z▸nb)) (λz=>h2 (z▸nb)) e;have bj:bJ Y HJ:=((uD.trans sE.nt.su).trans uF).trans (sI.nt.su.trans uJ);have a1:aI H3 HJ:=λb o nt e=>a4 b o (d9 nt e (fr l0 (.head _))) (d9 nt e (fr R (.tail _ (.tail _ (.tail _ ay))))) (d9 nt e (fr l2 (.tail _ (.tail _ (.head _))))) (as _ _ (bn b o nt e));rwa[pA.mk _ _ _ _ _ _ _ 400 rfl (ak.nt a1 gJ) (az.nt a1) ah @c @c λg' b2 cp cj cq cb cc n' G' HK sK gK bO b3 T'=> ?_];obtain rfl:=T.uniq T';have fK:∀b o,H8 b=none->(∀ps,o≠ .tbl ps)->Y b=some o->HK b=some o:=λb o nb nt e=>sK _ _ nt (fk b o nb e);have al:bJ Y HK:=bj.trans sK.su;rwa[zH bO.den (Fv (fK _ _ qt (λ_ z=>by cases z) eC) (fK _ _ q0 (λ_ z=>by cases z) c0) (fK _ _ qk (λ_ z=>by cases z) ck) (fK _ _ q2 (λ_ z=>by cases z) c2) (Paired.imp' (λx s ⟨b,e,z⟩=>⟨b,e,z.su al⟩) B.dS) a7 (λj b u z1 z2=> ?_) (al.dens B.dF (pK _))) (M5 _) (q _)];obtain ⟨Z,y1,y2⟩:=cw j b u z1 z2;exact ⟨Z,fK _ _ (qw b (mem_of_getElem? z1)) (λ_ z=>by cases z) y1,al.dens y2 (ky _)⟩
end
end My
namespace My
open PySem L2 PyProof.Rows
seal PE PT PS rT PA PI PG CJ GP PW PO cG Nq bf CN xO Nh Gs
seal rY iG k7 uO Js qd Fq ke qb Au AH Jw JA xb Bg xh setL Be zD sL uu rX CK GM nW FK He xn
seal F9 nj zt L2.xm L2.putAt L2.vo fY Ji MY Mt Qc Jt Jx Dm
seal fS mx DG pC kQ gA uI kI tE
theorem Fj {K:Fg}{H:Hp}{a:Addr}{R:List Int}{E:XK}(O:aA K H a @fN)(W:R.length<=63)(B:∀i∈R,Builtin.Int.intBits i<=2^20)(L:∀t∈([(346,342),(351,349)]:List (Addr×Addr)),H t.2=some (.tbl #[])):wA K 342 349 [.ref a] H (λv _=>v= .bl true) E:=⟨a,R,rfl,⟨O,W⟩,tz (L (346,342) @e),tz (L (351,349) @e),λ_=>rfl⟩
theorem FS {P:Program}{w:World}{K:Fg}{mg:Str->Option Value}{base:Heap}{j B z:Addr}(J:gm K j)(L:aN K j "turns")(U:gm K B)(O:aN K B "turns")(Y:gm K z)(F:aN K z "turns")(W:iy P w K mg base aT 1 "left" j (iF K yT))(S:iy P w K mg base aT 1 "left" B (iF K hst))(I:iy P w K mg base aT 1 "left" z (iF K Hm)):Kf P w K mg base j B z:=by
 rwa[⟨λk R=> ?_,λk R=> ?_⟩]
 ·rcases R with rfl|rfl|rfl
  ·rw [MJ];exact ⟨J,L⟩
  ·rw [MK];exact ⟨U,O⟩
  ·rw [MI];exact ⟨Y,F⟩
 ·rcases R with rfl|rfl|rfl
  ·rw [MJ];exact W
  ·rw [MK];exact S
  ·rw [MI];exact I
theorem Nc {l:PySem.W.OpenLaw}{w:World}{K:Fg}{h:Heap}{mg:Str->Option Value}{fa:Addr}(X:K.In h)(G:h.Ns mainGlobals mg)(cm:mg "law"=some (.ref fa))
{sG lB vq jp cP bS bN dU an ai U vt rc f1 f2 f3 f4 f5 f6 f7 f8 f9 cv cH da dL dF cD bG d4 bV bw cj dp bb ak bF cA bk d0 dv cr b3 bH ck ef b6 cf ec ao am bv bf bP de bZ bW eb dI cw a3 b2 co cg bK dz bn cO dj dy ca cF bg c9 br cW dq df ct a8 aX b1 b4 db c4 dX bc aP du bR dR bB dN ej dE dM cT bo bQ ee dC dO dV bX d7 dJ cE ed c6 c7 j R:Addr}{a1 aQ:Option Addr}{a9:Array @J}{az aC aA aS as:Value}{aR aM:Option Addr}{aH:Array @J}{aF aI av aW aZ:Value}{Dl:Tok}{wy:Tok}{KS:Tok}{wr:Tok}{KR:Tok}{uv:Tok}{yf:Tok}{wt:Tok}{O:Option Addr}{S:Nat}{B:Array @J}{J L I:Tok}{ww:Tok}{r9:Tok}{uw:Tok}{ac:Option Addr}{al:Nat}{ag:Array @J}{af ad:Tok}{G9:Tok}
(NC:W.nsIn K mainGlobals "Door"=some (some (.ref sG)))
(Kp:W.nsIn K mainGlobals "Hasty"=some (some (.ref lB)))
(NA:W.nsIn K mainGlobals "Slow"=some (some (.ref vq)))
(NB:W.nsIn K mainGlobals "Rule"=some (some (.ref jp)))
(GX:W.nsIn K mainGlobals "Homing"=some (some (.ref cP)))
(CS:W.nsIn K mainGlobals "Nearest"=some (some (.ref bS)))
(CQ:W.nsIn K mainGlobals "Shuttle"=some (some (.ref bN)))
(Km:W.nsIn K mainGlobals "Table"=some (some (.ref dU)))
(Nv:W.nsIn K mainGlobals "near"=some (some (.ref an)))
(Kk:W.nsIn K mainGlobals "least"=some (some (.ref ai)))
(Bc:W.nsIn K mainGlobals "by_turns"=some (some (.ref U)))
(GW:W.nsIn K mainGlobals "Moment"=some (some (.ref vt)))
(Kq:W.nsIn K mainGlobals "Court"=some (some (.ref rc)))
(ah:Kh K sG)
(aa:Kh K lB)
(aj:Kh K vq)
(cM:xU K vt)
(cC:GU K rc)
(h1:L2.NF K "bit" Lr f1)
(h2:L2.NF K "has" Lp f2)
(h3:L2.NF K "with_bit" qj f3)
(h4:L2.NF K "below" yN f4)
(h5:L2.NF K "above" yO f5)
(h6:L2.NF K "mask_of" u1 f6)
(h7:L2.NF K "listed" u3 f7)
(h8:L2.NF K "lowest" u2 f8)
(h9:L2.NF K "highest" qx f9)
(d6:L2.NF K "floor_of" qz cv)
(cn:L2.NF K "goals_aboard" gM cH)
(bz:L2.NF K "way_of" yI da)
(b8:L2.NF K "tasks_of" qm dL)
(dh:L2.NF K "goes_along" jZ dF)
(bm:L2.NF K "here_of" va cD)
(c2:L2.NF K "view" D9 bG)
(dK:L2.NF K "turned" uV d4)
(cb:L2.NF K "bounded" qE bV)
(bq:L2.NF K "with_changes" gC bw)
(b7:L2.NF K "steered" qo cj)
(cu:L2.NF K "may_step_in" jV dp)
(cI:L2.NF K "exchanged" j4 bb)
(ea:L2.MF K sG "__init__" "Door.__init__" mY ak)
(ay:L2.MF K sG "left" "Door.left" mX bF)
(aG:L2.MF K lB "left" "Hasty.left" jY cA)
(aq:L2.MF K vq "left" "Slow.left" mI bk)
(c3:L2.NF K "door_of" vc d0)
(cB:L2.NF K "room_of" uZ dv)
(d9:L2.NF K "turns_of" ql cr)
(dl:L2.NF K "kind_of" u9 b3)
(dc:L2.NF K "do_come" ve bH)
(dT:L2.NF K "dealt_to" qA ck)
(cN:L2.NF K "do_deed" vd ef)
(d2:L2.NF K "is_serving" jX b6)
(dB:L2.NF K "serving" qq cf)
(dH:L2.NF K "serving_from" gH ec)
(bx:W.nsIn K mainGlobals "near"=some (some (.ref ao)))(a6:K.lookup ao=some ⟨az,a1,.func (W.fnOf "near" "near" (bT ez) (bu ez) @gw .none aC aA aS aQ (.ref 346) as),a9⟩)(aN:W.codeIn K (.ref 346) "near"=true)(aO:W.keepIn K (.ref ao)=true)
(aw:W.codeHdIn K 346 342=true)
(bs:W.nsIn K mainGlobals "least"=some (some (.ref am)))(aY:K.lookup am=some ⟨aF,aR,.func (W.fnOf "least" "least" (bT cK) (bu cK) @gx .none aI av aW aM (.ref 351) aZ),aH⟩)(ar:W.codeIn K (.ref 351) "least"=true)(aV:W.keepIn K (.ref am)=true)
(a2:W.codeHdIn K 351 349=true)
(dm:L2.NF K "by_turns" qD bv)
(dk:L2.NF K "dealer_of" mZ bf)
(dG:L2.NF K "deal" Aw bP)
(bU:L2.NF K "deal_all" lh de)
(dD:L2.NF K "log_steps" mQ bZ)
(cx:L2.NF K "exchange" mW bW)
(dW:L2.NF K "go_by_rule" mU eb)
(bC:L2.NF K "go_without_fire" eQ dI)
(bM:L2.NF K "go" Rb cw)
(ch:L2.MF K vt "__init__" "Moment.__init__" iI a3)
(cG:L2.NF K "state_of" qp b2)
(bl:L2.NF K "need_floor" jT co)
(bE:L2.NF K "need_lift" mN cg)
(bi:L2.NF K "need_ride" mM bK)
(b0:L2.NF K "need_deed" mP dz)
(eh:L2.NF K "tags_in" uW bn)
(d8:L2.NF K "need_deeds" jU cO)
(aD:L2.MF K rc "turn" "Court.turn" gN dj)
(d3:L2.NF K "swept" yJ dy)
(cJ:L2.NF K "nearest" qu ca)
(c8:L2.NF K "shuttled" mJ cF)
(bY:L2.NF K "place_in_table" fL bg)
(ba:L2.NF K "seen_at" uX c9)
(aE:L2.MF K jp "word" "Rule.word" mK br)
(a5:L2.MF K cP "word" "Homing.word" iK cW)
(ax:L2.MF K bS "word" "Nearest.word" gI dq)
(a7:L2.MF K bN "word" "Shuttle.word" gE df)
(aJ:L2.MF K dU "word" "Table.word" jQ ct)
(cX:L2.MF K bN "__init__" "Shuttle.__init__" gG a8)
(bD:L2.MF K dU "__init__" "Table.__init__" jR aX)
(cR:L2.NF K "as_table" qF b1)
(dd:L2.NF K "rule_of" uY b4)
(bt:L2.NF K "fits_lift" mV db)
(cZ:L2.NF K "fits_lifts" j3 c4)
(di:L2.NF K "fits_locked" iL dX)
(cY:L2.NF K "made_house" jW bc)
(dS:L2.MF K rc "__init__" "Court.__init__" j5 aP)
(bJ:L2.NF K "cabin_of" qC du)
(a0:L2.MF K rc "begin" "Court.begin" iM bR)
(bO:L2.NF K "present" qr dR)
(dt:L2.NF K "choices" qB bB)
(ei:L2.NF K "led" Lm dN)
(c5:L2.NF K "need_kinds" jS ej)
(b5:L2.NF K "put_state" mL dE)
(d1:L2.NF K "graph_of" qy dM)
(bI:L2.NF K "_law_draw" yM cT)
(cS:L2.NF K "_law_whole" u4 bo)
(dg:L2.NF K "_law_house" u7 bQ)
(dA:L2.NF K "_law_rule" yK ee)
(cL:L2.NF K "_law_court" u8 dC)
(bd:L2.NF K "_law_kinds" u6 dO)
(ci:L2.NF K "_law_inside" qv dV)
(dw:L2.NF K "_law_choices" mT bX)
(cs:L2.NF K "_law_shape" u5 d7)
(b9:L2.NF K "_law_pair" yL dJ)
(cp:L2.NF K "_law_numbers" mR cE)
(c0:L2.NF K "_law_ways_right" iJ ed)
(dQ:L2.NF K "_law_found_right" gL c6)
(cQ:L2.NF K "law" Ln c7)
(Ke:L2.gm K sG)
(xW:W.findIn K (.ref sG) "turns"=some none)
(GH:L2.gm K lB)
(vU:W.findIn K (.ref lB) "turns"=some none)
(Kc:L2.gm K vq)
(xV:W.findIn K (.ref vq) "turns"=some none)
(GF:L2.gm K jp)
(uo:W.findIn K (.ref jp) "top"=some none)
(jH:W.findIn K (.ref jp) "letters"=some none)
(vR:L2.gm K cP)
(oW:W.findIn K (.ref cP) "top"=some none)
(ir:W.findIn K (.ref cP) "letters"=some none)
(rW:L2.gm K bS)
(l8:W.findIn K (.ref bS) "top"=some none)
(gq:W.findIn K (.ref bS) "letters"=some none)
(lV:L2.gm K bN)
(ii:W.findIn K (.ref bN) "top"=some none)
(dP:W.findIn K (.ref bN) "letters"=some none)
(vQ:L2.gm K dU)
(kx:W.findIn K (.ref dU) "top"=some none)
(fz:W.findIn K (.ref dU) "letters"=some none)
(Kj:W.nsIn K mainGlobals "range"=some none)
(Qp:W.nsIn K mainGlobals "len"=some none)
(Ki:W.nsIn K mainGlobals "tuple"=some none)
(Ms:L2.Mk K sG ak)
(IR:L2.Mk K lB ak)
(Mr:L2.Mk K vq ak)
(CT:W.nsIn K mainGlobals "NO_LIFT"=some (some (.int (-1) Dl)))
(xZ:W.nsIn K mainGlobals "enumerate"=some none)
(Qo:W.nsIn K mainGlobals "min"=some none)
(Qt:W.nsIn K mainGlobals "abs"=some none)
(v5:W.nsIn K mainGlobals "MOST_FIXED"=some (some (.int 9 wy)))
(Nx:W.nsIn K mainGlobals "list"=some none)
(Kn:W.nsIn K mainGlobals "STUCK"=some (some (.int 0 KS)))
(Ny:W.nsIn K mainGlobals "dict"=some none)
(E9:L2.Mk K vt a3)
(Qr:W.nsIn K mainGlobals "any"=some none)
(v2:W.nsIn K mainGlobals "TABLE_SIZE"=some (some (.int 36 wr)))
(Kl:W.nsIn K mainGlobals "WORDS"=some (some (.str "oxuds" KR)))
(E6:L2.Kb K jp)
(vn:L2.Kb K cP)
(qT:L2.Kb K bS)
(B4:L2.Mk K bN a8)
(IQ:L2.Mk K dU aX)
(uq:W.nsIn K mainGlobals "TABLE_START"=some (some (.str "table " uv)))
(x5:W.nsIn K mainGlobals "MOST_ROOM"=some (some (.int 6 yf)))
(v3:W.nsIn K mainGlobals "MOST_TURNS"=some (some (.int 4 wt)))
(v6:W.nsIn K mainGlobals "DOOR_KINDS"=some (some (.ref j)))
(z:K.lookup j=some ⟨.type "tuple",O,.seq #[.str "plain" J,.str "hasty" L,.str "slow" I] S,B⟩)
(Qs:W.nsIn K mainGlobals "all"=some none)
(v4:W.nsIn K mainGlobals "MOST_LIFTS"=some (some (.int 3 ww)))
(r6:W.nsIn K mainGlobals "LEAST_FLOORS"=some (some (.int 2 r9)))
(ur:W.nsIn K mainGlobals "MOST_FLOORS"=some (some (.int 8 uw)))
(Ko:W.nsIn K mainGlobals "SORTS"=some (some (.ref R)))
(ab:K.lookup R=some ⟨.type "tuple",ac,.seq #[.str "free" af,.str "way" ad] al,ag⟩)
(GV:W.nsIn K mainGlobals "NOBODY"=some (some (.int (-1) G9)))
(Gy:L2.um K rc)
(v0:W.nsIn K mainGlobals "isinstance"=some none)
(Qq:W.nsIn K mainGlobals "int"=some none)
(Nz:W.nsIn K mainGlobals "bool"=some none)
(IS:L2.Mk K rc aP):
 ∃fd:FuncData,(∀(s:Shared) (v:Value),BindsTo s fd ⟨[v],[]⟩ [("_law_script",v)])/\∀base:Heap,K.In base->base.Ns mainGlobals mg->L2.jF base mg->au l.prog w K mg base aT 12 fa fd ["_law_script"] (wA K 342 349):=by
 obtain ⟨eg,_,F97⟩:=cQ;cases cm.symm.trans (W.mg_of X G eg);rwa[⟨_,F97.law,λbase KB _ BB=> ?_⟩];have T:L2.sQ l.prog w K mg base h:=⟨X,G⟩;have Pa:=T.gl NC;have MU:=T.gl Kp;have O9:=T.gl NA;have FC:=T.gl NB;have vy:=T.gl GX;have rg:=T.gl CS;have FA:=T.gl CQ;have MT:=T.gl Km;have tT:=T.gl Nv;have nr:=T.gl Kk;have eM:=T.gl Bc;have Jf:=T.gl GW;have MV:=T.gl Kq;have F37:=vz (x:="near") (qual:="near") (st:=ez) a6 aN aO
 have cV:=F37.binds (ps:=["cabins","waiting","rider","last"]) λ_ _ _ _ _ _ us hl=>match us,hl with|[_,_,_,_],_=>rfl
 have F38:=vz (x:="least") (qual:="least") (st:=cK) aY ar aV
 have be:=F38.binds (ps:=["cabins","waiting","rider","last"]) λ_ _ _ _ _ _ us hl=>match us,hl with|[_,_,_,_],_=>rfl
 have PX:=Ke.cl;have Nl:=GH.cl;have PU:=Kc.cl;have PV:=GF.cl;have JD:=vR.cl;have Gx:=rW.cl;have Gw:=lV.cl;have Nk:=vQ.cl;have Z:=T.no Kj;have Y:=T.no Qp;have bh:=T.no Ki;have bj:=T.gl CT;have cq:=T.no xZ;have B6:=T.no Qo;have Mx:=T.no Qt;have oy:=T.gl v5;have cU:=T.no Nx;have FB:=T.gl Kn;have Fd:=T.no Ny;have Mv:=T.no Qr;have fE:=T.gl v2;have Fz:=T.gl Kl;have lD:=T.gl uq;have rh:=T.gl x5;have oq:=T.gl v3;have oz:=T.gl v6;have iZ:∀H:L2.Hp,L2.aB K H j [.str "plain",.str "hasty",.str "slow"]:=λH=> .inr ⟨_,_,_,z,rfl,rfl,L2.bA (by show 3<=1000000;decide),(.cons ⟨_,rfl⟩ (.cons ⟨_,rfl⟩ (.cons ⟨_,rfl⟩ .nil)))⟩;have Mw:=T.no Qs;have ow:=T.gl v4;have jz:=T.gl r6;have lE:=T.gl ur;have zC:=T.gl Ko;have zY:∀H:L2.Hp,L2.aB K H R [.str "free",.str "way"]:=λH=> .inr ⟨_,_,_,ab,rfl,rfl,L2.bA (by show 2<=1000000;decide),(.cons ⟨_,rfl⟩ (.cons ⟨_,rfl⟩ .nil))⟩;have pJ:=T.gl GV;have aL:=T.no v0;have qW:=T.no Qq;have Fe:=T.no Nz;have xH:=T.cal' h1 λF=>Ml F;have pf:=T.cal' h2 λF=>Mc F xH;have jg:=T.cal' h3 λF=>Ex F xH;have vF:=T.cal' h4 λF=>EX F xH;have Ge:=T.cal' h5 λF=>E1 F vF;have rJ:=T.cal' h6 λF=>BS F jg;have A5:=T.cal' h7 λF=>BV F Z pf;have A4:=T.cal' h8 λF=>BU F A5;have xB:=T.cal' h9 λF=>za F;have bL:=T.cal' d6 λF=>ER F;have ce:=T.cal' cn λF=>EQ F;have ia:=T.cal' bz λF=>LV F;have t6:=T.cal' b8 λF=>EC F Y ce rJ;have oM:=T.cal' dh λF=>EZ F ia;have xC:=T.cal' bm λF=>IG F bL pf ce oM;have J4:=T.cal' c2 λF=>Ip F bL t6 Ge A4 vF xB xC;have A3:=T.cal' dK λF=>y8 F Y bL ce;have xG:=T.cal' cb λF=>zb F bL;have cc:=T.cal' bq λF=>Io F;have xw:=T.cal' b7 λF=>y7 F Y A3 xG cc;have ie:=T.cal' cu λF=>L6 F ia;have rQ:=T.cal' cI λF=>IJ F Y bh bL ia ie;obtain ⟨ek,_,F23⟩:=ea;have ap:=T.ok (IE F23);have Fh:=T.mkc F23 Ms Pa ap;have zm:=T.mkc F23 IR MU ap;have Ff:=T.mkc F23 Mr O9 ap;have Aa:=T.mcal' ay PX ay.1 λF=>EM F;have xP:=T.mcal' aG Nl aG.1 λF=>EL F;have z9:=T.mcal' aq PU aq.1 λF=>EK F;have xD:=T.cal' c3 λF=>BX F ah aa aj Fh zm Ff;have lM:=T.cal' cB λF=>Iv F;have jh:=T.cal' d9 λF=>y6 F;have xA:=T.cal' dl λF=>BW F;have xE:=T.cal' dc λF=>IK F cM bj pf;have gk:=T.cal' dT λF=>ET F;have lQ:=T.cal' cN λF=>OQ F cM xE jg;have fG:=T.cal' d2 λF=>Ma F;have lK:=T.cal' dB λF=>Iu F cq fG;have jB:=T.cal' dH λF=>OO F Y Z bj fG;have dY:=T.ok (IB a6 aN (W.codeHd_of_K KB aw) BB B6 Mx bj lK);have Gd:L2.aU l.prog w K mg base _ "near" ["cabins","waiting","rider","last"] _:=⟨_,_,dY,cV,aO,T.gl bx⟩;have dZ:=T.ok (EN aY ar (W.codeHd_of_K KB a2) BB B6 Y bj lK);have zS:L2.aU l.prog w K mg base _ "least" ["cabins","waiting","rider","last"] _:=⟨_,_,dZ,be,aV,T.gl bs⟩;have nL:=T.cal' dm λF=>EA F bj jB;have x6:=T.calX' dk λF=>OR F Y oy tT nr eM;have kj:=x6.calm;have A6:=T.cal' dG λF=>EU (Pn:=342) (Pl:=349) F cM bh bj gk;have jj:=T.cal' bU λF=>BY (Pn:=342) (Pl:=349) F cM cU cq bj A6;have rK:=T.cal' dD λF=>ID F cM bL;have ue:=T.cal' cx λF=>Mf F cM (FS Ke xW GH vU Kc xV Aa xP z9) Y lM jh xA rQ rK xD pf cc;have oN:=T.cal' dW λF=>Mj F cM lM jh J4 xw;have gh:=T.cal' bC λF=>Md F cM ue cc oN;have a4:=T.cal' bM λF=>OP F cM FB pf gh;have lz:=T.mkc' ch E9 Jf λF=>EJ F cU;have ji:=T.cal' cG λF=>LW F cM bh;have oH:=T.cal' bl λF=>BR F;have rG:=T.cal' bE λF=>EI F Y;have ib:=T.cal' bi λF=>EH F oH;have rH:=T.cal' b0 λF=>IA F ib rG;have lJ:=T.cal' eh λF=>Ir F;have fF:=T.cal' d8 λF=>L5 F Fd lJ rH;have fH:=T.mcal' aD Gy aD.1 λF=>EB (Pn:=342) (Pl:=349) F cM Y Z fF lz lQ jj a4 ji;have vE:=T.cal' d3 λF=>EE F;have xz:=T.cal' cJ λF=>y9 F;have ua:=T.cal' c8 λF=>wZ F;have im:=T.cal' bY λF=>EG F;have xx:=T.cal' ba λF=>BP F;have rV:=T.mcal' aE PV aE.1 λF=>Ez F vE;have lU:=T.mcal' a5 JD a5.1 λF=>y4 F vE;have jE:=T.mcal' ax Gx ax.1 λF=>wY F xz;have jD:=T.mcal' a7 Gw a7.1 λF=>wX F ua;have oR:=T.mcal' aJ Nk aJ.1 λF=>BO F im;have qX:=T.mkc' cX B4 FA λF=>EF F;have zj:=T.mkc' bD IQ MT λF=>ED (q9:=0) F Y Mv fE Fz;have nM:=T.cal' cR λF=>Mm (k:=⟨jp,cP,bS,bN,dU⟩) F Z (Eb rV lU jE jD oR GF uo jH vR oW ir rW l8 gq lV ii dP vQ kx fz) fE xx;have CU:=T.calX' dd λF=>BQ (k:=⟨jp,cP,bS,bN,dU⟩) F Y (.mk lV ii dP) (.mk vQ kx fz) FC vy rg E6 vn qT qX zj lD;have d5:=CU.calm;have rP:=T.cal' bt λF=>II F rh oq oz iZ;have oO:=T.cal' cZ λF=>IH F Y Mw ow rP;have lP:=T.cal' di λF=>ES F xH pf;have v7:=T.calX' cY λF=>IC (AG:=0) F bh jz lE zC zY oO lP;have iX:=v7.calm;have zn:=T.mkc' dS IS MV λF=>EW F;have ug:=T.cal' bJ λF=>Mi F;have cz:=T.mcal' a0 Gy a0.1 λF=>EY F Y bh ug;have xy:=T.cal' bO λF=>Ix F lJ;have xF:=T.cal' dt λF=>OS F Y Z pJ xy;have Ju:=T.cal' ei λF=>L7 F pJ cC fH;have oG:=T.cal' c5 λF=>LZ F ib;have kh:=T.cal' b5 λF=>Iw (Pn:=342) (Pl:=349) F Y;have uc:=T.cal' d1 λF=>EO F cC Y oG kh cz xF Ju;have cy:=T.cal' bI λF=>Rl F Y;have ig:=T.cal' cS λF=>Ey F aL qW Fe;have rN:=T.cal' dg λF=>IF F Z qW cy iX;have ub:=T.cal' dA λF=>LY (k:=⟨jp,cP,bS,bN,dU⟩) F Z cy d5 nM;have rO:=T.cal' cL λF=>Mg (Pn:=342) (Pl:=349) (k:=⟨jp,cP,bS,bN,dU⟩) @c F (Eb rV lU jE jD oR GF uo jH vR oW ir rW l8 gq lV ii dP vQ kx fz) cC zn tT nr eM Gd zS nL kj d5 cy rN ub;have rM:=T.cal' bd λF=>L9 F Z qW Y cy;have oK:=T.cal' ci λF=>Mb F;have lO:=T.cal' dw λF=>Mh F Y Z oK;have rL:=T.cal' cs λF=>LX F aL bh cU Y;have ge:=T.cal' b9 λF=>Iy F aL bh Y ig;have lN:=T.cal' cp λF=>Iz F aL bh Y Z;have io:=T.cal' c0 λF=>LU F aL cU Y Z lO ge Ju;have gf:=T.cal' dQ λF=>Me F Y Z ge;exact L8 F97 cC Z Y cU cz uc rO rM rL lN io gf
theorem Qu {l:PySem.W.OpenLaw}{q:Program}{j:List Str}{J:(Str->Option Value)->Heap->Prop}{I:World->Heap->Prop}{d:DefRec}{K:Params->Fg}(O:l.most=some 63)(U:d.params.defaults=[])
(L:∀(w:World) (h:Heap),I w h->(K w.params).In h/\∀t∈([(346,342),(351,349)]:List (Addr×Addr)),h.get? t.2=some (W.tabObj #[]))(aj:∀w:World,W.noTabs @bJ=true)(B:∀w:World,∀t∈([(346,342),(351,349)]:List (Addr×Addr)),W.codeHdIn @bJ t.1 t.2=true)
(F:∀(w:World) (mg:Str->Option Value) (fa:Addr) (h:Heap),(K w.params).In h->h.Ns mainGlobals mg->mg d.name=some (.ref fa)->
   ∃fd:FuncData,(∀(s:Shared) (u:Value),BindsTo s fd ⟨[u],[]⟩ [("_law_script",u)])/\∀base:Heap,(K w.params).In base->base.Ns mainGlobals mg->L2.jF base mg->au l.prog w @bJ mg base aT 12 fa fd ["_law_script"] (wA @bJ 342 349)):
 PySem.W.WalkO q j J I l.row.toRowW d [] @cU:=
 L2.C2 (tabs:=λ_=>[(346,342),(351,349)]) (n:=63) (k:=12) (x:="_law_script") (CX:=λ_=>aT) (sp:=λw=>wA @bJ 342 349) O @c U ⟨rfl,by decide,by decide⟩ L aj B F (λ_ _ a ns Z Y R S=>Fj S Z Y R) λ_ _ _ _ _ z=>z
end My
open PySem PySem.W PyProof.Rows
local macro_rules | `(tactic| walk_at "l3t") => `(tactic| first | (refine' L2.OU ?_ ?_ ?_ ?_; all_goals try k_is) | (refine' L2.OY ?_ ?_ ?_ ?_ ?_; all_goals try k_is) | k_is | kernel_rfl | (refine L2.Sd ?_; constructor <;> walk_at "l3t"))
set_option maxRecDepth 100000 in
set_option maxHeartbeats 0 in
theorem PySem.Challenge.cw_liftcourt_k61_graph_closed_holds : PySem.Challenge.rw_liftcourt_k61_graph_closed.Holds := by
 w_on;o_law;k_head;(case hw=>w_witness2)
 k_fill
 rwa[My.Qu (l:=PySem.Challenge.rw_liftcourt_k61_graph_closed) rfl rfl (λw h Y=>⟨PySem.W.km_in_of Y,λt J=>PySem.W.km_tabs_of Y _ (by simp only [mem_cons,not_mem_nil,or_false] at J;rcases J with rfl|rfl<;>decide)⟩) ?lnt ?lhc ?F]
 (case lnt=>intro w;kernel_rfl)
 (case lhc=>intro w t J;simp only [mem_cons,not_mem_nil,or_false] at J;rcases J with rfl|rfl<;>kernel_rfl)
 case F=>
  intro w mg z h j G S;refine' My.Nc j G S ?_ ?_ ?_ ?_ ?_ ?_ ?_ ?_ ?_ ?_ ?_ ?_ ?_ ?_ ?_ ?_ ?_ ?_ ?_ ?_ ?_ ?_ ?_ ?_ ?_ ?_ ?_ ?_ ?_ ?_ ?_ ?_ ?_ ?_ ?_ ?_ ?_ ?_ ?_ ?_ ?_ ?_ ?_ ?_ ?_ ?_ ?_ ?_ ?_ ?_ ?_ ?_ ?_ ?_ ?_ ?_ ?_ ?_ ?_ ?_ ?_ ?_ ?_ ?_ ?_ ?_ ?_ ?_ ?_ ?_ ?_ ?_ ?_ ?_ ?_ ?_ ?_ ?_ ?_ ?_ ?_ ?_ ?_ ?_ ?_ ?_ ?_ ?_ ?_ ?_ ?_ ?_ ?_ ?_ ?_ ?_ ?_ ?_ ?_ ?_ ?_ ?_ ?_ ?_ ?_ ?_ ?_ ?_ ?_ ?_ ?_ ?_ ?_ ?_ ?_ ?_ ?_ ?_ ?_ ?_ ?_ ?_ ?_ ?_ ?_ ?_ ?_ ?_ ?_ ?_ ?_ ?_ ?_ ?_ ?_ ?_ ?_ ?_ ?_ ?_ ?_ ?_ ?_ ?_ ?_ ?_ ?_ ?_ ?_ ?_ ?_ ?_ ?_ ?_ ?_ ?_ ?_ ?_ ?_ ?_ ?_ ?_ ?_ ?_ ?_ ?_ ?_ ?_ ?_ ?_ ?_ ?_ ?_ ?_ ?_ ?_ ?_ ?_ ?_ ?_ ?_ ?_ ?_ ?_
  all_goals try walk_at "l3t"
