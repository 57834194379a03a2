import PyProof.Rows.All
import Wide.All
import KE.KDictOf
import KE.KDictList
import KE.KNestM
import KE.KFromBytes
import KE.KIsAll
import KE.KLam
import KE.RegMulBits
import Wide.FinOn
import KE.LcSums
import KE.KIntText
import KE.KRevIter
import KE.KMinKey
import KE.KCount
import PySem.Challenge.RW_liftcourt_k36_a_lifts_turn
set_option Elab.async false
set_option bootstrap.genMatcherCode false
set_option linter.all false
set_option maxRecDepth 100000
set_option maxHeartbeats 4000000
local macro_rules|`(s! $x)=>match x.raw[0].isInterpolatedStrLit? with|some s=>`(PySem.Str.ofString $(Lean.quote s))|_=>Lean.Macro.throwUnsupported
local macro_rules|`(tactic|symm)=>`(tactic|(intro _ _ _ _ h;cases h;subst_vars;rfl))
local macro_rules|`(tactic|ac_rfl)=>`(tactic|exact ⟨rfl,rfl,rfl,by decide+kernel,rfl,by decide+kernel,by decide+kernel⟩)
local macro_rules|`(tactic|ext)=>`(tactic|conv=>whnf)
local macro_rules|`(tactic|rwa[$x:term])=>`(tactic|refine $x)
local macro_rules|`(tactic|erw[$x:term])=>`(tactic|(refine $x;conv=>whnf))
local macro_rules|`(tactic|left)=>`(tactic|walk_at "l3go")
local macro_rules|`(tactic|right)=>`(tactic|walk_at "l3dd")
namespace Lean
def wN:=Syntax.node .none
def wI(s:String):Syntax:=mkIdent (.mkSimple s)
def wA(s:String):Syntax:=if s=="_" then wN ``Parser.Term.hole #[mkAtom s] else
 let c:=s.front;if c=='?' then wN ``Parser.Term.syntheticHole #[mkAtom "?",mkAtom "_"] else if c=='@' then wN ``Parser.Term.explicit #[mkAtom "@",mkIdent (s.drop 1).toString.toName] else
 if c.isDigit then Syntax.mkNumLit s else if c=='"' then Syntax.mkStrLit ((s.drop 1).dropEnd 1).toString else if c=='!' then Unhygienic.run (match s with|"!r"=>`((by right))|"!d"=>`((by decide))|"!l"=>`((by lia))|"!a"=>`((by assumption))|"!s"=>`((by simp))|"!k"=>`((by decide+kernel))|"!c"=>`((by kernel_rfl))|"!q"=>`((by walk_at "l3sq"))|"!f"=>`((by first|assumption|decide|lia))|"!g"=>`((by first|assumption|decide))|"!h"=>`((by first|decide|lia))|_=>`((by with_unfolding_all rfl))) else
 let d p:= !(p:String).front.isDigit;if c=='.' then wN ``Parser.Term.dotIdent #[mkAtom ".",mkIdent (s.drop 1).toString.toName] else let q:=s.splitOn ".";let i:Syntax:=mkIdent ((q.takeWhile d).foldl .str .anonymous);(q.dropWhile d).foldl (λt p=>wN ``Parser.Term.proj #[t,mkAtom ".",if d p then wI p else wN `fieldIdx #[mkAtom p]]) i
def wE(x:String):Syntax->Bool|.atom _ y=>x != y|_=>true
def wF:List Syntax->Syntax|[]=>.missing|[x]=>x|x::y=>Syntax.mkApp ⟨x⟩ (y.toArray.map (⟨·⟩))
def wL(l:List Syntax):Syntax:=match l.dropWhile (wE "λ") with|[]=>wF l|_::b=>let v:TSyntaxArray ``Parser.Term.funBinder:=(b.takeWhile (wE "=>")).toArray.map (⟨·⟩);let e:Term:=⟨wF ((b.dropWhile (wE "=>")).drop 1)⟩;wF (l.takeWhile (wE "λ")++[(Unhygienic.run `(fun $v*=>$e)).raw])
def wS(l:List Syntax):Syntax:=let r:=l.foldl (λ(s:Array Syntax×List Syntax) x=>if wE "," x then (s.1,x::s.2) else (s.1.push (wL s.2.reverse),[])) (#[],[]);Syntax.mkSep (if r.2.isEmpty then r.1 else r.1.push (wL r.2.reverse)) (mkAtom ",")
def wC(c:Char)(l:List Syntax):Syntax:=if c==']' then wN `«term[_]» #[mkAtom "[",wS l,mkAtom "]"] else if c=='⟩' then wN ``Parser.Term.anonymousCtor #[mkAtom "⟨",wS l,mkAtom "⟩"] else match l with|x::y::r=>if wE ":=" y then wL l else wN ``Parser.Term.namedArgument #[mkAtom "(",x,mkAtom ":=",wL r,mkAtom ")"]|_=>wL l
def wP(s:List (List Syntax)×String)(x:Syntax):List (List Syntax)×String:=match s.1 with|[]=>s|f::g=>((x::f)::g,"")
def wG(s:List (List Syntax)×String):List (List Syntax)×String:=if s.2=="" then s else wP s (if s.2=="=>"||s.2==":=" then mkAtom s.2 else wA s.2)
def wT(s:List (List Syntax)×String)(c:Char):List (List Syntax)×String:=if " ([⟨)]⟩,λ".contains c then let s:=wG s;if c==' ' then s else if "([⟨".contains c then ([]::s.1,"") else if c==','||c=='λ' then wP s (mkAtom c.toString) else match s.1 with|f::g=>wP (g,"") (wC c f.reverse)|_=>s else (s.1,s.2.push c)
def wD(t:String):Syntax:=match (wG (t.foldl wT ([[]],""))).1 with|[f]=>wL f.reverse|_=>.missing
end Lean
def Lean.wW:=("!r~!d~!l~model X.prog X.w~!s~!k~λC s H ex => @a~Nat.le_refl _~λz => ?_~ac(ai @a)~!c~Or.inl rfl~model prog w~λj A outer s H R Q E S h => ?_~bz X scope N' C s H ex~λ_ _ => rfl~λab A outer s H vs Q E hr h => ?_~upd(upd H dx(.own a))a(.ins C dx[])~λC s H ex => bK~au @a(ac(ai aT))ak~PySem.W.instObj C s.heap.objs.size~EP X pins σ Q~λz => absurd z.1 @b~λC s H ex => (cc @a)~mem_append_right _(.head _)~!u~ac(aJ @a)~length_filter_le _ _~ar @a ao~starEach es X.env~λC s H ex => (wv 0)~ys.set j(.ref t6)~Heap.lt_size e~Option Nat~bh I q @e~post_val_or_str⟨Nat.le_trans(Txt.slice_le z _ _)J,G⟩~λC s H ex => (gv(K := K)(n := 2)rfl rfl(aM @a(aM @a eU)))~bz X scope N' C F H fp~λaf A outer s H vs Q E hr h => ?_~decide_eq_true z~dG rfl~rs.map aI.d~λz A outer s H R Q E S h => ?_~bw(gB rfl S)(wv 11)aT(bx _)~mem_append_right _(.tail _(.head _))~λC s H ex => (gv(K := K)(n := 4)rfl rfl(aM @a(aM @a(aM @a(aM @a eU)))))~mem_append_right _(mem_append_right _(ij O e))~d4 pk σ~au @a @j ak~λad A outer s H vs Q E hr h => ?_~model P w~some(.ref f)~~~~~~~~~~~ac(ai fg)~be @c~λG A outer s H R Q E S h => ?_~Nat.lt_of_lt_of_le @G I.ok.above~aL(pX rfl)rfl d7 boot_list @C~aH hs.lo⟨cs,ws,last,false,0,[]⟩ds~upd H p(.lst ys)~fj X.env.cells scope.names[]~Nat.ne_of_lt(Nat.lt_of_lt_of_le @G(I.ok.cab x c U G))~Option Value~au @a(ac @a)ak~eh(az.of R)(.cons(.str _)(.cons(.int _).nil))~List.map V.bl bs~ds.getD j .non~es.getD j .non~bT @O(wv 0)aB @p~wpAny_pure⟨_,rfl,wpAny_pure h⟩~Nat.lt_irrefl _~rJ CX P w K mg base N qual scope f j A outer s H E~bq hs.so c.pl c.li c.ps(rk.word U c.li he up dn)~upd H a o~cG so room pl s r~λj A outer s H U Q E S h => ?_~jr xs lo hi~~ar(wv 1)ao~λx c z => bv.keep z st~binaryOp .Add~λh => ?_~mS cs ws j~some v~upd H p(.lst(xs.set j v))~Value.type.inj cl~I.hok.fresh @h~upd(upd H P _)c' _~cL rfl(wv 0)(wv 1)~λy => Bool.noConfusion y.2~upd I G(.dK[])~envOfC qual scope s.heap.objs.size f cd~kla_obj name qual j F scope U pm c' ctv~mem_append_right _ G~az.of(O _ _ ad)~ac(ai aB)~ax(N' := [\"_law_pair\"])(pk := [none])@k~I.ok.hd hc~mem_append_left _ G~wpAny_pure ?_~K w.params~aC.of a.ec~λh2 => ?_~!a~starEach es env~~~~~~~~~~~upd H' D(.lst ys)~bT @O(wv 5)(wv 10)@p~Nat.lt_succ_self _~min its.toArray.size J.toArray.size~j5 zs~upd H a(.ins C dx(putF f y fs))~ns.map V.int~zs.map V.int~J.hok.fresh @h~upd H l(.lst ys)~y4 P w~λσ HY pv => ?_~ps.zip us~λy => ?_~Builtin.Str.glued z ts~!q~O.st.trans(.updL(O _ _ a.el))~letOwnedTupleGo tg(.ref it)u~compareOp .In~Value.ref j.objs.size~dP rfl~λi y G j S h => ?_~he pins s σ H _ I h~jt H m lc lw ll~aC.of e1~az.of ad~dE rfl~upd H6 lw(.lst @F)~U pins s σ H _ I h~z pins s σ H _ I h~PySem.F.args_tuple_add_2 _ _~tS X.K H e~ac(ai(wv 1))~aC.of R~ac(ai(wv 2))~fj env.cells scope.names[]~af st~ps.mapλp => p.cps.toList~λh1 => ?_~b6 P w~compEnvC scope @bh C X.env~starEach[]X.env~wpAny_seqItems nS.1 rfl ?_~ar(wv 11)ao~bq hs.so c.pl c.li c.ps wd~upd H l(.tup ys)~I.same O~az.of eb~S b o e j~g i j~assign(.Name x F)X.env~λf vs => PySem.call f vs~~~~~~~~~~~unhid cs H H2~bq so pl li ps wd~λx c z => bv.keep z S.st~az.of G~upd H Z(.dK[])~dZ @a(gy @a(wv 1)jT)~cL rfl(wv 0)@a~dZ @a(gy @a(wv 2)jT)~pyNext(.ref it)~f(.int i t)(.int j u)~λj g1 g2 => ?_~iQ(j.take xs.length)f~compareOp .NotIn~start N vs~~ps.mapλp => p.2.toNat~bT @O(wv 6)(wv 8)@p~λi y us HX hy h => ?_~λb o F e => eb b o F e~L pos pins s σ H _ I h~J pos pins s σ H _ I h~ts.map V.str~CR bd outer P w H s Q E~mP Kλl => .int l.rm~mP Kλl => .int l.tn~zq @c~bS rfl aQ @C~λj σ HY hj pv => ?_~F.args_str_split_2 _ _~tk l.rm c.ps rs~λi ys H' hi p => ?_~I.base.free b o e n j~PySem.mem_of_lookup h~HT.sIx xs.length 0 lo~keywordEach[]X.env~λb u z => ?_~~ps.map d5~rs.take i~wv 10~ws.map aI.d~L2.hid cs H~ds.take j~Builtin.bitAnd c.mr 2~Builtin.bitAnd c.mr 1~~TP X pins σ Q~binaryOp .Mult~ds.anyλd => jP d e~PySem.W.instObj C dx~hi pins s σ H _ I h~Builtin.bitOr c.mr 1~~~~~~~~~~~Builtin.bitOr c.mr 2~λS => ?_~λvs H Q E h => ?_~λ_ q => q~wL X.stack~L pins s σ H _ I h~S pins s σ H _ I h~Nat.le_succ _~dF st~W pins s σ H _ I h~λz => h1 z.1~bT @O(wv 9)aB @p~some u~aa @a @j~jo M i~bQ i M~λR H Q E h => ?_~ar(wv 5)ao~ar(wv 2)ao~O.take j~bJ 0 M d~xs.set j(.ref tn)~keeperOf(.ref f)~λz => h z.2~λz => R z.1~bM.same dr U~bO c.pl c.ps~sv.map V.int~au @a @ba ak~λk => z k.2~λk => b k.1~λk => a k.1~az.of(u2 _ _ f1)~I.ok.hd J~SZ X pins σ tg R~I.ok.hd j~λx => x.1.isSome~λj => jP @bn @bo~iL r.start r.goal~decide_eq_true h1~gB rfl hr~xK K GG LB pre dl~S.seqT hT~s9 _ _ aw~af _ _ as~F b _ qλz => z~tM h lc lw M.last M.fire M.bl ll~λod => ?_~bI q z~Nat.ne_of_lt @bd~I.tok _~typeIs_str s z t~~~~~~~~~~~ns.map WData.int~Ev pk wi g tt te~aS h'.1~bN h'.2~typeIs_str _ _ _~λ_ _ _ => False~tQ j.heap H~aC.of S~bq so pl li ps j~aI.d r~jt H1 m lc lw ll~aH 0 @bD ds~λσ I R => ?_~~eval iter X.env~s.heap.push PySem.W.emptyDict~sIx j.size 0 lo~fe st~aa @W @j~ac(ai(wv 4))~λx => ?_~λu => ?_~aC.of e2~ur uf aB~λb => ?_~Pz r ta tb~h1.trans z~O _ _ a.ew~λ_ => rfl~jd _ _ _ _~pP _ _ _ _~mS cs ws F~Heap.lt_size q~λ_ _ => False~λ_ _ _ q => q~dO kvs p.1 p.2~M'.ws.map aI.d~pZ rfl~tupleKind @cN~I.freeC x c e~wpAny_bind ?_~upd H p o~Nat.zero_le _~aJ @a~ar(wv 8)ao~ps.take i~ac qS~ds.take i~ar(wv 3)ao~bW(j := 0)rfl~Str.ofString \"0123456789\"~ar(wv 0)ao~~~~~~~~~~~s6 _ _ as~mS W ws G~Q(decide D)~I.stkSub b z~σ.set i @bE~eval o X.env~au @a @cG ak~au @a @bQ ak~tk l.rm ps G~Option V~bz X scope N' C s H fp~List Nat~hid cs H~aC.of ag~L _ _ eW~aC.of as~fs.lookup f~i _ _ _ _ q~Option Expr~aD dl W i M~lj rfl~c.ps.take j~wv 12~s5.trans s6~lq rfl~c.ps.map d5~u2.trans u3~u1.trans u2~λW => ?_~Str.ofString \"oxuds\"~toString i~Or.inr rfl~tb σ H1 Q~uc c' q~O.trans s2~xs.set i v~O _ _ a.el~aC.of a.ew~wR h ru df~sY.trans L~ad.seqT hT~ad.seqT hp~upd H x o~Ne.symm Z~bs.all id~ks.map kV~aa @a @en~Ky C dx t~yV c.ps U~s7 _ _ el~eu cs~fh cs @dQ~~~~~~~~~~~X.wish E~fF cs ws~fh cs ds~backTo pos @bZ~dO kvs G.1 G.2~aD dl M.ws i M~Iq lo n~kc kD kH kS k~y9 cs d~Ie K a~Ic K a~M.ws.take j~c5 dl M p r~hH.same a.s~s3.trans s4~J.map V.int~u3.trans u4~dq mg zs lx~aH 0 @gb ds~its.push y~s3.trans O~L2.oG _ _ _ _ _~L2.ae !q rfl ?_~L2.aW !q rfl ?_~L2.iY _ _ _ _~L2.eX !q ?_~L2.bZ !q ?_~L2.Ej _ _ _ _ _~L2.jU !q rfl ?_~L2.spDraw _ _ _ _ _~L2.drawI !q !l !l !l ?_~L2.nX _ _ _ _ _~L2.wF rfl(.tup !q)rfl ?_~L2.wF rfl(.lst !q)rfl ?_~L2.oa _ _ _~L2.cZ !f ?_~L2.bB !f ?_~L2.Do !f ?_~L2.AK !f ?_~L2.aP !g ?_~L2.aG !g ?_~And(L2.Rc _ _ _ _)_~⟨.inl⟨rfl,_,!q⟩,?_⟩~And(L2.DT _ _)_~⟨L2.rN !d !d,?_⟩~And(L2.xj _ _)_~⟨L2.du !h !h,?_⟩".splitOn "~").toArray
local macro_rules|`(@$i:ident)=>do
 let n:=i.getId;let k:=n.toString.foldl (λk c=>k*62+(("abcdefghijklmnopqrstuvwxyzABCDEFGHIJKLMNOPQRSTUVWXYZ0123456789".splitOn c.toString).head!).length) 0;let s:=Lean.wW.getD k "";if n.hasMacroScopes||n.toString.length>2||s=="" then Lean.Macro.throwUnsupported else return Lean.wD s
open List (all_cons all_eq_true all_map any_cons any_eq_false any_eq_true any_filter any_map append_assoc append_nil cons_append drop_eq_getElem_cons drop_length ext_getElem filterMap_cons filterMap_map filter_append filter_cons filter_cons_of_neg filter_cons_of_pos find?_cons flatMap_append flatMap_cons flatMap_nil foldl_append foldl_cons forIn_cons getD_eq_getElem?_getD getElem?_append_left getElem?_append_right getElem?_drop getElem?_eq_getElem getElem?_map getElem?_replicate getElem?_set_ne getElem?_set_self getElem?_take_of_lt getElem?_zip_eq_some getElem_inj getElem_mem length_append length_cons length_drop length_eq_zero_iff length_filter_le length_map length_nil length_pos_iff length_range length_replicate length_set length_singleton length_take lookup_cons lookup_eq_none_iff map_append map_congr_left map_cons map_eq_nil_iff map_map map_nil map_set mem_append mem_append_left mem_append_right mem_cons mem_cons_of_mem mem_cons_self mem_filter mem_filterMap mem_flatMap mem_iff_getElem mem_iff_getElem? mem_map mem_map_of_mem mem_of_getElem? mem_of_mem_take mem_or_eq_of_mem_set mem_range mem_reverse mem_singleton nil_append nodup_append nodup_cons not_mem_nil of_mem_zip pairwise_lt_range range_succ range_succ_eq_map rel_of_pairwise_cons replicate_succ set_getElem_self size_toArray sum_cons take_add_one take_length take_of_length_le take_sublist take_succ take_zero)
local macro_rules|`(#check $s:str)=>do
 let a←(s.getString.splitOn " ").toArray.mapM λw=>let i:=Lean.mkIdent (.str `PySem.W.Fast ("tw"++toString (w.foldl (λk c=>k*62+(("0123456789ABCDEFGHIJKLMNOPQRSTUVWXYZabcdefghijklmnopqrstuvwxyz".splitOn c.toString).head!).length) 0)));`(command|def $i:ident:=True)
 return Lean.mkNullNode (a.map (·.raw))
#check "H7kiPCCPCEt 4ZAKC6tdTJH CwkHUyjvjQw 6Z1TkKVsfw5 6n89QLqrlNb 7oknZh7M5Gr 5uKpSEizNTS 3BWBEtCjQ3q KgPQxqqx0AG DTONumMqg8L 61EtQCWcpd3 C09b0YJKoWu DH3Co3imrFB Dof96DLh1Gl KuoQbPPrhuf Gjl0bxf2o3n 6mFQC7f6v0K 8njGXXGRafK CK01ccSEDIx Lva6Cda6EAe WD9RitbXvC 3dorc4sWL2x 6YHNc7Rp3Bs JcrU7KX2Hcp 5rAlghMhzZ8 8iQN4XsokW6 L2xy2sEiign JvvIkR3xlFi 6Hn6oNipeZC FpbfEtwUKqc 5Zq8YpvoHG6 3ZNvjpV2P9E 2tWqxcEY7l0 20y6sLvmPWJ AGW2kMxpjzI 5V5Pvz7cSwv 8z8D1dlndao AJ7bjhNVPq5 70DhUtsLvoi 4kyB9CzAqUY HAHAa5Wl2UI 2mBFhU0aoW8 85QnlLa3Iio FvyIvh8okwb G6QyK9YYOtZ J6zCFDZJUWC DnHcmtBs5jW 5vU7d3IE27G CK1Q0kanqnX BzxGYxzCenz 9lJHGGcUaBl KZIftDhahFp EYNLF9OM3t7 AI6QEHIhzcr 8yXCrV7YgmE 47491gAL2YB B4m9rcGd87C EKkG5HbEEXZ LES4zy67WzJ AYFV2wNiYXb 4V6GHzAWOhg 3j49Yh4xaF0 G2w8dxlNRZp 3cvUO4CJLGm JM6W2RpM8am 2cbX6OgNgyB DIM9f9Qux8J JW0mk1xhzb4 35j80cu8E9A 2gaHipZpX3z LgRhxMktaPQ EHnUw1dt8YN E1c2rrD4Iwn 6ZEoAyfEDGB 72vXHAsSHGU E9Bah2MSNPD LrXeke4VVRS 5hVExELnJKl 2yEewRXMNo8 B6gBvNomW9r 6tiQS1PS7xq CuO4zTct9KI BuXXNaM5XnQ FkUrCk5pMoi KopyfR4dHwx FonE6KIveJi BxMikzpR5p2 1kkqhGsZyLI HlkzH84mx0Y KVgmXSDFLXB JWeWKJtNJOs mLVxvdq67z 8gq7nB4kUHI COw9XcbEv0B eCY8fOuSQh 12TsH3JbHU3 7GemP8B8WhB ASKicFAXJdG 3EeRxKiIkkJ HC1j1jNYtS8 8Sl9ohBkZPQ BDjPq0UNKSd 2LlhRRr1OFZ 7REP4QTpXfp DosBVOtAHRq 4kO2vxh6lnn 9NEKzyb8Qtx 7MMNWVU5fbR JdpCOLJxl2I 5iihSzGasgf JKOA4OT70EB CubNBhUQtUy CGqRXUj9TJF 4WHLsPDfSqf ENxXPq8Rc4y 1zrYGfYMLWt ArpnerSeA5d 1sGhLtvT2rg 4ThaYpVZ3Xm DlLi1aNXrAC 3eb3TDhv4Pi 9zBlpJuQ9fq HbyLSQRc22A Gy6A6ct0hX5 JYgGLFLCGXU CuwvakUdc2x 2JsVwEKZdB7 4qVQDYODAKA 2hdXAaqGyel DvDGKcdiI7v FhU0aw4P54K IaBlxyVaI44 GMxynudxxQN CJgl8VhtHrw HA76WPvTmxR FEMbPpxYxmS dqe2jre4OH KbZAXOGNiuR 9wl4nYmxiNn CdEy942cc8w IRonKSSwyYR KNLeY9JqH8I 2gVulfE2wml 7a9K7gD2o8X GNwgvXrssA BXLK3DHXoqf KfAsZMcRTUW 5v1vz4wmXzV HIw5nNdclr7 K8LoBQ8t3iy 2J63UeBGitl 29TVIDdiaR8 KWYIVWb4Nkj KUn6jfzrZLQ EampdJXHF5G LydGok52u8X JMgkNOvm6uJ A3FqIBhsZ9U DOeBpDvLk3D HsFoSxGDtGl AYukLGyFwvn EAzu0rYrSG8 8lWTHBEImjx EPS1ZR7bciZ C6g0YMXB5uP IuaS7ESpMbK 9ACq6xrejXe CcA8IlbWQKk 5Fm2MB5DDeK Cl5CTLzBxQR 2UEUqMBegjD FRPRHISYF6e 32vg1LzdN7C 5a60FPnR1eQ 9nc4aH8Ohng J329TkGkMaT 8m2cmXZGxTt AUgalI1rTaO ElXsc5iIHD7 Im3Nf8reGbG DFU6QWBJvHs 7jDWRUfQ7Ef 1VllVa0yrX2 DSZ5ZwW8GQK L83YjMwR49A AiYRxcae8tR 8hs6tMEIYMI KgvTkL9BU6c 3VProHEd94E 9qXlKjO47F5 4fEiqbV6Tk4 3gORQwy9ICE 8Eoo8ODx5ea LoJYFV7TD0I 4v2FCboDB5A JHnmCU4So9o 4EWXyzDDPxC 2QiRTAm9Iil KoUuZmaYJjU JK3xUDGedz5 2Ty4VLwsXoZ DyF08lfqd7c LjvIkfbx6yp Ac1P61ptw1L AbENMQdBtgp 48SRkb9TYxD J4HN8e7IEFr 9o2RUSkn8l3 FuR1Yu9rqXZ K19KjYtCrUT K2ToAeeIqj5 6cbMQQQ5IWk 5CBxsyadpor 65eFJNx4sc6 EDRxpf2GrjU 2eiR15CRmYj CcyBeZyDT4P EjZCFdzGesH UTUQqf19jD IgArle4oLCD 4gLUG9u92A4 6Jqfclg1kyo IS5WzXNlJRL 2dCKjPh0x5Z AQf8uC6EhzB 3qDDVnAhWml BLZ3ee92Liy BU7PHH8OcVv BIW3fWV13zv FWOljjAVcw9 Gik4JtJZq8r 8U4JWEfND8T Lbge21PBFVX HcIi9uzAMnX 2xvvD0JHOMh KvDTJES6Bjd ATlAItPO581 2THbJyGy3zw 1x9TxLsOfW2 2gb9JoaOSms BavoozfO8lJ 4nYCxWwklzI 4AQP0OJgmF9 GzILDHmLLtc ITFbOz4TDA2 9WXckdJMfWu 6dgirGkkGFy 4fbwcjsvN3D 4CUp91XiUug LuGkR33BRIs 4ZaTQNIBspV JSpt7kTLvdd ARzNNrjGMDX HyffIO8ZiVJ HIsg3oTFC5z JePZ9D5SXhN BBatGFsq2fU 57MSg8eiTtj 6aytMD1nZMO 528lmz23xku GSvVtxE8yWE gHww7l79sw 1tuFqnde8To JlAJMmyH1NV EjV7v3dYh0d KEKziCeFtfM Fof3lvrgd8v Dp0E1oFkvnf 4sI1RnKfl9D ATWFcyrpUPV HI1Wj4bBtzN GqWDRPIdIIO 9SncrVMHxbc D21oauN065v 3dbglTBQDze 2FotOOdFIjJ 85BXBDsAdS3 BKhUfVseC4x 3ZbFjXlyPJY JW4Dugp7dW5 3Ah8GmCwWkt BtgVEEtPaiV 3uDN5ZQy4D J0p6MTm1PL8 B3SvfPaXeFr 8NzXvI7DgXV 7YMxHbhxRJi DmLMlqjSzQD E6ukLh456no DqiKvpsj5qI 366XLLRWyU3 3R0nsETdT3B BA3OMJHFXyH 2BjZRafOeHy 3fiCuFhoeBh 73jDNeX3LM1 HRHZYcUMAUO JbUfwiKSJNW 8e7xYKcdJ3q 6Ay1NxXycm LaxUPyBKGMg 84W80Zp1UvJ 3E0r8V8aRcq GG6phjxajRU 6LwbQJcrEpb 6pMakIiRBkU BJJphUNlo3t L54miPAjW4z Kn53enidbqu APMha7I1JqF CgFAr4kdPqq I2P60NnMW5v 6gT6l9LVcI5 7DdFhrQqIyo ZCZR9PiKWu 7ovnkDPcjtz DEaXuwR9fQt 1cItAdYLBgd Jo4Rs5AgLem 1Sgy1olh8My 3NLt5JoSKW2 8WEVRfeTwBx 46vqpFLe1Cx FXBfVFAzJwU H5e5QtLjHes BR1iDCNmDis BfLJuOyU4pc DO1JfzbOuYr KaKN6Nq9x6p KB25tBZxwDe 1dPZVLcywpY DyUksLvmQed BP0vQIW6b9f GrNDT9QBdqb 7zG5IOk0fr9 9Z3wDEji5AE 63MagxSkpdD 27xKh4pTLiB 3CNPXoAWsib G0U1HrZnKEp 3LDHyAMezNQ 4eFKHUm34Ut JKMZDooEmBy K2koeC2oo3N 5gY3kJOn8Cl 2MCx0KetUjQ 4ZXbxjFL9OY Lr6YdxBawlK FbCpnIVTom7 IVJy3XFkCrp AUqgd3cMLVy CJCdqDnOp0i 6bYvTLz0SIM CpHks70OZV0 GgIDQtm9fz9 37LpCibK092 7GU4jet7hv8 J8RrfKiTxY 1Isg5JtUAJI 9Sk9jt0aBfQ 79KTFcGuA6S 7uysboMHeQy DEgIr4xbpss ItguodAVWG8 EiiPjSUXwL2 7ZC22wfSacM 8gaUJJYrPCn LE9fxQJGdDy CKAtxzZmg6N 7bAvPb67ANK PyjvcusK98 D7mm6NdnQI9 DoI7ka0I1eQ LBajcTxhMGa 2ELlAKYGhDg 6gGi2zF6zu5 JnsijDNnphm 4Na0Od8QhAF 2XL45hfzhKK HiCkpBYqkQa B1TZ65SoAHX DWG2iNU5OM7 Exg3O4T8cSY pLjDKE0AXv DfUDhZMVlY1 3xXEzOLMZw5 83nZ6irJEam KHFYjwXEnHK 5dQqCurJTYM 8Q0yxcbewYC LsY1irJC1tv 2g0xe12pD50 8fsfff3FTFR T3A8unkiUQ 2zPgCGGyQqX Cnq919vDCEg IVXQ8J7RxAt I0oG2mSYx5v 2MhQg7QJjUo LASB06G16DK HO9dHJvcA8n BhTQSrNreXe 2wLNK28vjeU HzSnBiQUoTQ 6aNhJwGNJQz 5auSK2D815a AK1K42JQAUf GYG7bjpqivb 65EyMusOZvY GX4LXTFBCNK 3tyUghGWjur C3937VaDOzu 5sS9euai7rT LSnfqZN919I BCqfTxjHfIM IFmhFZgIn2O 1gtkAwogiXt GsCEaJYfKfc AEh1zkc3jHT 3HEFQ9uPoU4 2HCfbXY1Euo KHJQCo3dNgD JRY2vcKtQj1 1iJAfHPEKae 8dNJQGZbVo7 6sSKmP4XCiP 4TjtGqzvHIM L4hIDlhRX5E AUBKB4clqLp EhEfnmXAgCJ FrHmit3qaoc CD7K8npIypz 1u9dHT7Wv8f KEg7NPaooFm 72X2uewbZ2C 64etKCsiTTY ENekDSScIAJ GNM2WlLSIHu HZjDRf2qElL JjWZZzbn7b3 8Gan31opK4W BB5rPU45JrB 72NdJEsSbeQ HS0ExTiJexr K3uHilXd2os 3Rkoe9W5Bzv 6xQdnqIUunP 12hGmUvJ0LS KtDfGeRWM7e 5bNqXvIizzI 81kvPmg4zAD FGebPk4qK2j H9ZAJsAQapU GwGrgYdMR8H 5LKMxXEk8ER GPD9Mw0Fl9Z 1KIjea6pdYD Llcg2uoXMLg 8gvl3Iad90N 8eoofLs3eUb L92aknKj6WE KDRYSDnOupF 7xeDhk0XwOB LLqa2tC4n3c 5sPawM62Y0P 84IJXF4hexE CDQtpzKDgHG KunEzOmHY1d 7f1YVvewYUs Cj5tIhbW7A0 AEowpWBNGb7 BaEFB69SHUn 62EO7yKlibX Ik4byIw1cVn 4nVgM1hFuAB GE9i0vJ2UQm 6Km1Eh4OAKz FapQZNPNwzA 5sGiiGPT7i7 6IELMsBDhU8 IEDgBPRVWBp Eys97bEqjC6 AYRzfWS8v6R E31lyR5U7tP 7WIBkxvJtUT 9uBG55ldHwQ 2SdN3pnhCIW 2a6tT8rRPbC BBMuRky2aMD 2CXn7Jm2PcQ Jdu86tAGsMT CMQCFB4xkbV H3zYZXrHQDG 7ee7qi0B53m 786PSb5m8kD 9mH2B2l1WwW Jqlk3Qe2TE4 Ie5XeefKYla Bf8WHReHzg8 8Td4uRP1EZ2 1OvWy6SbFLN 58RvKmYO4jL 4OV2YytgxA9 Gmajp4etauQ DNldNJfWFmt Mm7PwHqt0M Bp7ZuLByDol 4Dmff5j0QfM 5OtH2np2Zp4 14Dl2TGntY1 2oR4tT7YU6s 4U9tE028pKe 4o4ZFV8WZ62 8KXEcnNQqnY 47Los3nfiD2 LPbtvdF0yB7 I9ysxgIRIJe q4kRxtB2MG JkAtXwVJdgu Eapd3IolJfl A6DK2lTUqnw 9Rq9hyP8K6X DLqetsHdMh8 89Zytj9tzLH DYoHkEjDUgJ 4hOJXQlkjTT CNF0VHlPWVs 37vUTNweDeB DJAUyDT5Rbw LE5JsGQ3hcu aveVo04j58 FOXpVcwAsnZ 3nACfah3xRh E7mWniHrLq5 H0bcm7zq7BI 8lFQO6XW4Cu 5lkdVxuz68m AF5leDaUMdE 2Ro94aCsafG B1psBTOR9Me 4r3JMaQeRe7 K1GAxzh4WZv GDmcSATeesL 5077FTQcgtx ReVDDxRhKz 7sMAOs3VHWY 2zcuUc6A1nO IOSafB3dyBx H4Cw1eqnH7O GHdnQ4QrTCg LgYVRGOWNHj L2d1jCNFCUn LUqtR8hJPQl DEFnGk3Tzx 1g4Zpm121EW 4YCINDVLQzP 1SUF4ovlvJL B4kqQoyzVuj EmlbrpKD7m E3f9k6bvyDC JQ3y3VJT0GD HSDzLbpr85t EqJWHBdLb6j Ihy72lyPSZh Jt8MCBDWlyS CgXuFj08eur 6dwTksydFds 7UiZYNL1kBC LqVsix8mi2l EHX97VC7ViN CM6OBAAcjqp 2x4oXn7RhO2 Am04n7ZUUMD 6EUeAOVEFJ8 LAfIgvvkjbM G47lRTKm6v3 BSIKP38dhTV G8PR9nqjKWO Ari1jNpyOIV 5CfQjS8Dt27 EBK1TgEqFAn BMAL8tuB1nd CKGvzZUK4Is 2oVYfBfK1gt BgrB5XIwdFR 4Vs5bwlymCe IKGhR9h0gFW C9MC5YhaXaI C5T2R9FIgZ1 2aBQ4nIZcFr 9F6sAyNLIOD 58lgt8HG80b GhA7o0vStK3 1D5YkPR5ekt DrUo44U3u6y BGsXHxfY0fL AYULpmhDVcn 12Fknnd11ip 5u8InD2GKsw FXuXU2AIqMf JcqIIcQkZBl AL7xRy9bW8A DBOzsFzQzFv B20QuHJmuRc EfaOyEdASPD ChEDJREK3mQ 2Dk2QCk6aAw L5ZVYYNu2FK AnTjSwXKGnZ Ftfy4HOj3B0 7n1wn9fhArF 47lzSgy6EeC 1bSoxKjj0rH K00W2FKNOCP 7Uua98LZnYc F6fYSviLhjM Gej7FTI6toc 8H8f76j9jPY 9oJk3CUE4oS 2BByLYvptRB JneJyBWoHEd 35oGeMb9ZuH 3WvG7BueKio EwvZSqH2gu7 2AgA6lclNza 5HFKIFgx146 JYE6M3TQBwS 5ztpwdRgWQd 8EJvr8er6um 1vQSvLZKR4k 2noiF38amal 4nszyXqMCsg 2hakOXzvXKW JYKHtYVYowo FXhJa1AnMs E1JSmrvwMJk JGUC2TL7mOZ 66B5Qadzjer Jz74M4EXfm5 GrqOX8MRc85 5XYPIRHObG7 EVR8rv82TwE I1pokCzW8Hx C2lWVuiRqId Lixv0zr4dGG 4Xow5dGxVkZ CkQZ2asxbBM JNUcn6wuYF6 KnTDQuLjrvG Fg8ePItC0Gs UQ1Q7AEjCj BBPLTr03Pzj GvcLE3Ppfrm OXek8oAddW 9nY067tQdbw 8HyKkstKOny 78gahciS69b Ae31UROh3um ET6WI2DaxwC 3Db3bLDCVuJ CAufZzW4Q4W 8w59hRAkYyb 5zyo5ulk7hm 1xnTUUzzc7I 2fDdYyERFeB KUmUsT4K5D9 A3G31K3f3VM 7WpnO07Rbzz Dzsu2s6Eype GtlVWcNQfI0 8gIfy4j2rkz BxE2M7bFriX 6K1gwNWWc93 9WMmdNz3Jvv 4hfk6hP3AYc 35S9PVzkpfR L5aBh1DXPUJ HqyEegHaL4U EamuDoynC6s 2goFQhaNcWg KgRNUSxjvNv DdoShtJiW4c 2R1Z7xsKLk 59eSXgbqrta ArGhPlzgNv3 5FDlHLKTz3l Eypc7ei7mWM BhBlDrRmnEU Lq8tRxNuclN K3BYD4R8tpB CVojQpjf4f6 3UtUru8eBEw 436xqgomuoN 9OkQH8wg8Vt 3Gr0bmW4YLC GDxuerkHPk LD00VKvwxdz 4OaJ0ae0PlL KGHSCZf96Im 1EOK6PUnYMr JIJa39IYclK JOloPYxVnzU FA06bFtvb5q 7qO6PPGY1ly LItnJ8bwMAT DlrG9FwrIMS LAxTrWpTZ6g 6kT48WDSr7s LcIO0vq2W74 xuQ09mJ8qP 5VEzkvRVOIe DefyHyVYrfT 4Hq1Uov9Yqg 3fXg5s2i9Qb 5POKevfUDuN 4ctYmtedRjT 6jBWS3d6ypr 3A7HHdRJNsN GSRRYdTATN6 LgTgzfXOLhN LYV67QMEwIe AIEthGuImS3 KmRxGNHKkEV J5FDZrOTmXe 2a3tCyKFtiV 9IJoSCFmS6c 5roZjCOA1cR 1iGpRmb5r2I DTiTgP9sMhW HzUmfwwKSP0 1WuTA7Bi3pM RMlZ8SIYgI CsASYPu1tlt KfEctRv3vJe 1odqu1G8hJH 8w4J9QjJ7eJ I2BvujrKUvD 1LiOWi7w29d 9rlag5iC0Zb 2tT8Jw41gd6 8NNNaLPMEzK Ao1CETQmlCo 9YIXdDFaSA8 AC6qAFfpqjo F0SxR5BkY1z 9qLVj6zXJww F0eyhYPVBPS IpoYw9mivCv 41FUNeCXytY 5Q23HuU6il9 6Q3wRnkIglD 4Wwxxf4t8qR ImcG92prCHn 2ZQNu6ps0t8 1Zoz3NEh6ox 961EritaFOh 7uqihef4cM9 6q8PsD0fFBL 1nAQgOnJOY 7xuJgf8OPsa 5PmRmA9uShC 702qQkQzUg9 7o7t4ZfBj4x Lxi3MUETFIl 9gfxvaTs8Hx C584RcH9Vb2 UqHtdnxD0U GIlaC9F8kIS fbBsmYwExZ 3YlkfAFC7ZZ LYLgqHox59A CMIpCfJw5LC 2vOZfmfTxvb CKLdCfHMOkT C2MigsoNkky CVjwEaVValU Fg5dpdhOeci I3Vm795JSFn BJ1ZZ5piWjh 6CFPkwM6ETo DN3Awv8HsKj 9S0BN6zKV43 IbAhhW6GrLy 7HDkyEwlKHU g7P5X8E6ev 87NNh90Ud3u EjWwprprlc2 pfYZAiVr4p C48B34WywUY 3WFLtjv2WsX BofntGUIZPd 9BBACEruAuT JbTpdwqmAOn DLr1pImWz8z HeFXq48pBuj DtbyMPypATl GA2N0spmTXX KqmU6ntxXaE ANiNo0oaUP3 EcE99MQqQG0 8AcCEQBFg0f KkM17Q6tetP EMZGPJyP0XA Cu0bkreqp1r FKKdinkTpUv G9mgmaNXZj 3Bt0ky7jheP 812YpNB7lhT 4275QuDmjUG IuS4aV4P09i 7fvsCbZlbkO EFXe0cdxJz 7jdMy1iqAok CGf3090MG3A 3CZpAroVPx LnEDlAPiKDy B0YrQ3XDRCQ BFlaXKBb1rr 60g0tjUMF1a 9AMgUxZEI7z GdJAvfQhWR6 F6a3G7vY7zn BJz4il1bBUE 8lsYuroDQW1 KNl4Yr2vqmm 7Drat4Tk8Z8 6bnrc9ggXoH GmSf1ulkvui CXxJ6X2gqrk 3ctvJAAt9hw 3ppg5s6O49I B2ZdRQwfk2T DEcB33OX4uX FnxqpBqiTLT DjWry2LWr9D 9iozmnfCvvp HthQH57CAvw DQEBibmfdto 5zmbF4eDjwU 6WHK43uC2kE 5GZ776Pi3oh 99McQzeMau Jd5x2EuBSOi 4Wf0NlmEHD1 Hyz2dqBwdOT 2LSa7ZHUxFi 6cLXvU7s404 9s7gnH9agdd FLzYKXyC36r D618muZ5SNj 7wl1fE0P5eM L9VY2Zxktnz Cg8Y5xBEv6c Bsf8pwdJBQ1 5ruaxEfOdRW CZ3Z9CO3Lce AgfQpQnrRES 6nqRYvboHRg 229r6zynnUr JC0A9ASYvEa D8kGUdrqQn8 6iMJE5jfRHV D8eeURhyGio 2SO8VhqXOMG 9bhUpveXRew 6AWDjfuYW4P Ji12XGL60Ws JbJIyhADsZy H919WP9dE2t 2nYObHdksiQ 10g2JXqQ0KX 8FHwx7cu09c lHhJZcsIN0 IgeVifls7eZ HseTtDN6Mix m8Wy3VBWTW 6NUT9wbTPS1 AGhd87a8vo6 L0vE9iGxOAf DmjojTGS9V3 JqJO4Qa9QPh 95Avz5ge7Fh 1pukuszqrVt BmpniBCnfpO 53g7OBd8Ft2 E4eudXOjkg 7eoOK1KQxx2 DFE9Yc4G3SJ 7CLCE73GBHn 8lCrMWsxM7O 5uQQrSaOrbi 7T3xIBhgiva 2M9JTRtbCv6 4OKoMXgLK8R F3ibWQXmhiP 5yylko1FNkM 1YcvvpJX4QM BP61WEjtqju 7Ymf1mB6y1X 96imlOvyYLv LbUhdGoRcDZ 7ozu27HgnhH 2xIqljHxAW2 7nrI9SyWaJ1 NFWVyCtFsL ADeUCpOnA5W LHZQitc1Vax 8nXJGMOVWC ClTyOC6Gwvp ILW6hZVSGXu J2R4QgF6CO3 K4saL0Lm0Ba 1RPJYVmiKZu HiRABSY9V5b dJ5DL8LtnQ KY9Zny2rtYN DeFMO0cIgel JIZJ32EWd8J HPY4LJn62DA Aa0qB1aBB1P GcApMk8QX41 7WNlxook4ST CL1X1ehGEHz EBRUdeFvWUo BqPCSqzW3Go 4Uxhw1itW7G IGTvwfFcuID 56zR9QSeXYc Hy9FtrsMc6G DuakpZzN1vV 1iCHmFC8uWz LsPPAbchBoA 48eiuQZEMzW 3mb68oyW103 EJtk8nSvqYC DhALQwOUizj HPBUfWROFCy 3eSo2Ryg2qZ Fyrp8Wag5oL JNuU1pFUkyf Fp79LnnOwib JNhYZ3Y8KY Gxune2oZpAE 2nDpcX9ocUd 7nBKObqITNE"
abbrev Fg:=PySem.W.Frag
namespace L2
open PySem PySem.Spec PyProof.Rows
abbrev c7:=Sum Int Str
noncomputable def uy:c7->Value->Bool
 | .inl k,v=>Value.isInt k v
 | .inr x,v=>Value.isStrOf x v
noncomputable def Sz (w:World):c7->Int
 | .inl k=>hashInt k
 | .inr x=>hashStr w x
theorem b7:∀ {k:c7} {v:Value},uy k v=true->(∃i t,k=Sum.inl i/\v=Value.int i t)\/(∃x t,k=Sum.inr x/\v=Value.str x t)
 | .inl i,v,h=>by
   obtain ⟨t,e⟩:=Value.isInt_shape (k:=i) (v:=v) h;exact .inl ⟨i,t,rfl,e⟩
 | .inr x,v,h=>by
   obtain ⟨t,e⟩:=Value.isStrOf_shape (x:=x) (v:=v) h;exact .inr ⟨x,t,rfl,e⟩
theorem Dk (i:Int)(t:Tok):uy (.inl i) (.int i t)=true:=by simp [uy,Value.isInt]
theorem Dj (x:Str)(t:Tok):uy (.inr x) (.str x t)=true:=by simp [uy,Value.isStrOf]
theorem NO (a b:Int):decide ((Sum.inl a:c7)=Sum.inl b)=(a==b):=by
 by_cases e:a=b
 ·subst e;simp
 ·have h: ¬(Sum.inl a:c7)=Sum.inl b:=λq=>e (Sum.inl.inj q);rw [decide_eq_false h];exact (beq_eq_false_iff_ne.mpr e).symm
theorem NL (a b:Str):decide ((Sum.inr a:c7)=Sum.inr b)=decide (a=b):=by
 by_cases e:a=b
 ·subst e;simp
 ·have h: ¬(Sum.inr a:c7)=Sum.inr b:=λq=>e (Sum.inr.inj q);rw [decide_eq_false h,decide_eq_false e]
theorem NN (a:Int)(b:Str):decide ((Sum.inl a:c7)=Sum.inr b)=false:=decide_eq_false (λq=>nomatch q)
theorem NM (a:Str)(b:Int):decide ((Sum.inr a:c7)=Sum.inl b)=false:=decide_eq_false (λq=>nomatch q)
noncomputable def b6 (prog:Program)(w:World):PySem.KeyKind prog w c7 where
 is:=uy
 hash:=Sz w
 inj:=λv a b ha hb=>by
  rcases b7 ha with ⟨i,t,rfl,rfl⟩|⟨x,t,rfl,rfl⟩
  ·rcases b7 hb with ⟨j,u,rfl,e⟩|⟨y,u,rfl,e⟩
   ·injection e with e1 _;rw [e1]
   ·exact nomatch e
  ·rcases b7 hb with ⟨j,u,rfl,e⟩|⟨y,u,rfl,e⟩
   ·exact nomatch e
   ·injection e with e1 _;rw [e1]
 byValue:=λk v h=>by
  rcases b7 h with ⟨i,t,rfl,rfl⟩|⟨x,t,rfl,rfl⟩<;>rfl
 pyHash:=λhv h=>by
  rcases b7 hv with ⟨i,t,rfl,rfl⟩|⟨x,t,rfl,rfl⟩
  ·exact wpAny_pyHash_int h
  ·exact wpAny_pyHash_str h
 eqBool:=λhu hv h=>by
  rcases b7 hu with ⟨i,t,rfl,rfl⟩|⟨x,t,rfl,rfl⟩
  ·rcases b7 hv with ⟨j,u,rfl,rfl⟩|⟨y,u,rfl,rfl⟩
   ·rw [NO] at h;exact wpAny_eqBool_int h
   ·rw [NN] at h;exact SeqAt.EqAt.int_str i t y u _ _ _ _ h
  ·rcases b7 hv with ⟨j,u,rfl,rfl⟩|⟨y,u,rfl,rfl⟩
   ·rw [NM] at h;exact SeqAt.EqAt.str_int x t j u _ _ _ _ h
   ·rw [NL] at h;exact wpAny_eqBool_str h
 «strs»:=λk x t v h=>by
  rcases b7 h with ⟨i,u,rfl,e⟩|⟨y,u,rfl,e⟩
  ·exact nomatch e
  ·injection e with e1 _;subst e1;cases v<;>rfl
theorem yd (prog:Program)(w:World)(i:Int)(t:Tok):(b6 prog w).is (.inl i) (.int i t)=true:=Dk i t
theorem yc (prog:Program)(w:World)(x:Str)(t:Tok):(b6 prog w).is (.inr x) (.str x t)=true:=Dj x t
inductive V where
 |non|bl (b:Bool)|int (i:Int)|str (x:Str)|byt (b:Array UInt8)|flt (b:UInt64)|ref (a:Addr)|ty (n:String)
 deriving DecidableEq
def aF:V->Value->Prop
 | .non,u=>u=Value.none
 | .bl b,u=>u=Value.bool b
 | .int i,u=>∃t,u=Value.int i t
 | .str x,u=>∃t,u=Value.str x t
 | .byt b,u=>∃t,u=Value.bytes b t
 | .flt b,u=>∃t,u=Value.float b t
 | .ref a,u=>u=Value.ref a
 | .ty n,u=>u=Value.type n
abbrev aO:List V->List Value->Prop:=Paired aF
theorem aO.length {xs:List V}{us:List Value}(r:aO xs us):xs.length=us.length:=Paired.length r
theorem aO.get:∀ {xs:List V} {us:List Value} {i:Nat} {x:V},aO xs us->xs[i]? =some x->∃u,us[i]? =some u/\aF x u
 |_,_,_,_,.nil,e=>by simp at e
 |_,_,0,_,.cons r _,e=>by simp at e;subst e;exact ⟨_,rfl,r⟩
 |_,_,i+1,x,.cons _ t,e=>by
  obtain ⟨u,h1,h2⟩:=aO.get (i:=i) (x:=x) t (by simpa using e);exact ⟨u,by simpa using h1,h2⟩
theorem aO.set {x:V}{u:Value}(r:aF x u):∀ {xs:List V} {us:List Value} (i:Nat),aO xs us->aO (xs.set i x) (us.set i u)
 |_,_,_,.nil=> .nil
 |_,_,0,.cons _ t=> .cons r t
 |_,_,i+1,.cons q t=> .cons q (aO.set r i t)
theorem aO.append:∀ {xs ys:List V} {us ws:List Value},aO xs us->aO ys ws->aO (xs++ys) (us++ws)
 |_,_,_,_,.nil,s=>s
 |_,_,_,_,.cons r t,s=> .cons r (aO.append t s)
theorem aO.take:∀ {xs:List V} {us:List Value} (n:Nat),aO xs us->aO (xs.take n) (us.take n)
 |_,_,0,_=> .nil
 |_,_,_+1,.nil=> .nil
 |_,_,n+1,.cons r t=> .cons r (aO.take n t)
theorem aO.drop:∀ {xs:List V} {us:List Value} (n:Nat),aO xs us->aO (xs.drop n) (us.drop n)
 |_,_,0,r=>r
 |_,_,_+1,.nil=> .nil
 |_,_,n+1,.cons _ t=>aO.drop n t
def jR:Option V->Option Value->Prop
 |some v,some u=>aF v u
 |none,none=>True
 |_,_=>False
def KV {κ:Type}:List (κ×V)->List (κ×Value)->Prop:=Paired λ(p:κ×V) (q:κ×Value)=>p.1=q.1/\aF p.2 q.2
noncomputable def kV:c7->V
 | .inl i=> .int i
 | .inr x=> .str x
inductive HO where
 |lst (xs:List V)
 |tup (xs:List V)
 |dK (kvs:List (c7×V))|dT (kvs:List (List c7×V))
 |set (S:Int->Bool) (n:Nat)
 |ins (C dx:Addr) (fs:List (Str×V))
 |own (x:Addr)
 |xd (fs:List (Str×V))
 |met (f x:Addr)
 |rng (lo hi:Int)
 |frz (o:Obj) (u:HO)
 |tbl (ps:Array Value)
 |ext (φ:Heap->Prop)
abbrev Hp:=Addr->Option HO
noncomputable def upd (H:Hp)(a:Addr)(o:HO):Hp:=λb=>if b=a then some o else H b
theorem ag {H:Hp}{a:Addr}{o:HO}:upd H a o a=some o:=by unfold upd;rw [if_pos rfl]
theorem am {H:Hp}{a b:Addr}{o:HO}(h:b≠a):upd H a o b=H b:=by unfold upd;rw [if_neg h]
theorem Bb {H:Hp}{a:Addr}{o u:HO}:upd @bu a u=upd H a u:=by
 funext b;unfold upd;split<;>rfl
theorem Qy {H:Hp}{a b:Addr}{o u:HO}(h:H a=some o)(h':H b=some u)(d:o≠u):a≠b:=by
 intro e;subst e;rw [h] at h';exact d (Option.some.inj h')
theorem bI {H:Hp}{a b:Addr}{o:HO}(h:H a=some o)(h':H b=none):a≠b:=by
 intro e;subst e;rw [h] at h';cases h'
section
variable (P:Program)(w:World)
def bA (H:Hp)(h:Heap)(a:Addr):HO->Prop
 | .lst xs=>xs.length<=sizeLine/\∃(its:List Value) (n:Nat),aO xs its/\h.get? a=some {cls:= .type "list",data:= .seq its.toArray n}
 | .tup xs=>xs.length<=sizeLine/\∃its:List Value,aO xs its/\IsTup h a its.toArray
 | .dK kvs=>kvs.length<=sizeLine/\(a==sysModules)=false/\∃vs,KV kvs vs/\h.DictOf @cN a vs
 | .dT kvs=>kvs.length<=sizeLine/\(a==sysModules)=false/\∃xs:List (List c7×Addr×Value),
    Paired (λ(p:List c7×V) (q:List c7×Addr×Value)=>p.1=q.1/\H q.2.1=some (.tup (p.1.map kV))/\aF p.2 q.2.2) kvs xs/\
    ∃o es ep,h.get? a=some o/\o.ExactDict/\o.data= .dict es ep/\es.toList=xs.map (entryOfKey @fM)/\(xs.map (·.1)).Nodup
 | .set S n=>h.SetOf (intKind P w) a S n
 | .ins C dx fs=>H dx=some (.own a)/\fs.length<=1000/\dx≠a/\h.get? a=some @dX/\
    ∃mA,h.Ns1 dx mA/\(∀f,jR @gq (mA f))/\PySem.Within mA (fs.map (·.1))
 | .own _=>∃o,h.get? a=some o
 | .xd fs=>∃mA,h.Ns1 a mA/\∀f,jR @gq (mA f)
 | .rng lo hi=>∃t u v,h.get? a=some {cls:= .type "range",data:= .fields #[.int lo t,.int hi u,.int 1 v]}
 | .frz o u=>h.get? a=some o/\bA H h a u
 | .tbl ps=>h.get? a=some {cls:= .none,data:= .fields ps}
 | .met f x=>h.get? a=some (W.methodObj (.ref f) (.ref x))
 | .ext φ=>φ h/\(∃o,h.get? a=some o)/\∀h1 h2:Heap,φ h1->(∀o,h1.get? a=some o->h2.get? a=some o)->φ h2
def gu (H:Hp)(h:Heap):Prop:=∀a o,H a=some o->bA P w H h a o
end
section
variable {P:Program}{w:World}{H H':Hp}{h h':Heap}{a:Addr}{o:HO}
theorem bA.lt (x:bA P w H h a o):a<h.objs.size:=by
 cases o with
 |lst xs=>obtain ⟨_,_,_,_,e⟩:=x;exact Heap.lt_size e
 |tup xs=>obtain ⟨_,_,_,p⟩:=x;exact p.lt
 |dK kvs=>obtain ⟨_,_,_,_,o,_,_,e,_⟩:=x;exact Heap.lt_size e
 |dT kvs=>obtain ⟨_,_,_,_,o,_,_,e,_⟩:=x;exact Heap.lt_size e
 |set S n=>obtain ⟨o,_,_,_,e,_⟩:=x;exact Heap.lt_size e
 |ins C dx fs=>obtain ⟨_,_,_,e,_⟩:=x;exact Heap.lt_size e
 |own y=>obtain ⟨_,e⟩:=x;exact Heap.lt_size e
 |xd fs=>obtain ⟨_,⟨_,_,_,e,_⟩,_⟩:=x;exact Heap.lt_size e
 |rng lo hi=>obtain ⟨_,_,_,e⟩:=x;exact Heap.lt_size e
 |frz ob u=>obtain ⟨e,_⟩:=x;exact Heap.lt_size e
 |tbl ps=>exact Heap.lt_size (show h.get? a=some _ from x)
 |met f y=>exact Heap.lt_size (show h.get? a=some _ from x)
 |ext φ=>obtain ⟨_,⟨_,e⟩,_⟩:=x;exact Heap.lt_size e
theorem Paired.mapP {α β:Type}{F G:α->β->Prop}:∀ {l₁:List α} {l₂:List β},Paired F l₁ l₂->(∀a b,F a b->G a b)->Paired G l₁ l₂
 |_,_,.nil,_=> .nil
 |_,_,.cons r t,f=> .cons (f _ _ r) (Paired.mapP t f)
theorem Paired.imp' {α β:Type}{F G:α->β->Prop}(f:∀a b,F a b->G a b){z:List α}{j:List β}(r:Paired F z j):Paired G z j:=Paired.mapP r f
theorem bA.stay (x:bA P w H h a o)(k:∀b u,(b=a\/H b=some (.own a))->h.get? b=some u->h'.get? b=some u)
(I:∀b,H b=some (.own a)->H' b=some (.own a))(J:∀b xs,H b=some (.tup xs)->H' b=some (.tup xs)):bA P w H' h' a o:=by
 induction o with
 |lst xs=>obtain ⟨z,its,n,r,e⟩:=x;exact ⟨z,its,n,r,k _ _ (.inl rfl) e⟩
 |tup xs=>obtain ⟨z,its,r,j,e,c⟩:=x;exact ⟨z,its,r,j,k _ _ (.inl rfl) e,c⟩
 |dK kvs=>obtain ⟨z,y,R,r,j,es,F,e,c⟩:=x;exact ⟨z,y,R,r,j,es,F,k _ _ (.inl rfl) e,c⟩
 |dT kvs=>
  obtain ⟨z,y,xs,r,j,es,F,e,c⟩:=x;exact ⟨z,y,xs,Paired.mapP r λp q z=>⟨z.1,J _ _ z.2.1,z.2.2⟩,j,es,F,k _ _ (.inl rfl) e,c⟩
 |set S n=>obtain ⟨j,es,F,t,e,c⟩:=x;exact ⟨j,es,F,t,k _ _ (.inl rfl) e,c⟩
 |ins C dx fs=>
  obtain ⟨d,z,L,e,mA,⟨G,es,F,O,c⟩,r⟩:=x;exact ⟨I _ d,z,L,k _ _ (.inl rfl) e,mA,⟨G,es,F,k _ _ (.inr d) O,c⟩,r⟩
 |own y=>obtain ⟨j,e⟩:=x;exact ⟨j,k _ _ (.inl rfl) e⟩
 |xd fs=>obtain ⟨mA,⟨G,es,F,e,c⟩,r⟩:=x;exact ⟨mA,⟨G,es,F,k _ _ (.inl rfl) e,c⟩,r⟩
 |rng lo hi=>obtain ⟨t,u,v,e⟩:=x;exact ⟨t,u,v,k _ _ (.inl rfl) e⟩
 |frz j u ih=>obtain ⟨e,q⟩:=x;exact ⟨k _ _ (.inl rfl) e,ih q⟩
 |tbl ps=>
  have e:h.get? a=some {cls:= .none,data:= .fields ps}:=x;show h'.get? a=some {cls:= .none,data:= .fields ps};exact k a _ (.inl rfl) e
 |met f y=>
  have e:h.get? a=some (W.methodObj (.ref f) (.ref y)):=x;show h'.get? a=some (W.methodObj (.ref f) (.ref y));exact k a _ (.inl rfl) e
 |ext φ=>obtain ⟨p,⟨o,e⟩,st⟩:=x;exact ⟨st _ _ p λo q=>k _ _ (.inl rfl) q,⟨o,k _ _ (.inl rfl) e⟩,st⟩
theorem gu.lt (x:gu P w H h)(e:H a=some o):a<h.objs.size:=(x a o e).lt
theorem gu.fresh (x:gu P w H h)(e:h.objs.size<=a):H a=none:=by
 cases q:H a with
 |none=>rfl
 |some u=>exact absurd (Nat.lt_of_lt_of_le (x.lt q) e) @br
theorem gu.kept (x:gu P w H h)(k:∀b u,h.get? b=some u->h'.get? b=some u):gu P w H h':=λa o e=>
 (x a o e).stay (λb u _ q=>k b u q) @ed λ_ _ q=>q
theorem gu.laid (x:gu P w H h)(k:∀b u,h.get? b=some u->h'.get? b=some u)(G:h.objs.size<=a)(j:bA P w @bu h' a o):gu P w @bu h':=λb u e=>by
 have z:=x.fresh G;by_cases F:b=a
 ·subst F;rw [ag] at e;cases e;exact j
 ·rw [am F] at e
  exact (x b u e).stay (λc v _ q=>k c v q) (λc q=>by rw [am @eW];exact q) λc xs q=>by rw [am @eW];exact q
end
def Rd (H:Hp)(a:Addr)(u:HO):Prop:=H a=some u\/∃o,H a=some (.frz o u)
theorem Rd.ok {P:Program}{w:World}{H:Hp}{h:Heap}{a:Addr}{u:HO}(r:Rd H a u)(x:gu P w H h):bA P w H h a u:=by
 rcases r with r|⟨o,r⟩
 ·exact x a u r
 ·obtain ⟨_,q⟩:=x a _ r;exact q
def Q1:Option HO->Prop
 |some (.lst _)=>True
 |some (.dK _)=>True
 |some (.dT _)=>True
 |some (.set _ _)=>True
 |some (.ins _ _ _)=>True
 |some (.ext _)=>True
 |_=>False
section
variable {P:Program}{w:World}{H:Hp}{h h':Heap}{x e:Addr}{o':HO}
theorem gu.write (W:gu P w H h)(J:Q1 (H x))(U:e=x\/H e=some (.own x))(k:∀b u,b≠e->h.get? b=some u->h'.get? b=some u)(O:∃u,h'.get? e=some u)
(R:bA P w (upd H x o') h' x o'):gu P w (upd H x o') h':=λb u q=>by
 have F:∀c y,H c=some (.own y)->c≠x:=λc y r z=>by subst z;rw [r] at J;exact J
 have G:∀c xs,H c=some (.tup xs)->c≠x:=λc xs r z=>by subst z;rw [r] at J;exact J
 by_cases L:b=x
 ·subst L;rw [ag] at q;cases q;exact R
 ·rw [am L] at q;by_cases j:b=e
  ·have S:H b=some (.own x):=by
    rcases U with z|z
    ·exact absurd (j.trans z) L
    ·rw [j];exact z
   rw [q] at S;cases S;obtain ⟨v,Y⟩:=O;exact ⟨v,by rw [j];exact Y⟩
  ·refine (W b u q).stay (λc v I r=>k c v ?_ r) (λc r=>by rw [am (F c b r)];exact r) λc xs r=>by rw [am (G c xs r)];exact r
   rcases I with rfl|I
   ·exact j
   ·rintro rfl
    rcases U with z|z
    ·exact F c b I z
    ·rw [I] at z;cases z;exact L rfl
end
structure Un (fs ex:List Addr)(H H':Hp)(h h':Heap):Prop where
 keep:∀b o,h.get? b=some o->H b=none->b∉fs->b∉ex->h'.get? b=some o
 slot:∀b o,h.get? b=some o->H b=none->b∈fs->b∉ex->∃sl,h'.get? b=some {o with slots:=sl}
 free:∀b o,h.get? b=some o->H b=none->b∉ex->H' b=none
 there:∀b o,h.get? b=some o->b∉ex->∃o',h'.get? b=some o'
 tups:∀b xs,H b=some (.tup xs)->H' b=some (.tup xs)
 frzs:∀b o u,H b=some (.frz o u)->H' b=some (.frz o u)
 tbls:∀b ps,H b=some (.tbl ps)->∃more,H' b=some (.tbl (ps++more))
section
variable {fs fs' ex ex':List Addr}{H H1 H2:Hp}{h h1 h2 h':Heap}{a x e:Addr}{o:HO}
theorem Un.any (u:Un fs ex H H1 h h1){b:Addr}{j:Obj}(q:h.get? b=some j)(n:H b=none)(z:b∉ex):∃sl,h1.get? b=some {j with slots:=sl}:=by
 by_cases F:b∈fs
 ·exact u.slot b j q n F z
 ·exact ⟨j.slots,u.keep b j q n F z⟩
theorem Un.kept (k:∀b u,h.get? b=some u->h'.get? b=some u):Un fs ex H H h h':=
 ⟨λb j q _ _ _=>k b j q,λb j q _ _ _=>⟨j.slots,k b j q⟩,λ_ _ _ n _=>n,λb j q _=>⟨j,k b j q⟩,λ_ _ q=>q,λ_ _ _ q=>q,λ_ ps q=>⟨#[],by rw [q];simp⟩⟩
theorem Un.refl:Un fs ex H H h h:=Un.kept λ_ _ q=>q
theorem Un.laid (k:∀b u,h.get? b=some u->h'.get? b=some u)(G:h.objs.size<=a)(z:H a=none):Un fs ex H @bu h h' where
 keep:=λb u q _ _ _=>k b u q
 slot:=λb u q _ _ _=>⟨u.slots,k b u q⟩
 free:=λb u q n _=>by rw [am (Nat.ne_of_lt (Nat.lt_of_lt_of_le @fG G))];exact n
 there:=λb u q _=>⟨u,k b u q⟩
 tups:=λb xs q=>by rw [am @eW];exact q
 frzs:=λb u xs q=>by rw [am @eW];exact q
 tbls:=λb ps q=>⟨#[],by rw [am @eW,q];simp⟩
theorem Un.write (J:Q1 (H x))(U:e=x\/H e=some (.own x))(k:∀b u,b≠e->h.get? b=some u->h'.get? b=some u)(O:∃u,h'.get? e=some u):Un fs ex H @gQ h h':=by
 have G:∀b,H b=none->b≠x:=λb n z=>by subst z;rw [n] at J;exact J
 have I:∀b,H b=none->b≠e:=λb n z=>by
  subst z
  rcases U with r|r
  ·exact G b n r
  ·rw [n] at r;cases r
 have F:∀b u,H b=some u-> ¬Q1 @em->b≠x:=λb u q nm z=>by subst z;rw [q] at J;exact nm J
 refine ⟨λb u q n _ _=>k b u (I b n) q,λb u q n _ _=>⟨u.slots,k b u (I b n) q⟩,λb u q n _=>by rw [am (G b n)];exact n,λb u q _=> ?_,
  λb xs q=>by rw [am @eT];exact q,λb u xs q=>by rw [am @eT];exact q,λb ps q=>⟨#[],by rw [am @eT,q];simp⟩⟩
 by_cases j:b=e
 ·subst j;exact O
 ·exact ⟨u,k b u j q⟩
end
noncomputable def Re (h:Heap)(H:Hp):List Addr:=(List.range h.objs.size).filter λa=>(H a).isSome
noncomputable def tQ (h:Heap)(H:Hp):Heap:=W.hideAll h (Re h H)
theorem Dp (h:Heap)(H:Hp):(tQ h H).objs.size=h.objs.size:=W.hideAll_size _ _
theorem GF {h:Heap}{H:Hp}{b:Addr}{o:Obj}(e:h.get? b=some o)(n:H b=none):(tQ h H).get? b=some o:=
 W.hideAll_get _ e λF=>by
  have q:(H b).isSome=true:=(mem_filter.mp F).2;rw [n] at q;simp at q
theorem JZ {h:Heap}{H:Hp}{b:Addr}{o:Obj}(e:(tQ h H).get? b=some o):h.get? b=some o/\H b=none:=by
 have j:h.get? b=some o:=W.of_hideAll (Re h H) e;rwa[⟨j,?_⟩]
 cases q:H b with
 |none=>rfl
 |some x=>
  have F:b∈Re h H:=mem_filter.mpr ⟨mem_range.mpr (Heap.lt_size j),by simp [q]⟩;have z:(tQ h H).get? b=none:=W.hideAll_none (Re h H) F;rw [z] at e;cases e
noncomputable def KY (g h:Heap)(L:Addr):List (Addr×Obj):=(List.range h.objs.size).filterMap λa=>if a=L\/(g.get? a).isSome=true then none else (h.get? a).map λo=>(a,o)
noncomputable def eK (g h:Heap)(L d:Addr):List (Addr×Obj):=(KY g h L).filter λp=>decide (p.1≠d)
structure Mod (K:Fg)(mg:Str->Option Value)(base:Heap):Prop where
 kin:K.In base
 glob:base.Ns mainGlobals mg
 blt:∃mb,base.Ns builtinsNs mb/\∀x:Str,x≠"__name__"->mb x=bootBuiltins x
 nolimit:base.NoLimit
structure Cx where
 prog:Program
 w:World
 K:Fg
 mg:Str->Option Value
 base:Heap
 A:Around
 N:List Str
 s₀:Shared
 H₀:Hp
 env:Env
 outer:List Env
 stack:List Env
 ex:List Addr
 fn:Str->Bool
 calm:Bool
 pn:List (Addr×Obj)
 xe:Value->Shared->Prop
noncomputable def wL (l:List Env):List Addr:=l.filterMap (·.frame)
noncomputable abbrev Cx.fs (X:Cx):List Addr:=wL X.outer
def QX (sc:Scope)(x:Str):Prop:=sc.names.lookup x=some .local\/sc.names.lookup x=some .cell\/sc.names.lookup x=some .free
def Lw (sc:Scope)(x:Str):Prop:=sc.names.lookup x=some .local\/sc.names.lookup x=some .cell
def S1 (env:Env)(h:Heap)(m:Str->Option Value)(x:Str)(u:Value):Prop:=
 (env.kindOf x=some .local/\m x=some u)\/((env.kindOf x=some .cell\/env.kindOf x=some .free)/\∃c,env.cells.lookup x=some c/\h.IsCell c @em)
structure Cx.Ok (X:Cx):Prop where
 mod:Mod X.K X.mg X.base
 kind:X.env.scope.kind= .function
 glob:X.env.globals=mainGlobals
 blt:X.env.builtins=builtinsNs
 above:X.s₀.heap.objs.size<=X.env.locals
 inj:∀x y c,X.env.cells.lookup x=some c->X.env.cells.lookup y=some c->x=y
 has:∀x,(X.env.kindOf x=some .cell\/X.env.kindOf x=some .free)->∃c,X.env.cells.lookup x=some c
 cab:∀x c,X.fn x=true->X.env.cells.lookup x=some c->X.s₀.heap.objs.size<=c
 hd:X.calm=true->X.A.handled=none
 frames:X.A.frames=some X.stack
 stk:X.stack=X.outer\/(X.stack=X.env::X.outer/\X.env.frame=some X.env.locals)
 exf:∀b∈X.ex,b≠X.env.locals/\∀x c,X.env.cells.lookup x=some c->c≠b
 bs:∀b o,X.base.get? b=some o->X.s₀.heap.get? b=some o/\X.H₀ b=none
 bsz:X.base.objs.size<=X.s₀.heap.objs.size
 noex:∀b o,X.base.get? b=some o->b∉X.ex
 exfs:∀b∈X.ex,b∉X.fs
 funs:X.s₀.heap.FunFrames X.base X.outer
 frf:∀b∈X.fs,X.H₀ b=none
structure aA (X:Cx)(pins:List (Addr×Obj))(σ:List @gj)(H:Hp)(s:Shared):Prop where
 ok:X.Ok
 os:s.os=X.s₀.os
 bare:AllBare s.gens
 base:Un X.fs X.ex X.H₀ H X.s₀.heap s.heap
 loc:∃m,s.heap.Ns X.env.locals m/\∀(i:Nat) (x:Str) (v:V),X.N[i]? =some x->σ[i]? =some @bE->QX X.env.scope x->∃u,aF v u/\S1 X.env s.heap m x u
 cell:∀x c,X.env.cells.lookup x=some c->∃v,s.heap.IsCell c v
 free:H X.env.locals=none
 freeC:∀x c,X.env.cells.lookup x=some c->H c=none
 pin:∀p∈X.pn++pins,s.heap.get? p.1=some p.2/\H p.1=none/\p.1≠X.env.locals/\p.1∉X.fs/\∀v,p.2.data≠ .cell v
 hok:gu X.prog X.w H s.heap
 len:σ.length=X.N.length
section
variable {X:Cx}{pins:List (Addr×Obj)}{σ:List @gj}{H H':Hp}{s:Shared}{h':Heap}
theorem Cx.Ok.nofr (W:X.Ok){b:Addr}{o:Obj}(e:X.base.get? b=some o):b∉X.fs:=λF=>by
 have:=(W.funs.mem F).1;rw [e] at this;cases this
theorem aA.bs (I:aA X pins σ H s):∀b o,X.base.get? b=some o->s.heap.get? b=some o/\H b=none:=λb o e=>
 ⟨I.base.keep b o (I.ok.bs b o e).1 (I.ok.bs b o e).2 (I.ok.nofr e) (I.ok.noex b o e),I.base.free b o (I.ok.bs b o e).1 (I.ok.bs b o e).2 (I.ok.noex b o e)⟩
theorem aA.bk (I:aA X pins σ H s):∀b o,X.base.get? b=some o->s.heap.get? b=some o:=λb o e=>(I.bs b o e).1
theorem aA.mod (I:aA X pins σ H s):Mod X.K X.mg X.base:=I.ok.mod
theorem aA.kIn (I:aA X pins σ H s):X.K.In s.heap:=I.ok.mod.kin.keeps I.bk
theorem aA.lt (I:aA X pins σ H s):X.env.locals<s.heap.objs.size:=let ⟨_,hn,_⟩:=I.loc;hn.lt
theorem aA.sz (I:aA X pins σ H s):X.s₀.heap.objs.size<=s.heap.objs.size:=Nat.le_trans I.ok.above (Nat.le_of_lt I.lt)
theorem aA.nofs (I:aA X pins σ H s){a:Addr}(h:s.heap.objs.size<=a):a∉X.fs:=λF=>by
 obtain ⟨_,o,j,_⟩:=I.ok.funs.mem F;exact absurd (Nat.lt_of_lt_of_le (Heap.lt_size j) (Nat.le_trans I.sz h)) @br
theorem aA.cne (I:aA X pins σ H s):∀x c,X.env.cells.lookup x=some c->c≠X.env.locals:=λx c e z=>by
 obtain ⟨v,o,G,J⟩:=I.cell x c e;obtain ⟨m,⟨o',es,L,F,j,_⟩,_⟩:=I.loc;rw [z,F] at G;cases G;rw [j] at J;cases J
theorem aA.funs (I:aA X pins σ H s):s.heap.FunFrames X.base X.outer:=by
 have j:∀(l:List Env),(∀b∈wL l,b∈X.fs)->X.s₀.heap.FunFrames X.base l->s.heap.FunFrames X.base l:=by
  intro l
  induction l with
  |nil=>intro _ _;trivial
  |cons env r ih=>
   intro hs W;obtain ⟨R,⟨L,o,F,O,U,Y⟩,S⟩:=W;have G:L∈X.fs:=hs L (by unfold wL;rw [filterMap_cons,F];exact mem_cons_self);obtain ⟨sl,e⟩:=I.base.slot L o U (I.ok.frf L G) G λz=>I.ok.exfs L z G;exact ⟨R,⟨L,_,F,O,e,Y⟩,ih (λb J=>hs b (by unfold wL;rw [filterMap_cons,F];exact mem_cons_of_mem _ J)) S⟩
 exact j X.outer (λ_ J=>J) I.ok.funs
theorem aA.stack (I:aA X pins σ H s):s.heap.FunFrames X.base X.stack:=by
 rcases I.ok.stk with e|⟨e,F⟩
 ·rw [e];exact I.funs
 ·rw [e];obtain ⟨m,z,_⟩:=I.loc;rwa[.cons (by rw [I.ok.kind];decide) F z ?_ I.funs];exact Heap.get?_none_of_le (Nat.le_trans I.ok.bsz I.ok.above)
theorem aA.stkSub (I:aA X pins σ H s):∀b∈wL X.stack,b∈X.env.locals::X.fs:=λb F=>by
 rcases I.ok.stk with e|⟨e,j⟩
 ·rw [e] at F;exact mem_cons_of_mem _ F
 ·rw [e] at F;unfold wL at F;rw [filterMap_cons,j] at F;exact F
theorem aA.stkFree (I:aA X pins σ H s):∀b∈wL X.stack,H b=none:=λb F=>by
 rcases mem_cons.mp (I.stkSub b F) with e|F
 ·rw [e];exact I.free
 ·obtain ⟨_,o,j,_⟩:=I.ok.funs.mem F;exact I.base.free b o j (I.ok.frf b F) λz=>I.ok.exfs b z F
theorem aA.step {g':Array GenState}{t':Nat}{d':Drawn}{ch:List Addr}(I:aA X pins σ H s)
(G:∀b∈ch,(b∈X.ex\/X.s₀.heap.objs.size<=b)/\b≠X.env.locals/\(∀x c,X.env.cells.lookup x=some c->c≠b)/\∀p∈X.pn++pins,p.1≠b)
(L:∀b o,b≠X.env.locals->b∉X.fs->b∉ch->s.heap.get? b=some o->H b=none->h'.get? b=some o)
(U:∀b o,b≠X.env.locals->b∈X.fs->b∉ch->s.heap.get? b=some o->H b=none->∃sl,h'.get? b=some {o with slots:=sl})(F:∀b o,b∉ch->s.heap.get? b=some o->H b=none->H' b=none)
(W:∀b o,b∉ch->s.heap.get? b=some o->∃o',h'.get? b=some o')
(ab:∀b xs,H b=some (.tup xs)->H' b=some (.tup xs))(aa:∀b o u,H b=some (.frz o u)->H' b=some (.frz o u))(ad:∀b ps,H b=some (.tbl ps)->∃more,H' b=some (.tbl (ps++more)))
(ns:∀m,s.heap.Ns X.env.locals m->h'.Ns X.env.locals m)(ae:gu X.prog X.w H' h')(hg:AllBare g'):
 aA X pins σ H' {s with heap:=h',gens:=g',drawn:=d',toks:=t'}:=by
 have ac:∀b o,X.s₀.heap.get? b=some o->b≠X.env.locals:=λb o e=>Nat.ne_of_lt @bd
 have S:∀b o,X.s₀.heap.get? b=some o->b∉X.ex->b∉ch:=λb o e j Y=>by
  rcases (G b Y).1 with z|z
  ·exact j z
  ·exact absurd (Nat.lt_of_lt_of_le @G z) @br
 have J:∀x c,X.env.cells.lookup x=some c->∀v,s.heap.IsCell c v->h'.IsCell c v:=λx c e v ⟨o,Z,hd⟩=>by
  have O:c∉ch:=λz=>(G c z).2.2.1 x c e rfl;by_cases hc:c∈X.fs
  ·obtain ⟨sl,q⟩:=U c o (I.cne x c e) hc O Z @fN;exact ⟨_,q,hd⟩
  ·exact ⟨o,L c o (I.cne x c e) hc O Z @fN,hd⟩
 rwa[⟨I.ok,I.os,hg,⟨λb o e n Y j=> ?_,λb o e n Y j=> ?_,λb o e n j=> ?_,λb o e j=> ?_,λb xs e=>ab b xs (I.base.tups b xs e),λb o xs e=>aa b o xs (I.base.frzs b o xs e),λb ps e=> ?_⟩,?_,λx c e=> ?_,?_,λx c e=> ?_,λp hp=> ?_,ae,I.len⟩]
 ·exact L b o (ac b o e) Y @cW (I.base.keep b o e n Y j) @dF
 ·obtain ⟨sl,R⟩:=I.base.slot b o e n Y j;obtain ⟨af,e2⟩:=U b _ (ac b o e) Y @cW R @dF;exact ⟨af,e2⟩
 ·obtain ⟨o',R⟩:=I.base.there b o e j;exact F b o' @cW R @dF
 ·obtain ⟨o',R⟩:=I.base.there b o e j;exact W b o' @cW R
 ·obtain ⟨m1,R⟩:=I.base.tbls b ps e;obtain ⟨m2,e2⟩:=ad b _ R;exact ⟨m1++m2,by rw [e2,Array.append_assoc]⟩
 ·obtain ⟨m,hn,hl⟩:=I.loc;rwa[⟨m,ns m hn,λi x v R e2 e3=> ?_⟩];obtain ⟨u,r,l⟩:=hl i x v R e2 e3;rwa[⟨u,r,?_⟩]
  rcases l with l|⟨k,c,e,z⟩
  ·exact .inl l
  ·exact .inr ⟨k,c,e,J x c e _ z⟩
 ·obtain ⟨v,z⟩:=I.cell x c e;exact ⟨v,J x c e v z⟩
 ·obtain ⟨m,⟨o,_,_,Z,_⟩,_⟩:=I.loc;exact F _ o (λz=>(G _ z).2.1 rfl) Z I.free
 ·obtain ⟨v,o,Z,hd⟩:=I.cell x c e;exact F c o (λz=>(G c z).2.2.1 x c e rfl) Z @fN
 ·obtain ⟨e,n,ne,nf,d⟩:=I.pin p hp;have O:p.1∉ch:=λz=>(G p.1 z).2.2.2 p hp rfl;exact ⟨L p.1 p.2 ne nf O e n,F p.1 p.2 O e n,ne,nf,d⟩
theorem aA.un {t':Nat}(I:aA X pins σ H s)(u:Un X.fs [] H H' s.heap h')(ae:gu X.prog X.w H' h'):aA X pins σ H' {s with heap:=h',toks:=t'}:=by
 obtain ⟨m,⟨o,es,U,L,r⟩,_⟩:=id I.loc;obtain ⟨sl,S⟩:=u.any L I.free @e
 exact I.step (g':=s.gens) (d':=s.drawn) (ch:=[]) (λ_ z=>nomatch z) (λb o _ J _ e n=>u.keep b o e n J @e) (λb o _ J _ e n=>u.slot b o e n J @e) (λb o _ e n=>u.free b o e n @e) (λb o _ e=>u.there b o e @e) u.tups u.frzs u.tbls (λW O=>by
  obtain ⟨o',j,G,F,R⟩:=O;rw [L] at F;cases F
  exact ⟨_,j,G,S,R⟩) ae I.bare
theorem aA.call {g':Array GenState}{t':Nat}{d':Drawn}{ch:List Addr}(I:aA X pins σ H s)(u:Un @ee ch H H' s.heap h')(ae:gu X.prog X.w H' h')(W:AllBare g')
(G:∀b∈ch,(b∈X.ex\/X.s₀.heap.objs.size<=b)/\b≠X.env.locals/\(∀x c,X.env.cells.lookup x=some c->c≠b)/\∀p∈X.pn++pins,p.1≠b):
 aA X pins σ H' {s with heap:=h',gens:=g',drawn:=d',toks:=t'}:=by
 obtain ⟨m,⟨o,es,Z,R,r⟩,_⟩:=id I.loc;obtain ⟨sl,O⟩:=u.any R I.free λz=>(G _ z).2.1 rfl
 exact I.step (ch:=ch) G (λb o O Y j e n=>u.keep b o e n (λz=>(mem_cons.mp @gd).elim O Y) j) (λb o _ _ j e n=>u.any e n j) (λb o j e n=>u.free b o e n j) (λb o j e=>u.there b o e j) u.tups u.frzs u.tbls (λm' S=>by
  obtain ⟨o',J,L,F,U⟩:=S;rw [R] at F;cases F
  exact ⟨_,J,L,O,U⟩) ae W
theorem aA.turned {t':Nat}{it:Addr}(I:aA X pins σ H s)(k:∀b o,b≠it->s.heap.get? b=some o->h'.get? b=some o)(O:H it=none)(G:it≠X.env.locals)
(h1:it∈X.ex\/X.s₀.heap.objs.size<=it)(h2:∀x c,X.env.cells.lookup x=some c->c≠it)(L:∀p∈X.pn++pins,p.1≠it):aA X pins σ H {s with heap:=h',toks:=t'}:=by
 have F:∀b u,H b=some u->b≠it:=λb u e z=>by rw [z,O] at e;cases e
 refine I.step (g':=s.gens) (d':=s.drawn) (ch:=[it]) (λb U=> ?_) (λb o _ _ j e _=>k b o (λz=>j (by simp [z])) e) (λb o _ _ j e _=>⟨o.slots,k b o (λz=>j (by simp [z])) e⟩) (λ_ _ _ _ n=>n)
  (λb o j e=>⟨o,k b o (λz=>j (by simp [z])) e⟩) (λ_ _ e=>e) (λ_ _ _ e=>e) (λb ps e=>⟨#[],by rw [e];simp⟩) (λm J=> ?_) (λb u e=> ?_) I.bare
 ·have e:b=it:=by simpa using U
  subst e;exact ⟨h1,G,h2,L⟩
 ·obtain ⟨o,es,R,S,r⟩:=J;exact ⟨o,es,R,k _ o (Ne.symm G) S,r⟩
 ·rwa[(I.hok b u e).stay (λc v j q=>k c v ?_ q) @ed λ_ _ q=>q]
  rcases j with z|z
  ·rw [z];exact F b u e
  ·exact F c _ z
theorem aA.tok (I:aA X pins σ H s)(t:Nat):aA X pins σ H {s with toks:=t}:=I.un (h':=s.heap) (t':=t) Un.refl I.hok
theorem aA.kept {t':Nat}(I:aA X pins σ H s)(k:∀b u,s.heap.get? b=some u->h'.get? b=some u):aA X pins σ H {s with heap:=h',toks:=t'}:=I.un (Un.kept k) (I.hok.kept k)
theorem aA.laid {a:Addr}{o:HO}{t':Nat}(I:aA X pins σ H s)(k:∀b u,s.heap.get? b=some u->h'.get? b=some u)(G:s.heap.objs.size<=a)(j:bA X.prog X.w @bu h' a o):
 aA X pins σ @bu {s with heap:=h',toks:=t'}:=I.un (Un.laid k G (I.hok.fresh G)) (I.hok.laid k G j)
theorem aA.write {x e:Addr}{o:HO}{t':Nat}(I:aA X pins σ H s)(J:Q1 (H x))(U:e=x\/H e=some (.own x))(k:∀b u,b≠e->s.heap.get? b=some u->h'.get? b=some u)(O:∃u,h'.get? e=some u)
(j:bA X.prog X.w @gQ h' x o):aA X pins σ @gQ {s with heap:=h',toks:=t'}:=I.un (Un.write J U k O) (I.hok.write J U k O j)
theorem aA.weak {j:List @gj}(I:aA X pins σ H s)(W:j.length=σ.length)(w:∀(i:Nat) v,j[i]? =some @bE->σ[i]? =some @bE):aA X pins j H s:=
 ⟨I.ok,I.os,I.bare,I.base,let ⟨m,hn,hl'⟩:=I.loc;⟨m,hn,λi x v R O z=>hl' i x v R (w i v O) z⟩,I.cell,I.free,I.freeC,I.pin,I.hok,W.trans I.len⟩
theorem aA.pins_of {j:List (Addr×Obj)}(I:aA X pins σ H s)(h:∀p∈j,s.heap.get? p.1=some p.2/\H p.1=none/\p.1≠X.env.locals/\p.1∉X.fs/\∀v,p.2.data≠ .cell v):aA X j σ H s:=
 ⟨I.ok,I.os,I.bare,I.base,I.loc,I.cell,I.free,I.freeC,λp G=>(mem_append.mp G).elim (λz=>I.pin p (mem_append_left _ z)) (h p),I.hok,I.len⟩
theorem qY {N:List Str}(z:N.Nodup){i j:Nat}{x:Str}(a:N[i]? =some x)(b:N[j]? =some x):i=j:=by
 obtain ⟨h1,R⟩:=List.getElem?_eq_some_iff.mp a;obtain ⟨h2,O⟩:=List.getElem?_eq_some_iff.mp b;exact (getElem_inj z).mp (R.trans O.symm)
theorem uj {M:Model}{A:Around}{E:Value->Shared->Prop}{i:Nat}{x:Str}{v:V}{u:Value}{Q:Unit->Shared->Prop}(I:aA X pins σ H s)(hN:X.N.Nodup)(hi:X.N[i]? =some x)(J:Lw X.env.scope x)(r:aF v u)
(h:∀s',aA X pins @ge H s'->(∃a,Heap.SameBut a s.heap s'.heap/\(a=X.env.locals\/X.env.cells.lookup x=some a))->Q () s')(hf:X.fn x=true\/X.env.scope.names.lookup x=some .local:=by first|exact .inl rfl|exact .inr rfl|assumption):wpAny M A (storeName X.env x u) Q E s:=by
 obtain ⟨m,hn,hl⟩:=id I.loc
 have aa:(X.env.scope.kind== .class||(X.env.scope.kind== .module&&X.env.locals != X.env.globals))=false:=by rw [I.ok.kind];rfl
 have ac:i<σ.length:=by rw [I.len];exact (List.getElem?_eq_some_iff.mp hi).1
 have Y:=I.cne
 have F:∀ {a:Addr} {h':Heap},(∃o,s.heap.get? a=some o/\H a=none)->Heap.SameBut a s.heap h'->gu X.prog X.w H h':=λ{a h'} ha hs b ob e=>by
  obtain ⟨_,_,L⟩:=ha;rwa[(I.hok b ob e).stay (λc w' G q=>(hs.2 c ?_).trans q) @ed λ_ _ q=>q];rintro rfl
  rcases G with rfl|G
  ·rw [L] at e;cases e
  ·rw [L] at G;cases G
 rcases J with S|S
 ·rwa[wpAny_storeName_local S hn (λh' ah hs=> ?_) aa];obtain ⟨oL,_,_,ag,_⟩:=id hn;rwa[h _ ⟨I.ok,I.os,I.bare,⟨λb o e n W J=> ?_,λb o e n W J=> ?_,I.base.free,λb o e J=> ?_,I.base.tups,I.base.frzs,I.base.tbls⟩,⟨_,ah,λj y v' R O e3=> ?_⟩,λy c e=> ?_,I.free,I.freeC,λp hp=> ?_,F ⟨oL,ag,I.free⟩ hs,by simpa using I.len⟩ ⟨_,hs,.inl rfl⟩]
  ·exact (hs.2 b @eX).trans (I.base.keep b o e n W J)
  ·obtain ⟨sl,R⟩:=I.base.slot b o e n W J;exact ⟨sl,(hs.2 b @eX).trans R⟩
  ·obtain ⟨o',R⟩:=I.base.there b o e J;exact ⟨o',(hs.2 b @eX).trans R⟩
  ·by_cases Z:j=i
   ·subst Z;rw [hi] at R;cases R;rw [getElem?_set_self ac] at O;cases O;exact ⟨u,r,.inl ⟨S,by simp⟩⟩
   ·rw [getElem?_set_ne @gR] at O;obtain ⟨u',r',q⟩:=hl j y v' R O e3;rwa[⟨u',r',?_⟩]
    rcases q with ⟨k,e⟩|⟨k,c,e,z⟩
    ·rwa[.inl ⟨k,?_⟩];have:y≠x:=λe=>Z (qY hN R (e▸hi));simp [this,e]
    ·exact .inr ⟨k,c,e,z.sameBut hs (Y y c e)⟩
  ·obtain ⟨w',z⟩:=I.cell y c e;exact ⟨w',z.sameBut hs (Y y c e)⟩
  ·obtain ⟨e,n,ne,nf,d⟩:=I.pin p hp;exact ⟨(hs.2 p.1 ne).trans e,n,ne,nf,d⟩
 ·have U:X.fn x=true:=by
   rcases hf with z|z
   ·exact z
   ·rw [z] at S;cases S
  obtain ⟨c,G⟩:=I.ok.has x (.inl S);obtain ⟨w',z⟩:=I.cell x c G;rwa[wpAny_storeName_cell I.ok.kind S G z (λh' af hs=> ?_)];obtain ⟨oc,ae,ad⟩:=id z;rwa[h {s with heap:=h'} ⟨I.ok,I.os,I.bare,⟨λb o e n W J=> ?_,λb o e n W J=> ?_,I.base.free,λb o e J=> ?_,I.base.tups,I.base.frzs,I.base.tbls⟩,⟨m,hn.sameBut hs (Ne.symm (Y x c G)),λj y v' R O e3=> ?_⟩,λy c' e=> ?_,I.free,I.freeC,λp hp=> ?_,F ⟨oc,ae,I.freeC x c G⟩ hs,by simpa using I.len⟩ ⟨c,hs,.inr G⟩]
  ·exact (hs.2 b @bi).trans (I.base.keep b o e n W J)
  ·obtain ⟨sl,R⟩:=I.base.slot b o e n W J;exact ⟨sl,(hs.2 b @bi).trans R⟩
  ·obtain ⟨o',R⟩:=I.base.there b o e J;exact ⟨o',(hs.2 b @bi).trans R⟩
  ·by_cases Z:j=i
   ·subst Z;rw [hi] at R;cases R;rw [getElem?_set_self ac] at O;cases O;exact ⟨u,r,.inr ⟨.inl S,c,G,af⟩⟩
   ·rw [getElem?_set_ne @gR] at O;obtain ⟨u',r',q⟩:=hl j y v' R O e3;rwa[⟨u',r',?_⟩]
    rcases q with q|⟨k,c',e,z'⟩
    ·exact .inl q
    ·rwa[.inr ⟨k,c',e,z'.sameBut hs ?_⟩];rintro rfl;exact Z (qY hN R (I.ok.inj _ _ _ e G▸hi))
  ·by_cases ab:c'=c
   ·subst ab;exact ⟨_,af⟩
   ·obtain ⟨w2,z2⟩:=I.cell y c' e;exact ⟨w2,z2.sameBut hs ab⟩
  ·obtain ⟨e,n,ne,nf,d⟩:=I.pin p hp;rwa[⟨(hs.2 p.1 ?_).trans e,n,ne,nf,d⟩];intro q;rw [q,ae] at e;have q':oc=p.2:=Option.some.inj e;exact d w' (by rw [<-q'];exact ad)
theorem xF {M:Model}{A:Around}{E:Value->Shared->Prop}{i:Nat}{x:Str}{v:V}{u:Value}{Q:Unit->Shared->Prop}(I:aA X pins σ H s)(z:X.N.Nodup)(hi:X.N[i]? =some x)(j:Lw X.env.scope x)(r:aF v u)
(h:∀s',aA X pins @ge H s'->Q () s')(G:X.fn x=true\/X.env.scope.names.lookup x=some .local:=by first|exact .inl rfl|exact .inr rfl|assumption):wpAny M A (storeName X.env x u) Q E s:=
 uj I z hi j r (λs' F _=>h s' F) G
theorem aA.call' {s':Shared}{ch:List Addr}(I:aA X pins σ H s)(j:s'.os=s.os)(u:Un @ee ch H H' s.heap s'.heap)(ae:gu X.prog X.w H' s'.heap)(W:AllBare s'.gens)
(G:∀b∈ch,(b∈X.ex\/X.s₀.heap.objs.size<=b)/\b≠X.env.locals/\(∀x c,X.env.cells.lookup x=some c->c≠b)/\∀p∈X.pn++pins,p.1≠b):aA X pins σ H' s':=by
 obtain ⟨h',J,F,z,o'⟩:=s';have e:o'=s.os:=j;subst e;exact I.call (g':=J) (t':=z) (d':=F) u ae W G
end
abbrev XK:=Value->Option Addr->Hp->Prop
abbrev St:=List @gj
abbrev VK:=V->Hp->Prop
abbrev TE:=St->Hp->VK->Prop
abbrev TT:=St->Hp->(Bool->Hp->Prop)->Prop
abbrev TA:=St->Hp->(List V->Hp->Prop)->Prop
structure pG where
 nx:St->Hp->Prop
 rt:VK
 bk:St->Hp->Prop:=λ_ _=>False
 ct:St->Hp->Prop:=λ_ _=>False
abbrev TS:=pG->St->Hp->Prop
def EP (X:Cx)(pins:List (Addr×Obj))(σ:St)(Q:VK)(u:Value)(s':Shared):Prop:=∃v H',aA X pins σ H' s'/\aF v u/\Q v H'
def TP (X:Cx)(pins:List (Addr×Obj))(σ:St)(Q:Bool->Hp->Prop)(b:Bool)(s':Shared):Prop:=∃H',aA X pins σ H' s'/\Q b H'
def AP (X:Cx)(pins:List (Addr×Obj))(σ:St)(Q:List V->Hp->Prop)(us:List Value)(s':Shared):Prop:=∃vs H',aA X pins σ H' s'/\aO vs us/\Q vs H'
def SP (X:Cx)(pins:List (Addr×Obj))(D:pG)(f:Flow)(s':Shared):Prop:=
 match f with
 | .next=>∃σ' H',aA X pins σ' H' s'/\D.nx σ' H'
 | .brk=>∃σ' H',aA X pins σ' H' s'/\D.bk σ' H'
 | .cont=>∃σ' H',aA X pins σ' H' s'/\D.ct σ' H'
 | .ret u=>∃v σ' H',aA X pins σ' H' s'/\aF v u/\D.rt v H'
def PE (X:Cx)(e:Expr)(t:TE):Prop:=
 ∀(pins:List (Addr×Obj)) (s:Shared) (σ:St) (H:Hp) (Q:VK),aA X pins σ H s->t σ H Q->wpAny @d X.A (eval e X.env) @v X.xe s
def PT (X:Cx)(e:Expr)(t:TT):Prop:=
 ∀(pins:List (Addr×Obj)) (s:Shared) (σ:St) (H:Hp) (Q:Bool->Hp->Prop),aA X pins σ H s->t σ H Q->wpAny @d X.A (isTrue e X.env (eval e X.env)) @dU X.xe s
def PW (X:Cx)(e:Expr)(t:TT):Prop:=
 ∀(whole:Sem Value) (pins:List (Addr×Obj)) (s:Shared) (σ:St) (H:Hp) (Q:Bool->Hp->Prop),aA X pins σ H s->t σ H Q->wpAny @d X.A (isTrue e X.env whole) @dU X.xe s
theorem PW.pt {X:Cx}{e:Expr}{t:TT}(h:PW X e t):PT X e t:=h _
def PA (X:Cx)(es:List Expr)(t:TA):Prop:=
 ∀(pos:Pos) (pins:List (Addr×Obj)) (s:Shared) (σ:St) (H:Hp) (Q:List V->Hp->Prop),aA X pins σ H s->t σ H Q->wpAny @d X.A (spliced (backTo pos @D)) (AP X pins σ Q) X.xe s
def PS (X:Cx)(st:Stmt)(t:TS):Prop:=
 ∀(pins:List (Addr×Obj)) (s:Shared) (σ:St) (H:Hp) (D:pG),aA X pins σ H s->t D σ H->wpAny @d X.A (exec st X.env) (SP X pins D) X.xe s
def uX (X:Cx)(st:List Stmt)(t:TS):Prop:=
 ∀(pins:List (Addr×Obj)) (s:Shared) (σ:St) (H:Hp) (D:pG),aA X pins σ H s->t D σ H->wpAny @d X.A (execs st X.env) (SP X pins D) X.xe s
theorem bP {α:Type}{t:Sem α}{Q j:α->Shared->Prop}{M:Model}{A:Around}{E:Value->Shared->Prop}{s:Shared}(h:wpAny M A t Q E s)(z:∀a s,Q a s->j a s):wpAny M A t j E s:=wpAny_mono h z λ_ _ x=>x
section
variable {X:Cx}
def R0 (i:Nat):TE:=λσ H Q=>∃v,σ[i]? =some @bE/\Q v H
def tC (v:V):TE:=λ_ H Q=>Q v H
theorem Fy {i:Nat}{x:Str}{pos:Pos}(O:X.N[i]? =some x)(Y:QX X.env.scope x)(J:(x==("__debug__":Str))=false:=by decide)(F:(x==("__classdict__":Str))=false:=by decide):PE X (.Name x pos) (R0 i):=by
 intro pins s σ H Q I h;obtain ⟨v,e,h⟩:=h;obtain ⟨m,S,W⟩:=I.loc;obtain ⟨u,r,l⟩:=W i x v O e Y;have z:EP X pins σ Q u s:=⟨v,H,I,r,h⟩
 rcases l with ⟨R,L⟩|⟨R,c,G,j⟩
 ·exact wpAny_Name (wpAny_loadName_local I.ok.kind R S L z) J
 ·rcases R with R|R
  ·exact wpAny_Name (wpAny_loadName_cell I.ok.kind R G j z) J
  ·exact wpAny_Name (wpAny_loadName_free I.ok.kind R G j z F) J
theorem aB {i j pos}:PE X (.Constant (.int i) j pos) (tC (.int i)):=λ_ _ _ H _ I h=>wpAny_Constant_int ⟨.int i,H,I.tok _,⟨_,rfl⟩,h⟩
theorem fg {b j pos}:PE X (.Constant (.bool b) j pos) (tC (.bl b)):=λ_ _ _ H _ I h=>Constant_bool ⟨.bl b,H,I,rfl,h⟩
theorem Al {j pos}:PE X (.Constant .none j pos) (tC .non):=λ_ _ _ H _ I h=>Constant_none ⟨.non,H,I,rfl,h⟩
theorem aT {x j pos}:PE X (.Constant (.str x) j pos) (tC (.str x)):=λ_ _ _ H _ I h=>Calls.Constant_str ⟨.str x,H,I.tok _,⟨_,rfl⟩,h⟩
def Gl (X:Cx)(x:Str):Prop:=X.env.kindOf x=some .globalImplicit
theorem lW {E:Value->Shared->Prop}{pins:List (Addr×Obj)}{s:Shared}{σ:St}{H:Hp}{x:Str}{u:Value}{pos:Pos}{Q:Value->Shared->Prop}(I:aA X pins σ H s)(W:Gl X x)(F:X.mg x=some u)(h:Q u s)
(J:(x==("__debug__":Str))=false:=by decide):wpAny @d X.A (eval (.Name x pos) X.env) Q E s:=
 Calls.Name_function_global I.ok.kind W (Calls.loadGlobal_global (by rw [I.ok.glob];exact I.mod.glob.keeps I.bk) F h) J
theorem ik {E:Value->Shared->Prop}{pins:List (Addr×Obj)}{s:Shared}{σ:St}{H:Hp}{x:Str}{u:Value}{pos:Pos}{Q:Value->Shared->Prop}(I:aA X pins σ H s)(W:Gl X x)(F:X.mg x=none)(Y:bootBuiltins x=some u)(h:Q u s)
(z:x≠"__name__":=by decide)(J:(x==("__debug__":Str))=false:=by decide):wpAny @d X.A (eval (.Name x pos) X.env) Q E s:=by
 obtain ⟨j,h1,h2⟩:=I.mod.blt;exact Calls.Name_function_global I.ok.kind W (Calls.loadGlobal_builtin (by rw [I.ok.glob];exact I.mod.glob.keeps I.bk) F (by rw [I.ok.blt];exact h1.keeps I.bk) ((h2 x z).trans Y) h) J
theorem Bq {x:Str}{v:V}{u:Value}{pos:Pos}(W:Gl X x)(F:X.mg x=some u)(r:aF v u)(J:(x==("__debug__":Str))=false:=by decide):PE X (.Name x pos) (tC v):=
 λ_ _ _ H _ I h=>lW I W F ⟨v,H,I,r,h⟩ J
theorem ii {x:Str}{v:V}{u:Value}{pos:Pos}(W:Gl X x)(F:X.mg x=none)(Y:bootBuiltins x=some u)(r:aF v u)(z:x≠"__name__":=by decide)(J:(x==("__debug__":Str))=false:=by decide):PE X (.Name x pos) (tC v):=
 λ_ _ _ H _ I h=>ik I W F Y ⟨v,H,I,r,h⟩ z J
variable {a b:Expr}{ta tb:TE}{pos:Pos}
def PC (X:Cx)(op:CmpOp)(a b:Expr)(t:TE):Prop:=
 ∀(pins:List (Addr×Obj)) (s:Shared) (σ:St) (H:Hp) (Q:VK),aA X pins σ H s->t σ H Q->
  wpAny @d X.A (eval a X.env) (λv s₁=>wpAny @d X.A (eval b X.env) (λu s₂=>wpAny @d X.A (compareOp op v u) @v X.xe s₂) X.xe s₁) X.xe s
def tB (t:TE):TT:=λσ H Q=>t σ H λx H1=>∃c,x= .bl c/\Q c H1
theorem MN {z:CmpOp}{t:TE}(h:PC X z a b t)(h1:behindInMarks z b=false:=by first|exact nobehind _ @b @b|rfl):PT X (.Compare a [z] [b] pos) (tB t):=by
 intro pins s σ H Q I G;rwa[wpAny_isTrue_Compare1 (bP (h pins s σ H _ I G) λv O h1=>bP h1 λu S h2=>bP h2 λc R j=> ?_) h1];obtain ⟨x,H1,J,L,F⟩:=j;obtain ⟨d,rfl,q⟩:=F;cases L;exact wpAny_truthy_bool ⟨H1,J,q⟩
variable {tA tB':TT}{eK:List Expr}
def Sb (t u:TT):TT:=λσ H Q=>t σ H λc H1=>if c=true then u σ H1 Q else Q false H1
def Tj (t u:TT):TT:=λσ H Q=>t σ H λc H1=>if c=true then Q true H1 else u σ H1 Q
def R5 (t:TT):TT:=λσ H Q=>t σ H λc H1=>Q (!c) H1
theorem pM (j:PT X a tA):PW X (.BoolOp .And [a] pos) tA:=by
 intro z pins s σ H Q I h;rwa[isTrue_and (bP (j pins s σ H Q I h) λc O e=> ?_)]
 cases c with
 |true=>exact isTrue_and_nil e
 |false=>exact e
theorem ig (j:PT X a tA):PW X (.BoolOp .Or [a] pos) tA:=by
 intro z pins s σ H Q I h;rwa[isTrue_or (bP (j pins s σ H Q I h) λc O e=> ?_)]
 cases c with
 |false=>exact isTrue_or_nil e
 |true=>exact e
theorem MM (L:PT X a tA)(G:PW X (.BoolOp .And (b::eK) pos) tB'):PW X (.BoolOp .And (a::b::eK) pos) (Sb tA tB'):=by
 intro z pins s σ H Q I h;rwa[isTrue_and (bP @ef λc O j=> ?_)];obtain ⟨H1,J,F⟩:=j
 cases c with
 |true=>exact G z pins O σ H1 Q J F
 |false=>exact ⟨H1,J,F⟩
theorem Qa (L:PT X a tA)(G:PW X (.BoolOp .Or (b::eK) pos) tB'):PW X (.BoolOp .Or (a::b::eK) pos) (Tj tA tB'):=by
 intro z pins s σ H Q I h;rwa[isTrue_or (bP @ef λc O j=> ?_)];obtain ⟨H1,J,F⟩:=j
 cases c with
 |true=>exact ⟨H1,J,F⟩
 |false=>exact G z pins O σ H1 Q J F
theorem dU (j:PT X a tA):PT X (.UnaryOp .Not a pos) (R5 tA):=by
 intro pins s σ H Q I h;exact isTrue_not (j pins s σ H (λc H1=>Q (!c) H1) I h)
theorem Fz {z}{t:TE}(h:PE X a t):PE X (.BoolOp z [a] pos) t:=λpins s σ H Q I G=>BoolOp_one (h pins s σ H Q I G)
def Tk (t:TT)(ta tb:TE):TE:=λσ H Q=>t σ H λc H1=>if c=true then ta σ H1 Q else tb σ H1 Q
theorem FA {c:Expr}(L:PT X c tA)(z:PE X a ta)(G:PE X b tb):PE X (.IfExp c a b pos) (Tk tA ta tb):=by
 intro pins s σ H Q I h;rwa[wpAny_IfExp (bP @ef λd O j=> ?_)];obtain ⟨H1,J,F⟩:=j
 cases d with
 |true=>exact z pins O σ H1 Q J F
 |false=>exact G pins O σ H1 Q J F
end
def aC (K:Fg)(H:Hp)(a:Addr)(xs:List V):Prop:=
 Rd H a (.lst xs)\/
  ∃(o:Obj) (its:Array Value) (n:Nat),K.lookup a=some o/\o.cls= .type "list"/\o.dict=none/\o.data= .seq its n/\its.size<=sizeLine/\aO xs its.toList
def az (K:Fg)(H:Hp)(a:Addr)(xs:List V):Prop:=
 Rd H a (.tup xs)\/
  ∃(o:Obj) (its:Array Value) (n:Nat),K.lookup a=some o/\o.cls= .type "tuple"/\o.data= .seq its n/\its.size<=sizeLine/\aO xs its.toList
noncomputable def SS:Value->Option V
 | .none=>some .non
 | .bool b=>some (.bl b)
 | .int i _=>some (.int i)
 | .str x _=>some (.str x)
 | .bytes b _=>some (.byt b)
 | .float b _=>some (.flt b)
 | .ref a=>some (.ref a)
 | .type n=>some (.ty n)
 |_=>none
theorem aF.abs {x:V}{u:Value}(r:aF x u):SS u=some x:=by
 cases x with
 |non=>cases r;rfl
 |bl _=>cases r;rfl
 |int _=>obtain ⟨t,rfl⟩:=r;rfl
 |str _=>obtain ⟨t,rfl⟩:=r;rfl
 |byt _=>obtain ⟨t,rfl⟩:=r;rfl
 |flt _=>obtain ⟨t,rfl⟩:=r;rfl
 |ref _=>cases r;rfl
 |ty _=>cases r;rfl
theorem aF.inj {x y:V}{u:Value}(r:aF x u)(q:aF y u):x=y:=Option.some.inj (r.abs.symm.trans q.abs)
theorem aO.inj:∀ {xs ys:List V} {us:List Value},aO xs us->aO ys us->xs=ys
 |_,_,_,.nil,.nil=>rfl
 |_,_,_,.cons r t,.cons r' t'=>by rw [r.inj r',aO.inj t t']
section
variable {X:Cx}{pins:List (Addr×Obj)}{σ:St}{H:Hp}{s:Shared}{a:Addr}{xs ys:List V}
theorem aC.of {K:Fg}(h:H a=some (.lst xs)):aC K H a xs:= .inl (.inl h)
theorem az.of {K:Fg}(h:H a=some (.tup xs)):az K H a xs:= .inl (.inl h)
theorem aA.list (I:aA X pins σ H s)(h:aC X.K H a xs):∃its:List Value,aO xs its/\PlainL s.heap a its.toArray/\xs.length<=sizeLine:=by
 rcases h with h|⟨o,its,n,R,j,J,hs,F,r⟩
 ·obtain ⟨z,its,n,r,e⟩:=h.ok I.hok;exact ⟨its,r,⟨_,n,e,rfl,rfl,rfl⟩,z⟩
 ·rwa[⟨its.toList,r,⟨o,n,I.kIn a o R,j,J,by simpa using hs⟩,?_⟩];have e:=r.length;simp only [Array.length_toList] at e;lia
theorem aA.tuple (I:aA X pins σ H s)(h:az X.K H a xs):∃its:List Value,aO xs its/\IsTup s.heap a its.toArray/\xs.length<=sizeLine:=by
 rcases h with h|⟨o,its,n,R,j,hs,F,r⟩
 ·obtain ⟨z,its,r,p⟩:=h.ok I.hok;exact ⟨its,r,p,z⟩
 ·rwa[⟨its.toList,r,⟨o,I.kIn a o R,j,n,by simpa using hs⟩,?_⟩];have e:=r.length;simp only [Array.length_toList] at e;lia
theorem aA.list_inj (I:aA X pins σ H s)(h:aC X.K H a xs)(h':aC X.K H a ys):xs=ys:=by
 obtain ⟨its,r,⟨o,n,e,_,_,d⟩,_⟩:=I.list h;obtain ⟨j,R,⟨o',G,z,_,_,F⟩,_⟩:=I.list h';rw [e] at z;cases z;rw [d] at F;injection F with d1 _
 have:its=j:=by simpa using congrArg Array.toList d1
 subst this;exact r.inj R
theorem aA.tuple_inj (I:aA X pins σ H s)(h:az X.K H a xs)(h':az X.K H a ys):xs=ys:=by
 obtain ⟨its,r,⟨o,e,_,n,d⟩,_⟩:=I.tuple h;obtain ⟨j,R,⟨o',z,_,G,F⟩,_⟩:=I.tuple h';rw [e] at z;cases z;rw [d] at F;injection F with d1 _
 have:its=j:=by simpa using congrArg Array.toList d1
 subst this;exact r.inj R
end
abbrev Cx.wish (X:Cx)(E:Value->Shared->Prop):Cx:= {X with xe:=E}
abbrev Cx.nox (X:Cx):Cx:=X.wish λ_ _=>False
theorem Cx.Ok.wish {X:Cx}(W:X.Ok)(E:Value->Shared->Prop):(X.wish E).Ok:=
 ⟨W.mod,W.kind,W.glob,W.blt,W.above,W.inj,W.has,W.cab,W.hd,W.frames,W.stk,W.exf,W.bs,W.bsz,W.noex,W.exfs,W.funs,W.frf⟩
theorem Cx.Ok.unwish {X:Cx}{E:Value->Shared->Prop}(W:(X.wish E).Ok):X.Ok:=
 ⟨W.mod,W.kind,W.glob,W.blt,W.above,W.inj,W.has,W.cab,W.hd,W.frames,W.stk,W.exf,W.bs,W.bsz,W.noex,W.exfs,W.funs,W.frf⟩
section
variable {X:Cx}{pins:List (Addr×Obj)}{σ:St}{H:Hp}{s:Shared}{E:Value->Shared->Prop}
theorem aA.wish (I:aA X pins σ H s)(E:Value->Shared->Prop):aA @ha pins σ H s:=⟨I.ok.wish E,I.os,I.bare,I.base,I.loc,I.cell,I.free,I.freeC,I.pin,I.hok,I.len⟩
theorem aA.unwish (I:aA @ha pins σ H s):aA X pins σ H s:=⟨I.ok.unwish,I.os,I.bare,I.base,I.loc,I.cell,I.free,I.freeC,I.pin,I.hok,I.len⟩
theorem SP.unwish {D:pG}{f:Flow}{s':Shared}(h:SP @ha pins D f s'):SP X pins D f s':=by
 cases f with
 |next=>obtain ⟨j,H',I,q⟩:=h;exact ⟨j,H',I.unwish,q⟩
 |brk=>obtain ⟨j,H',I,q⟩:=h;exact ⟨j,H',I.unwish,q⟩
 |cont=>obtain ⟨j,H',I,q⟩:=h;exact ⟨j,H',I.unwish,q⟩
 |ret u=>obtain ⟨v,j,H',I,r,q⟩:=h;exact ⟨v,j,H',I.unwish,r,q⟩
theorem uX.nox {st:List Stmt}{t:TS}(h:uX X.nox st t):uX X st t:=λpins s σ H D I G=>
 wpAny_mono (h pins s σ H D (I.wish _) G) (λ_ _ q=>q.unwish) λ_ _ z=>False.elim z
end
section
variable {X:Cx}{st:Stmt}{eK:List Stmt}{t u:TS}{e:Expr}{te:TE}{pos:Pos}
def PD:TS:=λD σ H=>D.nx σ H
def R3 (t u:TS):TS:=λD σ H=>t {D with nx:=u D} σ H
theorem ak:uX X [] PD:=λ_ _ σ H _ I h=>wpAny_execs_nil ⟨σ,H,I,h⟩
theorem aa (h1:PS X st t)(h2:uX X eK u):uX X (st::eK) (R3 t u):=by
 intro pins s σ H D I h;rwa[wpAny_execs_cons (bP (h1 pins s σ H {D with nx:=u D} I h) λf O q=> ?_)]
 cases f with
 |next=>
  obtain ⟨j,H',F,q⟩:=q;exact h2 pins O j H' D F q
 |ret v=>exact q
 |brk=>exact q
 |cont=>exact q
theorem ac (h1:PS X st t):uX X [st] t:=by
 intro pins s σ H D I h;rwa[wpAny_execs_cons (bP (h1 pins s σ H D I h) λf O q=> ?_)]
 cases f with
 |next=>exact wpAny_execs_nil q
 |ret v=>exact q
 |brk=>exact q
 |cont=>exact q
def PR:TS:=λD σ H=>D.ct σ H
theorem xZ:PS X (.Continue pos) PR:=λ_ _ σ H _ I h=>wpAny_Continue ⟨σ,H,I,h⟩
theorem aA.quiet {pins:List (Addr×Obj)}{σ:St}{H:Hp}{s:Shared}(I:aA X pins σ H s):interactive X.env=false:=by simp [interactive,I.ok.kind]
def PN (te:TE):TS:=λD σ H=>te σ H λ_ H1=>D.nx σ H1
theorem aJ (U:PE X e te)(hs:swapsWith e none pos.line X.env=pure false:=by rfl):PS X (.Expr e pos) (PN te):=by
 intro pins s σ H D I h;exact wpAny_Expr_any (bP @cC λv O ⟨x,H1,J,L,F⟩=>⟨σ,H1,J,F⟩) I.quiet hs
def R4 (te:TE):TS:=λD σ H=>te σ H D.rt
theorem ai (U:PE X e te):PS X (.Return (some e) pos) (R4 te):=by
 intro pins s σ H D I h;exact wpAny_Return_some (bP @cC λv O ⟨x,H1,J,L,F⟩=>⟨x,σ,H1,J,L,F⟩)
def Py:TS:=λD _ H=>D.rt .non H
theorem Jr:PS X (.Return none pos) Py:=λ_ _ σ H _ I h=>wpAny_Return_none ⟨.non,σ,H,I,rfl,h⟩
def R8 (c:TT)(t u:TS):TS:=λD σ H=>c σ H λb H1=>if b=true then t D σ H1 else u D σ H1
theorem Qb {c:Expr}{a b:List Stmt}{tc:TT}(z:PT X c tc)(L:uX X a t)(G:uX X b u):PS X (.If c a b pos) (R8 tc t u):=by
 intro pins s σ H D I h;rwa[wpAny_If (bP @cD λd O j=> ?_)];obtain ⟨H1,J,F⟩:=j
 cases d with
 |true=>exact L pins O σ H1 D J F
 |false=>exact G pins O σ H1 D J F
end
abbrev TG:=V->St->Hp->(St->Hp->Prop)->Prop
abbrev B6:=List V->St->Hp->(St->Hp->Prop)->Prop
def PG (X:Cx)(target:Expr)(t:TG):Prop:=
 ∀(pins:List (Addr×Obj)) (s:Shared) (σ:St) (H:Hp) (v:V) (u:Value) (Q:St->Hp->Prop),aA X pins σ H s->aF v u->t v σ H Q->
  wpAny @d X.A (assign target X.env u) (λ_ s'=>∃σ' H',aA X pins σ' H' s'/\Q σ' H') X.xe s
def DP (X:Cx)(ts:List Expr)(t:B6):Prop:=
 ∀(pins:List (Addr×Obj)) (s:Shared) (σ:St) (H:Hp) (vs:List V) (us:List Value) (Q:St->Hp->Prop),aA X pins σ H s->aO vs us->t vs σ H Q->
  wpAny @d X.A (assignInOrder ((assignEach ts X.env).map (·.2)) us) (λ_ s'=>∃σ' H',aA X pins σ' H' s'/\Q σ' H') X.xe s
abbrev Os:=V->V->V->Hp->(Hp->Prop)->Prop
def HS (X:Cx)(t:Os):Prop:=
 ∀(pins:List (Addr×Obj)) (s:Shared) (σ:St) (H:Hp) (o i v:V) (ov iv u:Value) (Q:Hp->Prop),aA X pins σ H s->aF o ov->aF i iv->aF v u->t o i v H Q->
  wpAny @d X.A (setItem ov iv u) (λ_ s'=>∃H',aA X pins σ H' s'/\Q H') X.xe s
section
variable {X:Cx}{pos:Pos}
def oW (i:Nat):TG:=λv σ H Q=>Q @ge H
theorem lP {i:Nat}{x:Str}(z:X.N.Nodup)(hi:X.N[i]? =some x)(j:Lw X.env.scope x)(G:X.fn x=true\/X.env.scope.names.lookup x=some .local:=by first|exact .inl rfl|exact .inr rfl|assumption):PG X (.Name x pos) (oW i):=by
 intro pins s σ H v u Q I r h;exact wpAny_assign_Name (xF I z hi j r (λs' F=>⟨_,H,F,h⟩) G)
def SG:B6:=λvs σ H Q=>vs=[]/\Q σ H
def QH (t:TG)(u:B6):B6:=λvs σ H Q=>∃v r,vs=v::r/\t v σ H λσ' H'=>u r σ' H' Q
theorem Ju:DP X [] SG:=by
 intro pins s σ H R j Q I r h;obtain ⟨e,h⟩:=h;subst e;cases r;exact assignInOrder_nil ⟨σ,H,I,h⟩
theorem Fw {e:Expr}{es:List Expr}{t:TG}{u:B6}(h1:PG X e t)(h2:DP X es u)
(hs:(assignEach (e::es) X.env).map (·.2)=assign e X.env::(assignEach es X.env).map (·.2):=by rfl):DP X (e::es) (QH t u):=by
 intro pins s σ H S G Q I r h;obtain ⟨v,L,R,h⟩:=h;subst R
 cases r with
 |cons r rr=>
  rw [hs];rwa[assignInOrder_cons (bP (h1 pins s σ H _ _ _ I r h) λ_ O j=> ?_)];obtain ⟨z,H1,J,F⟩:=j;exact h2 pins O z H1 _ _ Q J rr F
def QG (K:Fg)(n:Nat)(t:B6):TG:=λv σ H Q=>∃a xs,v= .ref a/\az K H a xs/\xs.length=n/\t xs σ H Q
theorem MP {es:List Expr}{k:Nat}{t:B6}{n:Nat}(J:X.calm=true)(h:DP X es t)
(L:(assignEach es X.env).length=n:=by rfl)(j:(assignEach es X.env).findIdx? (·.1)=none:=by rfl):PG X (.Tuple es k pos) (QG X.K n t):=by
 intro pins s σ H v u Q I r G;obtain ⟨a,xs,R,F,W,G⟩:=G;subst R;cases r;obtain ⟨its,z,O,Y⟩:=I.tuple F;rwa[assign_Tuple_tuple @eH O (by simp [L,<-W,z.length]) j λh' S=> ?_];have U:aA X pins σ H {s with heap:=h'}:=I.kept (t':=s.toks) λb o e=>S b o (Nat.ne_of_lt @G) e;exact h pins _ σ H xs _ Q U (by simpa using z) G
def SF (to ti:TE)(t:Os):TG:=λv σ H Q=>to σ H λo H1=>ti σ H1 λi H2=>t o i v H2 λH3=>Q σ H3
theorem gy {o i:Expr}{to z:TE}{t:Os}(S:PE X o to)(hi:PE X i z)(hs:HS X t)
(J:∀v,assign (.Subscript o i pos) X.env v=(do
   let ov<-holding [v] @gf
   let iv<-holding [v,ov] (eval i X.env)
   standAt pos
   holding [v,ov,iv] (setItem ov iv v)
   release [v,ov,iv] []):=by intro _;rfl):PG X (.Subscript o i pos) (SF to z t):=by
 intro pins s σ H v u Q I r h;rw [J];rwa[wpAny_bind (wpAny_holding (bP @eg λov O j=> ?_))];obtain ⟨x,H1,U,W,R⟩:=j;rwa[wpAny_bind (wpAny_holding (bP (hi pins O σ H1 _ U R) λiv Y j=> ?_))];obtain ⟨y,H2,G,L,q2⟩:=j;rwa[wpAny_bind (wpAny_standAt (wpAny_bind (wpAny_holding (bP (hs pins Y σ H2 x y v ov iv u _ G W L r q2) λ_ s3 j=> ?_))))];obtain ⟨F,I3,Z⟩:=j;exact wpAny_release ⟨σ,F,I3,Z⟩
def Ew (te:TE)(g:TG):TS:=λD σ H=>te σ H λx H1=>g x σ H1 D.nx
theorem dZ {tg e:Expr}{te:TE}{g:TG}(U:PE X e te)(W:PG X tg g)(hs:swapsWithSole [tg] e pos.line X.env=pure false:=by rfl)(G:swappedStores [tg] e X.env=pure none:=by rfl)
(h1:(assignEach [tg] X.env).map (·.2)=[assign tg X.env]:=by rfl):PS X (.Assign [tg] e pos) (Ew te g):=by
 intro pins s σ H D I h;rwa[wpAny_Assign_stores (bP @cC λv O j=> ?_) hs G];obtain ⟨x,H1,J,L,F⟩:=j;rw [h1];exact bP (W pins O σ H1 x v _ J L F) λ_ S q=>q
theorem bF {i:Nat}{x:Str}{e:Expr}{te:TE}{pos':Pos}(z:X.N.Nodup)(hi:X.N[i]? =some x)(O:Lw X.env.scope x)(U:PE X e te)(hs:swapsWith e (some (.Name x pos')) pos.line X.env=pure false:=by rfl)(J:X.fn x=true\/X.env.scope.names.lookup x=some .local:=by first|exact .inl rfl|exact .inr rfl|assumption):
 PS X (.Assign [.Name x pos'] e pos) (Ew te (oW i)):=by
 intro pins s σ H D I h;rwa[wpAny_Assign_Name (bP @cC λv S j=> ?_) hs];obtain ⟨y,H1,L,R,F⟩:=j;exact xF L z hi O R (λW G=>⟨_,H1,G,F⟩) J
end
structure It where
 go:Nat->Hp->Prop
 yld:Nat->Hp->V->Hp->Prop
 stop:Nat->Hp->Prop
def jy (X:Cx)(pins:List (Addr×Obj))(H:Hp)(b:Addr):Prop:=
 H b=none/\b≠X.env.locals/\b∉X.fs/\(b∈X.ex\/X.s₀.heap.objs.size<=b)/\(∀x c,X.env.cells.lookup x=some c->c≠b)/\∀p∈X.pn++pins,p.1≠b
theorem aA.fpOk {X:Cx}{pins:List (Addr×Obj)}{σ:St}{H H':Hp}{s:Shared}{b:Addr}(I:aA X pins σ H s)(F:s.heap.objs.size<=b)(j:H' b=none):jy X pins H' b:=by
 rwa[⟨j,Nat.ne_of_gt (Nat.lt_of_lt_of_le I.lt F),I.nofs F,.inr (Nat.le_trans I.sz F),λx c e z=> ?_,λp G z=> ?_⟩]
 ·obtain ⟨v,q⟩:=I.cell x c e;exact absurd (Nat.lt_of_lt_of_le q.lt (by rw [z];exact F)) @br
 ·exact absurd (Nat.lt_of_lt_of_le (Heap.lt_size (I.pin p G).1) (by rw [z];exact F)) @br
structure xf (P:Program)(w:World)(K:Fg)(tg:Expr)(J:It)(fp:List Addr)(it:Addr)(tn:Nat->Heap->Prop):Prop where
 mem:it∈fp
 obj:∀i h,tn i h->∀b∈fp,∃o,h.get? b=some o/\∀v,o.data≠ .cell v
 keep:∀i h h',tn i h->(∀b∈fp,∀o,h.get? b=some o->h'.get? b=some o)->tn i h'
 item:∀(X:Cx),X.prog=P->X.w=w->X.K=K->X.calm=true->∀(i:Nat) (pins:List (Addr×Obj)) (s:Shared) (σ:St) (H:Hp) (E:Value->Shared->Prop),aA X pins σ H s->(∀b∈fp,jy X pins H b)->tn i s.heap->J.go i H->
  wpAny @Y X.A @di (λr s1=>∃u,r=some u/\
   wpAny @Y X.A @cr (λ_ s2=>∃x H',aA X pins σ H' s2/\aF x u/\J.yld i H x H'/\tn (i+1) s2.heap/\∀b∈fp,H' b=none) E s1) E s
 done:∀(X:Cx),X.prog=P->X.w=w->X.K=K->X.calm=true->∀(i:Nat) (pins:List (Addr×Obj)) (s:Shared) (σ:St) (H:Hp) (E:Value->Shared->Prop),aA X pins σ H s->(∀b∈fp,jy X pins H b)->tn i s.heap->J.stop i H->
  wpAny @Y X.A @di (λr s1=>r=none/\aA X pins σ H s1) E s
 self:∀(A:Around) (i:Nat) (s:Shared) (Q:Value->Shared->Prop) (E:Value->Shared->Prop),tn i s.heap->Q (.ref it) s->wpAny @Y A (pyIter (.ref it)) Q E s
abbrev TI:=St->Hp->(It->Hp->Prop)->Prop
def SZ (X:Cx)(pins:List (Addr×Obj))(σ:St)(tg:Expr)(R:It->Hp->Prop)(itv:Value)(s2:Shared):Prop:=
 ∃(it:Addr) (fp:List Addr) (tn:Nat->Heap->Prop) (J:It) (H':Hp),itv= .ref it/\aA X pins σ H' s2/\xf X.prog X.w X.K tg J fp it tn/\tn 0 s2.heap/\(∀b∈fp,jy X pins H' b)/\R J H'
def PI (X:Cx)(tg iter:Expr)(wi:TI):Prop:=
 ∀(pins:List (Addr×Obj)) (s:Shared) (σ:St) (H:Hp) (R:It->Hp->Prop),aA X pins σ H s->wi σ H R->
  wpAny @d X.A @fo (λv s1=>wpAny @d X.A (pyIter v) @eI X.xe s1) X.xe s
theorem BK {M:Model}{A:Around}{E:Value->Shared->Prop}{s:Shared}{tg:Expr}{it:Addr}{u:Value}{o:Obj}{n:String}{vs:Array Value}{Q:Unit->Shared->Prop}(I:s.heap.get? it=some o)(j:o.cls= .type n)(J:o.data= .fields vs)
(F:["enumerate","zip","dict_itemiterator","dict_reverseitemiterator","odict_iterator","itertools.zip_longest","itertools.pairwise"].contains n=false)(z:Q () s):wpAny M A @cr Q E s:=by
 unfold letOwnedTupleGo
 cases tg<;>first
  |exact wpAny_pure z
  |(cases u<;>first
     |exact wpAny_pure z
     |(refine wpAny_bind (wpAny_load I ?_)
       rw [j,J];show wpAny M A (if (["enumerate","zip","dict_itemiterator","dict_reverseitemiterator","odict_iterator","itertools.zip_longest","itertools.pairwise"].contains n&&vs[0]? ==some (rawInt _))=true then _ else _) Q E s;rw [if_neg (by intro h;rw [F,Bool.false_and] at h;cases h)]
       exact wpAny_pure z))
noncomputable def Ie (K:Fg)(a:Addr):It:=
 ⟨λi H=>∃xs x,aC K H a xs/\xs[i]? =some x,λi H x H'=>H'=H/\∀xs,aC K H a xs->xs[i]? =some x,λi H=>∃xs,aC K H a xs/\xs.length<=i⟩
noncomputable def Ic (K:Fg)(a:Addr):It:=
 ⟨λi H=>∃xs x,az K H a xs/\xs[i]? =some x,λi H x H'=>H'=H/\∀xs,az K H a xs->xs[i]? =some x,λi H=>∃xs,az K H a xs/\xs.length<=i⟩
noncomputable def Iq (lo:Int)(n:Nat):It:=⟨λi _=>i<n,λi H x H'=>H'=H/\x= .int (lo+i),λi _=>n<=i⟩
theorem Ce {P:Program}{w:World}{K:Fg}{tg:Expr}(a it:Addr):xf P w K tg @hj [it] it (λi h=>h.IsListIter it a i) where
 mem:=by simp
 obj:=λi h st b F=>by
  have e:b=it:=by simpa using F
  subst e;obtain ⟨o,e,c,d⟩:=st;exact ⟨o,e,λv z=>by rw [d] at z;cases z⟩
 keep:=λi h h' st k=>st.at λo e=>k it @e o e
 item:=by
  intro X hP W O hc i pins s σ H E I J st Z;subst hP W O;obtain ⟨xs,x,G,Y⟩:=Z;obtain ⟨its,S,p,hz⟩:=I.list G;obtain ⟨u,hu,ru⟩:=S.get Y;obtain ⟨U,L,f2,f3,R,f5⟩:=J it @e;rwa[wpAny_pyNext_list_item st p.isList (x:=u) (by simpa using hu) λh' j sb=> ?_];have I1:aA X pins σ H {s with heap:=h'}:=I.turned (t':=s.toks) (λb o F e=>(sb.2 b F).trans e) U L f3 R f5;obtain ⟨o,e,c,d⟩:=id j;exact ⟨u,rfl,BK (s:= {s with heap:=h'}) e c d @b ⟨x,H,I1,ru,⟨rfl,λys hy=>by rw [I.list_inj hy G];exact Y⟩,j,λb F=>(J b F).1⟩⟩
 done:=by
  intro X hP W O hc i pins s σ H E I J st Z;subst hP W O;obtain ⟨xs,G,Y⟩:=Z;obtain ⟨its,S,p,hz⟩:=I.list G;obtain ⟨U,L,f2,f3,R,f5⟩:=J it @e;have hl:=S.length;exact wpAny_pyNext_list_end @bS st p.isList (by simp;lia) λh' eb=>⟨rfl,I.turned (t':=s.toks) @ds U L f3 R f5⟩
 self:=λ_ _ _ _ _ st h=>wpAny_pyIter_listiter st h
theorem zn {P:Program}{w:World}{K:Fg}{tg:Expr}(a it:Addr):xf P w K tg @hk [it] it (λi h=>h.IsTupleIter it a i) where
 mem:=by simp
 obj:=λi h st b F=>by
  have e:b=it:=by simpa using F
  subst e;obtain ⟨o,e,c,d⟩:=st;exact ⟨o,e,λv z=>by rw [d] at z;cases z⟩
 keep:=λi h h' st k=>st.at λo e=>k it @e o e
 item:=by
  intro X hP W O hc i pins s σ H E I J st Z;subst hP W O;obtain ⟨xs,x,G,Y⟩:=Z;obtain ⟨its,S,p,hz⟩:=I.tuple G;obtain ⟨u,hu,ru⟩:=S.get Y;obtain ⟨U,L,f2,f3,R,f5⟩:=J it @e;rwa[wpAny_pyNext_tuple_item st (show s.heap.IsTuple a its.toArray from p) (x:=u) (by simpa using hu) λh' j sb=> ?_];have I1:aA X pins σ H {s with heap:=h'}:=I.turned (t':=s.toks) (λb o F e=>(sb.2 b F).trans e) U L f3 R f5;obtain ⟨o,e,c,d⟩:=id j;exact ⟨u,rfl,BK (s:= {s with heap:=h'}) e c d @b ⟨x,H,I1,ru,⟨rfl,λys hy=>by rw [I.tuple_inj hy G];exact Y⟩,j,λb F=>(J b F).1⟩⟩
 done:=by
  intro X hP W O hc i pins s σ H E I J st Z;subst hP W O;obtain ⟨xs,G,Y⟩:=Z;obtain ⟨its,S,p,hz⟩:=I.tuple G;obtain ⟨U,L,f2,f3,R,f5⟩:=J it @e;have hl:=S.length;exact wpAny_pyNext_tuple_end @bS st (show s.heap.IsTuple a its.toArray from p) (by simp;lia) λh' eb=>⟨rfl,I.turned (t':=s.toks) @ds U L f3 R f5⟩
 self:=λ_ _ _ _ _ st h=>wpAny_pyIter_tupleiter st h
theorem zo {P:Program}{w:World}{K:Fg}{tg:Expr}(it:Addr)(lo:Int)(n:Nat):xf P w K tg @hg [it] it (λi h=>IsRangeIter h it (lo+(i:Nat)*1) ((n:Int) - (i:Nat)) 1) where
 mem:=by simp
 obj:=λi h st b F=>by
  have e:b=it:=by simpa using F
  subst e
  exact ⟨_,st,λv z=>by
   have z':Data.fields _=Data.cell v:=z
   cases z'⟩
 keep:=λi h h' st k=>k it @e _ st
 item:=by
  intro X hP S O J i pins s σ H E I G st Y;subst hP S O;obtain ⟨U,L,f2,f3,R,Z⟩:=G it @e;have W:=Walks.range (prog:=X.prog) (w:=X.w) @eH it lo 1 n;rwa[W.item i s _ _ Y st λv h' tk hv j kk=> ?_];obtain ⟨t,rfl⟩:=hv;have I1:aA X pins σ H {s with heap:=h',toks:=tk}:=I.turned (λb o F e=>kk b o (by simpa using F) e) U L f3 R Z;rwa[⟨_,rfl,BK (s:= {s with heap:=h',toks:=tk}) (n:="range_iterator") j rfl rfl @b ⟨.int (lo+i),H,I1,⟨t,?_⟩,⟨rfl,rfl⟩,j,λb F=>(G b F).1⟩⟩];rw [Int.mul_one]
 done:=by
  intro X hP S O J i pins s σ H E I G st Y;subst hP S O;obtain ⟨U,L,f2,f3,R,Z⟩:=G it @e;exact wpAny_pyNext_range_end @eH st (by have:n<=i:=Y;lia) λh' eb=>⟨rfl,I.turned (t':=s.toks) @ds U L f3 R Z⟩
 self:=λ_ _ _ _ _ st h=>wpAny_pyIter_rangeiter st h
section
variable {X:Cx}{tg:Expr}
theorem xY {pins:List (Addr×Obj)}{σ:St}{H:Hp}{s:Shared}{R:It->Hp->Prop}{E:Value->Shared->Prop}{lo hi:Int}{t u v:Tok}{tk:Nat}(I:aA X pins σ H s)(h1: -(2^62)<=lo)(h2:lo<2^62)(L: -(2^62)<=hi)(j:hi<2^62)
(q:R (Iq lo (hi - lo).toNat) H):wpAny @d X.A (pyIter (.ref s.heap.objs.size)) @eI E {s with heap:=s.heap.push {cls:= .type "range",data:= .fields #[.int lo t,.int hi u,.int 1 v]},toks:=tk}:=by
 rwa[wpAny_pyIter_range (IsRange.new ..) (small_one h1 h2 L j) ?_];have J:aA X pins σ H {s with heap:=s.heap.push {cls:= .type "range",data:= .fields #[.int lo t,.int hi u,.int 1 v]},toks:=tk}:=I.kept λb o e=>Heap.get?_push_of_some _ e
 refine ⟨(s.heap.push {cls:= .type "range",data:= .fields #[.int lo t,.int hi u,.int 1 v]}).objs.size,[(s.heap.push {cls:= .type "range",data:= .fields #[.int lo t,.int hi u,.int 1 v]}).objs.size],_,_,H,rfl,
  J.kept (t':=tk) λb o e=>Heap.get?_push_of_some _ e,zo _ lo (hi - lo).toNat,?_,λb F=> ?_,q⟩
 ·have z:lo+((0:Nat):Int)*1=lo:=by simp
  have O:(((hi - lo).toNat:Nat):Int) - ((0:Nat):Int)=Builtin.Range.rangeSize lo hi 1:=by rw [rangeSize_one];split<;>lia
  show IsRangeIter _ _ (lo+((0:Nat):Int)*1) ((((hi - lo).toNat:Nat):Int) - ((0:Nat):Int)) 1;rw [z,O];exact Heap.get?_push_size _ rfl
 ·have e:b=(s.heap.push {cls:= .type "range",data:= .fields #[.int lo t,.int hi u,.int 1 v]}).objs.size:=by simpa using F
  subst e;exact J.fpOk @h @ci
def R9 (wi:TI)(g:TG)(tb:TS):TS:=λD σ H=>wi σ H λJ H1=>∃W:Nat->Nat->St->Hp->Prop,(∃m,W 0 m σ H1)/\∀i m σ H,W i m σ H->
 (J.stop i H/\D.nx σ H)\/(J.go i H/\∃N:St->Hp->Prop,(∀σ' H',N σ' H'->∃m',m'<m/\W (i+1) m' σ' H')/\∀x H',J.yld i H x H'->g x σ H' λσ2 H2=>tb {D with nx:=N,ct:=N,bk:=D.nx} σ2 H2)
noncomputable def qT (fp:List Addr)(h:Heap):List (Addr×Obj):=fp.filterMap λb=>(h.get? b).map λo=>(b,o)
theorem ij {fp:List Addr}{h:Heap}{b:Addr}{o:Obj}(F:b∈fp)(e:h.get? b=some o):(b,o)∈qT fp h:=mem_filterMap.mpr ⟨b,F,by rw [e];rfl⟩
theorem C4 {fp:List Addr}{h:Heap}{p:Addr×Obj}(G:p∈qT fp h):p.1∈fp/\h.get? p.1=some p.2:=by
 obtain ⟨b,F,e⟩:=mem_filterMap.mp G
 cases q:h.get? b with
 |none=>rw [q] at e;cases e
 |some o=>
  rw [q] at e;have j:(b,o)=p:=Option.some.inj e;subst j;exact ⟨F,q⟩
theorem aA.pinned {pins:List (Addr×Obj)}{σ:St}{H:Hp}{s:Shared}{fp:List Addr}(I:aA X pins σ H s)(L:∀b∈fp,jy X pins H b)(J:∀b∈fp,∃o,s.heap.get? b=some o/\∀v,o.data≠ .cell v):aA X (pins++qT fp s.heap) σ H s:=
 I.pins_of λp G=>(mem_append.mp G).elim (λz=>I.pin p (mem_append_right _ z)) λz=>by
  obtain ⟨F,e⟩:=C4 z;obtain ⟨U,O,R,_⟩:=L p.1 F;obtain ⟨o,j,d⟩:=J p.1 F;rw [e] at j;cases j;exact ⟨e,U,O,R,d⟩
theorem aA.unpinned {pins pl:List (Addr×Obj)}{σ:St}{H:Hp}{s:Shared}(I:aA X (pins++pl) σ H s):aA X pins σ H s:=I.pins_of λp G=>I.pin p (mem_append_right _ @bT)
theorem MO {iter:Expr}{U:List Stmt}{wi:TI}{g:TG}{tb:TS}{pos:Pos}(hp:PassesOwn @d X.A X.env X.xe)(hc:X.calm=true)(hi:PI X tg iter wi)(hg:PG X tg g)(O:uX X U tb)
(hs:∀x,foldedSetIterable iter X.env x=pure x:=by intro _;rfl):PS X (.For tg iter U [] pos) (R9 wi g tb):=by
 intro pins s σ H D I h;rwa[wpAny_For (bP @dY λv s1 h1=>bP h1 λag s2 h2=> ?_) hs];obtain ⟨it,fp,tn,J,H2,e,I2,T,ae,f2,W,⟨m0,w0⟩,Z⟩:=h2;subst e;have R:∀ {H':Hp},(∀b∈fp,H' b=none)->∀b∈fp,jy X pins H' b:=λhn b O=>⟨hn b O,(f2 b O).2⟩;rwa[codeAny_forLoop_any (λn s'=>∃i σ' H',aA X pins σ' H' s'/\tn i s'.heap/\(∀b∈fp,H' b=none)/\W i n σ' H') ?_ m0 ⟨0,σ,H2,I2,ae,λb O=>(f2 b O).1,w0⟩];rintro n s3 ⟨i,σ3,H3,I3,ad,ab,w3⟩
 rcases Z i n σ3 H3 w3 with ⟨ac,qn⟩|⟨go,N,hN,aa⟩
 ·rwa[wpAny_passesOwn hp (bP (T.done X rfl rfl rfl hc i pins s3 σ3 H3 X.xe I3 (R ab) ad ac) λr s4 j=> ?_)];obtain ⟨hr,I4⟩:=j;subst hr;exact wpAny_execs_nil ⟨σ3,H3,I4,qn⟩
 ·rwa[wpAny_passesOwn hp (bP (T.item X rfl rfl rfl hc i pins s3 σ3 H3 X.xe I3 (R ab) ad go) λr s4 j=> ?_)];obtain ⟨u,hr,h4⟩:=j;subst hr;rwa[wpAny_passesOwn hp (bP h4 λ_ s5 j=> ?_)];obtain ⟨x,H5,I5,r5,y5,Y,af⟩:=j;have I5':=I5.pinned (R af) (T.obj _ _ Y);rwa[wpAny_passesOwn hp (bP (hg _ s5 σ3 H5 x u _ I5' r5 (aa x H5 y5)) λ_ s6 j=> ?_)];obtain ⟨σ6,H6,I6,q6⟩:=j;rwa[wpAny_passesOwn hp (bP (O _ s6 σ6 H6 _ I6 q6) λf s7 S=> ?_)]
  have F:∀ {z:St} {G:Hp},aA X (pins++qT fp s5.heap) z G s7->N z G->∃m,m<n/\∃i σ' H',aA X pins σ' H' s7/\tn i s7.heap/\(∀b∈fp,H' b=none)/\W i m σ' H':=λ{z G} L n7=>by
   obtain ⟨m',hm,w7⟩:=hN z G n7;rwa[⟨m',hm,i+1,z,G,L.unpinned,T.keep _ _ _ Y λb O o e=>(L.pin (b,o) @U).1,λb O=> ?_,w7⟩];obtain ⟨o,e,d⟩:=T.obj _ _ Y b O;exact (L.pin (b,o) @U).2.1
  cases f with
  |next=>obtain ⟨z,G,L,n7⟩:=S;exact F L n7
  |cont=>obtain ⟨z,G,L,n7⟩:=S;exact F L n7
  |brk=>obtain ⟨z,G,L,S⟩:=S;exact ⟨z,G,L.unpinned,S⟩
  |ret v=>obtain ⟨x7,z,G,L,r7,S⟩:=S;exact ⟨x7,z,G,L.unpinned,r7,S⟩
end
theorem GV {K:Fg}{a:Addr}{xs:List V}{g:TG}{tb:TS}{D:pG}{σ:St}{H:Hp}(j:Nat->St->Hp->Prop)(F:j 0 σ H)(I:∀i σ H,i<=xs.length->j i σ H->aC K H a xs)
(hs:∀i x σ H,xs[i]? =some x->j i σ H->g x σ H λσ2 H2=>tb {D with nx:=j (i+1),ct:=j (i+1),bk:=D.nx} σ2 H2)(J:∀σ H,j xs.length σ H->D.nx σ H):
 ∃W:Nat->Nat->St->Hp->Prop,(∃m,W 0 m σ H)/\∀i m σ H,W i m σ H->
  ((Ie K a).stop i H/\D.nx σ H)\/((Ie K a).go i H/\∃N:St->Hp->Prop,(∀σ' H',N σ' H'->∃m',m'<m/\W (i+1) m' σ' H')/\∀x H',(Ie K a).yld i H x H'->g x σ H' λσ2 H2=>tb {D with nx:=N,ct:=N,bk:=D.nx} σ2 H2):=by
 rwa[⟨λi m σ H=>m=xs.length - i/\i<=xs.length/\j i σ H,⟨xs.length,by simp,Nat.zero_le _,F⟩,?_⟩];rintro i m σ H ⟨rfl,hi,p⟩;have q:=I i σ H hi p;by_cases z:i<xs.length
 ·rwa[.inr ⟨⟨xs,xs[i],q,by simp [z]⟩,j (i+1),λσ' H' G=>⟨xs.length - (i+1),by lia,rfl,z,G⟩,λx H' y=> ?_⟩];obtain ⟨e,y⟩:=y;subst e;exact hs i x σ _ (y xs q) p
 ·have e:i=xs.length:=by lia
  subst e;exact .inl ⟨⟨xs,q,Nat.le_refl _⟩,J σ H p⟩
theorem Kr {K:Fg}{a:Addr}{xs:List V}{g:TG}{tb:TS}{D:pG}{σ:St}{H:Hp}(j:Nat->St->Hp->Prop)(F:j 0 σ H)(I:∀i σ H,i<=xs.length->j i σ H->az K H a xs)
(hs:∀i x σ H,xs[i]? =some x->j i σ H->g x σ H λσ2 H2=>tb {D with nx:=j (i+1),ct:=j (i+1),bk:=D.nx} σ2 H2)(J:∀σ H,j xs.length σ H->D.nx σ H):
 ∃W:Nat->Nat->St->Hp->Prop,(∃m,W 0 m σ H)/\∀i m σ H,W i m σ H->
  ((Ic K a).stop i H/\D.nx σ H)\/((Ic K a).go i H/\∃N:St->Hp->Prop,(∀σ' H',N σ' H'->∃m',m'<m/\W (i+1) m' σ' H')/\∀x H',(Ic K a).yld i H x H'->g x σ H' λσ2 H2=>tb {D with nx:=N,ct:=N,bk:=D.nx} σ2 H2):=by
 rwa[⟨λi m σ H=>m=xs.length - i/\i<=xs.length/\j i σ H,⟨xs.length,by simp,Nat.zero_le _,F⟩,?_⟩];rintro i m σ H ⟨rfl,hi,p⟩;have q:=I i σ H hi p;by_cases z:i<xs.length
 ·rwa[.inr ⟨⟨xs,xs[i],q,by simp [z]⟩,j (i+1),λσ' H' G=>⟨xs.length - (i+1),by lia,rfl,z,G⟩,λx H' y=> ?_⟩];obtain ⟨e,y⟩:=y;subst e;exact hs i x σ _ (y xs q) p
 ·have e:i=xs.length:=by lia
  subst e;exact .inl ⟨⟨xs,q,Nat.le_refl _⟩,J σ H p⟩
theorem Ds {lo:Int}{n:Nat}{g:TG}{tb:TS}{D:pG}{σ:St}{H:Hp}(j:Nat->St->Hp->Prop)(F:j 0 σ H)
(hs:∀i σ H,i<n->j i σ H->g (.int (lo+i)) σ H λσ2 H2=>tb {D with nx:=j (i+1),ct:=j (i+1),bk:=D.nx} σ2 H2)(J:∀σ H,j n σ H->D.nx σ H):
 ∃W:Nat->Nat->St->Hp->Prop,(∃m,W 0 m σ H)/\∀i m σ H,W i m σ H->
  ((Iq lo n).stop i H/\D.nx σ H)\/((Iq lo n).go i H/\∃N:St->Hp->Prop,(∀σ' H',N σ' H'->∃m',m'<m/\W (i+1) m' σ' H')/\∀x H',(Iq lo n).yld i H x H'->g x σ H' λσ2 H2=>tb {D with nx:=N,ct:=N,bk:=D.nx} σ2 H2):=by
 rwa[⟨λi m σ H=>m=n - i/\i<=n/\j i σ H,⟨n,by simp,Nat.zero_le _,F⟩,?_⟩];rintro i m σ H ⟨rfl,hi,p⟩;by_cases z:i<n
 ·rwa[.inr ⟨z,j (i+1),λσ' H' G=>⟨n - (i+1),by lia,rfl,z,G⟩,λx H' y=> ?_⟩];obtain ⟨e,y⟩:=y;subst e y;exact hs i σ _ z p
 ·have e:i=n:=by lia
  subst e;exact .inl ⟨Nat.le_refl _,J σ H p⟩
abbrev R2:=V->V->Hp->VK->Prop
def dA (X:Cx)(f:Value->Value->Sem Value)(r:R2):Prop:=
 ∀(pins:List (Addr×Obj)) (s:Shared) (σ:St) (H:Hp) (x y:V) (v u:Value) (Q:VK),aA X pins σ H s->aF x v->aF y u->r x y H Q->
  wpAny @d X.A (f v u) @v X.xe s
def OD (X:Cx)(f:Value->Sem Value)(r:V->Hp->VK->Prop):Prop:=
 ∀(pins:List (Addr×Obj)) (s:Shared) (σ:St) (H:Hp) (x:V) (v:Value) (Q:VK),aA X pins σ H s->aF x v->r x H Q->
  wpAny @d X.A (f v) @v X.xe s
def bj (X:Cx)(f:Value)(r:List V->Hp->VK->Prop):Prop:=
 ∀(pins:List (Addr×Obj)) (s:Shared) (σ:St) (H:Hp) (xs:List V) (us:List Value) (Q:VK),aA X pins σ H s->aO xs us->r xs H Q->
  wpAny @d X.A (call f us) @v X.xe s
def SV (X:Cx)(r:V->Hp->(Bool->Hp->Prop)->Prop):Prop:=
 ∀(pins:List (Addr×Obj)) (s:Shared) (σ:St) (H:Hp) (x:V) (v:Value) (Q:Bool->Hp->Prop),aA X pins σ H s->aF x v->r x H Q->
  wpAny @d X.A (truthy v) @dU X.xe s
def Pz (r:R2)(ta tb:TE):TE:=λσ H Q=>ta σ H λx H1=>tb σ H1 λy H2=>r x y H2 Q
def Th (r:V->Hp->VK->Prop)(ta:TE):TE:=λσ H Q=>ta σ H λx H1=>r x H1 Q
def rI (C:Int->Int->Prop)(g:Int->Int->V):R2:=λx y H Q=>∃i j,x= .int i/\y= .int j/\C i j/\Q @cX H
def Fs (g:Int->Int->V):R2:=λx y H Q=>∃i j,x= .int i/\y= .int j/\Q @cX H
def rU (g:Int->V):V->Hp->VK->Prop:=λx H Q=>∃i,x= .int i/\Q (g i) H
section
variable {X:Cx}{a b c:Expr}{ta tb tc:TE}{pos:Pos}
theorem Oj (z:PE X a ta)(W:PE X b tb){pins:List (Addr×Obj)}{s:Shared}{σ:St}{H:Hp}{R:V->V->Hp->Prop}(I:aA X pins σ H s)
(h:ta σ H λx H1=>tb σ H1 λy H2=>R x y H2){Q:Value->Shared->Prop}{f:Value->Value->Sem Value}
(J:∀v u s2 x y H2,aA X pins σ H2 s2->aF x v->aF y u->R x y H2->wpAny @d X.A (f v u) Q X.xe s2):
 wpAny @d X.A (eval a X.env) (λv s₁=>wpAny @d X.A (eval b X.env) (λu s₂=>wpAny @d X.A (f v u) Q X.xe s₂) X.xe s₁) X.xe s:=by
 rwa[bP @cD λv O j=> ?_];obtain ⟨x,H1,S,U,F⟩:=j;rwa[bP (W pins O σ H1 _ S F) λu s2 j=> ?_];obtain ⟨y,H2,G,L,Y⟩:=j;exact J v u s2 x y H2 G U L Y
theorem bR {z:Operator}{r:R2}(J:dA X (binaryOp z) r)(j:PE X a ta)(O:PE X b tb):PE X (.BinOp a z b pos) @fz:=by
 intro pins s σ H Q I h;exact wpAny_BinOp (Oj j O I h λv u S x y H2 G F L q=>J pins S σ H2 x y v u Q G F L q)
theorem ur {z:UnaryOp}{r:V->Hp->VK->Prop}(j:OD X (unaryOp z) r)(F:PE X a ta):PE X (.UnaryOp z a pos) (Th r ta):=by
 intro pins s σ H Q I h;exact UnaryOp_ (bP (F pins s σ H _ I h) λv O ⟨x,H1,J,L,G⟩=>j pins O σ H1 x v Q J L G)
theorem OA {f:Value->Value->Sem Value}{C:Int->Int->Prop}{g:Int->Int->Int}
(z:∀(i j:Int) (t u:Tok) (s:Shared) (Q:Value->Shared->Prop) (E:Value->Shared->Prop),C i j->Q (.int @cX s.toks) {s with toks:=s.toks+1}->wpAny @d X.A @dj Q E s):
 dA X f (rI C λi j=> .int @cX):=by
 intro pins s σ H x y v u Q I J L h;obtain ⟨i,j,rfl,rfl,G,q⟩:=h;obtain ⟨t,rfl⟩:=J;obtain ⟨F,rfl⟩:=L;exact z i j t F s _ _ G ⟨.int @cX,H,I.tok _,⟨_,rfl⟩,q⟩
theorem JD {f:Value->Value->Sem Value}{g:Int->Int->Int}
(z:∀(i j:Int) (t u:Tok) (s:Shared) (Q:Value->Shared->Prop) (E:Value->Shared->Prop),Q (.int @cX s.toks) {s with toks:=s.toks+1}->wpAny @d X.A @dj Q E s):
 dA X f (Fs λi j=> .int @cX):=by
 intro pins s σ H x y v u Q I F L h;obtain ⟨i,j,rfl,rfl,q⟩:=h;obtain ⟨t,rfl⟩:=F;obtain ⟨G,rfl⟩:=L;exact z i j t G s _ _ ⟨.int @cX,H,I.tok _,⟨_,rfl⟩,q⟩
theorem JE {f:Value->Value->Sem Value}{g:Int->Int->Bool}
(z:∀(i j:Int) (t u:Tok) (s:Shared) (Q:Value->Shared->Prop) (E:Value->Shared->Prop),Q (.bool @cX) s->wpAny @d X.A @dj Q E s):
 dA X f (Fs λi j=> .bl @cX):=by
 intro pins s σ H x y v u Q I F L h;obtain ⟨i,j,rfl,rfl,q⟩:=h;obtain ⟨t,rfl⟩:=F;obtain ⟨G,rfl⟩:=L;exact z i j t G s _ _ ⟨.bl @cX,H,I,rfl,q⟩
def DT (i j:Int):Prop:=0<j/\j<1073741824
def A5 (i j:Int):Prop:=0<=j/\j<=1000000/\i.natAbs<2^64
def xj (i j:Int):Prop:=(-(2^64)<i/\i<2^64)\/(-(2^64)<j/\j<2^64)
theorem xj.ok {i j:Int}(h:xj i j):IntMulOk i j:=by
 rcases h with ⟨h1,h2⟩|⟨h1,h2⟩
 ·exact .of_left (intBits_le_64 h1 h2)
 ·exact .of_right (intBits_le_64 h1 h2)
theorem M8:dA X @bB (Fs λi j=> .int (i+j)):=JD λ_ _ _ _ _ _ _ q=>add_int q
theorem MW:dA X (binaryOp .Sub) (Fs λi j=> .int (i - j)):=JD λ_ _ _ _ _ _ _ q=>sub_int q
theorem MZ:dA X @dV (rI xj λi j=> .int (i*j)):=OA λ_ _ _ _ _ _ _ I q=>mul_int q I.ok
theorem JA:dA X (binaryOp .FloorDiv) (rI DT λi j=> .int (i / j)):=OA λi j _ _ _ _ _ I q=>by
 have h1:(0:Int)<j:=I.1;have h2:j<1073741824:=I.2;exact floordiv_int @c (by rw [Int.fdiv_eq_ediv_of_nonneg i @c];exact q) (.inl (PyProof.noPylong_small @c))
theorem M3:dA X (binaryOp .Mod) (rI (λ_ j=>0<j) λi j=> .int (i% j)):=OA λi j _ _ _ _ _ I q=>by
 have h1:(0:Int)<j:=I;exact mod_int' @c (by rw [Int.fmod_eq_emod_of_nonneg i @c];exact q)
theorem MY:dA X (binaryOp .Pow) (rI A5 λi j=> .int (i^j.toNat)):=OA λ_ _ _ _ _ _ _ I q=>pow_int_small I.1 I.2.1 I.2.2 q
theorem MX:dA X (binaryOp .LShift) (rI A5 λi j=> .int (i*2^j.toNat)):=OA λ_ _ _ _ _ _ _ I q=>lshift_int_small I.1 I.2.1 I.2.2 q
theorem M7:dA X (binaryOp .BitAnd) (Fs λi j=> .int (Builtin.bitAnd i j)):=JD λ_ _ _ _ _ _ _ q=>and_int q
theorem Qe:dA X (binaryOp .BitOr) (Fs λi j=> .int (Builtin.bitOr i j)):=JD λ_ _ _ _ _ _ _ q=>or_int q
theorem Tf {f:Value->Sem Value}{g:Int->Int}
(z:∀(i:Int) (t:Tok) (s:Shared) (Q:Value->Shared->Prop) (E:Value->Shared->Prop),Q (.int (g i) s.toks) {s with toks:=s.toks+1}->wpAny @d X.A (f (.int i t)) Q E s):
 OD X f (rU λi=> .int (g i)):=by
 intro pins s σ H x v Q I F h;obtain ⟨i,rfl,q⟩:=h;obtain ⟨t,rfl⟩:=F;exact z i t s _ _ ⟨.int (g i),H,I.tok _,⟨_,rfl⟩,q⟩
theorem L5:OD X (unaryOp .USub) (rU λi=> .int (-i)):=Tf λ_ _ _ _ _ q=>neg_int q
end
noncomputable def Mu:V->V->Bool
 | .non,.non=>true| .non,.int _=>true| .int _,.non=>true| .non,.bl _=>true| .bl _,.non=>true| .non,.str _=>true| .str _,.non=>true
 | .int _,.int _=>true| .bl _,.bl _=>true| .str _,.str _=>true| .byt _,.byt _=>true
 | .int _,.str _=>true| .str _,.int _=>true| .bl _,.str _=>true| .str _,.bl _=>true
 |_,_=>false
def To:R2:=λx y H Q=>Mu x y=true/\Q (.bl (decide (x=y))) H
def Tn:R2:=λx y H Q=>Mu x y=true/\Q (.bl (!decide (x=y))) H
theorem BV {i j:Int}:decide (V.int i=V.int j)=(i==j):=by
 rw [Bool.eq_iff_iff];simp
theorem Ho {i j:Bool}:decide (V.bl i=V.bl j)=(i==j):=by
 rw [Bool.eq_iff_iff];simp
theorem BU {i j:Str}:decide (V.str i=V.str j)=(i==j):=by
 rw [Bool.eq_iff_iff];simp
theorem BW {i j:Array UInt8}:decide (V.byt i=V.byt j)=(i.toList==j.toList):=by
 rw [Bool.eq_iff_iff];cases i;cases j;simp
section
variable {X:Cx}{a b c:Expr}{ta tb tc:TE}{pos:Pos}
theorem bh {pins:List (Addr×Obj)}{σ:St}{H:Hp}{s:Shared}{Q:VK}{k j:Bool}(I:aA X pins σ H s)(q:Q (.bl k) H)(e:k=j):EP X pins σ Q (.bool j) s:=by
 subst e;exact ⟨.bl k,H,I,rfl,q⟩
theorem Qk:dA X (compareOp .Eq) To:=by
 intro pins s σ H x y v u Q I F L h;obtain ⟨hs,q⟩:=h
 cases x with
 |non=>
  cases F
  cases y with
  |non=>cases L;exact PySem.EqNone.eq_none_none @I
  |bl j=>cases L;exact PySem.EqNone.eq_none_bool @I
  |int j=>obtain ⟨z,rfl⟩:=L;exact PySem.EqNone.eq_none_int @I
  |str j=>obtain ⟨z,rfl⟩:=L;exact PySem.EqNone.eq_none_str @I
  |_=>exact absurd (show false=true from hs) Bool.false_ne_true
 |bl i=>
  cases F
  cases y with
  |non=>cases L;exact PySem.EqNone.eq_bool_none @I
  |bl j=>cases L;exact eq_bool (bh I q Ho)
  |str j=>obtain ⟨z,rfl⟩:=L;exact PySem.EqMixed.eq_bool_str @I
  |_=>exact absurd (show false=true from hs) Bool.false_ne_true
 |int i=>
  obtain ⟨t,rfl⟩:=F
  cases y with
  |non=>cases L;exact PySem.EqNone.eq_int_none @I
  |int j=>obtain ⟨z,rfl⟩:=L;exact eq_int (bh I q BV)
  |str j=>obtain ⟨z,rfl⟩:=L;exact PySem.EqMixed.eq_int_str @I
  |_=>exact absurd (show false=true from hs) Bool.false_ne_true
 |str i=>
  obtain ⟨t,rfl⟩:=F
  cases y with
  |non=>cases L;exact PySem.EqNone.eq_str_none @I
  |bl j=>cases L;exact PySem.EqMixed.eq_str_bool @I
  |int j=>obtain ⟨z,rfl⟩:=L;exact PySem.EqMixed.eq_str_int @I
  |str j=>obtain ⟨z,rfl⟩:=L;exact eq_str (bh I q BU)
  |_=>exact absurd (show false=true from hs) Bool.false_ne_true
 |byt i=>
  obtain ⟨t,rfl⟩:=F
  cases y with
  |byt j=>obtain ⟨z,rfl⟩:=L;exact W.eq_bytes (bh I q BW)
  |_=>exact absurd (show false=true from hs) Bool.false_ne_true
 |_=>cases y<;>exact absurd (show false=true from hs) Bool.false_ne_true
theorem Qf:dA X (compareOp .NotEq) Tn:=by
 intro pins s σ H x y v u Q I F L h;obtain ⟨hs,q⟩:=h
 cases x with
 |non=>
  cases F
  cases y with
  |non=>cases L;exact PySem.EqNone.ne_none_none @I
  |bl j=>cases L;exact PySem.EqNone.ne_none_bool @I
  |int j=>obtain ⟨z,rfl⟩:=L;exact PySem.EqNone.ne_none_int @I
  |str j=>obtain ⟨z,rfl⟩:=L;exact PySem.EqNone.ne_none_str @I
  |_=>exact absurd (show false=true from hs) Bool.false_ne_true
 |bl i=>
  cases F
  cases y with
  |non=>cases L;exact PySem.EqNone.ne_bool_none @I
  |bl j=>cases L;exact ne_bool (bh I q (congrArg not Ho))
  |str j=>obtain ⟨z,rfl⟩:=L;exact PySem.EqMixed.ne_bool_str @I
  |_=>exact absurd (show false=true from hs) Bool.false_ne_true
 |int i=>
  obtain ⟨t,rfl⟩:=F
  cases y with
  |non=>cases L;exact PySem.EqNone.ne_int_none @I
  |int j=>obtain ⟨z,rfl⟩:=L;exact ne_int (bh I q (congrArg not BV))
  |str j=>obtain ⟨z,rfl⟩:=L;exact PySem.EqMixed.ne_int_str @I
  |_=>exact absurd (show false=true from hs) Bool.false_ne_true
 |str i=>
  obtain ⟨t,rfl⟩:=F
  cases y with
  |non=>cases L;exact PySem.EqNone.ne_str_none @I
  |bl j=>cases L;exact PySem.EqMixed.ne_str_bool @I
  |int j=>obtain ⟨z,rfl⟩:=L;exact PySem.EqMixed.ne_str_int @I
  |str j=>obtain ⟨z,rfl⟩:=L;exact ne_str (bh I q (congrArg not BU))
  |_=>exact absurd (show false=true from hs) Bool.false_ne_true
 |byt i=>
  obtain ⟨t,rfl⟩:=F
  cases y with
  |byt j=>obtain ⟨z,rfl⟩:=L;exact W.ne_bytes (bh I q (congrArg not BW))
  |_=>exact absurd (show false=true from hs) Bool.false_ne_true
 |_=>cases y<;>exact absurd (show false=true from hs) Bool.false_ne_true
theorem Qg:dA X (compareOp .Lt) (Fs λi j=> .bl (decide (i<j))):=JE λ_ _ _ _ _ _ _ q=>lt_int q
theorem Qh:dA X (compareOp .LtE) (Fs λi j=> .bl (decide (i<=j))):=JE λ_ _ _ _ _ _ _ q=>le_int q
theorem Qi:dA X (compareOp .Gt) (Fs λi j=> .bl (decide (j<i))):=JE λ_ _ _ _ _ _ _ q=>gt_int q
theorem Qj:dA X (compareOp .GtE) (Fs λi j=> .bl (decide (j<=i))):=JE λ_ _ _ _ _ _ _ q=>ge_int q
theorem CH:dA X @cs (λx y H Q=>∃i j,x= .str i/\y= .str j/\Q (.bl (!(Builtin.Str.occurrences j i 0 j.length 1).isEmpty)) H):=by
 intro pins s σ H x y v u Q I F L h;obtain ⟨i,j,rfl,rfl,q⟩:=h;obtain ⟨t,rfl⟩:=F;obtain ⟨z,rfl⟩:=L;exact in_str (bh I q rfl)
theorem M4:dA X (compareOp .Is) (λx y H Q=>y= .non/\Q (.bl (decide (x= .non))) H):=by
 intro pins s σ H x y v u Q I F L h;obtain ⟨rfl,q⟩:=h;cases L;rwa[is_none_gen (bh I q ?_)]
 cases x<;>first
  |(cases F;rfl)
  |(obtain ⟨t,rfl⟩:=F;rfl)
theorem wj:dA X @dm (λx y H Q=>∃i j,x= .str i/\y= .str j/\Q (.bl (!(!(Builtin.Str.occurrences j i 0 j.length 1).isEmpty))) H):=by
 intro pins s σ H x y v u Q I F L h;obtain ⟨i,j,rfl,rfl,q⟩:=h;obtain ⟨t,rfl⟩:=F;obtain ⟨z,rfl⟩:=L;exact notIn_str (bh I q rfl)
theorem dA.or {f:Value->Value->Sem Value}{r R:R2}(h:dA X f r)(h':dA X f R):dA X f (λx y H Q=>r x y H Q\/R x y H Q):=by
 intro pins s σ H x y v u Q I F L q
 rcases q with q|q
 ·exact h pins s σ H x y v u Q I F L q
 ·exact h' pins s σ H x y v u Q I F L q
theorem bx (b:Expr){z:CmpOp}(h:z≠ .In:=by decide)(h2:z≠ .NotIn:=by decide):behindInMarks z b=false:=by
 have R:(z==CmpOp.In)=false:=by cases z<;>first|rfl|exact absurd rfl h
 have O:(z==CmpOp.NotIn)=false:=by cases z<;>first|rfl|exact absurd rfl h2
 cases b<;>simp [behindInMarks,R,O]
theorem fb {z:CmpOp}{r:R2}(L:dA X (compareOp z) r)(j:PE X a ta)(R:PE X b tb)(F:behindInMarks z b=false):PE X (.Compare a [z] [b] pos) @fz:=by
 intro pins s σ H Q I h;exact wpAny_Compare1 (Oj j R I h λv u S x y H2 G J O q=>L pins S σ H2 x y v u Q G J O q) F
def QY (K:Fg)(x:V)(H:Hp)(k:Bool):Prop:=
 match x with
 | .non=>k=false
 | .bl b=>k=b
 | .int i=>k=(i != 0)
 | .str y=>y.length<=sizeLine/\k=((y.length:Int) != 0)
 | .byt y=>y.size<=sizeLine/\k=((y.size:Int) != 0)
 | .ref p=>(∃xs,aC K H p xs/\k= !xs.isEmpty)\/(∃xs,az K H p xs/\k= !xs.isEmpty)\/∃kvs,H p=some (.dK kvs)/\k= !kvs.isEmpty
 |_=>False
theorem AJ {κ:Type}{j:List (κ×V)}{vs:List (κ×Value)}(r:KV j vs):(!vs.isEmpty)= !j.isEmpty:=by
 cases r<;>rfl
theorem rq {xs:List V}{its:List Value}(r:aO xs its):(!its.toArray.isEmpty)= !xs.isEmpty:=by
 cases r<;>simp
theorem kO:(sizeLine:Nat)<2^63:=by rw [sizeLine_eq];decide
theorem iU:SV X (λx H Q=>∃k,QY X.K x H k/\Q k H):=by
 intro pins s σ H x v Q I G h;obtain ⟨k,e,q⟩:=h;have U:=kO;have hs:sizeLine=16777216:=sizeLine_eq
 cases x with
 |non=>
  cases G;have j:k=false:=e;subst j;exact truthy_none ⟨H,I,q⟩
 |bl b=>
  cases G;have j:k=b:=e;subst j;exact wpAny_truthy_bool ⟨H,I,q⟩
 |int i=>
  obtain ⟨t,rfl⟩:=G;have j:k=(i != 0):=e;subst j;exact PySem.P.truthy_int ⟨H,I,q⟩
 |str y=>
  obtain ⟨t,rfl⟩:=G;obtain ⟨O,j⟩:y.length<=sizeLine/\k=((y.length:Int) != 0):=e;subst j;exact PySem.P.truthy_str @c ⟨H,I.tok _,q⟩
 |byt y=>
  obtain ⟨t,rfl⟩:=G;obtain ⟨O,j⟩:y.size<=sizeLine/\k=((y.size:Int) != 0):=e;subst j;exact W.truthy_bytes @c ⟨H,I.tok _,q⟩
 |ref p=>
  cases G;have j:(∃xs,aC X.K H p xs/\k= !xs.isEmpty)\/(∃xs,az X.K H p xs/\k= !xs.isEmpty)\/∃z,H p=some (.dK z)/\k= !z.isEmpty:=e
  rcases j with ⟨xs,J,j⟩|⟨xs,J,j⟩|⟨z,J,j⟩
  ·subst j;obtain ⟨its,r,pl,L⟩:=I.list J;have F:=r.length;exact wpAny_truthy_list pl.isList (by simp only [size_toArray];lia) ⟨H,I.tok _,by rw [rq r];exact q⟩
  ·subst j;obtain ⟨its,r,pl,L⟩:=I.tuple J;have F:=r.length;exact truthy_tuple pl (by simp only [size_toArray];lia) ⟨H,I.tok _,by rw [rq r];exact q⟩
  ·subst j;obtain ⟨L,S,R,r,m⟩:z.length<=sizeLine/\(p==sysModules)=false/\∃R,KV z R/\s.heap.DictOf (b6 X.prog X.w) p R:=I.hok p _ J;have F:z.length=R.length:=Paired.length r;exact wpAny_truthy_dict S m @c ⟨H,I.tok _,by rw [AJ r];exact q⟩
 |_=>exact (show False from e).elim
theorem Ap:dA X @bB (λx y H Q=>∃i j,x= .str i/\y= .str j/\i.length+j.length<=sizeLine/\Q (.str (i++j)) H):=by
 intro pins s σ H x y v u Q I F L h;obtain ⟨i,j,rfl,rfl,G,q⟩:=h;obtain ⟨t,rfl⟩:=F;obtain ⟨z,rfl⟩:=L;exact add_str (λz tk=>⟨.str (i++j),H,I.tok _,⟨_,rfl⟩,q⟩) G
theorem iE {x:V}{us:List Value}(r:aO [x] us):∃u,us=[u]/\aF x u:=by
 cases r with
 |cons r1 r2=>cases r2;exact ⟨_,rfl,r1⟩
theorem xx {x y:V}{us:List Value}(r:aO [x,y] us):∃u w',us=[u,w']/\aF x u/\aF y w':=by
 cases r with
 |cons r1 r2=>
  cases r2 with
  |cons r3 r4=>cases r4;exact ⟨_,_,rfl,r1,r3⟩
theorem DE (z:X.calm=true):bj X (.builtin "max") (λxs H Q=>∃i j,xs=[.int i,.int j]/\Q (.int (if j>i then j else i)) H):=by
 intro pins s σ H xs G Q I r h;obtain ⟨i,j,rfl,q⟩:=h;obtain ⟨u,F,rfl,⟨t,rfl⟩,⟨J,rfl⟩⟩:=xx r;rwa[max_two_ints (I.ok.hd z) λh' tk k=>⟨_,H,I.kept k,?_,q⟩];by_cases Z:j>i
 ·rw [if_pos Z,if_pos Z];exact ⟨_,rfl⟩
 ·rw [if_neg Z,if_neg Z];exact ⟨_,rfl⟩
theorem DD (z:X.calm=true):bj X (.builtin "min") (λxs H Q=>∃i j,xs=[.int i,.int j]/\Q (.int (if j<i then j else i)) H):=by
 intro pins s σ H xs G Q I r h;obtain ⟨i,j,rfl,q⟩:=h;obtain ⟨u,F,rfl,⟨t,rfl⟩,⟨J,rfl⟩⟩:=xx r;rwa[min_two_ints (I.ok.hd z) λh' tk k=>⟨_,H,I.kept k,?_,q⟩];by_cases Z:j<i
 ·rw [if_pos Z,if_pos Z];exact ⟨_,rfl⟩
 ·rw [if_neg Z,if_neg Z];exact ⟨_,rfl⟩
theorem DJ:bj X (.type "int") (λxs H Q=>(∃i,xs=[.int i]/\Q (.int i) H)\/∃k,xs=[.bl k]/\Q (.int (if k then 1 else 0)) H):=by
 intro pins s σ H xs j Q I r h
 rcases h with ⟨i,rfl,q⟩|⟨k,rfl,q⟩
 ·obtain ⟨u,rfl,t,rfl⟩:=iE r;exact call_int_int ⟨.int i,H,I,⟨_,rfl⟩,q⟩
 ·obtain ⟨u,rfl,L⟩:=iE r;cases L;exact call_int_bool ⟨.int (if k then 1 else 0),H,I.tok _,⟨_,rfl⟩,q⟩
theorem wU:bj X (.type "str") (λxs H Q=>∃i,xs=[.int i]/\i.natAbs.log2<1920/\Q (.str @gE) H):=by
 intro pins s σ H xs j Q I r h;obtain ⟨i,rfl,F,q⟩:=h;obtain ⟨u,rfl,t,rfl⟩:=iE r;exact PySem.P.str_of_int F ⟨.str _,H,I.tok _,⟨_,rfl⟩,q⟩
end
structure AX (h:Heap)(x dx C:Addr)(mA:Str->Option Value):Prop where
 obj:h.get? x=some @dX
 ns:h.Ns1 dx mA
 ne:dx≠x
theorem De {h:Heap}{dx:Addr}{mA:Str->Option Value}(n:h.Ns1 dx mA):∃od,h.get? dx=some od/\∀name,W.lookIn name od=some (mA name):=by
 obtain ⟨o,es,L,I,J,R,_,F⟩:=n;rwa[⟨o,I,λname=> ?_⟩];have e:=F name;unfold nsFind findBy at e;rw [<-Array.find?_toList] at e;unfold W.lookIn;rw [J];dsimp only;split
 ·rename_i y q;rw [q] at e;exact congrArg some e
 ·rename_i q;rw [q] at e
  have a:es.toList.any (·.refKey)=false:=by
   rw [any_eq_false];intro y O;obtain ⟨z,t,j⟩:=R y (Array.mem_toList_iff.mp O);simp [DictEntry.refKey,j]
  have G: ¬es.toList.any (·.refKey)=true:=by rw [a];exact Bool.false_ne_true
  rw [if_neg G];exact congrArg some e
theorem AX.look {h:Heap}{x dx C:Addr}{mA:Str->Option Value}(I:AX h x dx C mA):∃od,PySem.W.InstAt h x @dX C (some od)/\∀name,W.lookIn name od=some (mA name):=
 let ⟨od,ho,hl⟩:=De I.ns
 ⟨od,⟨I.obj,rfl,rfl,ho⟩,hl⟩
section
variable {prog:Program}{w:World}{A:Around}{E:Value->Shared->Prop}{s:Shared}{K:Fg}{x dx C f:Addr}{mA:Str->Option Value}{name:Str}{v:Value}
theorem Km {j:Bool}{Q:Value->Shared->Prop}(X:K.In s.heap)(I:AX s.heap x dx C mA)(L:W.plainGet K C name=true)(G:W.hasDictIn K C=true)
(F:W.findIn K (.ref C) name=some none)(Y:mA name=some v)(z:W.handedIn v=true)(h:Q v {s with toks:=s.toks+1}):
 wpAny @m A (getAttr (.ref x) name j) Q E s:=by
 obtain ⟨R,J,O⟩:=I.look;exact W.get_value X J (W.plainGet_of L).1 (W.findObj_own G F rfl (by rw [O,Y])) z h
theorem GK {pl:Sem Bool}{Q:Value×List Value->Shared->Prop}(X:K.In s.heap)(I:AX s.heap x dx C mA)(j:W.plainGet K C name=true)
(F:W.findIn K (.ref C) name=some @Z)(z:W.isFn K (.ref f)=true)(Y:mA name=none)(h:Q (.ref f,[.ref x]) s):
 wpAny @m A (getMethod (.ref x) name pl) Q E s:=by
 obtain ⟨L,J,G⟩:=I.look;exact W.method_fn X J (W.plainGet_of j).1 (W.plainGet_of j).2 F (beq_iff_eq.mp z) (by show (W.lookIn name L).map (·.isSome)=some false;rw [G,Y];rfl) h
theorem IV {R:List Str}{Q:Unit->Shared->Prop}(X:K.In s.heap)(I:AX s.heap x dx C mA)
(hs:W.findIn K (.ref C) "__setattr__"=some (some (.builtin "object.__setattr__")))(U:W.plainOver K C=true)(ht:W.takerIn K C name=some none)(Z:W.hasDictIn K C=true)
(hw:PySem.Within mA R)(hsz:R.length<=sizeLine)
(h:∀h',AX h' x dx C (λy=>if y=name then some v else mA y)->Heap.SameBut dx s.heap h'->Q () {s with heap:=h',toks:=s.toks+2}):
 wpAny @m A (setAttr (.ref x) name v) Q E s:=by
 obtain ⟨od,J,hl⟩:=I.look;rwa[W.set_plain X J hs (W.osa_open (s:= {s with toks:=s.toks+1}) (r:=none) X J U ht λb=> ?_)];obtain ⟨cd,Y,G⟩:=W.any_some Z;have hx:s.heap.get? x=some ⟨.ref C,some dx,.plain,#[]⟩:=I.obj;rwa[wpAny_bind (wpAny_pure (wpAny_bind (wpAny_bind (wpAny_loadPart hx (wpAny_bind (PySem.W.Looks.here (s:= {s with toks:=s.toks+1}) (W.looks_clsIn X Y) ?_))))))];rw [G];rwa[wpAny_pure (a:=some dx) (wpAny_bind (wpAny_pure @fO))];rwa[wpAny_nsSet1 (s:= {s with toks:=s.toks+1}) I.ns λh' z j=> ?_];obtain ⟨oD,S,aa,L,F,O⟩:=z.count (PySem.Within.cons name v hw);rwa[wpAny_bind (wpAny_lookBehind L (by rw [F];exact pastItsLine_dict (Nat.le_trans O (by rw [length_cons];lia))) ?_)];exact wpAny_pure (h _ ⟨(j.2 _ (Ne.symm I.ne)).trans I.obj,z,I.ne⟩ j)
theorem Go {R:Result->Shared->Prop}{vs:List Value}{z:List (Str×Value)}(X:K.In s.heap)(F:W.makesIn K C=true)
(hi:W.findIn K (.ref C) "__init__"=some @Z)(G:W.typeIn K (.ref f)=some (.type "function"))
(h:codeAny @m (A.under (.builtin "type.__call__" ⟨.ref C::vs,z⟩)) (.call (.ref f) ⟨.ref (s.heap.objs.size+1)::vs,z⟩) (PySem.W.InitBack (s.heap.objs.size+1) R)
   {s with heap:=(s.heap.push W.emptyDict).push @u}):
 codeAny @m A (.call (.ref C) ⟨vs,z⟩) R s:=by
 obtain ⟨I,g,d,t,os⟩:=s;exact W.make_core (W.makes_of X F) (W.looks_findIn X hi) (λj=>W.bind_fn X j G) (.inl rfl) h
theorem Da {R:Result->Shared->Prop}(X:K.In s.heap)(F:W.makesIn K C=true)
(hi:W.findIn K (.ref C) "__init__"=some (some (.builtin "object.__init__")))
(j:∀self,PySem.W.Looks @m s.heap (bindSpecial (.builtin "object.__init__") self) (.builtin "object.__init__",[self]))
(h:codeAny @m (A.under (.builtin "type.__call__" ⟨[.ref C],[]⟩)) (.call (.builtin "object.__init__") ⟨[.ref (s.heap.objs.size+1)],[]⟩) (PySem.W.InitBack (s.heap.objs.size+1) R)
   {s with heap:=(s.heap.push W.emptyDict).push @u}):
 codeAny @m A (.call (.ref C) ⟨[],[]⟩) R s:=by
 obtain ⟨G,g,d,t,os⟩:=s;exact W.make_core (W.makes_of X F) (W.looks_findIn X hi) j (.inr ⟨rfl,rfl⟩) h
end
noncomputable def putF (f:Str)(v:V):List (Str×V)->List (Str×V)
 |[]=>[(f,v)]
 |(g,x)::r=>if g=f then (g,v)::r else (g,x)::putF f v r
theorem oQ (f g:Str)(v:V):∀fs:List (Str×V),(putF f v fs).lookup g=if g=f then some v else fs.lookup g
 |[]=>by
  show List.lookup g [(f,v)]=_;by_cases h:g=f
  ·have F:(g==f)=true:=beq_iff_eq.mpr h;simp only [List.lookup,F,if_pos h]
  ·have F:(g==f)=false:=beq_eq_false_iff_ne.mpr h;simp only [List.lookup,F,if_neg h]
 |(k,x)::r=>by
  have j:=oQ f g v r;rw [show putF f v ((k,x)::r)=(if k=f then (k,v)::r else (k,x)::putF f v r) from rfl];by_cases R:k=f
  ·rw [if_pos R];by_cases h:g=k
   ·have F:(g==k)=true:=beq_iff_eq.mpr h;simp only [List.lookup,F,if_pos (h.trans R)]
   ·have F:(g==k)=false:=beq_eq_false_iff_ne.mpr h;simp only [List.lookup,F,if_neg (λe:g=f=>h (e.trans R.symm))]
  ·rw [if_neg R];by_cases h:g=k
   ·have F:(g==k)=true:=beq_iff_eq.mpr h;simp only [List.lookup,F,if_neg (λe:g=f=>R (h.symm.trans e))]
   ·have F:(g==k)=false:=beq_eq_false_iff_ne.mpr h;simp only [List.lookup,F];exact j
theorem nW (f:Str)(v:V):∀fs:List (Str×V),f∈(putF f v fs).map (·.1)/\∀g,g∈fs.map (·.1)->g∈(putF f v fs).map (·.1)
 |[]=>⟨by simp [putF],λg h=>by simp at h⟩
 |(k,x)::r=>by
  obtain ⟨j,z⟩:=nW f v r;rw [show putF f v ((k,x)::r)=(if k=f then (k,v)::r else (k,x)::putF f v r) from rfl];by_cases R:k=f
  ·rw [if_pos R];subst R;exact ⟨by simp,λg h=>by simpa using h⟩
  ·rw [if_neg R];rwa[⟨?_,λg h=> ?_⟩]
   ·rw [map_cons];exact mem_cons_of_mem _ j
   ·rw [map_cons] at h ⊢
    rcases mem_cons.mp h with e|e
    ·exact mem_cons.mpr (.inl e)
    ·exact mem_cons_of_mem _ (z g e)
theorem oS (f:Str)(v:V):∀fs:List (Str×V),(putF f v fs).length<=fs.length+1
 |[]=>by simp [putF]
 |(k,x)::r=>by
  have j:=oS f v r;rw [show putF f v ((k,x)::r)=(if k=f then (k,v)::r else (k,x)::putF f v r) from rfl];by_cases R:k=f
  ·rw [if_pos R,length_cons,length_cons];lia
  ·rw [if_neg R,length_cons,length_cons];lia
theorem jR.some_of {v:V}{o:Option Value}(r:jR @bE o):∃u,o=some u/\aF v u:=by
 cases o with
 |none=>exact (show False from r).elim
 |some u=>exact ⟨u,rfl,r⟩
theorem jR.none_of {o:Option Value}(r:jR none o):o=none:=by
 cases o with
 |none=>rfl
 |some u=>exact (show False from r).elim
theorem Dr {v:V}{u:Value}(r:aF v u):W.handedIn u=true:=by
 cases v with
 |non=>cases (show u=Value.none from r);rfl
 |bl b=>cases (show u=Value.bool b from r);rfl
 |int i=>obtain ⟨t,e⟩:=(show ∃t,u=Value.int i t from r);cases e;rfl
 |str x=>obtain ⟨t,e⟩:=(show ∃t,u=Value.str x t from r);cases e;rfl
 |byt b=>obtain ⟨t,e⟩:=(show ∃t,u=Value.bytes b t from r);cases e;rfl
 |flt b=>obtain ⟨t,e⟩:=(show ∃t,u=Value.float b t from r);cases e;rfl
 |ref a=>cases (show u=Value.ref a from r);rfl
 |ty n=>cases (show u=Value.type n from r);rfl
section
variable {P:Program}{w:World}{H H':Hp}{h h':Heap}{a C dx:Addr}{fs fs':List (Str×V)}
theorem pQ (ae:gu P w H h)(e:H a=some (.ins C dx fs)):∃mA,AX h a dx C mA/\(∀f,jR @gq (mA f))/\PySem.Within mA (fs.map (·.1))/\fs.length<=1000/\H dx=some (.own a):=by
 obtain ⟨d,z,L,j,mA,n,r,q⟩:=(show bA P w H h a (.ins C dx fs) from ae a _ e);exact ⟨mA,⟨j,n,L⟩,r,q,z,d⟩
end
structure uY (K:Fg)(C:Addr):Prop where
 pg:W.plainGet K C Str.empty=true
 hd:W.hasDictIn K C=true
 po:W.plainOver K C=true
 sa:W.findIn K (.ref C) "__setattr__"=some (some (.builtin "object.__setattr__"))
theorem uY.get {K:Fg}{C:Addr}(c:uY K C)(f:Str):W.plainGet K C f=true:=c.pg
def aR (K:Fg)(C:Addr)(f:Str):Prop:=W.findIn K (.ref C) f=some none
theorem aR.taker {K:Fg}{C:Addr}{f:Str}(n:aR K C f):W.takerIn K C f=some none:=by
 unfold W.takerIn;rw [show W.findIn K (.ref C) f=some none from n];rfl
structure Con (K:Fg)(C:Addr)(f:Str)(v:V)(u:Value):Prop where
 at_:W.findIn K (.ref C) f=some @em
 rel:aF v u
 get:W.specialIn K u "__get__"=some none
 cp:W.copiedNames.contains f=false
structure HV (K:Fg)(C:Addr)(m:Str)(f:Addr):Prop where
 at_:W.findIn K (.ref C) m=some @Z
 fn:W.isFn K (.ref f)=true
 kp:W.keepIn K (.ref f)=true
section
variable {X:Cx}{pins:List (Addr×Obj)}{σ:St}{H:Hp}{s:Shared}{a C dx:Addr}{fs:List (Str×V)}{f:Str}{v:V}{A:Around}{E:Value->Shared->Prop}
theorem AM {b:Bool}{Q:Value->Shared->Prop}(I:aA X pins σ H s)(e:H a=some (.ins C dx fs))(c:uY X.K C)(n:aR X.K C f)(l:fs.lookup f=some v)
(h:∀u s',aA X pins σ H s'->aF v u->Q u s'):wpAny @d A (getAttr (.ref a) f b) Q E s:=by
 obtain ⟨mA,O,r,_,_,_⟩:=pQ I.hok e;obtain ⟨u,z,j⟩:=jR.some_of (v:=v) (o:=mA f) (by rw [<-l];exact r f);exact Km I.kIn O (c.get f) c.hd n z (Dr j) (h u _ @eY j)
theorem AL {m:Str}{g:Addr}{pl:Sem Bool}{Q:Value×List Value->Shared->Prop}(I:aA X pins σ H s)(e:H a=some (.ins C dx fs))(c:uY X.K C)(k:HV X.K C m g)(l:fs.lookup m=none)
(h:Q (.ref g,[.ref a]) s):wpAny @d A (getMethod (.ref a) m pl) Q E s:=by
 obtain ⟨mA,O,r,_,_,_⟩:=pQ I.hok e;have z:mA m=none:=jR.none_of (by rw [<-l];exact r m);exact GK I.kIn O (c.get m) k.at_ k.fn z h
theorem zH {y:V}{u:Value}{Q:Unit->Shared->Prop}(I:aA X pins σ H s)(e:H a=some (.ins C dx fs))(c:uY X.K C)(n:aR X.K C f)(U:fs.length<1000)(L:aF y u)
(h:∀s',aA X pins σ @cf s'->Q () s'):wpAny @d A (setAttr (.ref a) f u) Q E s:=by
 obtain ⟨mA,O,r,wi,_,F⟩:=pQ I.hok e
 have S:(fs.map (·.1)).length<=sizeLine:=by rw [length_map,sizeLine_eq];lia
 rwa[IV I.kIn O c.sa c.po n.taker c.hd wi S λh' j G=>h _ ?_];have R:∃o,h'.get? dx=some o:=let ⟨o,_,_,e',_⟩:=j.ns;⟨o,e'⟩;rwa[I.write (x:=a) (e:=dx) (by rw [e];exact True.intro) (.inr F) (λb q J z=>(G.2 b J).trans z) R ?_];rwa[⟨by rw [am O.ne];exact F,?_,O.ne,j.obj,_,j.ns,λg=> ?_,λg W=> ?_⟩]
 ·have:=oS f y fs;lia
 ·show jR ((putF f y fs).lookup g) (if g=f then some u else mA g);rw [oQ];by_cases q:g=f
  ·rw [if_pos q,if_pos q];exact L
  ·rw [if_neg q,if_neg q];exact r g
 ·by_cases q:g=f
  ·rw [q];exact (nW f y fs).1
  ·rwa[(nW f y fs).2 g (wi g λz=>W ?_)];show (if g=f then some u else mA g)=none;rw [if_neg q];exact z
theorem aA.made (I:aA X pins σ H s):aA X pins σ (upd (upd H s.heap.objs.size (.own (s.heap.objs.size+1))) (s.heap.objs.size+1) (.ins C s.heap.objs.size []))
 {s with heap:=(s.heap.push W.emptyDict).push @u}:=by
 have R:(s.heap.push W.emptyDict).get? s.heap.objs.size=some W.emptyDict:=Heap.get?_push_size s.heap rfl
 have O:((s.heap.push W.emptyDict).push @u).get? (s.heap.objs.size+1)=some @u:=by
  have:=Heap.get?_push_size @fp (o:=W.instObj C s.heap.objs.size) rfl;rwa [Heap.size_push] at this
 have z:(s.heap.push W.emptyDict).Ns s.heap.objs.size (λ_=>none):=⟨W.emptyDict,#[],_,R,rfl,(λe U=>absurd U @e),λ_=>rfl⟩;have J:=I.laid (a:=s.heap.objs.size) (o:= .own (s.heap.objs.size+1)) (h':=s.heap.push W.emptyDict) (t':=s.toks) (λb u q=>Heap.get?_push_of_some _ q) @h ⟨_,R⟩;rwa[J.laid (a:=s.heap.objs.size+1) (o:= .ins C s.heap.objs.size []) (t':=s.toks) (λb u q=>Heap.get?_push_of_some _ q) (Nat.le_of_eq (Heap.size_push _ _)) ?_];have L:s.heap.objs.size≠s.heap.objs.size+1:=Nat.ne_of_lt @cc;rwa[⟨by rw [am L,ag],Nat.zero_le _,L,O,λ_=>none,(Heap.Ns1.of_empty z).at λo q=>Heap.get?_push_of_some _ q,λ_=>True.intro,λy j=>absurd rfl j⟩]
theorem KQ {prog:Program}{w:World}{env:Env}{e:Expr}{f:Str}{pos:Pos}{s:Shared}{Q:Value->Shared->Prop}(F:attributeBase e f env (eval e env)=eval e env)
(h:wpAny @m A (eval e env) (λo s₁=>wpAny @m A (getAttr o f true) Q E s₁) E s):wpAny @m A (eval (.Attribute e f pos) env) Q E s:=
 Attribute_any_ h (by rw [arm_eval_Attribute,F])
end
section
variable {X:Cx}{pins:List (Addr×Obj)}{σ:St}{H:Hp}{s:Shared}{A:Around}{E:Value->Shared->Prop}{Q:Value->Shared->Prop}{c:Value}{b:Bool}
inductive iM (K:Fg)(H:Hp):V->Value->Prop where
 |non:iM K H .non (.type "NoneType")
 |bl (x:Bool):iM K H (.bl x) (.type "bool")
 |int (i:Int):iM K H (.int i) (.type "int")
 |str (x:Str):iM K H (.str x) (.type "str")
 |flt (x:UInt64):iM K H (.flt x) (.type "float")
 |lst {a:Addr} {xs:List V} (e:H a=some (.lst xs)):iM K H (.ref a) (.type "list")
 |frz {a:Addr} {o:Obj} {xs:List V} (e:H a=some (.frz o (.lst xs))):iM K H (.ref a) (.type "list")
 |tup {a:Addr} {xs:List V} (e:H a=some (.tup xs)):iM K H (.ref a) (.type "tuple")
 |dK {a:Addr} {kvs:List (c7×V)} (e:H a=some (.dK kvs)):iM K H (.ref a) (.type "dict")
 |dT {a:Addr} {kvs:List (List c7×V)} (e:H a=some (.dT kvs)):iM K H (.ref a) (.type "dict")
 |ins {a C dx:Addr} {fs:List (Str×V)} (e:H a=some (.ins C dx fs)) (cl:uY K C) (ha:W.findIn K (.ref C) "__class__"=some (some (.builtin "object.__class__")))
   (hn:W.specialIn K (.builtin "object.__class__") "__get__"=some (some (.builtin "getset_descriptor.__get__"))) (htk:W.takesIn K (.builtin "object.__class__")=some true)
   (hm:W.mroIn K C (.type "object")=some true):iM K H (.ref a) (.ref C)
theorem Dm {x:V}{u t:Value}(I:aA X pins σ H s)(F:aF x u)(ty:iM X.K H x t)(e:W.kitOne X.K t c=some b)(h:∀tk,Q (.bool b) {s with toks:=tk}):
 wpAny @d A (call (.builtin "isinstance") [u,c]) Q E s:=by
 cases ty with
 |non=>cases (show u=Value.none from F);exact W.kia_one W.kitx_none I.kIn True.intro e (λz=>nomatch z) h
 |bl y=>cases (show u=Value.bool y from F);exact W.kia_one W.kitx_bool I.kIn True.intro e (λz=>nomatch z) h
 |int i=>obtain ⟨t,q⟩:=(show ∃t,u=Value.int i t from F);cases q;exact W.kia_one W.kitx_int I.kIn True.intro e (λz=>nomatch z) h
 |str y=>obtain ⟨t,q⟩:=(show ∃t,u=Value.str y t from F);cases q;exact W.kia_one W.kitx_str I.kIn True.intro e (λz=>nomatch z) h
 |flt y=>obtain ⟨t,q⟩:=(show ∃t,u=Value.float y t from F);cases q;exact W.kia_one W.kitx_float I.kIn True.intro e (λz=>nomatch z) h
 | @lst a xs ea=>
   cases (show u=Value.ref a from F);obtain ⟨_,_,n,_,h1⟩:=(show bA X.prog X.w H s.heap a (.lst xs) from I.hok a _ ea);exact W.kia_one W.kitx_list I.kIn ⟨_,h1,rfl⟩ e (λz=>nomatch z) h
 | @frz a ob xs ea=>
   cases (show u=Value.ref a from F);obtain ⟨_,_,_,n,_,h1⟩:=(show bA X.prog X.w H s.heap a (.frz ob (.lst xs)) from I.hok a _ ea);exact W.kia_one W.kitx_list I.kIn ⟨_,h1,rfl⟩ e (λz=>nomatch z) h
 | @tup a xs ea=>
   cases (show u=Value.ref a from F);obtain ⟨_,_,_,p⟩:=(show bA X.prog X.w H s.heap a (.tup xs) from I.hok a _ ea);obtain ⟨o,h1,h2,_⟩:=p;exact W.kia_one W.kitx_tuple I.kIn ⟨o,h1,h2⟩ e (λz=>nomatch z) h
 | @dK a kvs ea=>
   cases (show u=Value.ref a from F);obtain ⟨_,_,R,_,p⟩:=(show bA X.prog X.w H s.heap a (.dK kvs) from I.hok a _ ea);obtain ⟨o,es,j,h1,h2,_⟩:=p;exact W.kia_one W.kitx_dict I.kIn ⟨o,h1,h2.1⟩ e (λz=>nomatch z) h
 | @dT a kvs ea=>
   cases (show u=Value.ref a from F);obtain ⟨_,_,xs,_,o,es,j,h1,h2,_⟩:=(show bA X.prog X.w H s.heap a (.dT kvs) from I.hok a _ ea);exact W.kia_one W.kitx_dict I.kIn ⟨o,h1,h2.1⟩ e (λz=>nomatch z) h
 | @ins a C dx fs ea cl ha hn htk hm=>
   cases (show u=Value.ref a from F);obtain ⟨mA,O,_⟩:=pQ I.hok ea;obtain ⟨G,J,_⟩:=O.look;exact W.kia_one (W.kitx_own (cl.get _) cl.hd ha hn htk hm) I.kIn J e (λz=>nomatch z) h
end
structure cr (k:Nat)(A:Around):Prop where
 hd:A.handled=none
 dp:A.depth+3*k+5<recursionLimit
 un:A.units+16*k+200<cLine
theorem cr.mono {j k:Nat}{A:Around}(r:cr k A)(h:j<=k):cr j A:=⟨r.hd,by have:=r.dp;lia,by have:=r.un;lia⟩
theorem cr.deeper {k:Nat}{A:Around}(r:cr (k+1) A)(env:Env):cr k (A.deeper env):=
 ⟨r.hd,by have:=r.dp;show A.depth+1+3*k+5<_;lia,by have:=r.un;show A.units+3+16*k+200<_;lia⟩
theorem AE {A:Around}{C:Addr}{us:List Value}{z:List (Str×Value)}:(A.under (.builtin "type.__call__" ⟨.ref C::us,z⟩)).depth=A.depth+1:=by
 first|rfl|simp [Around.under,Code.weight,Code.isCreation,Code.isGuard,Code.isCaller,Code.frames,Code.isFrame,guardIds]
theorem AD {A:Around}{C:Addr}{us:List Value}{z:List (Str×Value)}:(A.under (.builtin "type.__call__" ⟨.ref C::us,z⟩)).units=A.units+1:=by
 first|rfl|simp [Around.under,Code.cUnits,Code.frames,Code.isFrame]
theorem cr.make {k:Nat}{A:Around}(r:cr (k+1) A)(C:Addr)(us:List Value)(z:List (Str×Value)):cr k (A.under (.builtin "type.__call__" ⟨.ref C::us,z⟩)):=
 ⟨r.hd,by have:=r.dp;rw [AE];lia,by have:=r.un;rw [AD];lia⟩
theorem cr.depth {k:Nat}{A:Around}(r:cr k A):A.depth<recursionLimit:=by have:=r.dp;lia
theorem cr.units {k:Nat}{A:Around}(r:cr k A):A.units+64<cLine:=by have:=r.un;lia
def PB:TA:=λ_ H Q=>Q [] H
def Lc (ta:TE)(tr:TA):TA:=λσ H Q=>ta σ H λx H1=>tr σ H1 λxs H2=>Q (x::xs) H2
section
variable {X:Cx}{e:Expr}{es:List Expr}{te:TE}{t:TA}{pos:Pos}
theorem ao:PA X [] PB:=λ_ _ _ _ H Q I h=>Calls.spliced_nil ⟨[],H,I,.nil,h⟩
theorem Jz (z:PE X e te)(S:PA X es t)(hs:starEach (e::es) X.env=(false,eval e X.env)::starEach es X.env:=by rfl):PA X (e::es) (Lc te t):=by
 intro pos pins s σ H Q I h;rw [hs];show wpAny _ _ (spliced ((false,eval e X.env)::backTo pos @D)) _ _ s;rwa[Calls.spliced_cons (bP @cD λu O j=> ?_)];obtain ⟨x,H1,J,R,F⟩:=j;exact bP (S pos pins O σ H1 _ J F) λU W ⟨xs,H2,G,L,Y⟩=>⟨x::xs,H2,G,.cons R L,Y⟩
def R1 (t:TA):TE:=λσ H Q=>t σ H λxs H1=>xs.length<=sizeLine/\∀p,H1 p=none->Q (.ref p) (upd H1 p (.tup xs))
def R6 (t:TA):TE:=λσ H Q=>t σ H λxs H1=>xs.length<=sizeLine/\∀p,H1 p=none->Q (.ref p) (upd H1 p (.lst xs))
theorem MQ {L}(h:PA X es t):PE X (.Tuple es L pos) (R1 t):=by
 intro pins s σ H Q I G;rwa[wpAny_Tuple_spliced (bP (h pos pins s σ H _ I G) λj O ⟨xs,H1,J,r,z,q⟩=>⟨by rw [<-r.length];exact z,?_⟩)];have F:H1 O.heap.objs.size=none:=J.hok.fresh @h;rwa[⟨.ref O.heap.objs.size,upd H1 O.heap.objs.size (.tup xs),J.laid (t':=O.toks) (λb u e=>Heap.get?_push_of_some _ e) @h ?_,rfl,q _ F⟩];exact ⟨z,j,r,⟨_,Heap.get?_push_size _ rfl,rfl,_,rfl⟩⟩
theorem MR (h:PA X es t):PE X (.List es pos) (R6 t):=by
 intro pins s σ H Q I G;rwa[wpAny_List_spliced (bP (h pos pins s σ H _ I G) λj O ⟨xs,H1,J,r,z,q⟩=>⟨by rw [<-r.length];exact z,?_⟩)];have F:H1 O.heap.objs.size=none:=J.hok.fresh @h;rwa[⟨.ref O.heap.objs.size,upd H1 O.heap.objs.size (.lst xs),J.laid (t':=O.toks) (λb u e=>Heap.get?_push_of_some _ e) @h ?_,rfl,q _ F⟩];exact ⟨z,j,0,r,Heap.get?_push_size _ rfl⟩
end
abbrev Sp:=List V->Hp->VK->XK->Prop
abbrev oA:=List Env->Hp->Shared->XK->Value->Shared->Prop
structure my (P:Program)(w:World)(K:Fg)(mg:Str->Option Value)(base:Heap)(A:Around)(outer:List Env)(s:Shared)(H:Hp):Prop where
 frames:A.frames=some outer
 mod:Mod K mg base
 bs:∀b o,base.get? b=some o->s.heap.get? b=some o/\H b=none
 bsz:base.objs.size<=s.heap.objs.size
 funs:s.heap.FunFrames base outer
 frf:∀b∈wL outer,H b=none
 hok:gu P w H s.heap
 bare:AllBare s.gens
def CE (outer:List Env)(P:Program)(w:World)(H:Hp)(s:Shared)(Q:VK)(u:Value)(s':Shared):Prop:=
 ∃v H',s'.os=s.os/\AllBare s'.gens/\Un (wL outer) [] H H' s.heap s'.heap/\gu P w H' s'.heap/\aF v u/\Q v H'
def CR (CX:oA)(outer:List Env)(P:Program)(w:World)(H:Hp)(s:Shared)(Q:VK)(E:XK)(r:Result)(s':Shared):Prop:=
 match r with
 | .ok (.ret u)=>CE outer P w H s Q u s'
 | .ok _=>False
 | .error e=>CX outer H s E e s'
structure ay (P:Program)(w:World)(K:Fg)(mg:Str->Option Value)(base:Heap)(CX:oA)(k:Nat)(f:Addr)(fd:FuncData)(ps:List Str)(sp:Sp):Prop where
 len:∀vs H Q E,sp vs H Q E->vs.length=ps.length
 run:∀(A:Around) (outer:List Env) (s:Shared) (H:Hp) (args:Args) (us:List Value) (vs:List V) (Q:VK) (E:XK),cr k A->my P w K mg base A outer s H->BindsTo s fd args @cm->aO vs us->sp vs H Q E->
  codeAny @Y A (.call (.ref f) args) (CR CX outer P w H s Q E) s
theorem ay.mono {P:Program}{w:World}{K:Fg}{mg:Str->Option Value}{base:Heap}{CX:oA}{j k:Nat}{f:Addr}{fd:FuncData}{ps:List Str}{sp:Sp}(F:ay P w K mg base CX j f fd ps sp)(h:j<=k):
 ay P w K mg base CX k f fd ps sp:=⟨F.len,λA outer s H z G R Q E S=>F.run A outer s H z G R Q E (S.mono h)⟩
theorem ay.imp {P:Program}{w:World}{K:Fg}{mg:Str->Option Value}{base:Heap}{CX:oA}{k:Nat}{f:Addr}{fd:FuncData}{ps:List Str}{sp j:Sp}(F:ay P w K mg base CX k f fd ps sp)
(h:∀vs H Q E,j vs H Q E->sp vs H Q E):ay P w K mg base CX k f fd ps j:=
 ⟨λvs H Q E q=>F.len vs H Q E (h _ _ _ _ q),λA outer s H z G vs Q E S U I Y hs=>F.run A outer s H z G vs Q E S U I Y (h _ _ _ _ hs)⟩
theorem my.make {P:Program}{w:World}{K:Fg}{mg:Str->Option Value}{base:Heap}{A:Around}{outer:List Env}{s:Shared}{H:Hp}(e:my P w K mg base A outer s H)(C:Addr)(us:List Value)(z:List (Str×Value)):
 my P w K mg base (A.under (.builtin "type.__call__" ⟨.ref C::us,z⟩)) outer s H:=⟨by first|exact e.frames|(simpa [Around.under,Code.envs,Code.isFrame,pushEnvs] using e.frames),e.mod,e.bs,e.bsz,e.funs,e.frf,e.hok,e.bare⟩
section
variable {X:Cx}{pins:List (Addr×Obj)}{σ:St}{H:Hp}{s s':Shared}
theorem aA.env0 (I:aA X pins σ H s):my X.prog X.w X.K X.mg X.base X.A X.stack s H:=
 ⟨I.ok.frames,I.ok.mod,I.bs,Nat.le_trans I.ok.bsz I.sz,I.stack,I.stkFree,I.hok,I.bare⟩
theorem aA.after {Q:VK}{u:Value}(I:aA X pins σ H s)(h:CE X.stack X.prog X.w H s Q u s'):EP X pins σ Q u s':=by
 obtain ⟨v,H',os,j,G,ae,r,q⟩:=h;obtain ⟨J,g,d,t,F⟩:=s';obtain rfl:F=s.os:=os;exact ⟨v,H',I.call (h':=J) (g':=g) (d':=d) (t':=t) (ch:=[]) G ae j (λb z=>absurd z @e),r,q⟩
end
def Be (sp:Sp)(dvs:List V)(E:XK)(t:TA):TE:=λσ H Q=>t σ H λvs H1=>sp (vs++dvs) H1 Q E
def PK (C:Addr)(sp:Sp)(dvs:List V)(E:XK)(t:TA):TE:=λσ H Q=>t σ H λvs H1=>∀x dx,H1 x=none->H1 dx=none->dx≠x->
 sp (.ref x::(vs++dvs)) (upd (upd H1 dx (.own x)) x (.ins C dx [])) (λv H2=>v= .non/\Q (.ref x) H2) E
def fU (K:Fg)(fd:FuncData)(ps:List Str)(ds:List Value):Prop:=
 ∀(s:Shared) (us:List Value),K.In s.heap->(us++ds).length=ps.length->BindsTo s fd ⟨us,[]⟩ (ps.zip (us++ds))
theorem fU.all {K:Fg}{fd:FuncData}{ps:List Str}(h:∀us:List Value,us.length=ps.length->bindArgs fd ⟨us,[]⟩=pure @cm):fU K fd ps []:=λs us _ W=>by
 rw [append_nil] at W ⊢;exact .of_eq (h us W)
def iA (CX:oA)(X:Cx)(E:XK):Prop:=∀(pins:List (Addr×Obj)) (σ:St) (H:Hp) (s:Shared) (e:Value) (s':Shared),aA X pins σ H s->CX X.stack H s E e s'->X.xe e s'
section
variable {X:Cx}{CX:oA}{k:Nat}{f C:Addr}{fd:FuncData}{ps:List Str}{sp:Sp}{dvs:List V}{ds:List Value}{E:XK}{x m:Str}{p pos apos:Pos}{e o:Expr}{es:List Expr}{ta:TE}{t:TA}
theorem Fi {pins:List (Addr×Obj)}{σ:St}{H:Hp}{s:Shared}{Q:VK}{us:List Value}{vs:List V}(F:ay X.prog X.w X.K X.mg X.base CX k f fd ps sp)(S:cr k X.A)(G:fU X.K fd ps ds)(J:aO dvs ds)(z:iA CX X E)
(I:aA X pins σ H s)(r:aO vs us)(h:sp (vs++dvs) H Q E):wpAny @d X.A (call (.ref f) us) @v X.xe s:=by
 have L:aO (vs++dvs) (us++ds):=r.append J
 have W:(us++ds).length=ps.length:=by rw [<-L.length];exact F.len _ _ _ _ h
 rwa[wpAny_call (codeAny_mono (F.run X.A X.stack s H ⟨us,[]⟩ (us++ds) (vs++dvs) Q E S I.env0 (G s us I.kIn W) L h) λr s' j=> ?_)]
 cases r with
 |error e=>exact z pins σ H s e s' I j
 |ok fl=>
  cases fl with
  |ret u=>exact I.after j
  |next=>exact False.elim j
  |brk=>exact False.elim j
  |cont=>exact False.elim j
theorem Bt (F:ay X.prog X.w X.K X.mg X.base CX k f fd ps sp)(S:cr k X.A)(Y:Gl X x)(G:X.mg x=some (.ref f))(R:W.keepIn X.K (.ref f)=true)(Z:fU X.K fd ps ds)(hd:aO dvs ds)(O:iA CX X E)
(L:PA X (e::es) t)(j:(x==("__debug__":Str))=false:=by decide)(U:starEach (e::es) X.env=(false,eval e X.env)::starEach es X.env:=by rfl)(z:(backTo pos @D).any (·.1)=false:=by rfl):
 PE X (.Call (.Name x p) (e::es) [] pos) (Be sp dvs E t):=by
 intro pins s σ H Q I h;rwa[wpAny_Call_Name_kw (lW I Y G ?_ j)];rwa[W.callWith_K (h₀:=X.base) I.ok.mod.kin R (bP @dt λus s1 ⟨vs,H1,J,r,q⟩=>⟨J.kIn,?_⟩) U z];exact Fi F S Z hd O J r q
structure Mk (K:Fg)(C f:Addr):Prop where
 makes:W.makesIn K C=true
 init:W.findIn K (.ref C) "__init__"=some @Z
 fn:W.isFn K (.ref f)=true
 kp:W.keepIn K (.ref C)=true
theorem Fh {pins:List (Addr×Obj)}{σ:St}{H:Hp}{s:Shared}{Q:VK}{us:List Value}{vs:List V}(M:Mk X.K C f)(F:ay X.prog X.w X.K X.mg X.base CX k f fd ps sp)(S:cr (k+1) X.A)(U:fU X.K fd ps ds)(hd:aO dvs ds)
(O:iA CX X E)(I:aA X pins σ H s)(r:aO vs us)
(h:∀x dx,H x=none->H dx=none->dx≠x->sp (.ref x::(vs++dvs)) (upd (upd H dx (.own x)) x (.ins C dx [])) (λv H2=>v= .non/\Q (.ref x) H2) E):
 wpAny @d X.A (call (.ref C) us) @v X.xe s:=by
 have z:=h (s.heap.objs.size+1) s.heap.objs.size (I.hok.fresh @eh) @bH (Nat.ne_of_lt @cc);have G:=aA.made (C:=C) I;have L:aO (V.ref (s.heap.objs.size+1)::(vs++dvs)) (Value.ref (s.heap.objs.size+1)::(us++ds)):= .cons rfl (r.append hd)
 have W:(Value.ref (s.heap.objs.size+1)::us++ds).length=ps.length:=by
  have e:=L.length;rw [F.len _ _ _ _ z] at e;exact e.symm
 refine wpAny_call (Go (f:=f) I.kIn M.makes M.init (beq_iff_eq.mp M.fn) (codeAny_mono (F.run _ X.stack _ _ ⟨Value.ref (s.heap.objs.size+1)::us,[]⟩ (Value.ref (s.heap.objs.size+1)::(us++ds)) _ _ E (S.make C us [])
  (G.env0.make C us []) (U _ (Value.ref (s.heap.objs.size+1)::us) G.kIn W) L z) λr s' j=> ?_))
 cases r with
 |error e=>exact O pins σ _ _ e s' G j
 |ok fl=>
  cases fl with
  |ret u=>
   obtain ⟨v,H',R,Y,J,Z⟩:=G.after j;subst J;exact ⟨Y,⟨V.ref (s.heap.objs.size+1),H',R,rfl,Z⟩⟩
  |next=>exact False.elim j
  |brk=>exact False.elim j
  |cont=>exact False.elim j
theorem Jw (M:Mk X.K C f)(F:ay X.prog X.w X.K X.mg X.base CX k f fd ps sp)(S:cr (k+1) X.A)(R:Gl X x)(G:X.mg x=some (.ref C))(Y:fU X.K fd ps ds)(Z:aO dvs ds)(O:iA CX X E)
(L:PA X (e::es) t)(j:(x==("__debug__":Str))=false:=by decide)(U:starEach (e::es) X.env=(false,eval e X.env)::starEach es X.env:=by rfl)(z:(backTo pos @D).any (·.1)=false:=by rfl):
 PE X (.Call (.Name x p) (e::es) [] pos) (PK C sp dvs E t):=by
 intro pins s σ H Q I h;rwa[wpAny_Call_Name_kw (lW I R G ?_ j)];rwa[W.callWith_K (h₀:=X.base) I.ok.mod.kin M.kp (bP @dt λus s1 ⟨vs,H1,J,r,q⟩=>⟨J.kIn,?_⟩) U z];exact Fh M F S Y Z O J r q
end
section
variable {X:Cx}{CX:oA}{k:Nat}{f C:Addr}{fd:FuncData}{ps ks:List Str}{sp:Sp}{E:XK}{x m:Str}{p pos apos kpos:Pos}{e o:Expr}{es:List Expr}{kws:List Keyword}{te ta:TE}{t tk:TA}{nm:Option Str}
structure KBinds (K:Fg)(fd:FuncData)(ps ks:List Str)(g:List Value->List Value->List Value)(gV:List V->List V->List V):Prop where
 to:∀(s:Shared) (us ws:List Value),K.In s.heap->(g us ws).length=ps.length->BindsTo s fd ⟨us,ks.zip ws⟩ (ps.zip (g us ws))
 rel:∀ {vs:List V} {us:List Value} {zs:List V} {ws:List Value},aO vs us->aO zs ws->aO (gV vs zs) (g us ws)
variable {g:List Value->List Value->List Value}{gV:List V->List V->List V}
end
structure aj (N P:List Str)(sc:Scope):Prop where
 kind:sc.kind= .function
 co:sc.isCoroutine=false
 gen:sc.isGenerator=false
 nd:N.Nodup
 pre:N.take P.length=P
 par:∀x∈P,sc.names.lookup x=some .local\/sc.names.lookup x=some .cell
 nofree:∀y∈sc.names,y.2≠ .free
theorem uT {j:Str->Option NameKind}{x:Str}:∀ {binds:List (Str×Value)} {m:Str->Option Value},(∀v,(x,v)∉binds)->bindL j binds m x=m x
 |[],_,_=>rfl
 |(n,v)::r,m,h=>by
  unfold bindL;rw [uT λw G=>h w (mem_cons_of_mem _ G)];split
  ·have:x≠n:=by rintro rfl;exact h v mem_cons_self
   simp [this]
  ·rfl
theorem uV {j:Str->Option NameKind}{x:Str}:∀ {binds:List (Str×Value)} {m:Str->Option Value},(∀v,(x,v)∉binds)->bindC j binds m x=m x
 |[],_,_=>rfl
 |(n,v)::r,m,h=>by
  unfold bindC;rw [uV λw G=>h w (mem_cons_of_mem _ G)];split
  ·rfl
  ·have:x≠n:=by rintro rfl;exact h v mem_cons_self
   simp [this]
theorem uU {j:Str->Option NameKind}{x:Str}{v:Value}:∀ {P:List Str} {vs:List Value} {i:Nat} {m:Str->Option Value},P.Nodup->P[i]? =some x->vs[i]? =some v->j x=some .local->
 bindL j (P.zip vs) m x=some v
 |[],_,_,_,_,h,_,_=>by simp at h
 |_::_,[],_,_,_,_,h,_=>by simp at h
 |p::P,w::vs,0,m,nd,h1,h2,hk=>by
  simp at h1 h2;subst h1;subst h2;show bindL j ((p,w)::P.zip vs) m p=_;unfold bindL;rw [uT λv Y=>(nodup_cons.mp nd).1 (of_mem_zip Y).1,if_pos hk];simp
 |p::P,w::vs,i+1,m,nd,h1,h2,hk=>by
  show bindL j ((p,w)::P.zip vs) m x=_;unfold bindL;exact uU (i:=i) (nodup_cons.mp nd).2 (by simpa using h1) (by simpa using h2) hk
theorem uW {j:Str->Option NameKind}{x:Str}{v:Value}:∀ {P:List Str} {vs:List Value} {i:Nat} {m:Str->Option Value},P.Nodup->P[i]? =some x->vs[i]? =some v->j x≠some .local->
 bindC j (P.zip vs) m x=some v
 |[],_,_,_,_,h,_,_=>by simp at h
 |_::_,[],_,_,_,_,h,_=>by simp at h
 |p::P,w::vs,0,m,nd,h1,h2,hk=>by
  simp at h1 h2;subst h1;subst h2;show bindC j ((p,w)::P.zip vs) m p=_;unfold bindC;rw [uV λv Y=>(nodup_cons.mp nd).1 (of_mem_zip Y).1,if_neg hk];simp
 |p::P,w::vs,i+1,m,nd,h1,h2,hk=>by
  show bindC j ((p,w)::P.zip vs) m x=_;unfold bindC;exact uW (i:=i) (nodup_cons.mp nd).2 (by simpa using h1) (by simpa using h2) hk
noncomputable def start (N:List Str)(vs:List V):St:=vs.map some++List.replicate (N.length - vs.length) none
noncomputable def rJ (CX:oA)(P:Program)(w:World)(K:Fg)(mg:Str->Option Value)(base:Heap)(N:List Str)(qual:Str)(scope:Scope)(f:Addr)(cd:Value)(A:Around)(outer:List Env)(s:Shared)(H:Hp)(E:XK):Cx where
 prog:=P
 w:=w
 K:=K
 mg:=mg
 base:=base
 A:=A.deeper @bM
 N:=N
 s₀:=s
 H₀:=H
 env:=envOfC qual scope s.heap.objs.size f cd
 outer:=outer
 stack:=envOfC qual scope s.heap.objs.size f cd::outer
 ex:=[]
 calm:=true
 fn:=λ_=>true
 pn:=[]
 xe:=λe s'=>wpAny @Y (A.deeper @bM) (leaving @bM e) (λ_ s''=>CX outer H s E e s'') (λe' s''=>CX outer H s E e' s'') s'
theorem yC {j:Scope}{n:Nat}{x:Str}(h:j.names.lookup x=some .cell):∃c,(cellsFrom n j.names []).lookup x=some c:=by
 have q:=W.cellsFrom_some j.names n [] (.inl h);exact Option.isSome_iff_exists.mp q
theorem uB {CX:oA}{P:Program}{w:World}{K:Fg}{mg:Str->Option Value}{base:Heap}{N ps:List Str}{qual:Str}{scope:Scope}{f:Addr}{cd:Value}{A:Around}{outer:List Env}{s L:Shared}{H:Hp}{E:XK}{us:List Value}{vs:List V}
(S:aj N ps scope)(W:A.handled=none)(j:my P w K mg base A outer s H)(hl:vs.length=ps.length)(r:aO vs us)
(x:InCallC s s.heap.objs.size (bindL (envOfC qual scope s.heap.objs.size f cd).kindOf @cm λ_=>none) (cellsFrom (s.heap.objs.size+1) scope.names []) (bindC (envOfC qual scope s.heap.objs.size f cd).kindOf @cm λ_=>none) L):
 aA (rJ CX P w K mg base N qual scope f cd A outer s H E) [] @dn H L:=by
 have Y:ps.length<=N.length:=by have:=congrArg List.length S.pre;rw [length_take] at this;lia
 obtain ⟨h1,tk,rfl,R⟩:=x.done;have F:∀b:Addr,b∉(rJ CX P w K mg base N qual scope f cd A outer s H E).ex:=λb z=>absurd (show b∈([]:List Addr) from z) @e
 refine ⟨⟨j.mod,S.kind,rfl,rfl,Nat.le_refl _,λy z c h1 h2=> ?_,λy O=> ?_,λy c _ h=> ?_,λ_=>W,Around.frames_deeper j.frames,.inr ⟨rfl,rfl⟩,λb z=>absurd z (F b),j.bs,j.bsz,λb _ _=>F b,λb z=>absurd z (F b),j.funs,j.frf⟩,
  rfl,j.bare,Un.kept R,⟨_,x.toInCall.ns,λi y v h1 h2 h3=> ?_⟩,λy c h=>⟨_,x.cell y c h⟩,j.hok.fresh @h,λy c h=> ?_,λp G=>absurd (show p∈([]:List (Addr×Obj)) from G) @e,j.hok.kept R,?_⟩
 ·exact name_of_addr x.apart (PySem.mem_of_lookup h1) (PySem.mem_of_lookup h2)
 ·have O:scope.names.lookup y=some .cell\/scope.names.lookup y=some .free:=O
  rcases O with O|O
  ·exact yC O
  ·exact absurd rfl (S.nofree _ (PySem.mem_of_lookup O))
 ·exact Nat.le_of_lt (x.above y c @dG)
 ·have hi:i<vs.length:=by
   unfold start at h2;by_cases hi:i<vs.length
   ·exact hi
   ·rw [getElem?_append_right (by simpa using hi)] at h2;rw [getElem?_replicate] at h2;split at h2<;>cases h2
  have U:vs[i]? =some v:=by
   unfold start at h2;rw [getElem?_append_left (by simpa using hi),getElem?_map] at h2
   cases e:vs[i]? with
   |none=>rw [e] at h2;cases h2
   |some a=>rw [e] at h2;cases h2;rfl
  obtain ⟨u,J,Z⟩:=r.get U
  have G:ps[i]? =some y:=by
   rw [<-S.pre,getElem?_take_of_lt @c];exact h1
  have I:ps.Nodup:=by rw [<-S.pre];exact S.nd.sublist (take_sublist _ _)
  rwa[⟨u,Z,?_⟩]
  rcases S.par y (mem_of_getElem? G) with k|k
  ·exact .inl ⟨k,uU I G J k⟩
  ·obtain ⟨c,e⟩:=yC (n:=s.heap.objs.size+1) k;rwa[.inr ⟨.inl k,c,e,?_⟩];have q:=x.cell y c e;rw [uW I G J (by show scope.names.lookup y≠_;rw [k];decide)] at q;exact q
 ·exact j.hok.fresh (Nat.le_of_lt (x.above y c @dG))
 ·unfold start;show _=N.length;rw [length_append,length_map,length_replicate];lia
theorem Lm {CX:oA}{P:Program}{w:World}{K:Fg}{mg:Str->Option Value}{base:Heap}{k:Nat}{f:Addr}{name qual:Str}{z:Arguments}{U:List Stmt}{scope:Scope}{dV kV R pm j ct oc:Value}{an od:Option Addr}
{aa:Array @bj}{N ps:List Str}{sp:Sp}(lk:K.lookup f=some ⟨oc,od,.func (W.fnOf name qual z U scope dV kV R pm an j ct),aa⟩)(ac:W.codeIn K j qual=true)(S:aj N ps scope)
(L:∀vs H Q E,sp vs H Q E->vs.length=ps.length)
(F:∀(A:Around) (outer:List Env) (s:Shared) (H:Hp) (vs:List V) (Q:VK) (E:XK),cr k (A.deeper (envOfC qual scope s.heap.objs.size f j))->sp vs H Q E->
   ∃t,uX @bs U t/\t {nx:=λ_ H'=>Q .non H',rt:=Q} @dn H):
 ay P w K mg base CX (k+1) f (W.fnOf name qual z U scope dV kV R pm an j ct) ps sp:=by
 rwa[⟨L,λA outer s H ad us vs Q E hr Y hb r O=> ?_⟩];have hl:=L _ _ _ _ O;have KX:K.In s.heap:=Y.mod.kin.keeps λb o e=>(Y.bs b o e).1;have ab:s.heap.NoLimit:=Y.mod.nolimit.keeps λb o e=>(Y.bs b o e).1
 have G:∀y∈ps.zip us,scope.names.lookup y.1=some .local\/(scope.names.lookup y.1=some .cell/\((cellsFrom (s.heap.objs.size+1) scope.names []).lookup y.1).isSome=true):=λ⟨n,v⟩ hy=>by
  rcases S.par n (of_mem_zip hy).1 with q|q
  ·exact .inl q
  ·exact .inr ⟨q,W.cellsFrom_some _ _ _ (.inl q)⟩
 rwa[codeAny_call_function hr.depth (KX _ _ lk) rfl S.co S.gen rfl (W.codeRec_of KX ac) (hb _ _ _ _ ?_)];rwa[wpAny_newFunctionEnv_cells S.kind G λae he s1 x=> ?_];subst he;rwa[⟨ab.keeps x.toInCall.keep,codeAny_func ?_⟩];obtain ⟨t,ht,hq⟩:=F A outer s H vs Q E (hr.deeper _) O;have I:aA @bs [] @dn H s1:=uB S hr.hd Y hl r x;rwa[wpAny_mono (ht [] s1 @dn H _ I hq) (λfl s' hs=> ?_) λe s' hs=>hs]
 have Z:∀ {σ':St} {H':Hp} {v:V} {u:Value},aA @bs [] σ' H' s'->aF v u->Q v H'->CE outer P w H s Q u s':=
  λ{σ' H' v u} J rv q=>⟨v,H',J.os,J.bare,J.base,J.hok,rv,q⟩
 cases fl with
 |ret u=>
  obtain ⟨v,σ',H',J,rv,q⟩:=hs;exact Z J rv q
 |next=>
  obtain ⟨σ',H',J,q⟩:=hs;exact Z (v:=V.non) (u:=Value.none) J rfl q
 |brk=>
  obtain ⟨_,_,_,q⟩:=hs;exact False.elim q
 |cont=>
  obtain ⟨_,_,_,q⟩:=hs;exact False.elim q
section
variable {X:Cx}{x:Str}{p pos:Pos}{e:Expr}{es:List Expr}{t:TA}{id T:String}{r:List V->Hp->VK->Prop}
def Rf (r:List V->Hp->VK->Prop)(t:TA):TE:=λσ H Q=>t σ H λvs H1=>r vs H1 Q
theorem FF (L:bj X (.builtin id) r)(Z:Gl X x)(F:X.mg x=none)(Y:bootBuiltins x=some (.builtin id))(J:PA X (e::es) t)(R:x≠"__name__":=by decide)(j:(x==("__debug__":Str))=false:=by decide)
(U:starEach (e::es) X.env=(false,eval e X.env)::starEach es X.env:=by rfl)(z:(backTo pos @D).any (·.1)=false:=by rfl):PE X (.Call (.Name x p) (e::es) [] pos) (Rf r t):=by
 intro pins s σ H Q I h;rwa[wpAny_Call_Name_kw (ik I Z F Y ?_ R j)];exact PyProof.Rows.callWith_builtin1 (bP @du λG O ⟨vs,H1,W,r1,S⟩=>L pins O σ H1 vs G Q W r1 S) U z
theorem CG (L:bj X (.type T) r)(Z:Gl X x)(F:X.mg x=none)(Y:bootBuiltins x=some (.type T))(J:PA X (e::es) t)(R:x≠"__name__":=by decide)(j:(x==("__debug__":Str))=false:=by decide)
(U:starEach (e::es) X.env=(false,eval e X.env)::starEach es X.env:=by rfl)(z:(backTo pos @D).any (·.1)=false:=by rfl):PE X (.Call (.Name x p) (e::es) [] pos) (Rf r t):=by
 intro pins s σ H Q I h;rwa[wpAny_Call_Name_kw (ik I Z F Y ?_ R j)];exact PyProof.Rows.callWith_type1 (bP @du λG O ⟨vs,H1,W,r1,S⟩=>L pins O σ H1 vs G Q W r1 S) U z
end
end L2
namespace HT
open PySem PyProof.Rows
theorem rcLt_int (A:Around)(s:Shared)(a:Int)(t:Tok)(c:Int)(u:Tok)(prog:Program)(w:World)(E:Value->Shared->Prop)(Q:Value->Shared->Prop)(h:Q (.bool (decide (a<c))) s):
 wpAny @m A (richCompare .Lt (.int a t) (.int c u)) Q E s:=
 (PyProof.Rows.lt_int h:wpAny @m A (compareOp .Lt (.int a t) (.int c u)) Q E s)
section
variable {prog:Program}{w:World}{A:Around}{E:Value->Shared->Prop}{s:Shared}
theorem cat_tup {t b:Addr}{vs ws:List Value}{Q:Value->Shared->Prop}(ht:IsTup s.heap t vs.toArray)(hb:IsTup s.heap b ws.toArray)(Y:vs≠[])
(h1:ws=[]->Q (.ref t) s)(h2:ws≠[]->Q (.ref s.heap.objs.size) {s with heap:=s.heap.push {cls:= .type "tuple",data:= .seq (vs++ws).toArray}})
(hsz:vs.length+ws.length<=sizeLine):wpAny @m A (binaryOp .Add (.ref t) (.ref b)) Q E s:=by
 obtain ⟨⟨cls,Z,data,sl⟩,L,U,n,hd⟩:=id ht;obtain ⟨⟨S,z,R,G⟩,j,I,W,J⟩:=id hb;simp only at U hd I J;subst U hd I J
 have e:vs.toArray++ws.toArray=(vs++ws).toArray:=by simp
 by_cases O:ws=[]
 ·exact concat_meets ⟨_,L,rfl⟩ ⟨_,j,rfl⟩ noFill_tuple_add seq_tuple_add PySem.F.slot_tuple_add PySem.F.entry_tuple_add @cE
   (tuple_addW1 t b vs.toArray ws.toArray n W Z z sl G (by simpa using Y) (by simp [O])) ⟨L,j,h1 O⟩
 ·refine concat_meets ⟨_,L,rfl⟩ ⟨_,j,rfl⟩ noFill_tuple_add seq_tuple_add PySem.F.slot_tuple_add PySem.F.entry_tuple_add @cE
   (tuple_addW2 t b vs.toArray ws.toArray n W Z z sl G (by simpa using Y) (by simpa using O) (by rw [size_toArray,size_toArray];exact hsz)) ⟨L,j,?_⟩
  rw [e];exact h2 O
noncomputable def sIx (n d:Nat):Option Int->Nat
 |none=>d
 |some v=>if v<0 then (v+(n:Int)).toNat else min v.toNat n
theorem sIx_none (n d:Nat):sIx n d none=d:=rfl
theorem sIx_nat (n d k:Nat):sIx n d (some (k:Int))=min k n:=by
 show (if (k:Int)<0 then ((k:Int)+(n:Int)).toNat else min (k:Int).toNat n)=min k n;rw [if_neg @c,Int.toNat_natCast]
theorem MB (n d:Nat)(J:d<=n)(o:Option Int):sIx n d o<=n:=by
 cases o with
 |none=>exact J
 |some v=>
  show (if v<0 then (v+(n:Int)).toNat else min v.toNat n)<=n;by_cases Y:v<0
  ·rw [if_pos Y];lia
  ·rw [if_neg Y];exact Nat.min_le_right _ _
theorem BX (v:Int)(n d:Nat):(if v<0 then max (v+(n:Int)) 0 else min v (n:Int))=((sIx n d @bE:Nat):Int):=by
 show (if v<0 then max (v+(n:Int)) 0 else min v (n:Int))=(((if v<0 then (v+(n:Int)).toNat else min v.toNat n):Nat):Int);by_cases Y:v<0
 ·simp only [if_pos Y];lia
 ·simp only [if_neg Y];lia
theorem AW (lo hi:Option Int)(n:Nat):Builtin.Slice.sliceAdjust lo hi 1 (n:Int)=(((sIx n 0 lo:Nat):Int),((sIx n n hi:Nat):Int)):=by
 have h1: ¬((1:Int)<0):=by lia
 unfold Builtin.Slice.sliceAdjust;simp only [h1,if_false];rwa[Prod.ext ?_ ?_]
 ·cases lo with
  |none=>rfl
  |some v=>exact BX v n 0
 ·cases hi with
  |none=>rfl
  |some v=>exact BX v n n
theorem Ah (i j:Nat):Builtin.Slice.slicePlaces (i:Int) (j:Int) 1=j - i:=by
 unfold Builtin.Slice.slicePlaces
 have h1:(1:Int)>0:=by lia
 simp only [h1,if_true,Int.ediv_one];split<;>lia
theorem qt {v:Value}{o:Option Int}{Q:Option Int->Shared->Prop}(p:IsPart v o)(h:Q o s):wpAny @m A (Builtin.Slice.slicePartIndex v) Q E s:=by
 cases p with
 |none=>exact slicePart_none h
 |int i t=>exact slicePart_int h
theorem mV {sl:Addr}{G F:Value}{lo hi:Option Int}{n:Nat}{Q:Int×Int×Nat->Shared->Prop}(hs:s.heap.IsSliceOf sl G F .none)(pl:IsPart G lo)(J:IsPart F hi)
(h:Q (((sIx n 0 lo:Nat):Int),1,sIx n n hi - sIx n 0 lo) s):wpAny @m A (Builtin.Slice.sliceApplied (.ref sl) (pure (n:Int))) Q E s:=by
 obtain ⟨os,j,I,z⟩:=id hs;unfold Builtin.Slice.sliceApplied Builtin.Slice.sliceFields;rwa[wpAny_bind (wpAny_bind (wpAny_field j z (x:=G) rfl (wpAny_bind (wpAny_field j z (x:=F) rfl (wpAny_bind (wpAny_field j z (x:= .none) rfl @bU))))))];rwa[wpAny_bind (slicePart_none ?_)];show wpAny _ _ (if ((1:Int)==0)=true then _ else _) _ _ s;rw [if_neg @b];rwa[wpAny_bind (qt pl (wpAny_bind (qt J (wpAny_bind @bU))))];show wpAny _ _ (match Builtin.Slice.sliceAdjust lo hi 1 (n:Int) with|(lo,hi)=>pure (lo,(1:Int),Builtin.Slice.slicePlaces lo hi 1)) _ _ s;rw [AW lo hi n];show wpAny _ _ (pure (((sIx n 0 lo:Nat):Int),(1:Int),Builtin.Slice.slicePlaces ((sIx n 0 lo:Nat):Int) ((sIx n n hi:Nat):Int) 1)) _ _ s;rw [Ah];exact wpAny_pure h
theorem Fv (xs:Array Value)(i k:Nat):((List.range k).filterMap λ(m:Nat)=>xs[((i:Int)+(m:Int)*1).toNat]?).toArray=((xs.toList.drop i).take k).toArray:=by
 have e:(λ(m:Nat)=>xs[((i:Int)+(m:Int)*1).toNat]?)=λm=>xs[i+m]? :=by
  funext m
  have:((i:Int)+(m:Int)*1).toNat=i+m:=by lia
  rw [this]
 rw [e];have:=pick_run xs i k;rw [filterMap_map] at this;have O:((λx=>xs[x]?)∘λx=>i+x)=λm=>xs[i+m]? :=rfl;rw [O] at this;rw [this]
theorem getItem_tuple_cut {t sl:Addr}{j:Array Value}{R O:Value}{lo hi:Option Int}{Q:Value->Shared->Prop}(J:IsTup s.heap t j)(hs:s.heap.IsSliceOf sl R O .none)(pl:IsPart R lo)(U:IsPart O hi)
(W: ¬(sIx j.size 0 lo=0/\sIx j.size j.size hi=j.size))
(h:Q (.ref s.heap.objs.size) {s with heap:=s.heap.push {cls:= .type "tuple",data:= .seq ((j.toList.drop @fq).take (sIx j.size j.size hi - sIx j.size 0 lo)).toArray}})
(hsz:j.size<=sizeLine):wpAny @m A (getItem (.ref t) (.ref sl)) Q E s:=by
 have z:sizeOk (.seq ((j.toList.drop @fq).take (sIx j.size j.size hi - sIx j.size 0 lo)).toArray):=by
  show ((j.toList.drop @fq).take (sIx j.size j.size hi - sIx j.size 0 lo)).toArray.size<=sizeLine;rw [size_toArray,length_take,length_drop,Array.length_toList];lia
 have Z:sIx j.size j.size hi<=j.size:=MB _ _ @h hi;obtain ⟨os,F,I,S⟩:=id hs;have G:s.TypeIs (.ref sl) "slice":=⟨os,F,I⟩;unfold getItem
 try with_reducible refine wpAny_holding ?_
 first|refine wpAny_bind @bU|skip
 rwa[wpAny_bind (wpAny_sequenceKey J.typeIs @b ?_)]
 refine wpAny_bind (wpAny_callSpecial?_slot (name:=s!"__getitem__") J.typeIs PyProof.Rows.slot_tuple_getitem
  (wpAny_call_entry PyProof.Rows.slot_tuple_getitem J.typeIs entry_tuple_getitem ?_ (args_tuple_getitem _ _)))
 show wpAny _ _ (Builtin.Tuple.tupleItemsOf (.ref t)>>=_) _ _ s;rwa[wpAny_bind (tupleItemsOf_ J ?_)];rwa[wpAny_bind (wpAny_typeOf G ?_)];rw [if_pos @b];rwa[wpAny_bind (mV hs pl U ?_)]
 have L: ¬((((sIx j.size 0 lo:Nat):Int)==0&&(1:Int)==1&&(sIx j.size j.size hi - sIx j.size 0 lo)==j.size)=true):=by
  intro q;rw [Bool.and_eq_true,Bool.and_eq_true] at q;have Y:((sIx j.size 0 lo:Nat):Int)=0:=eq_of_beq q.1.1;have q2:sIx j.size j.size hi - sIx j.size 0 lo=j.size:=eq_of_beq q.2;exact W ⟨by lia,by lia⟩
 show wpAny _ _ (if (((sIx j.size 0 lo:Nat):Int)==0&&(1:Int)==1&&(sIx j.size j.size hi - sIx j.size 0 lo)==j.size)=true then _ else _) _ _ s;rw [if_neg L,Fv]
 first
  |exact wpAny_bind (m:=Builtin.Tuple.tupleExact _) (wpAny_newObj_type @bq z)
  |exact wpAny_bind (m:=Builtin.Tuple.tupleExact _) (wpAny_newObj_type (wpAny_bind (wpAny_pure @bq)) z)
  |exact wpAny_bind (wpAny_bind (m:=Builtin.Tuple.tupleExact _) (wpAny_newObj_type (wpAny_pure @bq) z))
  |exact wpAny_bind (wpAny_bind (m:=Builtin.Tuple.tupleExact _) (wpAny_newObj_type @bq z))
end
end HT
namespace L2
open PySem PySem.Spec PyProof.Rows
abbrev TO:=St->Hp->(Option Int->Hp->Prop)->Prop
def PO (X:Cx)(e:Option Expr)(t:TO):Prop:=
 ∀(pins:List (Addr×Obj)) (s:Shared) (σ:St) (H:Hp) (Q:Option Int->Hp->Prop),aA X pins σ H s->t σ H Q->
  wpAny @d X.A (evalPart e X.env) (λu s'=>∃o H',aA X pins σ H' s'/\IsPart u o/\Q o H') X.xe s
def II:TO:=λ_ H Q=>Q none H
section
variable {X:Cx}{e:Expr}{te:TE}{lo hi:Option Expr}{tl th:TO}{pos p2:Pos}
theorem pN:PO X none II:=by
 intro pins s σ H Q I h;rw [evalPart_none];exact wpAny_pure ⟨none,H,I,.none,h⟩
def Ot (X:Cx)(r:V->Option Int->Option Int->Hp->VK->Prop):Prop:=
 ∀(pins:List (Addr×Obj)) (s:Shared) (σ:St) (H:Hp) (x:V) (v vl vu:Value) (lo hi:Option Int) (sl:Addr) (Q:VK),aA X pins σ H s->aF x v->s.heap.IsSliceOf sl vl vu .none->IsPart vl lo->IsPart vu hi->r x lo hi H Q->
  ∃T id,typeLookup (.type T) "__getitem__"=pure (some (.builtin id))/\s.TypeIs v T/\wpAny @d X.A (getItem v (.ref sl)) @v X.xe s
def Ti (r:V->Option Int->Option Int->Hp->VK->Prop)(te:TE)(tl th:TO):TE:=λσ H Q=>te σ H λx H1=>tl σ H1 λl H2=>th σ H2 λu H3=>r x l u H3 Q
theorem lQ {r:V->Option Int->Option Int->Hp->VK->Prop}(hr:Ot X r)(he:PE X e te)(W:PO X lo tl)(hu:PO X hi th):PE X (.Subscript e (.Slice lo hi none p2) pos) (Ti r te tl th):=by
 intro pins s σ H Q I h;rwa[Subscript_ (bP @cw λv O j=> ?_)];obtain ⟨x,H1,I1,S,q1⟩:=j;rwa[wpAny_Slice (bP (W pins O σ H1 _ I1 q1) λG U ⟨l,H2,J,pl,Y⟩=>bP (hu pins U σ H2 _ J Y) λF R j=> ?_)];obtain ⟨u,z,Z,pu,q3⟩:=j;rw [evalPart_none];rwa[wpAny_pure ?_];have I4:aA X pins σ z {R with heap:=R.heap.push {cls:= .type "slice",data:= .fields #[G,F,.none]}}:=Z.kept (t':=R.toks) λb ob q=>Heap.get?_push_of_some _ q;obtain ⟨T,id,hT,L,hg⟩:=hr pins {R with heap:=R.heap.push {cls:= .type "slice",data:= .fields #[G,F,.none]}} σ z x v G F l u R.heap.objs.size Q I4 S (Heap.IsSliceOf.new ..) pl pu q3;show wpAny @d X.A (subscriptTail e (.Slice lo hi none p2) v (.ref R.heap.objs.size)) @v X.xe {R with heap:=R.heap.push {cls:= .type "slice",data:= .fields #[G,F,.none]}};exact tail_any (ops:=[.ref R.heap.objs.size,v]) L hT hg @z
noncomputable def jr (xs:List V)(lo hi:Option Int):List V:=(xs.drop @dH).take (HT.sIx xs.length xs.length hi - HT.sIx xs.length 0 lo)
theorem o0 (xs:List V)(lo hi:Option Int):(jr xs lo hi).length<=xs.length:=by
 unfold jr;rw [length_take,length_drop];lia
def Si (K:Fg):V->Option Int->Option Int->Hp->VK->Prop:=λx lo hi H Q=>∃a xs,x= .ref a/\az K H a xs/\
 ¬(HT.sIx xs.length 0 lo=0/\HT.sIx xs.length xs.length hi=xs.length)/\∀p,H p=none->Q (.ref p) (upd H p (.tup @bx))
theorem Mo:Ot X (Si X.K):=by
 intro pins s σ H x v U S lo hi sl Q I z hs pl G h;obtain ⟨a,xs,rfl,O,L,q⟩:=h;cases z;obtain ⟨its,r,J,j⟩:=I.tuple O
 have F:its.toArray.size=xs.length:=by rw [size_toArray];exact r.length.symm
 rwa[⟨"tuple",_,PyProof.Rows.slot_tuple_getitem.lookup,J.typeIs,?_⟩];rwa[HT.getItem_tuple_cut J hs pl G (by rw [F];exact L) ?_ (by rw [F];exact j)];rw [F];rwa[⟨.ref s.heap.objs.size,_,I.laid (t':=s.toks) (o:= .tup @bx) (λb R q=>Heap.get?_push_of_some _ q) @h ?_,rfl,q _ @bH⟩];exact ⟨Nat.le_trans (o0 xs lo hi) j,_,(r.drop @dH).take (HT.sIx xs.length xs.length hi - HT.sIx xs.length 0 lo),IsTup.new _ _⟩
def P7 (K:Fg):R2:=λx y H Q=>∃a b xs ys,x= .ref a/\y= .ref b/\az K H a xs/\az K H b ys/\xs≠[]/\xs.length+ys.length<=sizeLine/\
 (ys=[]->Q (.ref a) H)/\(ys≠[]->∀p,H p=none->Q (.ref p) (upd H p (.tup (xs++ys))))
theorem aO.nil_iff {xs:List V}{us:List Value}(r:aO xs us):us=[]↔xs=[]:=by
 cases r with
 |nil=>simp
 |cons _ _=>simp
theorem JB:dA X @bB (P7 X.K):=by
 intro pins s σ H x y v u Q I O W h;obtain ⟨a,b,xs,ys,rfl,rfl,J,Y,U,G,R,Z⟩:=h;cases O;cases W;obtain ⟨its,j,S,_⟩:=I.tuple J;obtain ⟨F,L,p2,_⟩:=I.tuple Y;rwa[HT.cat_tup S p2 (λz=>U (j.nil_iff.mp z)) (λz=>⟨.ref a,H,I,rfl,R (L.nil_iff.mp z)⟩) @i (by rw [<-j.length,<-L.length];exact G)];rwa[⟨.ref s.heap.objs.size,_,I.laid (t':=s.toks) (o:= .tup (xs++ys)) (λb ob q=>Heap.get?_push_of_some _ q) @h ?_,rfl,Z (λw=>z (L.nil_iff.mpr w)) _ @bH⟩];exact ⟨by rw [length_append];exact G,_,j.append L,IsTup.new _ _⟩
end
noncomputable def wE (n:Nat)(i:Int):Option Nat:=if 0<=i then (if i<n then some i.toNat else none) else if -(n:Int)<=i then some (i+n).toNat else none
noncomputable def k7 {α:Type}(xs:List α)(i:Int):Option α:=(wE xs.length i).bind λj=>xs[j]?
theorem BC {n:Nat}{i:Int}{j:Nat}(h:wE n i=some j):seqIndex? i n=some j/\j<n/\ -(n:Int)<=i/\i<n:=by
 unfold wE at h;by_cases F:0<=i
 ·rw [if_pos F] at h;by_cases h1:i<n
  ·rw [if_pos h1] at h;have e:i.toNat=j:=Option.some.inj h;exact ⟨by rw [seqIndex_of F h1,e],by lia,by lia,h1⟩
  ·rw [if_neg h1] at h;cases h
 ·rw [if_neg F] at h;by_cases h1: -(n:Int)<=i
  ·rw [if_pos h1] at h;have e:(i+n).toNat=j:=Option.some.inj h;exact ⟨by rw [seqIndex_neg @c h1,e],by lia,h1,by lia⟩
  ·rw [if_neg h1] at h;cases h
theorem xc {α:Type}{xs:List α}{i:Int}{v:α}(h:k7 xs i=some v):∃j,seqIndex? i xs.length=some j/\xs[j]? =some v/\j<xs.length/\ -(xs.length:Int)<=i/\i<xs.length:=by
 unfold k7 at h
 cases e:wE xs.length i with
 |none=>rw [e] at h;cases h
 |some j=>
  rw [e] at h;obtain ⟨h1,h2,L,z⟩:=BC e;exact ⟨j,h1,h,h2,L,z⟩
theorem bW {α:Type}{xs:List α}{j:Nat}{v:α}(h:xs[j]? =some v):k7 xs (j:Int)=some v:=by
 have Z:j<xs.length:=(List.getElem?_eq_some_iff.mp h).1
 have e:wE xs.length (j:Int)=some j:=by
  unfold wE;rw [if_pos @c,if_pos @c];simp
 unfold k7;rw [e];exact h
def K1 (b:Expr):Prop:=∀o i,subscripted b false o i=operate [o,i] (getItem o i)
def DX (X:Cx)(r:R2):Prop:=
 ∀(value slice:Expr) (pins:List (Addr×Obj)) (s:Shared) (σ:St) (H:Hp) (x y:V) (v u:Value) (Q:VK),aA X pins σ H s->aF x v->aF y u->r x y H Q->
  subscripted slice false v u=operate [v,u] (getItem v u)->wpAny @d X.A (subscriptTail value slice v u) @v X.xe s
def zc (X:Cx)(id:String)(r:V->List V->Hp->VK->Prop):Prop:=
 ∀(pins:List (Addr×Obj)) (s:Shared) (σ:St) (H:Hp) (x:V) (xs:List V) (v:Value) (us:List Value) (Q:VK),aA X pins σ H s->aF x v->aO xs us->r x xs H Q->
  wpAny @d X.A (call (.builtin id) (v::us)) @v X.xe s
section
variable {X:Cx}{a b:Expr}{ta tb:TE}{pos:Pos}
theorem bT {r:R2}(J:DX X r)(j:PE X a ta)(F:PE X b tb)(hs:K1 b):PE X (.Subscript a b pos) @fz:=by
 intro pins s σ H Q I h;exact Subscript_ (Oj j F I h λv u S x y H2 G z L q=>J a b pins S σ H2 x y v u Q G z L q (hs _ _))
def Sm (K:Fg):R2:=λx y H Q=>∃p xs i v,x= .ref p/\y= .int i/\aC K H p xs/\k7 xs i=some v/\Q v H
def Sk (K:Fg):R2:=λx y H Q=>∃p xs i v,x= .ref p/\y= .int i/\az K H p xs/\k7 xs i=some v/\Q v H
def Sl:R2:=λx y H Q=>∃z i c,x= .str z/\y= .int i/\z.length<=sizeLine/\k7 z.cps.toList i=some c/\Q (.str ⟨#[c]⟩) H
theorem Kh:DX X (Sm X.K):=by
 intro value J pins s σ H x y v u Q I R S h hs;obtain ⟨p,xs,i,z,rfl,rfl,Y,he,q⟩:=h;cases R;obtain ⟨t,rfl⟩:=S;obtain ⟨its,r,pl,hz⟩:=I.list Y;obtain ⟨j,h1,h2,h3,h4,U⟩:=xc he;obtain ⟨w,L,G⟩:=r.get h2;have W:=r.length;have hn:=kO;have F:EP X pins σ Q w s:=⟨z,H,I,G,q⟩;by_cases O:0<=i
 ·have Z:i.toNat=j:=by
   rw [seqIndex_of O U] at h1;exact Option.some.inj h1
  exact item_listR pl.isList O @c (by rw [Z];simpa using L) F hs
 ·have Z:(i+(its.toArray.size:Int)).toNat=j:=by
   rw [seqIndex_neg @c h4] at h1;rw [size_toArray,<-W];exact Option.some.inj h1
  exact subscriptTail_builtinR (x:=w) pl.isList.typeIs slot_list_getitem.lookup
   (wpAny_getItem_list_neg (Q:=λr s'=>r=w/\EP X pins σ Q r s') pl.isList @c (by rw [size_toArray]<;>lia) @c (by rw [Z];simpa using L) ⟨rfl,F⟩) hs
theorem NU:DX X (Sk X.K):=by
 intro value J pins s σ H x y v u Q I O R h hs;obtain ⟨p,xs,i,z,rfl,rfl,L,U,q⟩:=h;cases O;obtain ⟨t,rfl⟩:=R;obtain ⟨its,r,pl,hz⟩:=I.tuple L;obtain ⟨j,h1,h2,Y,h4,h5⟩:=xc U;obtain ⟨w,S,G⟩:=r.get h2;have W:=r.length;have Z:=kO;have F:EP X pins σ Q w s:=⟨z,H,I,G,q⟩
 exact subscriptTail_builtinR (x:=w) pl.typeIs slot_tuple_getitem.lookup
  (getItem_tuple (j:=j) (Q:=λr s'=>r=w/\EP X pins σ Q r s') pl @c @c (by rw [size_toArray,<-W];exact h1) (by simpa using S) ⟨rfl,F⟩) hs
theorem NV:DX X Sl:=by
 intro value J pins s σ H x y v u Q I F L h hs;obtain ⟨z,i,c,rfl,rfl,hz,U,q⟩:=h;obtain ⟨t,rfl⟩:=F;obtain ⟨Y,rfl⟩:=L;obtain ⟨j,h1,h2,Z,G,O⟩:=xc U
 have W:z.cps.toList.length=z.length:=by simp [Str.length]
 rw [W] at h1 G O;have hn:=kO
 exact tail_any @eZ slot_str_getitem.lookup (getItem_str (c:=c) (by
  have R:decide (i< -(2^63:Int))=false:=decide_eq_false @c;have S:decide (i≥2^63)=false:=decide_eq_false @c
  rw [R,S,Bool.or_false]) (by rw [h1];simpa using h2) ⟨.str ⟨#[c]⟩,H,I.tok _,⟨_,rfl⟩,q⟩) hs
theorem AC (its:List Value)(n j:Nat)(u:Value):Obj.mapSeq (·.setIfInBounds j u) {cls:= .type "list",data:= .seq its.toArray n}= {cls:= .type "list",data:= .seq (its.set j u).toArray n}:=by
 simp [Obj.mapSeq]
theorem aA.lst {pins:List (Addr×Obj)}{σ:St}{H:Hp}{s:Shared}{p:Addr}{xs:List V}(I:aA X pins σ H s)(h:H p=some (.lst xs)):
 ∃(its:List Value) (n:Nat),aO xs its/\s.heap.get? p=some {cls:= .type "list",data:= .seq its.toArray n}/\xs.length<=sizeLine:=by
 obtain ⟨z,its,n,r,e⟩:=I.hok p _ h;exact ⟨its,n,r,e,z⟩
theorem aA.lstUpd {pins:List (Addr×Obj)}{σ:St}{H:Hp}{s:Shared}{p:Addr}{xs ys:List V}{its its':List Value}{n G:Nat}{f:Obj->Obj}(I:aA X pins σ H s)(h:H p=some (.lst xs))
(j:s.heap.get? p=some {cls:= .type "list",data:= .seq its.toArray n})(F:f {cls:= .type "list",data:= .seq its.toArray n}= {cls:= .type "list",data:= .seq its'.toArray G})(r:aO ys its')(J:ys.length<=sizeLine)(t:Nat):
 aA X pins σ @bg {s with heap:=s.heap.update p f,toks:=t}:=by
 have e:(s.heap.update p f).get? p=some {cls:= .type "list",data:= .seq its'.toArray G}:=by
  rw [Heap.get?_update_self f j (by rw [F]<;>rfl),F]
 rwa[I.write (x:=p) (e:=p) (by rw [h];trivial) (.inl rfl) (λb u z q=>(Heap.get?_update_other _ _ (Ne.symm z)).trans q) ⟨_,e⟩ ?_];exact ⟨J,its',G,r,e⟩
def P3:V->V->V->Hp->(Hp->Prop)->Prop:=λo i v H Q=>∃p xs k j,o= .ref p/\i= .int k/\H p=some (.lst xs)/\wE xs.length k=some j/\Q @bF
theorem EO:HS X P3:=by
 intro pins s σ H o i v ov iv u Q I ro ri U h;obtain ⟨p,xs,k,j,rfl,rfl,J,Z,q⟩:=h;cases ro;obtain ⟨t,rfl⟩:=ri;obtain ⟨its,n,r,z,Y⟩:=I.lst J;obtain ⟨h1,h2,L,O⟩:=BC Z;have F:=r.length;have hn:=kO
 have G:aA X pins σ @bF {s with heap:=s.heap.update p (Obj.mapSeq (·.setIfInBounds j u))}:=
  I.lstUpd J z (AC its n j u) (r.set U j) (by rw [length_set];exact Y) s.toks
 by_cases S:0<=k
 ·have R:k.toNat=j:=by
   rw [seqIndex_of S O] at h1;exact Option.some.inj h1
  exact W.ki_setAt z S @c (by rw [size_toArray,<-F];exact O) (by rw [R];exact ⟨_,G,q⟩)
 ·have R:(k+(its.toArray.size:Int)).toNat=j:=by
   rw [seqIndex_neg @c L] at h1;rw [size_toArray,<-F];exact Option.some.inj h1
  exact W.ki_setBack z @c (by rw [size_toArray,<-F];exact L) @c (by rw [R];exact ⟨_,G,q⟩)
theorem vC (lo hi:Option Int)(n:Nat):(sliceBounds lo hi none n).1=((HT.sIx n 0 lo:Nat):Int)/\(sliceBounds lo hi none n).2.1=((HT.sIx n n hi:Nat):Int)/\(sliceBounds lo hi none n).2.2=1:=by
 rwa[⟨?_,?_,rfl⟩]
 ·cases lo with
  |none=>simp [sliceBounds,HT.sIx]
  |some i=>
   simp only [sliceBounds,HT.sIx,Option.getD_none,show (1:Int)>0 by decide,if_true];by_cases h:i<0
   ·simp only [h,if_true]<;>lia
   ·simp only [h,if_false]<;>lia
 ·cases hi with
  |none=>simp [sliceBounds,HT.sIx]
  |some i=>
   simp only [sliceBounds,HT.sIx,Option.getD_none,show (1:Int)>0 by decide,if_true];by_cases h:i<0
   ·simp only [h,if_true]<;>lia
   ·simp only [h,if_false]<;>lia
theorem tx (its:List Value)(lo hi:Option Int):slicePick its.toArray lo hi none=((its.drop (HT.sIx its.length 0 lo)).take (HT.sIx its.length its.length hi - HT.sIx its.length 0 lo)).toArray:=by
 obtain ⟨h1,h2,L⟩:=vC lo hi its.toArray.size;unfold slicePick;rw [h1,h2,L];simp only [sliceRange_one,pick_run,size_toArray]<;>rfl
def Sj (K:Fg):V->Option Int->Option Int->Hp->VK->Prop:=λx lo hi H Q=>∃a xs,x= .ref a/\aC K H a xs/\∀p,H p=none->Q (.ref p) (upd H p (.lst @bx))
theorem IT:Ot X (Sj X.K):=by
 intro pins s σ H x v S R lo hi sl Q I j hs pl z h;obtain ⟨a,xs,rfl,G,q⟩:=h;cases j;obtain ⟨its,r,J,L⟩:=I.list G;have F:=r.length;rwa[⟨"list",_,slot_list_getitem.lookup,J.isList.typeIs,?_⟩];rwa[wpAny_getItem_list_slice J.isList hs pl z .none @e ?_ (by rw [size_toArray]<;>lia)];rw [tx,<-F];rwa[⟨.ref s.heap.objs.size,_,I.laid (t':=s.toks) (o:= .lst @bx) (λb O q=>Heap.get?_push_of_some _ q) @h ?_,rfl,q _ @bH⟩];exact ⟨Nat.le_trans (o0 xs lo hi) L,_,0,(r.drop @dH).take (HT.sIx xs.length xs.length hi - HT.sIx xs.length 0 lo),Heap.get?_push_size _ rfl⟩
noncomputable def dM:V->Bool
 | .non=>true
 | .bl _=>true
 | .int _=>true
 | .str _=>true
 |_=>false
noncomputable def Kw:V->V->Bool
 | .non,.non=>true
 | .bl a,.bl b=>a==b
 | .bl a,.int b=>(if a then 1 else 0)==b
 | .int a,.bl b=>a==(if b then 1 else 0)
 | .int a,.int b=>a==b
 | .str a,.str b=>a==b
 |_,_=>false
theorem He {A:Around}{s:Shared}{y x:V}{u v:Value}(L:aF y u)(F:aF x v)(G:dM y=true)(j:dM x=true):SeqAt.EqAt A s u v (Kw y x):=by
 cases y with
 |non=>
  cases L
  cases x with
  |non=>cases F;exact SeqAt.EqAt.same _
  |bl b=>cases F;exact SeqAt.EqAt.none_bool b
  |int b=>obtain ⟨t,rfl⟩:=F;exact SeqAt.EqAt.none_int b t
  |str b=>obtain ⟨t,rfl⟩:=F;exact SeqAt.EqAt.none_str b t
  |_=>exact absurd (show false=true from j) Bool.false_ne_true
 |bl a=>
  cases L
  cases x with
  |non=>cases F;exact SeqAt.EqAt.bool_none a
  |bl b=>cases F;exact SeqAt.EqAt.bool_bool a b
  |int b=>obtain ⟨t,rfl⟩:=F;exact SeqAt.EqAt.bool_int a b t
  |str b=>obtain ⟨t,rfl⟩:=F;exact SeqAt.EqAt.bool_str a b t
  |_=>exact absurd (show false=true from j) Bool.false_ne_true
 |int a=>
  obtain ⟨z,rfl⟩:=L
  cases x with
  |non=>cases F;exact SeqAt.EqAt.int_none a z
  |bl b=>cases F;exact SeqAt.EqAt.int_bool a z b
  |int b=>obtain ⟨t,rfl⟩:=F;exact SeqAt.EqAt.int_int a z b t
  |str b=>obtain ⟨t,rfl⟩:=F;exact SeqAt.EqAt.int_str a z b t
  |_=>exact absurd (show false=true from j) Bool.false_ne_true
 |str a=>
  obtain ⟨z,rfl⟩:=L
  cases x with
  |non=>cases F;exact SeqAt.EqAt.str_none a z
  |bl b=>cases F;exact SeqAt.EqAt.str_bool a z b
  |int b=>obtain ⟨t,rfl⟩:=F;exact SeqAt.EqAt.str_int a z b t
  |str b=>obtain ⟨t,rfl⟩:=F;exact SeqAt.EqAt.str_str a z b t
  |_=>exact absurd (show false=true from j) Bool.false_ne_true
 |_=>exact absurd (show false=true from G) Bool.false_ne_true
noncomputable def AT (x:V)(u:Value):Bool:=match u with
 | .none=>Kw .non x
 | .bool b=>Kw (.bl b) x
 | .int i _=>Kw (.int i) x
 | .str z _=>Kw (.str z) x
 |_=>false
theorem GZ {x y:V}{u:Value}(r:aF y u)(f:dM y=true):AT x u=Kw y x:=by
 cases y with
 |non=>cases r;rfl
 |bl b=>cases r;rfl
 |int i=>obtain ⟨t,rfl⟩:=r;rfl
 |str z=>obtain ⟨t,rfl⟩:=r;rfl
 |_=>exact absurd (show false=true from f) Bool.false_ne_true
theorem mv {x:V}:∀ {xs:List V} {us:List Value},aO xs us->xs.all dM=true->us.any (AT x)=xs.any λy=>Kw y x
 |_,_,.nil,_=>rfl
 |y::xs,u::us,.cons r t,f=>by
  rw [all_cons,Bool.and_eq_true] at f;rw [any_cons,any_cons,GZ r f.1,mv t f.2]
theorem ji {A:Around}{s:Shared}{x:V}{v:Value}(F:aF x v)(j:dM x=true):∀ {xs:List V} {us:List Value},aO xs us->xs.all dM=true->∀u∈us,SeqAt.EqAt A s u v (AT x u)
 |_,_,.nil,_=>λu z=>by cases z
 |y::xs,u::us,.cons r t,f=>λG z=>by
  rw [all_cons,Bool.and_eq_true] at f
  rcases mem_cons.mp z with rfl|z
  ·rw [GZ r f.1];exact He r F f.1 j
  ·exact ji F j t f.2 G z
noncomputable def za (x:V)(xs:List V):Bool:=xs.any λy=>Kw y x
def Rg (K:Fg)(neg:Bool):R2:=λx y H Q=>∃p xs,y= .ref p/\(aC K H p xs\/az K H p xs)/\dM x=true/\xs.all dM=true/\Q (.bl (if neg then !za x xs else za x xs)) H
theorem CI:dA X @cs (Rg X.K false):=by
 intro pins s σ H x y v u Q I z L h;obtain ⟨p,xs,rfl,F,j,fs,q⟩:=h;cases L
 rcases F with F|F
 ·obtain ⟨its,r,pl,J⟩:=I.list F;rwa[SeqAt.in_listAt (AT x) pl.isList (λw G=>ji z j r fs w (by simpa using G)) ⟨.bl _,H,I,rfl,?_⟩];rw [show its.toArray.any (AT x)=its.any (AT x) by simp,mv r fs];exact q
 ·obtain ⟨its,r,pl,J⟩:=I.tuple F;rwa[SeqAt.in_tupleAt (AT x) pl (λw G=>ji z j r fs w (by simpa using G)) ⟨.bl _,H,I,rfl,?_⟩];rw [show its.toArray.any (AT x)=its.any (AT x) by simp,mv r fs];exact q
theorem wk:dA X @dm (Rg X.K true):=by
 intro pins s σ H x y v u Q I z L h;obtain ⟨p,xs,rfl,F,j,fs,q⟩:=h;cases L
 rcases F with F|F
 ·obtain ⟨its,r,pl,J⟩:=I.list F;rwa[SeqAt.notIn_listAt (AT x) pl.isList (λw G=>ji z j r fs w (by simpa using G)) ⟨.bl _,H,I,rfl,?_⟩];rw [show its.toArray.any (AT x)=its.any (AT x) by simp,mv r fs];exact q
 ·obtain ⟨its,r,pl,J⟩:=I.tuple F;rwa[SeqAt.notIn_tupleAt (AT x) pl (λw G=>ji z j r fs w (by simpa using G)) ⟨.bl _,H,I,rfl,?_⟩];rw [show its.toArray.any (AT x)=its.any (AT x) by simp,mv r fs];exact q
theorem wX:bj X (.builtin "len") (λxs H Q=>∃p ys,xs=[.ref p]/\(aC X.K H p ys\/az X.K H p ys)/\Q (.int ys.length) H):=by
 intro pins s σ H xs J Q I r h;obtain ⟨p,ys,rfl,j,q⟩:=h;obtain ⟨u,rfl,z⟩:=iE r;cases z;have L:=kO
 rcases j with j|j
 ·obtain ⟨its,R,pl,G⟩:=I.list j;have F:=R.length;exact Calls.call_len_list pl.isList (by simp only [size_toArray]<;>lia) ⟨.int ys.length,H,I.tok _,⟨s.toks+1,by rw [size_toArray,F]⟩,q⟩
 ·obtain ⟨its,R,pl,G⟩:=I.tuple j;have F:=R.length;exact len_tuple pl (by simp only [size_toArray]<;>lia) ⟨.int ys.length,H,I.tok _,⟨s.toks+1,by rw [size_toArray,F]⟩,q⟩
theorem wW:bj X (.builtin "len") (λxs H Q=>∃z,xs=[.str z]/\z.length<=sizeLine/\Q (.int z.length) H):=by
 intro pins s σ H xs F Q I r h;obtain ⟨z,rfl,G,q⟩:=h;obtain ⟨u,rfl,t,rfl⟩:=iE r;have j:=kO;exact len_str @c ⟨.int z.length,H,I.tok _,⟨_,rfl⟩,q⟩
theorem bj.or {f:Value}{r R:List V->Hp->VK->Prop}(h:bj X f r)(h':bj X f R):bj X f (λxs H Q=>r xs H Q\/R xs H Q):=by
 intro pins s σ H xs j Q I z q
 rcases q with q|q
 ·exact h pins s σ H xs j Q I z q
 ·exact h' pins s σ H xs j Q I z q
theorem wV:bj X (.type "list") (λxs H Q=>∃p ys,xs=[.ref p]/\(aC X.K H p ys\/az X.K H p ys)/\∀l,H l=none->Q (.ref l) @cj):=by
 intro pins s σ H xs Y Q I r h;obtain ⟨p,ys,rfl,F,q⟩:=h;obtain ⟨u,rfl,W⟩:=iE r;cases W
 have J:∀(its:List Value),aO ys its->ys.length<=sizeLine->∀(h':Heap) (j:Nat),(∀b o',s.heap.get? b=some o'->h'.get? b=some o')->
  h'.get? s.heap.objs.size=some {cls:= .type "list",dict:=none,data:= .seq its.toArray j,slots:= #[]}->EP X pins σ Q (.ref s.heap.objs.size) {s with heap:=h'}:=λits R L h' j z e=>
  ⟨.ref s.heap.objs.size,_,I.laid (t':=s.toks) z @h (show bA X.prog X.w _ h' _ (.lst ys) from ⟨L,its,j,R,e⟩),rfl,q _ @bH⟩
 rcases F with F|F
 ·obtain ⟨its,R,pl,L⟩:=I.list F;have G:=R.length;obtain ⟨o,S,O,n,U⟩:=pl.isList;exact call_list_seq p (.inl rfl) S O U (λh' j z e=>J its R L h' j z e) (by simp only [size_toArray]<;>lia)
 ·obtain ⟨its,R,pl,L⟩:=I.tuple F;have G:=R.length;obtain ⟨o,S,O,n,U⟩:=pl;exact call_list_seq p (.inr rfl) S O U (λh' j z e=>J its R L h' j z e) (by simp only [size_toArray]<;>lia)
theorem tT:bj X (.type "tuple") (λxs H Q=>∃p ys,xs=[.ref p]/\((aC X.K H p ys/\∀l,H l=none->Q (.ref l) @cT)\/(az X.K H p ys/\Q (.ref p) H))):=by
 intro pins s σ H xs S Q I r h;obtain ⟨p,ys,rfl,h⟩:=h;obtain ⟨u,rfl,O⟩:=iE r;cases O
 rcases h with ⟨F,q⟩|⟨F,q⟩
 ·obtain ⟨its,R,pl,z⟩:=I.list F;have j:=R.length;rwa[call_tuple_list pl.isList (λh' L=> ?_) (by simp only [size_toArray]<;>lia)];have J:aA X pins σ H {s with heap:=h'}:=I.kept (t':=s.toks) L
  have G:aA X pins σ (upd H h'.objs.size (.tup ys)) {s with heap:=h'.push {cls:= .type "tuple",data:= .seq its.toArray}}:=
   J.laid (t':=s.toks) (λb o e=>Heap.get?_push_of_some _ e) @h (show bA X.prog X.w _ _ _ (.tup ys) from ⟨z,its,R,IsTup.new _ _⟩)
  exact ⟨.ref h'.objs.size,_,G,rfl,q _ @ci⟩
 ·obtain ⟨its,R,pl,z⟩:=I.tuple F;exact call_tuple_same pl ⟨.ref p,H,I,rfl,q⟩
def Rc (K:Fg)(T:String)(x:V)(H:Hp):Prop:=match x with
 | .str _=>T="str"
 | .int _=>T="int"
 | .ref p=>(T="list"/\∃xs,aC K H p xs)\/(T="tuple"/\∃o,K.lookup p=some o/\o.cls= .type "tuple"/\o.dict=none)\/
    (T="dict"/\((∃kvs,H p=some (.dK kvs))\/∃kvs,H p=some (.dT kvs)))\/(T="set"/\∃S n,H p=some (.set S n))
 |_=>False
theorem Ek {pins:List (Addr×Obj)}{σ:St}{H:Hp}{s:Shared}{T:String}{x:V}{v:Value}(I:aA X pins σ H s)(r:aF x v)(ty:Rc X.K T x H):
 s.TypeIs v T/\∀a,v= .ref a->∃ob,s.heap.get? a=some ob/\ob.dict=none:=by
 cases x with
 |str z=>
  obtain ⟨t,rfl⟩:=r;cases (show T="str" from ty);exact ⟨typeIs_str s z t,λ_ e=>nomatch e⟩
 |int i=>
  obtain ⟨t,rfl⟩:=r;cases (show T="int" from ty);exact ⟨typeIs_int s i t,λ_ e=>nomatch e⟩
 |ref p=>
  cases r
  rcases ty with ⟨rfl,xs,G⟩|⟨rfl,o,R,F,J⟩|⟨rfl,R⟩|⟨rfl,S,n,R⟩
  ·obtain ⟨its,_,pl,_⟩:=I.list G;rwa[⟨pl.isList.typeIs,λa e=> ?_⟩];cases e;obtain ⟨o,n,e,c,J,_⟩:=pl;exact ⟨o,e,J⟩
  ·rwa[⟨⟨o,I.kIn p o R,F⟩,λa e=> ?_⟩];cases e;exact ⟨o,I.kIn _ o R,J⟩
  ·have z:∃o,s.heap.get? p=some o/\o.ExactDict:=by
    rcases R with ⟨j,R⟩|⟨j,R⟩
    ·obtain ⟨_,_,_,_,o,_,_,e,ex,_⟩:=I.hok p _ R;exact ⟨o,e,ex⟩
    ·obtain ⟨_,_,_,_,o,_,_,e,ex,_⟩:=I.hok p _ R;exact ⟨o,e,ex⟩
   obtain ⟨o,e,ex⟩:=z;rwa[⟨⟨o,e,ex.1⟩,λa O=> ?_⟩];cases O;exact ⟨o,e,ex.2.1⟩
  ·obtain ⟨o,_,_,_,e,ex,_⟩:=I.hok p _ R;rwa[⟨⟨o,e,ex.1⟩,λa O=> ?_⟩];cases O;exact ⟨o,e,ex.2.1⟩
 |_=>exact False.elim ty
variable {o e:Expr}{es:List Expr}{to:TE}{t:TA}{name:Str}{apos cpos:Pos}{T id:String}{r:V->List V->Hp->VK->Prop}
end
def S6 (X:Cx)(id:String)(r:V->List V->Hp->VK->Prop):Prop:=
 ∀(pins:List (Addr×Obj)) (s:Shared) (σ:St) (H:Hp) (x:V) (xs:List V) (v:Value) (us:List Value) (Q:VK),aA X pins σ H s->aF x v->aO xs us->r x xs H Q->
  wpAny @d X.A (call (.builtin id) (v::us)) @v X.xe s
theorem aO.one:∀ {x:V} {us:List Value},aO [x] us->∃u,us=[u]/\aF x u
 |_,_,.cons r .nil=>⟨_,rfl,r⟩
section
variable {X:Cx}{pins:List (Addr×Obj)}{σ:St}{H:Hp}{s:Shared}{l b:Addr}{xs ys zs:List V}
theorem aA.lset {its its':List Value}{n:Nat}{f:Array Value->Array Value}{t':Nat}(I:aA X pins σ H s)(G:H l=some (.lst xs))
(e:s.heap.get? l=some {cls:= .type "list",data:= .seq its.toArray n})(F:f its.toArray=its'.toArray)(Y:aO ys its')(J:ys.length<=sizeLine):
 aA X pins σ @cj {s with heap:=s.heap.update l (Obj.mapSeq f),toks:=t'}:=by
 have q:=PySem.IsL.update e f;rw [F] at q;rwa[I.write (x:=l) (e:=l) (by rw [G];exact trivial) (.inl rfl) (λL u j z=>(Heap.get?_update_other s.heap (Obj.mapSeq f) (Ne.symm j)).trans z) ⟨_,q⟩ ?_];exact ⟨J,its',_,Y,q⟩
theorem aA.lnew {its:List Value}{t':Nat}(I:aA X pins σ H s)(Y:aO ys its)(F:ys.length<=sizeLine):
 aA X pins σ (upd H s.heap.objs.size (.lst ys)) {s with heap:=s.heap.push {cls:= .type "list",data:= .seq its.toArray},toks:=t'}:=
 I.laid (λ_ _ q=>Heap.get?_push_of_some _ q) @h ⟨F,its,0,Y,Heap.get?_push_size _ rfl⟩
theorem aA.fresh (I:aA X pins σ H s):H s.heap.objs.size=none:=I.hok.fresh @h
theorem aA.lstM (I:aA X pins σ H s)(G:H l=some (.lst xs)):xs.length<=sizeLine/\∃(its:List Value) (n:Nat),aO xs its/\xs.length=its.length/\s.heap.get? l=some {cls:= .type "list",data:= .seq its.toArray n}:=by
 obtain ⟨z,its,n,r,e⟩:=I.hok l _ G;exact ⟨z,its,n,r,r.length,e⟩
theorem qX {n:Nat}(h:n<=sizeLine):Builtin.List.listTooLong n=false:=by
 unfold Builtin.List.listTooLong;exact decide_eq_false @c
end
section
variable {X:Cx}
def Jp:V->List V->Hp->VK->Prop:=λx vs H Q=>∃l xs y,x= .ref l/\vs=[y]/\H l=some (.lst xs)/\xs.length<sizeLine/\Q .non (upd H l (.lst (xs++[y])))
theorem C7:S6 X "list.append" Jp:=by
 intro pins s σ H x R v O Q I j J h;obtain ⟨l,xs,y,rfl,rfl,G,S,q⟩:=h;cases j;obtain ⟨u,rfl,L⟩:=J.one;obtain ⟨z,its,n,r,W,e⟩:=I.lstM G;rwa[call_meets F.slot_list_append ⟨_,e,rfl⟩ F.entry_list_append (F.args_list_append_2 _ _) (PySem.list_append l its.toArray n u (by rw [size_toArray];lia)) ⟨e,?_⟩];rwa[⟨.non,_,I.lset (its':=its++[u]) G e @e (r.append (.cons L .nil)) ?_,rfl,q⟩];rw [length_append,length_singleton];lia
def Jo:V->List V->Hp->VK->Prop:=λx vs H Q=>∃l b xs zs,x= .ref l/\vs=[.ref b]/\H l=some (.lst xs)/\H b=some (.lst zs)/\xs.length+zs.length<=sizeLine/\Q .non (upd H l (.lst (xs++zs)))
theorem C6:S6 X "list.extend" Jo:=by
 intro pins s σ H x vs v us Q I O R h;obtain ⟨l,b,xs,zs,rfl,rfl,L,hB,hz,q⟩:=h;cases O;obtain ⟨u,rfl,S⟩:=R.one;cases S;obtain ⟨z,its,n,r,hl,e⟩:=I.lstM L;obtain ⟨z2,j,W,U,Y,Z⟩:=I.lstM hB
 have J:its.toArray.size+j.toArray.size<=sizeLine:=by rw [size_toArray,size_toArray];lia
 have G: ¬(!its.toArray.isEmpty&&Builtin.List.listTooLong (its.toArray.size+j.toArray.size))=true:=by
  rw [qX J,Bool.and_false];exact Bool.false_ne_true
 refine call_meets F.slot_list_extend ⟨_,e,rfl⟩ F.entry_list_extend (F.args_list_extend_2 _ _)
  (AutoSeq1.list_extend_list_list_0 l its.toArray n b j.toArray W G (by rw [size_toArray];lia) @c) ⟨e,Z,?_⟩
 rwa[⟨.non,_,I.lset (its':=its++j) L e @e (r.append U) ?_,rfl,q⟩];rw [length_append];lia
def So:R2:=λx y H Q=>∃l b xs zs,x= .ref l/\y= .ref b/\H l=some (.lst xs)/\H b=some (.lst zs)/\xs.length+zs.length<=sizeLine/\∀p,H p=none->Q (.ref p) (upd H p (.lst (xs++zs)))
theorem M6:dA X @bB So:=by
 intro pins s σ H x y v u Q I j J h;obtain ⟨l,b,xs,zs,rfl,rfl,G,S,hz,q⟩:=h;cases j;cases J;obtain ⟨z,its,n,r,Z,e⟩:=I.lstM G;obtain ⟨U,F,W,L,Y,R⟩:=I.lstM S;rwa[PySem.P.add_list e R ?_ (by rw [size_toArray,size_toArray];lia)]
 have O:its.toArray++F.toArray=(its++F).toArray:=by simp
 rw [O];exact ⟨.ref _,_,I.lnew (t':=s.toks) (r.append L) (by rw [length_append];lia),rfl,q _ I.fresh⟩
end
end L2
namespace Att
open PySem PySem.W PySem.Calls PyProof.Rows
theorem pA {P:Params}{h:Heap}:∀(ns:List Int) (vs:List Value),WellAll P h vs @fa->IntsAre vs ns:=by
 intro ns
 induction ns with
 |nil=>
  intro vs w;rw [map_nil] at w;cases w;exact .nil
 |cons n ns ih=>
  intro vs w;rw [map_cons] at w
  cases w with
  |cons a b=>
   cases a;exact .cons _ _ (ih _ b)
theorem Cm {l:OpenLaw}{n:Nat}(S:l.most=some n){P:Params}{h:Heap}{z:List WData}{j:List Value}
(F:l.row.toRowW.claim.pre z=true)(J:WellAll P h j z):
 ∃a vs ns,j=[Value.ref a]/\z=[WData.list @fa]/\h.get? a=some {cls:= .type "list",data:= .seq vs.toArray}/\IntsAre vs ns/\ns.length<=n:=by
 have L:WShape.hasAll [] z [.list .int]=true:=(pre_splitW F).1;have O:l.pre.holds [] {args:=z}=true:=(pre_splitW F).2;obtain ⟨d,r,rfl,h1,h2⟩:=hasAllW_cons L;obtain rfl:=hasAllW_nil h2;obtain ⟨xs,rfl,R⟩:=hasW_list h1;obtain ⟨ns,rfl⟩:=items_int R
 have G:ns.length<=n:=by
  unfold OpenLaw.pre at O
  have I:(WTm.not (.lt (.lit (.int (n:Int))) (.len (.arg 0)))).holds [] {args:=[.list (ns.map .int)]}=true:=by
   have I:=(holds_andW O).1;rw [S] at I;exact I
  have U:=condW_of I (w_not (w_lt w_lit (w_len_list (w_arg rfl))));rw [length_map] at U;rwa[Nat.le_of_not_lt λq=> ?_]
  have W:(n:Int)<((ns.length:Nat):Int):=by lia
  first
   |(rw [decide_eq_true W] at U;exact absurd U @b)
   |(simp at U;lia)
 cases J with
 |cons w1 w2=>
  cases w2
  cases w1 with
  |list ho hall=>exact ⟨_,_,ns,rfl,rfl,ho,pA ns _ hall,G⟩
theorem CF (l:OpenLaw)(z:List WData):l.row.toRowW.claim.post z (.bool true) z=true:=
 postW_of (r:=l.row.toRowW) (X:=(true==true))
  (show WShape.has [] (.bool true) .bool=true by first|rfl|decide|simp [WShape.has,WShape.arms,WShape.armsAll])
  (show (WTm.eq .res (.lit (.bool true))).value [] {args:=z,res:=some (.bool true),after:=z}=some (.bool (true==true)) from w_eq_bool (w_res rfl) w_lit) rfl
end Att
namespace L2
open PySem PySem.Spec PyProof.Rows
theorem ug:∀ {vs:List Value} {ns:List Int},IntsAre vs ns->aO @cg vs
 |_,_,.nil=> .nil
 |_,_,.cons n t h=> .cons ⟨t,rfl⟩ (ug h)
noncomputable def fe (s:Stmt):Arguments:=match s with
 | .FunctionDef _ a _ _ _ _ _ _ _ _=>a
 |_=> {posonlyargs:=[],args:=[],vararg:=none,kwonlyargs:=[],kw_defaults:=[],kwarg:=none,defaults:=[]}
noncomputable def dF (s:Stmt):List Stmt:=match s with
 | .FunctionDef _ _ b _ _ _ _ _ _ _=>b
 |_=>[]
noncomputable def af (s:Stmt):Scope:=match s with
 | .FunctionDef _ _ _ _ _ _ sc _ _ _=>sc
 |_=> {kind:= .function,names:=[],isGenerator:=false,isCoroutine:=false}
abbrev bd:oA:=λ_ _ _ _ _ _=>False
abbrev E0:XK:=λ_ _ _=>False
theorem jX {X:Cx}:iA bd X E0:=λ_ _ _ _ _ _ _ h=>h.elim
structure bt (K:Fg)(x qual:Str)(st:Stmt)(f:Addr)(fd:FuncData):Prop where
 ex:∃(oc:Value) (od:Option Addr) (kV doc pm:Value) (an:Option Addr) (cdv ct:Value) (osl:Array @bj),
  fd=W.fnOf x qual @fr @ei @cK .none kV doc pm an cdv ct/\K.lookup f=some ⟨oc,od,.func fd,osl⟩/\W.codeIn K cdv qual=true
 kp:W.keepIn K (.ref f)=true
section
variable {P:Program}{w:World}{K:Fg}{mg:Str->Option Value}{base:Heap}
theorem bt.ok {x qual:Str}{st:Stmt}{f:Addr}{fd:FuncData}{N ps:List Str}{k:Nat}{sp:Sp}(F:bt K x qual st f fd)(S:aj N ps @cK)(L:∀vs H Q E,sp vs H Q E->vs.length=ps.length)
(j:∀(cdv:Value) (A:Around) (outer:List Env) (s:Shared) (H:Hp) (vs:List V) (Q:VK) (E:XK),cr k (A.deeper (envOfC qual @cK s.heap.objs.size f cdv))->sp vs H Q E->
   ∃t,uX (rJ bd P w K mg base N qual @cK f cdv A outer s H E).nox @ei t/\t {nx:=λ_ H'=>Q .non H',rt:=Q} @dn H):ay P w K mg base bd (k+1) f fd ps sp:=by
 obtain ⟨J,U,Z,R,pm,W,cdv,Y,aa,rfl,I,z⟩:=F.ex;rwa[Lm I z S L λA outer s H vs Q E G O=> ?_];obtain ⟨t,h,q⟩:=j cdv A outer s H vs Q E G O;exact ⟨t,h.nox,q⟩
theorem bt.binds {x qual:Str}{st:Stmt}{f:Addr}{fd:FuncData}{ps:List Str}(F:bt K x qual st f fd)
(h:∀(kV doc pm:Value) (an:Option Addr) (cdv ct:Value) (us:List Value),us.length=ps.length->bindArgs (W.fnOf x qual @fr @ei @cK .none kV doc pm an cdv ct) ⟨us,[]⟩=pure @cm):fU K fd ps []:=by
 obtain ⟨J,G,kV,doc,pm,an,cdv,ct,aa,rfl,I,j⟩:=F.ex;exact .all (h kV doc pm an cdv ct)
theorem AO {x qual:Str}{st:Stmt}{f:Addr}{J:Value}{od z:Option Addr}{aa:Array @bj}{Z R F j Y:Value}(l:K.lookup f=some ⟨J,od,.func (W.fnOf x qual @fr @ei @cK .none Z R F z j Y),aa⟩)
(c:W.codeIn K j qual=true)(k:W.keepIn K (.ref f)=true):bt K x qual st f (W.fnOf x qual @fr @ei @cK .none Z R F z j Y):=⟨⟨J,od,Z,R,F,z,j,Y,aa,rfl,l,c⟩,k⟩
end
theorem BH {A:Around}{k:Nat}(S:cr k A):A.units+1<cLine:=Nat.lt_of_le_of_lt (Nat.add_le_add_left (by decide:1<=64) _) S.units
def aq (H H':Hp):Prop:=∀b o,H b=some o->H' b=some o
theorem aq.refl (H:Hp):aq H H:=λ_ _ h=>h
theorem aq.trans {H H1 H2:Hp}(a:aq H H1)(b:aq H1 H2):aq H H2:=λc o h=>b c o (a c o h)
theorem aq.free {H H':Hp}(e:aq H H'){l:Addr}(h:H' l=Option.none):H l=Option.none:=by
 cases q:H l with
 |none=>rfl
 |some o=>
  rw [e l o q] at h;cases h
theorem aq.seq {K:Fg}{H H':Hp}{a:Addr}{xs:List V}(e:aq H H')(h:aC K H a xs):aC K H' a xs:=by
 rcases h with (h|⟨o,h⟩)|h
 ·exact .inl (.inl (e _ _ h))
 ·exact .inl (.inr ⟨o,e _ _ h⟩)
 ·exact .inr h
noncomputable def fj (cells:List (Str×Addr)):List (Str×NameKind)->List (Str×Addr)->List (Str×Addr)
 |[],cs=>cs
 |(n,.free)::r,cs=>fj cells r (match cells.lookup n with|some a=>(n,a)::cs|none=>cs)
 |(_,_)::r,cs=>fj cells r cs
theorem om {j:List (Str×Addr)}{n:Str}{r:List (Str×NameKind)}{cs:List (Str×Addr)}{a:Addr}(h:j.lookup n=some a):fj j ((n,.free)::r) cs=fj j r ((n,a)::cs):=by
 show fj j r (match j.lookup n with|some a=>(n,a)::cs|none=>cs)=_;rw [h]
theorem iq {j:List (Str×Addr)}{n:Str}{k:NameKind}{r:List (Str×NameKind)}{cs:List (Str×Addr)}(h:k≠ .free):fj j ((n,k)::r) cs=fj j r cs:=by
 cases k<;>first|rfl|exact absurd rfl h
theorem mh {j:List (Str×Addr)}:∀ {l:List (Str×NameKind)} {cs:List (Str×Addr)},(∀p∈cs,j.lookup p.1=some p.2)->∀p∈fj j l cs,j.lookup p.1=some p.2
 |[],_,h=>h
 |(n,k)::r,cs,h=>by
  by_cases R:k= .free
  ·subst R
   cases e:j.lookup n with
   |none=>
    have:fj j ((n,.free)::r) cs=fj j r cs:=by
     show fj j r (match j.lookup n with|some a=>(n,a)::cs|none=>cs)=_;rw [e]
    rw [this];exact mh h
   |some a=>
    rw [om e];rwa[mh λp G=> ?_]
    rcases mem_cons.mp G with rfl|G
    ·exact e
    ·exact h p G
  ·rw [iq R];exact mh h
theorem ir {j:List (Str×Addr)}:∀ {l:List (Str×NameKind)} {cs:List (Str×Addr)} {p:Str×Addr},p∈cs->p∈fj j l cs
 |[],_,_,h=>h
 |(n,k)::r,cs,p,h=>by
  by_cases R:k= .free
  ·subst R;show p∈fj j r (match j.lookup n with|some a=>(n,a)::cs|none=>cs)
   cases e:j.lookup n with
   |none=>exact ir h
   |some a=>exact ir (mem_cons_of_mem _ h)
  ·rw [iq R];exact ir h
theorem rM {j:List (Str×Addr)}{x:Str}{c:Addr}(I:j.lookup x=some c):∀ {l:List (Str×NameKind)} {cs:List (Str×Addr)},(x,NameKind.free)∈l->(x,c)∈fj j l cs
 |(n,k)::r,cs,h=>by
  rcases mem_cons.mp h with e|h2
  ·cases e;rw [om I];exact ir mem_cons_self
  ·by_cases R:k= .free
   ·subst R;show (x,c)∈fj j r (match j.lookup n with|some a=>(n,a)::cs|none=>cs);exact rM I h2
   ·rw [iq R];exact rM I h2
theorem jY {α β:Type}[BEq α][LawfulBEq α]{x:α}{c:β}:∀ {l:List (α×β)},(x,c)∈l->∃d,l.lookup x=some d
 |(n,a)::r,h=>by
  cases e:x==n with
  |true=>exact ⟨a,by simp only [lookup_cons,e]⟩
  |false=>
   rcases mem_cons.mp h with q|q
   ·cases q;simp at e
   ·obtain ⟨d,J⟩:=jY q;exact ⟨d,by simp only [lookup_cons,e];exact J⟩
theorem oj {j:List (Str×Addr)}{l:List (Str×NameKind)}{x:Str}{c:Addr}(h:(fj j l []).lookup x=some c):j.lookup x=some c:=
 mh (l:=l) (cs:=[]) (λ_ G=>absurd G @e) (x,c) @dG
theorem Hv {j:List (Str×Addr)}{l:List (Str×NameKind)}{x:Str}{c:Addr}(I:j.lookup x=some c)(h:(x,NameKind.free)∈l):(fj j l []).lookup x=some c:=by
 obtain ⟨d,J⟩:=jY (rM (cs:=[]) I h);rw [J,<-I,oj J]
theorem j6 {scope:Scope}{env:Env}(h:∀n,(n,NameKind.free)∈scope.names->∃c,env.cells.lookup n=some c):closureFor scope env=pure @cJ:=by
 have z:∀(l:List (Str×NameKind)) (j:List (Str×Addr)),(∀n,(n,NameKind.free)∈l->∃c,env.cells.lookup n=some c)->
  (forIn l j (λ(x:Str×NameKind) (r:List (Str×Addr))=>match x with
    |(name,kind)=>if (kind==NameKind.free)=true then (do let c<-cellOf env name;pure (ForInStep.yield ((name,c)::r))) else (do pure PUnit.unit;pure (ForInStep.yield r))):Sem (List (Str×Addr)))=pure (fj env.cells l j):=by
  intro l
  induction l with
  |nil=>intro j _;rfl
  |cons p r ih=>
   intro j W;obtain ⟨n,k⟩:=p;have S:=ih;by_cases R:k= .free
   ·subst R;obtain ⟨c,I⟩:=W n mem_cons_self;rw [om I];rw [<-ih ((n,c)::j) λm F=>W m (mem_cons_of_mem _ F)];rw [forIn_cons];simp only [cellOf,I,beq_self_eq_true,if_true];rfl
   ·rw [iq R];rw [<-ih j λm F=>W m (mem_cons_of_mem _ F)];rw [forIn_cons]
    have G:(k==NameKind.free)=false:=by simpa using R
    simp only [G,Bool.false_eq_true,if_false];rfl
 have e:=z scope.names [] h;unfold closureFor
 first
  |exact congrArg (λm=>m>>=pure) e
  |(simp only [bind_pure];exact e)
  |(rw [show (pure @cJ:Sem (List (Str×Addr)))=(pure @cJ>>=pure) from rfl,<-e];rfl)
noncomputable def bz (X:Cx)(scope:Scope)(N':List Str)(C:Addr)(s:Shared)(H:Hp)(ex:List Addr):Cx where
 prog:=X.prog
 w:=X.w
 K:=X.K
 mg:=X.mg
 base:=X.base
 A:=X.A
 N:=N'
 s₀:=s
 H₀:=H
 env:=compEnvC scope @bh C X.env
 outer:=X.stack
 stack:=X.stack
 ex:=ex
 fn:=λ_=>false
 calm:=X.calm
 pn:=[]
 xe:=λ_ _=>False
structure dj (X:Cx)(scope:Scope)(N':List Str)(pk:List @H):Prop where
 kind:scope.kind= .function
 nocell:∀y∈scope.names,y.2≠ .cell
 loc:∀y∈scope.names,y.2= .local->scope.names.lookup y.1=some .local
 free:∀n,(n,NameKind.free)∈scope.names->X.env.kindOf n=some .cell\/X.env.kindOf n=some .free
 nofl:∀n,(n,NameKind.free)∈scope.names->scope.names.lookup n≠some .local
 pl:pk.length=N'.length
 pn:∀(j i:Nat) (x:Str),pk[j]? =some (some i)->N'[j]? =some x->X.N[i]? =some x/\(x,NameKind.free)∈scope.names
noncomputable def d4 (pk:List @H)(σ:St):St:=pk.map λo=>o.bind λi=>(σ[i]?).join
theorem q9 {scope:Scope}{env:Env}{x:Str}(S:∀y∈scope.names,y.2≠ .cell)(h:(relabel scope env).names.lookup x=some .cell\/(relabel scope env).names.lookup x=some .free):(x,NameKind.free)∈scope.names:=by
 have J:∀k,(relabel scope env).names.lookup x=some k->(k= .cell\/k= .free)->(x,NameKind.free)∈scope.names:=λk e R=>by
  have m:=PySem.mem_of_lookup e;obtain ⟨p,G,O⟩:=mem_map.mp m;obtain ⟨n,F⟩:=p;dsimp only at O;by_cases I:(F==NameKind.free&&env.scope.kind== .function&&env.kindOf n==some .cell)=true
  ·rw [if_pos I] at O
   have z:F= .free:=by
    simp only [Bool.and_eq_true] at I;simpa using I.1.1
   have j:n=x:=(Prod.mk.inj O).1;rw [<-j,<-z];exact G
  ·rw [if_neg I] at O;have j:n=x:=(Prod.mk.inj O).1;have L:F=k:=(Prod.mk.inj O).2
   rcases R with R|R
   ·exact absurd (L.trans R) (S _ G)
   ·rw [<-j,<-R,<-L];exact G
 rcases h with h|h
 ·exact J _ h (.inl rfl)
 ·exact J _ h (.inr rfl)
section
variable {X:Cx}{pins:List (Addr×Obj)}{σ:St}{H:Hp}{s:Shared}{scope:Scope}{N':List Str}{pk:List @H}{fp:List Addr}
theorem KI (I:aA X pins σ H s)(S:dj X scope N' pk){C:Addr}(J:s.heap.objs.size<=C)(j:∀b∈fp,jy X pins H b)(G:∀b∈fp,b<s.heap.objs.size):(bz X scope N' C s H fp).Ok where
 mod:=I.ok.mod
 kind:=S.kind
 glob:=I.ok.glob
 blt:=I.ok.blt
 above:=J
 inj:=λx y c h1 h2=>I.ok.inj x y c (oj h1) (oj h2)
 has:=λx h=>by
  have m:(x,NameKind.free)∈scope.names:=q9 S.nocell h;obtain ⟨c,L⟩:=I.ok.has x (S.free x m);exact ⟨c,Hv L m⟩
 cab:=λx c h _=>nomatch h
 hd:=I.ok.hd
 frames:=I.ok.frames
 stk:= .inl rfl
 exf:=λb F=>⟨Nat.ne_of_lt (Nat.lt_of_lt_of_le (G b F) J),λx c e=>(j b F).2.2.2.2.1 x c (oj e)⟩
 bs:=I.bs
 bsz:=Nat.le_trans I.ok.bsz I.sz
 noex:=λb o e F=>by
  rcases (j b F).2.2.2.1 with z|z
  ·exact I.ok.noex b o e z
  ·exact absurd (Nat.lt_of_lt_of_le @G (Nat.le_trans I.ok.bsz z)) @br
 exfs:=λb F z=>by
  rcases mem_cons.mp @gd with e|e
  ·exact (j b F).2.1 e
  ·exact (j b F).2.2.1 e
 funs:=I.stack
 frf:=I.stkFree
theorem Fu {pk:List @H}{σ:St}{j:Nat}{v:V}(h:(d4 pk σ)[j]? =some @bE):∃i,pk[j]? =some (some i)/\σ[i]? =some @bE:=by
 unfold d4 at h;rw [getElem?_map] at h
 cases e:pk[j]? with
 |none=>rw [e] at h;cases h
 |some o=>
  rw [e] at h
  cases o with
  |none=>cases h
  |some i=>
   rwa[⟨i,rfl,?_⟩];have h':(σ[i]?).join=some v:=Option.some.inj h
   cases q:σ[i]? with
   |none=>rw [q] at h';cases h'
   |some z=>rw [q] at h';rw [show z=some v from h']
theorem Hu {J:Shared}{C D:Addr}{od:Obj}(I:aA X pins σ H s)(S:dj X scope N' pk)(hC:s.heap.objs.size<=C)(hf:∀b∈fp,jy X pins H b)(ad:∀b∈fp,b<s.heap.objs.size)
(Y:J.os=s.os)(hg:J.gens=s.gens)(F:∀b o,s.heap.get? b=some o->J.heap.get? b=some o)(aa:J.heap.Ns C λ_=>none)(hD:s.heap.objs.size<=D)(ab:D≠C)(Z:J.heap.get? D=some od)(ac:∀v,od.data≠ .cell v):
 aA @gk [(D,od)] @V H J where
 ok:=KI I S hC hf ad
 os:=Y
 bare:=by rw [hg];exact I.bare
 base:=Un.kept F
 loc:=⟨_,aa,λj x v h1 h2 L=>by
  obtain ⟨i,e1,e2⟩:=Fu h2;obtain ⟨hN,W⟩:=S.pn j i x e1 h1;obtain ⟨m,hn,hl⟩:=I.loc;have hk:=S.free x W;obtain ⟨c,hc⟩:=I.ok.has x hk
  have hv:QX X.env.scope x:=by
   rcases hk with k|k
   ·exact .inr (.inl k)
   ·exact .inr (.inr k)
  obtain ⟨u,r,l⟩:=hl i x v hN e2 hv;rwa[⟨u,r,.inr ⟨?_,c,Hv hc W,?_⟩⟩]
  ·rcases L with L|L|L
   ·exfalso;have R:(relabel scope X.env).names.lookup x=some .local:=L;obtain ⟨p,hp,e⟩:=mem_map.mp (PySem.mem_of_lookup R);obtain ⟨n,U⟩:=p;dsimp only at e;by_cases G:(U==NameKind.free&&X.env.scope.kind== .function&&X.env.kindOf n==some .cell)=true
    ·rw [if_pos G] at e;exact nomatch (Prod.mk.inj e).2
    ·rw [if_neg G] at e;have en:n=x:=(Prod.mk.inj e).1;have ek:U= .local:=(Prod.mk.inj e).2;have q:=S.loc _ hp ek;have q2:(relabel scope X.env).names.lookup x=some .local:=R;exact S.nofl x W (by rw [<-en];exact q)
   ·exact .inl L
   ·exact .inr L
  ·rcases l with ⟨k,_⟩|⟨_,c',e,z⟩
   ·rcases hk with U|U<;>(rw [U] at k;cases k)
   ·rw [hc] at e;cases e;obtain ⟨o,O,hd⟩:=z
    exact ⟨o,F _ _ O,hd⟩⟩
 cell:=λx c h=>by
  obtain ⟨v,o,O,hd⟩:=I.cell x c (oj h);exact ⟨v,o,F _ _ O,hd⟩
 free:=I.hok.fresh hC
 freeC:=λx c h=>I.freeC x c (oj h)
 pin:=λp hp=>by
  have e:p=(D,od):=by simpa using (show p∈([]:List (Addr×Obj))++[(D,od)] from hp)
  subst e;rwa[⟨Z,I.hok.fresh hD,ab,λz=> ?_,ac⟩];obtain ⟨_,o,O,_⟩:=I.stack.mem z;exact absurd (Nat.lt_of_lt_of_le (Heap.lt_size O) hD) @br
 hok:=I.hok.kept F
 len:=by unfold d4;rw [length_map];exact S.pl
end
theorem AV {prog:Program}{w:World}{A:Around}{E:Value->Shared->Prop}{s:Shared}{l:Addr}{its:Array Value}{n:Nat}{x:Value}{Q:Value->Shared->Prop}
(e:s.heap.get? l=some {cls:= .type "list",data:= .seq its n})(hsz:its.size<=sizeLine)
(z:∀h' n',h'.get? l=some {cls:= .type "list",data:= .seq (its.push x) n'}->Heap.SameBut l s.heap h'->Q .none {s with heap:=h'}):
 wpAny @m A (call (.builtin "list.append") [.ref l,x]) Q E s:=by
 have W:s.heap.IsList l its:=PySem.IsL.isList e;rwa[wpAny_call_entry slot_list_append W.typeIs entry_list_append ?_ (args_list_append _ _)];show wpAny _ _ (updateSeq l (·.push x)>>=λ_=>ret .none) _ _ s;rwa[wpAny_bind ?_];have q:(s.heap.update l (Obj.mapSeq (·.push x))).get? l=some (Obj.mapSeq (·.push x) {cls:= .type "list",data:= .seq its n}):=Heap.get?_update_self _ e rfl;exact wpAny_updateSeq e rfl (wpAny_pure ⟨.none,rfl,z _ _ q (Heap.SameBut.update ..)⟩)
section
variable {X:Cx}{pins:List (Addr×Obj)}{σ:St}{H H':Hp}{s s':Shared}{scope:Scope}{N':List Str}{pk:List @H}{fp:List Addr}
theorem gu.track {P:Program}{w:World}{H:Hp}{h:Heap}{a:Addr}{o:HO}(x:gu P w H h)(z:H a=none)(j:bA P w @bu h a o):gu P w @bu h:=λb u e=>by
 by_cases F:b=a
 ·subst F;rw [ag] at e;cases e;exact j
 ·rw [am F] at e
  exact (x b u e).stay (λc v _ q=>q) (λc q=>by rw [am @eW];exact q) λc xs q=>by rw [am @eW];exact q
theorem gu.but {P:Program}{w:World}{H:Hp}{h h':Heap}{a:Addr}(x:gu P w H h)(j:H a=none)(k:∀b o,b≠a->h.get? b=some o->h'.get? b=some o):gu P w H h':=λb u e=>
 (x b u e).stay (λc v I q=>k c v (by
   rcases I with rfl|I
   ·exact λz=>by rw [z,j] at e;cases e
   ·exact bI I j) q) @ed λ_ _ q=>q
theorem Ht {C D:Addr}{h':Heap}{ys:List V}{its:List Value}{n:Nat}{σ':St}{O:List (Addr×Obj)}(I:aA X pins σ H s)(S:∀b∈fp,jy X pins H b)
(J:aA @gk O σ' H' s')(W:s.heap.objs.size<=C)(Z:s.heap.objs.size<=D)(ab:D≠C)(j:H' D=none)(e:s'.heap.get? D=some {cls:= .type "list",data:= .seq its.toArray n})(r:aO ys its)
(hz:ys.length<=sizeLine)(Y:Heap.SameBut C s'.heap h'):aA X pins σ @ca {s' with heap:=h'}:=by
 have u:Un @ee fp H H' s.heap s'.heap:=J.base;have L:∀b o,b≠C->s'.heap.get? b=some o->h'.get? b=some o:=λb o F q=>(Y.2 b F).trans q;have G:∀b o,s.heap.get? b=some o->b≠C/\b≠D:=λb o q=>⟨Nat.ne_of_lt (Nat.lt_of_lt_of_le @fG W),Nat.ne_of_lt (Nat.lt_of_lt_of_le @fG Z)⟩;have U:H' C=none:=J.free
 have ae:gu X.prog X.w @ca h':=by
  rwa[gu.but (a:=C) (gu.track (h:=s'.heap) J.hok j ⟨hz,its,n,r,e⟩) ?_ L];rw [am (Ne.symm ab)];exact U
 rwa[I.call' (s':= {s' with heap:=h'}) (ch:=fp) J.os ?_ ae J.bare λb F=>⟨(S b F).2.2.2.1,(S b F).2.1,(S b F).2.2.2.2.1,(S b F).2.2.2.2.2⟩];rwa[⟨λb o q n F R=> ?_,λb o q n F R=> ?_,λb o q n R=> ?_,λb o q R=> ?_,λb xs q=> ?_,λb o xs q=> ?_,λb ps q=> ?_⟩]
 ·exact L b o (G b o q).1 (u.keep b o q n F R)
 ·obtain ⟨sl,z⟩:=u.slot b o q n F R;exact ⟨sl,L b _ (G b o q).1 z⟩
 ·rw [am (G b o q).2];exact u.free b o q n R
 ·obtain ⟨o',z⟩:=u.there b o q R;exact ⟨o',L b o' (G b o q).1 z⟩
 ·have z:=u.tups b xs q;rw [am (bI z j)];exact z
 ·have z:=u.frzs b o xs q;rw [am (bI z j)];exact z
 ·obtain ⟨m,z⟩:=u.tbls b ps q;exact ⟨m,by rw [am (bI z j)];exact z⟩
end
def Ip (X:Cx)(es:List Expr)(t:TT):Prop:=
 ∀(pins:List (Addr×Obj)) (s:Shared) (σ:St) (H:Hp) (Q:Bool->Hp->Prop),aA X pins σ H s->t σ H Q->
  wpAny @d X.A (forIn es true λc r=>if r=true then do let ok<-isTrue c X.env (eval c X.env);pure (ForInStep.yield ok) else pure (ForInStep.yield r)) @dU X.xe s
def Pu:TT:=λ_ H Q=>Q true H
theorem bK {X:Cx}:Ip X [] Pu:=λpins s σ H Q I h=>wpAny_tests_nil ⟨H,I,h⟩
theorem cc {X:Cx}{c:Expr}{t:TT}(h:PT X c t):Ip X [c] t:=λpins s σ H Q I F=>wpAny_tests_one (h pins s σ H Q I F)
def xp (σ σ':St):Prop:=σ'.length=σ.length/\∀(i:Nat) v,σ[i]? =some @bE->σ'[i]? =some @bE
def Ev (pk:List @H)(wi:TI)(g:TG)(tt:TT)(te:TE):TE:=λσ H Q=>wi σ H λJ H1=>∃W:Nat->Nat->List V->Hp->Prop,(∃m,W 0 m [] H1)/\∀i m ys H,W i m ys H->
 (J.stop i H/\ys.length<=sizeLine/\∀p,H p=none->Q (.ref p) @bg)\/
 (J.go i H/\ys.length<sizeLine/\∃N:List V->Hp->Prop,(∀zs H',N zs H'->∃m',m'<m/\W (i+1) m' zs H')/\∀x H',J.yld i H x H'->g x @V H' λσ2 H2=>xp @V σ2/\tt σ2 H2 λb H3=>
   if b=true then te σ2 H3 λv H4=>N (ys++[v]) H4 else N ys H3)
structure HQ (P:Program)(w:World)(K:Fg)(A₀:Around)(c:Bool)(tg:Expr)(J:It)(fp:List Addr)(it:Addr)(tn:Nat->Heap->Prop):Prop where
 mem:it∈fp
 obj:∀i h,tn i h->∀b∈fp,∃o,h.get? b=some o/\∀v,o.data≠ .cell v
 keep:∀i h h',tn i h->(∀b∈fp,∀o,h.get? b=some o->h'.get? b=some o)->tn i h'
 item:∀(X:Cx),X.prog=P->X.w=w->X.K=K->X.A=A₀->X.calm=c->∀(i:Nat) (pins:List (Addr×Obj)) (s:Shared) (σ:St) (H:Hp) (E:Value->Shared->Prop),aA X pins σ H s->(∀b∈fp,jy X pins H b)->tn i s.heap->J.go i H->
  wpAny @Y X.A @di (λr s1=>∃u,r=some u/\
   wpAny @Y X.A @cr (λ_ s2=>∃x H',aA X pins σ H' s2/\aF x u/\J.yld i H x H'/\tn (i+1) s2.heap/\∀b∈fp,H' b=none) E s1) E s
 done:∀(X:Cx),X.prog=P->X.w=w->X.K=K->X.A=A₀->X.calm=c->∀(i:Nat) (pins:List (Addr×Obj)) (s:Shared) (σ:St) (H:Hp) (E:Value->Shared->Prop),aA X pins σ H s->(∀b∈fp,jy X pins H b)->tn i s.heap->J.stop i H->
  wpAny @Y X.A @di (λr s1=>r=none/\aA X pins σ H s1) E s
 self:∀(A:Around) (i:Nat) (s:Shared) (Q:Value->Shared->Prop) (E:Value->Shared->Prop),tn i s.heap->Q (.ref it) s->wpAny @Y A (pyIter (.ref it)) Q E s
theorem xf.toA {P:Program}{w:World}{K:Fg}{z:Around}{c:Bool}{tg:Expr}{J:It}{fp:List Addr}{it:Addr}{j:Nat->Heap->Prop}(T:xf P w K tg J fp it j)(I:c=true):HQ P w K z c tg J fp it j:=
 ⟨T.mem,T.obj,T.keep,λX h1 h2 L _ U=>T.item X h1 h2 L (U.trans I),λX h1 h2 L _ U=>T.done X h1 h2 L (U.trans I),T.self⟩
def S0 (X:Cx)(pins:List (Addr×Obj))(σ:St)(tg:Expr)(R:It->Hp->Prop)(itv:Value)(s2:Shared):Prop:=
 ∃(it:Addr) (fp:List Addr) (tn:Nat->Heap->Prop) (J:It) (H':Hp),itv= .ref it/\aA X pins σ H' s2/\HQ X.prog X.w X.K X.A X.calm tg J fp it tn/\tn 0 s2.heap/\(∀b∈fp,jy X pins H' b)/\R J H'
def S5 (X:Cx)(tg iter:Expr)(t:TI):Prop:=
 ∀(pins:List (Addr×Obj)) (s:Shared) (σ:St) (H:Hp) (R:It->Hp->Prop),aA X pins σ H s->t σ H R->
  wpAny @d X.A @fo (λv s1=>wpAny @d X.A (pyIter v) (S0 X pins σ tg R) X.xe s1) X.xe s
theorem PI.toA {X:Cx}{tg iter:Expr}{t:TI}(h:PI X tg iter t)(z:X.calm=true):S5 X tg iter t:=λpins s σ H R I q=>
 bP (h pins s σ H R I q) λv O h1=>bP h1 λag S ⟨F,fp,j,J,H2,e,G,T,r⟩=>⟨F,fp,j,J,H2,e,G,T.toA z,r⟩
set_option maxHeartbeats 4000000 in
theorem rK {X:Cx}{pins:List (Addr×Obj)}{σ:St}{H:Hp}{F:Shared}{scope:Scope}{N':List Str}{pk:List @H}{fp:List Addr}{tg elt iter:Expr}{ifs:List Expr}{pos:Pos}{g:TG}{tt:TT}{te:TE}
{J:It}{it:Addr}{tn:Nat->Heap->Prop}{R:Value->Addr->Result->Shared->Prop}{E:Value->Shared->Prop}{Q:VK}
(S:dj X scope N' pk)(hg:∀C s H ex,PG @o tg g)(ht:∀C s H ex,Ip @o ifs tt)(he:∀C s H ex,PE @o elt te)
(I:aA X pins σ H F)(T:HQ X.prog X.w X.K X.A X.calm tg J fp it tn)(st:tn 0 F.heap)(hf:∀b∈fp,jy X pins H b)
(hW:∃W:Nat->Nat->List V->Hp->Prop,(∃m,W 0 m [] H)/\∀i m ys H,W i m ys H->
   (J.stop i H/\ys.length<=sizeLine/\∀p,H p=none->Q (.ref p) @bg)\/
   (J.go i H/\ys.length<sizeLine/\∃N:List V->Hp->Prop,(∀zs H',N zs H'->∃m',m'<m/\W (i+1) m' zs H')/\∀x H',J.yld i H x H'->g x @V H' λσ2 H2=>xp @V σ2/\tt σ2 H2 λb H3=>
     if b=true then te σ2 H3 λv H4=>N (ys++[v]) H4 else N ys H3))
(hR:∀(C D:Addr) (s':Shared) (ys:List V) (H':Hp),(∃m,s'.heap.Ns C m)->Q (.ref D) @ca->(∀h',Heap.SameBut C s'.heap h'->aA X pins σ @ca {s' with heap:=h'})->F.heap.objs.size<=C->upd H' D (.lst ys) C=none->
   R (.ref D) C (.ok .next) s'):
 wpAny @d X.A (newList []) (λacc s₃=>wpAny @d X.A (newFunctionEnv scope X.env.globals @bh [] X.env.qual none .none (some X.env)) (λcenv s₄=>
  codeAny @d X.A (.compStart (.ListComp elt [⟨tg,iter,ifs,0⟩] scope pos) 0 (.ref it) acc {cenv with scope:=relabel scope X.env}) (R acc cenv.locals) s₄) E s₃) E F:=by
 obtain ⟨W,⟨m0,w0⟩,ao⟩:=hW;rwa[wpAny_newObj_type (wpAny_newFunctionEnv S.nocell (by intro y hy;simp at hy) (λh₁ ac Z=> ?_) S.kind)];dsimp only at ac Z ⊢;generalize al:F.heap.push {cls:= .type "list",dict:=none,data:= .seq ([]:List Value).toArray}=H2 at ac Z ⊢
 have hC:H2.objs.size=F.heap.objs.size+1:=by rw [<-al,Heap.size_push]
 have ab:F.heap.objs.size≠H2.objs.size:=by rw [hC];exact Nat.ne_of_lt @cc
 have Y:F.heap.objs.size<=H2.objs.size:=by rw [hC];exact Nat.le_succ _
 have ar:∀b o,F.heap.get? b=some o->h₁.get? b=some o:=λb o e=>
  Z.extBut b o (Nat.ne_of_lt (Nat.lt_of_lt_of_le @G Y)) (Heap.get?_push_of_some _ (al▸Heap.get?_push_of_some _ e))
 have au:h₁.get? F.heap.objs.size=some {cls:= .type "list",data:= .seq ([]:List Value).toArray}:=
  Z.extBut _ _ ab (Heap.get?_push_of_some _ (al▸Heap.get?_push_size _ rfl))
 have ak:∀b∈fp,b<F.heap.objs.size:=λb O=>by
  obtain ⟨o,e,_⟩:=T.obj 0 _ st b O;exact Heap.lt_size e
 have ay:tn 0 h₁:=T.keep 0 _ _ st λb _ o e=>ar b o e;have aG:X.env.locals≠H2.objs.size:=Nat.ne_of_lt (Nat.lt_of_lt_of_le I.lt Y);generalize aF:H2.objs.size=C at *;generalize an:F.heap.objs.size=D at *
 have aa:F.heap.objs.size<=D:=by rw [an];exact Nat.le_refl _
 have ae:F.heap.objs.size<=C:=by rw [an];exact Y
 have ag:∀s₃:Shared,s₃= {F with heap:=h₁,toks:=F.toks+([]:List (Str×Value)).length}->
  codeAny @d X.A (.compLoop (.ListComp elt [⟨tg,iter,ifs,0⟩] scope pos) 0 (.ref it) (.ref D) @cO) (R (.ref D) C) s₃:=by
  rintro s₃ rfl
  refine codeAny_loop rfl (λn s'=>∃i H' ys its k,aA @L [(D,{cls:= .type "list",data:= .seq its k})] @V H' s'/\aO ys its.toList/\tn i s'.heap/\(∀b∈fp,H' b=none)/\W i n ys H') ?_ m0
   ⟨0,H,[],#[],0,Hu I S ae hf (λb O=>by rw [an];exact ak b O) rfl rfl ar (by simpa using ac) aa ab au (λv z=>nomatch z),.nil,ay,λb O=>(hf b O).1,w0⟩
  rintro n s3 ⟨i,H3,ys,its,k,I3,af,as,aq,w3⟩;show wpAny _ _ ((compTurn (.ListComp elt [⟨tg,iter,ifs,0⟩] scope pos) 0 (.ref it) (.ref D) @cO).onRaise (λx=>do noteFrame x @cO;theTreesLotGoes x)) _ _ s3;rwa[wpAny_noted ?_];rw [compTurn_list];have G:∀ {α:Type} {t:Sem α} {Q':α->Shared->Prop} {E':Value->Shared->Prop} {s':Shared},wpAny @d X.A t Q' @fH s'->wpAny @d X.A t Q' E' s':=λh=>wpAny_mono h (λ_ _ x=>x) λ_ _ x=>x.elim
  have ai:∀ {H':Hp} {j},(∀b∈fp,H' b=none)->(∀p∈j,p.1=D)->∀b∈fp,jy @L j H' b:=λ{H' j} hn hp b O=>
   ⟨hn b O,(I3.ok.exf b O).1,I3.ok.exfs b O,.inl O,(I3.ok.exf b O).2,λp az z=>by
     have aD:p∈j:=by simpa using (show p∈([]:List (Addr×Obj))++j from az)
     have q:=ak b O;rw [<-z,hp p aD] at q
     exact Nat.lt_irrefl _ q⟩
  have U:∀p∈[(D,({cls:= .type "list",data:= .seq its k}:Obj))],p.1=D:=λp hp=>by
   have e:p=(D,({cls:= .type "list",data:= .seq its k}:Obj)):=by simpa using hp
   rw [e]
  have ad:∀ {j:List (Addr×Obj)} {σ' H' s'},aA @L j σ' H' s'->(D,({cls:= .type "list",data:= .seq its k}:Obj))∈j->s'.heap.get? D=some {cls:= .type "list",data:= .seq its k}/\H' D=none:=λ{j σ' H' s'} J hm=>by
   obtain ⟨a1,a2,_⟩:=J.pin _ (show (D,({cls:= .type "list",data:= .seq its k}:Obj))∈([]:List (Addr×Obj))++j by simpa using hm);exact ⟨a1,a2⟩
  rwa[wpAny_bind (wpAny_standAt @fO)]
  rcases ao i n ys H3 w3 with ⟨ax,hz,qn⟩|⟨go,hz,N,hN,ap⟩
  ·rwa[G (bP (T.done @L rfl rfl rfl rfl rfl i _ s3 _ H3 @fH I3 (ai aq U) as ax) λr s4 L=> ?_)];obtain ⟨hr,I4⟩:=L;subst hr;rwa[wpAny_pure ?_];obtain ⟨a1,a2⟩:=ad I4 @e;obtain ⟨mC,aB,_⟩:=I4.loc;exact hR C D s4 ys H3 ⟨mC,aB⟩ (qn D a2) (λh' sb=>Ht I hf I4 ae aa ab a2 (its:=its.toList) (n:=k) (by simpa using a1) af hz sb) Y (by rw [am (Ne.symm ab)];exact I4.free)
  ·rwa[G (bP (T.item @L rfl rfl rfl rfl rfl i _ s3 _ H3 @fH I3 (ai aq U) as go) λr s4 L=> ?_)];obtain ⟨u,hr,h4⟩:=L;subst hr;rwa[wpAny_bind (G (bP h4 λ_ s5 L=> ?_))];obtain ⟨x,H5,I5,r5,y5,aj,aE⟩:=L;have I5':=I5.pinned (ai aE U) (T.obj _ _ aj);rwa[wpAny_bind (G (bP (hg C F H fp _ s5 _ H5 x u _ I5' r5 (ap x H5 y5)) λ_ s6 L=> ?_))];obtain ⟨σ6,H6,I6,aw,q6⟩:=L;rwa[wpAny_bind (G (bP (ht C F H fp _ s6 σ6 H6 _ I6 q6) λb s7 L=> ?_))];obtain ⟨H7,I7,q7⟩:=L
   have ah:∀ {H':Hp} {s':Shared},aA @L ([(D,{cls:= .type "list",data:= .seq its k})]++qT fp s5.heap) σ6 H' s'->
    aA @L [(D,{cls:= .type "list",data:= .seq its k})] @V H' s'/\tn (i+1) s'.heap/\∀b∈fp,H' b=none:=λ{H' s'} I7=>by
    rwa[⟨I7.unpinned.weak aw.1.symm aw.2,T.keep _ _ _ aj λb O o e=>(I7.pin (b,o) @U).1,λb O=> ?_⟩];obtain ⟨o,e,d⟩:=T.obj _ _ aj b O;exact (I7.pin (b,o) @U).2.1
   cases b with
   |false=>
    rw [if_neg Bool.false_ne_true] at q7;obtain ⟨m',hm,w7⟩:=hN _ _ q7;obtain ⟨J7,t7,f7⟩:=ah I7;rw [if_neg Bool.false_ne_true]
    first
     |exact wpAny_pure ⟨rfl,m',hm,i+1,H7,ys,its,k,J7,af,t7,f7,w7⟩
     |exact wpAny_bind (wpAny_pure (wpAny_pure ⟨rfl,m',hm,i+1,H7,ys,its,k,J7,af,t7,f7,w7⟩))
   |true=>
    rw [if_pos rfl] at q7;rw [if_pos rfl];rwa[wpAny_bind (wpAny_bind (G (bP (he C F H fp _ s7 σ6 H7 _ I7 q7) λy s8 L=> ?_)))];obtain ⟨v,H8,I8,r8,n8⟩:=L;obtain ⟨m',hm,w8⟩:=hN _ _ n8;obtain ⟨J8,t8,f8⟩:=ah I8;obtain ⟨a1,a2⟩:=ad J8 @e
    have aC:its.size<=sizeLine:=by
     have e:=af.length
     have e2:its.toList.length=its.size:=by simp
     lia
    rwa[wpAny_bind (AV a1 aC λh' k' e' sb=> ?_)]
    have J9:aA @L [] @V H8 {s8 with heap:=h'}:=
     aA.turned (t':=s8.toks) (it:=D) (J8.pins_of λp hp=>nomatch hp) (λb o O e=>(sb.2 b O).trans e) a2 ab (.inr aa) (λx c e z=>by
      obtain ⟨w',o,ho,hd⟩:=J8.cell x c e
      rw [z,a1] at ho;cases ho;cases hd) λp hp=>nomatch (show p∈([]:List (Addr×Obj))++[] from hp)
    have J10:aA @L [(D,{cls:= .type "list",data:= .seq @ht k'})] @V H8 {s8 with heap:=h'}:=
     J9.pins_of λp hp=>by
      have e:p=(D,({cls:= .type "list",data:= .seq @ht k'}:Obj)):=by simpa using hp
      subst e;rwa[⟨e',a2,ab,λz=> ?_,λv z=>nomatch z⟩];obtain ⟨_,o,ho,_⟩:=I.stack.mem z;exact absurd (Nat.lt_of_lt_of_le (Heap.lt_size ho) aa) @br
    have t9:tn (i+1) h':=T.keep _ _ _ t8 λb O o e=>(sb.2 b (λz=>Nat.lt_irrefl D (by have:=ak b O;rw [z] at this;exact this))).trans e
    have av:aO (ys++[v]) (its.push y).toList:=by
     rw [Array.toList_push];exact aO.append af (.cons r8 .nil)
    first
     |exact wpAny_pure (wpAny_pure ⟨rfl,m',hm,i+1,H8,ys++[v],its.push y,k',J10,av,t9,f8,w8⟩)
     |exact wpAny_bind (wpAny_pure (wpAny_pure ⟨rfl,m',hm,i+1,H8,ys++[v],its.push y,k',J10,av,t9,f8,w8⟩))
 exact codeAny_compStart_list (ag _ rfl) (T.self _ 0 _ _ _ ay (ag _ rfl))
section
variable {X:Cx}{scope:Scope}{N':List Str}{pk:List @H}{tg elt iter:Expr}{ifs:List Expr}{pos:Pos}{wi:TI}{g:TG}{tt:TT}{te:TE}
theorem FD (S:dj X scope N' pk)(hi:S5 X tg iter wi)(hg:∀C s H ex,PG @o tg g)(O:∀C s H ex,Ip @o ifs tt)
(W:∀C s H ex,PE @o elt te)(hs:∀x,foldedSetIterable iter X.env x=pure x:=by intro _;rfl):PE X (.ListComp elt [⟨tg,iter,ifs,0⟩] scope pos) @fb:=by
 intro pins s σ H Q I h;rw [eval_ListComp];rwa[wpAny_comprehension_free (use:=none) rfl hs (j6 λn z=>I.ok.has n (S.free n z)) S.kind S.loc ?_];rwa[bP @dY λv s1 h1=>bP h1 λag s2 h2=> ?_];obtain ⟨it,fp,tn,J,H2,e,L,T,ae,U,F⟩:=h2;subst e;rwa[rK (R:=λj C=>compPost @d X.A X.xe none @v j C) S hg O W L T ae U F ?_];intro C D s' ys H' z q Y _ _;obtain ⟨m,G⟩:=z;exact ⟨m,G,λh' Z=>⟨.ref D,_,Y h' Z,rfl,q⟩⟩
theorem Jx (I:X.calm=true)(S:dj X scope N' pk)(hi:PI X tg iter wi)(W:∀C s H ex,PG @o tg g)(J:∀C s H ex,Ip @o ifs tt)
(U:∀C s H ex,PE @o elt te)(hs:∀x,foldedSetIterable iter X.env x=pure x:=by intro _;rfl):PE X (.ListComp elt [⟨tg,iter,ifs,0⟩] scope pos) @fb:=FD S (hi.toA I) W J U hs
theorem Jq {i:Nat}{x:Str}{F j:Pos}(hc:X.calm=true)(hN:X.N.Nodup)(hx:X.N[i]? =some x)(hl:Lw X.env.scope x)(S:dj X scope N' pk)(hi:PI X tg iter wi)(hg:∀C s H ex,PG @o tg g)
(ht:∀C s H ex,Ip @o ifs tt)(he:∀C s H ex,PE @o elt te)(hs:∀x,foldedSetIterable iter X.env x=pure x:=by intro _;rfl)
(aa:swapsWith (.ListComp elt [⟨tg,iter,ifs,0⟩] scope pos) (some (.Name x F)) j.line X.env=pure true:=by rfl)(hf:X.fn x=true\/X.env.scope.names.lookup x=some .local:=by first|exact .inl rfl|exact .inr rfl|assumption):
 PS X (.Assign [.Name x F] (.ListComp elt [⟨tg,iter,ifs,0⟩] scope pos) j) (Ew @fb (oW i)):=by
 intro pins s σ H D0 I h;rw [exec_Assign_Name_used _ _ _ _ aa];rwa[wpAny_bind (wpAny_standAt @fO)];show wpAny _ _ (comprehension (.ListComp elt [⟨tg,iter,ifs,0⟩] scope pos) scope X.env (firstIterPos [⟨tg,iter,ifs,0⟩] pos) (newList []) false @fo (some @cY)>>=λ_=>pure ()) _ _ s;rwa[wpAny_bind (wpAny_comprehension_free (use:=some @cY) rfl hs (j6 λn Z=>I.ok.has n (S.free n Z)) S.kind S.loc ?_)];rwa[bP ((hi.toA hc) pins s σ H _ I h) λv s1 h1=>bP h1 λag s2 h2=> ?_];obtain ⟨it,fp,tn,J,H2,e,G,T,ae,f2,hW⟩:=h2;subst e;rwa[rK (Q:=λx H1=>oW i x σ H1 D0.nx) (R:=λO C=>compPost @d X.A X.xe (some @cY) _ O C) S hg ht he G T ae f2 hW ?_];intro C D s' ys H' Z q hv Y U;obtain ⟨m,hm⟩:=Z;have I':aA X pins σ @ca s':=hv s'.heap (Heap.SameBut.refl ..);rwa[wpAny_assign_Name (uj (v:= .ref D) I' hN hx hl rfl (λab I'' ch=> ?_) hf)];obtain ⟨a,sb,L⟩:=ch
 have W:C≠a:=by
  rcases L with L|L
  ·rw [L];exact Nat.ne_of_gt (Nat.lt_of_lt_of_le G.lt Y)
  ·obtain ⟨v,z⟩:=G.cell x a L;exact Nat.ne_of_gt (Nat.lt_of_lt_of_le z.lt Y)
 rwa[⟨m,hm.sameBut sb W,λh' ac=>wpAny_pure (wpAny_pure ⟨_,_,?_,q⟩)⟩];rwa[aA.turned (t':=ab.toks) (it:=C) I'' (λb o hb e=>(ac.2 b hb).trans e) U (Nat.ne_of_gt (Nat.lt_of_lt_of_le G.lt Y)) (.inr (Nat.le_trans G.sz Y)) (λy c e z=> ?_) λp hp z=> ?_]
 ·obtain ⟨v,q⟩:=G.cell y c e;exact absurd (Nat.lt_of_lt_of_le q.lt Y) (by rw [z];exact Nat.lt_irrefl _)
 ·exact absurd (Nat.lt_of_lt_of_le (Heap.lt_size (G.pin p hp).1) Y) (by rw [z];exact Nat.lt_irrefl _)
end
theorem bc {pk:List @H}{σ:St}{x:V}:xp (d4 (none::pk) σ) ((d4 (none::pk) σ).set 0 (some x)):=by
 rwa[⟨by simp,λi v h=> ?_⟩]
 cases i with
 |zero=>exact nomatch (show (none:Option V)=some v from Option.some.inj h)
 |succ i=>simpa [d4] using h
section
variable {X:Cx}
noncomputable def cV:V->Option Value
 | .ty n=>some (.type n)
 | .ref C=>some (.ref C)
 |_=>none
theorem HI {c:V}{t u:Value}(h:cV c=some t)(r:aF c u):u=t:=by
 cases c with
 |ty n=>cases h;exact r
 |ref C=>cases h;exact r
 |_=>cases h
theorem yF:bj X (.builtin "isinstance") (λxs H Q=>∃x c cv t b,xs=[x,c]/\cV c=some cv/\iM X.K H x t/\W.kitOne X.K t cv=some b/\Q (.bl b) H):=by
 intro pins s σ H xs G Q I r h;obtain ⟨x,c,cv,t,b,rfl,j,ty,e,q⟩:=h;obtain ⟨u,F,rfl,L,z⟩:=xx r;cases HI j z;exact Dm I L ty e λtk=>⟨.bl b,H,I.tok _,rfl,q⟩
theorem yS {bs:List Bool}:∀ {us:List Value},aO @bm us->LSm.BoolsAre us bs:=by
 induction bs with
 |nil=>intro us r;rw [map_nil] at r;cases r;exact .nil
 |cons b bs ih=>
  intro us r;rw [map_cons] at r
  cases r with
  |cons r1 r2=>cases r1;exact .cons b (ih r2)
theorem DM (J:X.calm=true):bj X (.builtin "all") (λxs H Q=>∃(a:Addr) (bs:List Bool),xs=[.ref a]/\aC X.K H a @bm/\Q (.bl @gS) H):=by
 intro pins s σ H xs U Q I r h;obtain ⟨a,bs,rfl,G,q⟩:=h;obtain ⟨u,rfl,L⟩:=iE r;cases L;obtain ⟨its,S,pl,hz⟩:=I.list G;have W:s.heap.IsList a its.toArray:=pl.isList;have F:=yS S
 have z:a<s.heap.objs.size:=by obtain ⟨_,e,_⟩:=W;exact Heap.lt_size e
 rwa[call_all_walk (wpAny_pyIter_list W ?_)]
 refine ⟨s.heap.objs.size,[s.heap.objs.size,a],[s.heap.objs.size],its.toArray.size,_,_,λi=>(bs[i]?).getD true,rfl,Walks.list (A:=X.A.in1) @eH _ a (Nat.ne_of_lt z) its.toArray,
  ⟨⟨_,Heap.get?_push_size _ rfl,rfl,rfl⟩,W.push _⟩,λi v s' Y Z O j=> ?_,λh' tk R=> ?_⟩
 ·obtain ⟨b,e,rfl⟩:=F.get i v (by simpa using O);simp only [e,Option.getD_some] at j;exact wpAny_truthy_bool j
 ·have e:((List.range its.toArray.size).all λi=>(bs[i]?).getD true)=bs.all id:=by
   rw [size_toArray,F.length];exact LSm.range_all bs
  rw [e];exact ⟨.bl _,H,I.kept (LSm.kept_iter R),rfl,q⟩
noncomputable def Q8 (x:Str):It:=⟨λi _=>i<x.cps.size,λi H v H'=>H'=H/\∃c,x.cps[i]? =some c/\v= .str ⟨#[c]⟩,λi _=>x.cps.size<=i⟩
theorem ui {P:Program}{w:World}{K:Fg}{tg:Expr}{it:Addr}{x:Str}{t:Tok}{T:String}(L:T="str_ascii_iterator"\/T="str_iterator"):
 xf P w K tg (Q8 x) [it] it (λi h=>i<=x.cps.size/\h.IsStrIter it T x t i) where
 mem:=by simp
 obj:=λi h st b F=>by
  have e:b=it:=by simpa using F
  subst e;obtain ⟨o,J,j,hd⟩:=st.2;exact ⟨o,J,λv z=>by rw [hd] at z;cases z⟩
 keep:=λi h h' st k=>⟨st.1,let ⟨o,J,r⟩:=st.2;⟨o,k it @e o J,r⟩⟩
 item:=by
  intro X hP hw U j i pins s σ H E I O st R;subst hP hw U;obtain ⟨Z,S,f2,f3,Y,f5⟩:=O it @e
  have W:Walks X.prog X.w X.A it [it] [it] x.cps.size (SignAt x) (λi h=>h.IsStrIter it T x t i):=by
   rcases L with rfl|rfl
   ·exact Walks.strAscii @eJ it x t
   ·exact Walks.strWide @eJ it x t
  rwa[W.item i s _ _ R st.2 λv h' tk hv G kk=> ?_];obtain ⟨c,u,hx,rfl⟩:=hv;have I1:aA X pins σ H {s with heap:=h',toks:=tk}:=I.turned (λb o F e=>kk b o (by simpa using F) e) Z S f3 Y f5;obtain ⟨o,J,aa,hd⟩:=id G;exact ⟨_,rfl,BK (s:= {s with heap:=h',toks:=tk}) J aa hd (by rcases L with rfl|rfl<;>decide) ⟨.str ⟨#[c]⟩,H,I1,⟨_,rfl⟩,⟨rfl,c,hx,rfl⟩,⟨R,G⟩,λb F=>(O b F).1⟩⟩
 done:=by
  intro X hP hw U j i pins s σ H E I O st R;subst hP hw U;obtain ⟨Z,S,f2,f3,Y,f5⟩:=O it @e
  have W:Walks X.prog X.w X.A it [it] [it] x.cps.size (SignAt x) (λi h=>h.IsStrIter it T x t i):=by
   rcases L with rfl|rfl
   ·exact Walks.strAscii @eJ it x t
   ·exact Walks.strWide @eJ it x t
  have e:i=x.cps.size:=Nat.le_antisymm st.1 R;subst e;exact W.done s _ _ st.2 λh' tk kk=>⟨rfl,I.turned (λb o F e=>kk b o (by simpa using F) e) Z S f3 Y f5⟩
 self:=λA i s Q E st h=>by
  rcases L with rfl|rfl
  ·exact wpAny_pyIter_striter_ascii st.2 h
  ·exact wpAny_pyIter_striter_wide st.2 h
theorem IL {ts:List Str}:∀ {us:List Value},aO @dv us->∃l:List (Str×Tok),us=strValues l/\l.map (·.1)=ts:=by
 induction ts with
 |nil=>intro us r;rw [map_nil] at r;cases r;exact ⟨[],rfl,rfl⟩
 |cons b bs ih=>
  intro us r;rw [map_cons] at r
  cases r with
  |cons r1 r2=>
   obtain ⟨t,rfl⟩:=r1;obtain ⟨l,rfl,e⟩:=ih r2;exact ⟨(b,t)::l,rfl,by rw [map_cons,e]⟩
theorem Gk:zc X "str.join" (λx xs H Q=>∃z a ts,x= .str z/\xs=[.ref a]/\aC X.K H a @dv/\(ts.toArray.foldl (· + ·.length+z.length) 0)<=sizeLine/\(Builtin.Str.glued z ts).length<=sizeLine/\Q (.str @co) H):=by
 intro pins s σ H x xs v U Q I J S h;obtain ⟨z,a,ts,rfl,rfl,G,O,j,q⟩:=h;obtain ⟨t,rfl⟩:=J;obtain ⟨u,rfl,L⟩:=iE S;cases L;obtain ⟨its,R,pl,_⟩:=I.list G;obtain ⟨l,rfl,W⟩:=IL R;rwa[call_meets F.slot_str_join @eZ F.entry_str_join (F.args_str_join_2 _ _) (meets_str_join_list z t a l ?_) ⟨pl.isList,?_⟩]
 ·rw [W];exact qX O
 ·subst W
  cases l with
  |nil=>exact ⟨j,.str _,H,I.tok _,⟨_,rfl⟩,q⟩
  |cons p r=>
   cases r with
   |nil=>exact ⟨.str _,H,I,⟨p.2,rfl⟩,q⟩
   |cons p2 r=>exact ⟨j,.str _,H,I.tok _,⟨_,rfl⟩,q⟩
theorem DI:bj X (.type "int") (λxs H Q=>∃x n,xs=[.str x]/\PySem.intText? x=some n/\x.length<=640/\Q (.int n) H):=by
 intro pins s σ H xs F Q I r h;obtain ⟨x,n,rfl,z,j,q⟩:=h;obtain ⟨u,rfl,t,rfl⟩:=iE r;exact PySem.W.KIN.call_text z j ⟨.int n,H,I.tok _,⟨_,rfl⟩,q⟩
theorem An:dA X @dV (λx y H Q=>∃z n,x= .str z/\y= .int n/\1<n/\n<=1000/\0<z.length/\z.length<=1000/\Q (.str ⟨(List.replicate n.toNat z.cps).foldl (· ++ ·) #[]⟩) H):=by
 intro pins s σ H x y v u Q I L O h;obtain ⟨z,n,rfl,rfl,h1,h2,U,Y,q⟩:=h;obtain ⟨t,rfl⟩:=L;obtain ⟨S,rfl⟩:=O;have R:(z.length:Int)*n<=1000*1000:=Int.mul_le_mul @c h2 @c @b
 have W:z.length*n.toNat<=1000000:=by
  have e:((z.length*n.toNat:Nat):Int)=(z.length:Int)*n:=by rw [Int.natCast_mul,Int.toNat_of_nonneg @c]
  lia
 have hs:sizeLine=16777216:=sizeLine_eq;have G:(n==1)=false:=beq_eq_false_iff_ne.mpr @c;have F:(z.length==0)=false:=beq_eq_false_iff_ne.mpr @c;rwa[PySem.P.mul_str ?_ (λ_ _=> ?_) (λ_ _=>qX @c) ?_]
 ·rw [decide_eq_false @c,decide_eq_false @c];rfl
 ·have:=Int.le_ediv_of_mul_le (a:=(z.length:Int)) (b:=2^63 - 1) (c:=n) @c @c;lia
 ·rw [if_neg @c,G,F];rwa[⟨?_,.str _,H,I.tok _,⟨_,rfl⟩,q⟩];show ((List.replicate n.toNat z.cps).foldl (· ++ ·) #[]).size<=sizeLine
  have J:∀(k:Nat) (j:Array Nat),((List.replicate k z.cps).foldl (· ++ ·) j).size=j.size+z.length*k:=by
   intro k
   induction k with
   |zero=>intro j;simp
   |succ k ih=>
    intro j;rw [replicate_succ,foldl_cons,ih,Array.size_append,Nat.mul_succ];have e:z.cps.size=z.length:=rfl;lia
  rw [J];simp only [size_toArray,length_nil];lia
theorem J2:zc X "int.bit_length" (λx xs H Q=>∃i,x= .int i/\xs=[]/\Q (.int (Builtin.Int.intBits i)) H):=by
 intro pins s σ H x xs v j Q I F z h;obtain ⟨i,rfl,rfl,q⟩:=h;obtain ⟨t,rfl⟩:=F;cases z;exact call_int_bit_length ⟨.int _,H,I.tok _,⟨_,rfl⟩,q⟩
end
structure aV (P:Program)(w:World)(K:Fg)(mg:Str->Option Value)(base:Heap)(n:Nat)(x:Str)(ps:List Str)(sp:Sp):Prop where
 ex:∃f fd,ay P w K mg base bd n f fd ps sp/\fU K fd ps []/\W.keepIn K (.ref f)=true/\mg x=some (.ref f)
section
variable {X:Cx}{x:Str}{p pos:Pos}{e:Expr}{es:List Expr}{t:TA}{ps:List Str}{sp:Sp}{n m:Nat}
theorem Qc (c:aV X.prog X.w X.K X.mg X.base n x ps sp)(S:cr m X.A)(J:n<=m)(W:Gl X x)(I:PA X (e::es) t)(j:(x==("__debug__":Str))=false:=by decide)
(U:starEach (e::es) X.env=(false,eval e X.env)::starEach es X.env:=by rfl)(z:(backTo pos @D).any (·.1)=false:=by rfl):
 PE X (.Call (.Name x p) (e::es) [] pos) (Be sp [] E0 t):=by
 obtain ⟨f,fd,F,b,k,G⟩:=c.ex;exact Bt (F.mono J) S W G k b .nil jX I j U z
end
noncomputable def rL (sc:Scope)(N:List Str)(scope:Scope)(N':List Str)(pk:List @H):Bool:=
 (scope.kind== .function)&&scope.names.all (λy=>y.2 != .cell)&&scope.names.all (λy=> !(y.2== .local)||scope.names.lookup y.1==some .local)&&
 scope.names.all (λy=> !(y.2== .free)||((sc.names.lookup y.1==some .cell||sc.names.lookup y.1==some .free)&&scope.names.lookup y.1 != some .local))&&
 (pk.length==N'.length)&&(List.range pk.length).all λj=>match pk[j]?,N'[j]? with
   |some (some i),some x=>N[i]? ==some x&&scope.names.contains (x,NameKind.free)
   |_,_=>true
theorem ax {X:Cx}{scope:Scope}{N':List Str}{pk:List @H}(h:rL X.env.scope X.N scope N' pk=true):dj X scope N' pk:=by
 unfold rL at h;simp only [Bool.and_eq_true] at h;obtain ⟨⟨⟨⟨⟨h1,h2⟩,L⟩,G⟩,U⟩,I⟩:=h;rwa[⟨by simpa using h1,λy O=> ?_,λy O W=> ?_,λn F=> ?_,λn F=> ?_,by simpa using U,λj i x R J=> ?_⟩]
 ·have:=all_eq_true.mp h2 y O;simpa using this
 ·have:=all_eq_true.mp L y O;rw [W] at this;simpa using this
 ·have:=all_eq_true.mp G _ F;simp only [beq_self_eq_true,Bool.not_true,Bool.false_or,Bool.and_eq_true,Bool.or_eq_true] at this
  rcases this.1 with z|z
  ·exact .inl (show X.env.scope.names.lookup n=_ by simpa using z)
  ·exact .inr (show X.env.scope.names.lookup n=_ by simpa using z)
 ·have:=all_eq_true.mp G _ F;simp only [beq_self_eq_true,Bool.not_true,Bool.false_or,Bool.and_eq_true,Bool.or_eq_true] at this;simpa using this.2
 ·have Z:j<pk.length:=(List.getElem?_eq_some_iff.mp R).1;have:=all_eq_true.mp I j (mem_range.mpr Z);rw [R,J] at this;simp only [Bool.and_eq_true] at this;exact ⟨by simpa using this.1,by simpa using this.2⟩
section
variable {X:Cx}
theorem DF:bj X (.builtin "len") (λxs H Q=>∃x,xs=[x]/\((∃z,x= .str z/\z.length<=sizeLine/\Q (.int z.length) H)\/∃p,x= .ref p/\∃ys,(aC X.K H p ys\/az X.K H p ys)/\Q (.int ys.length) H)):=by
 intro pins s σ H xs j Q I r h;obtain ⟨x,rfl,h⟩:=h
 rcases h with ⟨z,rfl,G,q⟩|⟨p,rfl,ys,F,q⟩
 ·exact wW pins s σ H _ j Q I r ⟨z,rfl,G,q⟩
 ·exact wX pins s σ H _ j Q I r ⟨p,ys,rfl,F,q⟩
def P5 (K:Fg):R2:=λx y H Q=>∃i,y= .int i/\((∃z,x= .str z/\z.length<=sizeLine/\∃c,k7 z.cps.toList i=some c/\Q (.str ⟨#[c]⟩) H)\/∃p,x= .ref p/\∃xs,(aC K H p xs\/az K H p xs)/\∃v,k7 xs i=some v/\Q v H)
theorem NW:DX X (P5 X.K):=by
 intro value J pins s σ H x y v u Q I j L h hs;obtain ⟨i,rfl,h⟩:=h
 rcases h with ⟨z,rfl,R,c,O,q⟩|⟨p,rfl,xs,F|F,G,Y,q⟩
 ·exact NV value J pins s σ H _ _ v u Q I j L ⟨z,i,c,rfl,rfl,R,O,q⟩ hs
 ·exact Kh value J pins s σ H _ _ v u Q I j L ⟨p,xs,i,G,rfl,rfl,F,Y,q⟩ hs
 ·exact NU value J pins s σ H _ _ v u Q I j L ⟨p,xs,i,G,rfl,rfl,F,Y,q⟩ hs
theorem HK {R:List Int}{k:Int}(F:0<=k)(h1:k<R.length):k7 (R.map V.int) k=some (.int (R.getD k.toNat 0)):=by
 obtain ⟨j,rfl⟩:=Int.eq_ofNat_of_zero_le F;rwa[bW ?_]
 have Z:j<R.length:=by lia
 rw [getElem?_map,getElem?_eq_getElem Z];simp [List.getD,getElem?_eq_getElem Z]
def wT (J:It)(pk:List @H)(g:TG)(tt:TT)(te:TE)(σ:St)(H:Hp)(Q:VK):Prop:=∃W:Nat->Nat->List V->Hp->Prop,(∃m,W 0 m [] H)/\∀i m ys H,W i m ys H->
 (J.stop i H/\ys.length<=sizeLine/\∀p,H p=none->Q (.ref p) @bg)\/
 (J.go i H/\ys.length<sizeLine/\∃N:List V->Hp->Prop,(∀zs H',N zs H'->∃m',m'<m/\W (i+1) m' zs H')/\∀x H',J.yld i H x H'->g x @V H' λσ2 H2=>xp @V σ2/\tt σ2 H2 λb H3=>
   if b=true then te σ2 H3 λv H4=>N (ys++[v]) H4 else N ys H3)
def AQ (J:It)(g:TG)(tb:TS)(D:pG)(σ:St)(H:Hp):Prop:=∃W:Nat->Nat->St->Hp->Prop,(∃m,W 0 m σ H)/\∀i m σ H,W i m σ H->
 (J.stop i H/\D.nx σ H)\/(J.go i H/\∃N:St->Hp->Prop,(∀σ' H',N σ' H'->∃m',m'<m/\W (i+1) m' σ' H')/\∀x H',J.yld i H x H'->g x σ H' λσ2 H2=>tb {D with nx:=N,ct:=N,bk:=D.nx} σ2 H2)
section
variable {K:Fg}{a:Addr}{xs:List V}{g:TG}{tb:TS}{D:pG}{σ:St}{H:Hp}
theorem eQ (j:Nat->St->Hp->Prop)(F:j 0 σ H)(W:∀i σ H,i<=xs.length->j i σ H->aC K H a xs)
(hs:∀i x σ H,xs[i]? =some x->j i σ H->g x σ H λσ2 H2=>tb {D with nx:=j (i+1),ct:=j (i+1),bk:=D.nx} σ2 H2)(J:∀σ H,j xs.length σ H->D.nx σ H):AQ @hj g tb D σ H:=GV j F W hs J
theorem me (j:Nat->St->Hp->Prop)(F:j 0 σ H)(W:∀i σ H,i<=xs.length->j i σ H->az K H a xs)
(hs:∀i x σ H,xs[i]? =some x->j i σ H->g x σ H λσ2 H2=>tb {D with nx:=j (i+1),ct:=j (i+1),bk:=D.nx} σ2 H2)(J:∀σ H,j xs.length σ H->D.nx σ H):AQ @hk g tb D σ H:=Kr j F W hs J
theorem c4 {lo:Int}{n:Nat}(j:Nat->St->Hp->Prop)(F:j 0 σ H)
(hs:∀i σ H,i<n->j i σ H->g (.int (lo+i)) σ H λσ2 H2=>tb {D with nx:=j (i+1),ct:=j (i+1),bk:=D.nx} σ2 H2)(J:∀σ H,j n σ H->D.nx σ H):AQ @hg g tb D σ H:=Ds j F hs J
end
theorem eR {lo:Int}{n:Nat}{pk:List @H}{g:TG}{tt:TT}{te:TE}{σ:St}{H:Hp}{Q:VK}(j:Nat->List V->Hp->Prop)(L:n<=sizeLine)(F:∀i ys H,j i ys H->ys.length<=i)(G:j 0 [] H)
(hs:∀i ys H,i<n->j i ys H->g (.int (lo+i)) @V H λσ2 H2=>xp @V σ2/\tt σ2 H2 λb H3=>if b=true then te σ2 H3 λv H4=>j (i+1) (ys++[v]) H4 else j (i+1) ys H3)
(J:∀ys H,j (n) ys H->∀p,H p=none->Q (.ref p) @bg):
 wT @hg pk g tt te σ H Q:=by
 rwa[⟨λi m ys H=>m=n - i/\i<=n/\j i ys H,⟨n,by simp,Nat.zero_le _,G⟩,?_⟩];rintro i m ys H ⟨rfl,hi,p⟩;have W:=F _ _ _ p;by_cases z:i<n
 ·rwa[.inr ⟨z,by lia,j (i+1),λzs H' I=>⟨n - (i+1),by lia,rfl,z,I⟩,λx H' y=> ?_⟩];obtain ⟨e,y⟩:=y;subst e y;exact hs i ys _ z p
 ·have e:i=n:=by lia
  subst e;exact .inl ⟨Nat.le_refl _,by lia,J ys H p⟩
theorem bf {K:Fg}{a:Addr}{xs:List V}{pk:List @H}{g:TG}{tt:TT}{te:TE}{σ:St}{H:Hp}{Q:VK}(j:Nat->List V->Hp->Prop)(O:xs.length<=sizeLine)(F:∀i ys H,j i ys H->ys.length<=i)(I:j 0 [] H)(G:∀i ys H,i<=xs.length->j i ys H->aC K H a xs)
(hs:∀i x ys H,xs[i]? =some x->j i ys H->g x @V H λσ2 H2=>xp @V σ2/\tt σ2 H2 λb H3=>if b=true then te σ2 H3 λv H4=>j (i+1) (ys++[v]) H4 else j (i+1) ys H3)
(L:∀ys H,j (xs.length) ys H->∀p,H p=none->Q (.ref p) @bg):
 wT @hj pk g tt te σ H Q:=by
 rwa[⟨λi m ys H=>m=xs.length - i/\i<=xs.length/\j i ys H,⟨xs.length,by simp,Nat.zero_le _,I⟩,?_⟩];rintro i m ys H ⟨rfl,hi,p⟩;have W:=F _ _ _ p;by_cases z:i<xs.length
 ·rwa[.inr ⟨⟨xs,xs[i],G i ys H hi p,by simp [z]⟩,by lia,j (i+1),λzs H' J=>⟨xs.length - (i+1),by lia,rfl,z,J⟩,λx H' y=> ?_⟩];obtain ⟨e,y⟩:=y;subst e;exact hs i x ys _ (y xs (G i ys _ hi p)) p
 ·have e:i=xs.length:=by lia
  subst e;exact .inl ⟨⟨xs,G _ ys H @h p,Nat.le_refl _⟩,by lia,L ys H p⟩
theorem dD {K:Fg}{a:Addr}{xs:List V}{pk:List @H}{g:TG}{tt:TT}{te:TE}{σ:St}{H:Hp}{Q:VK}(j:Nat->List V->Hp->Prop)(O:xs.length<=sizeLine)(F:∀i ys H,j i ys H->ys.length<=i)(I:j 0 [] H)(G:∀i ys H,i<=xs.length->j i ys H->az K H a xs)
(hs:∀i x ys H,xs[i]? =some x->j i ys H->g x @V H λσ2 H2=>xp @V σ2/\tt σ2 H2 λb H3=>if b=true then te σ2 H3 λv H4=>j (i+1) (ys++[v]) H4 else j (i+1) ys H3)
(L:∀ys H,j (xs.length) ys H->∀p,H p=none->Q (.ref p) @bg):
 wT @hk pk g tt te σ H Q:=by
 rwa[⟨λi m ys H=>m=xs.length - i/\i<=xs.length/\j i ys H,⟨xs.length,by simp,Nat.zero_le _,I⟩,?_⟩];rintro i m ys H ⟨rfl,hi,p⟩;have W:=F _ _ _ p;by_cases z:i<xs.length
 ·rwa[.inr ⟨⟨xs,xs[i],G i ys H hi p,by simp [z]⟩,by lia,j (i+1),λzs H' J=>⟨xs.length - (i+1),by lia,rfl,z,J⟩,λx H' y=> ?_⟩];obtain ⟨e,y⟩:=y;subst e;exact hs i x ys _ (y xs (G i ys _ hi p)) p
 ·have e:i=xs.length:=by lia
  subst e;exact .inl ⟨⟨xs,G _ ys H @h p,Nat.le_refl _⟩,by lia,L ys H p⟩
theorem yB {z:Str}{pk:List @H}{g:TG}{tt:TT}{te:TE}{σ:St}{H:Hp}{Q:VK}(j:Nat->List V->Hp->Prop)(R:z.cps.size<=sizeLine)(F:∀i ys H,j i ys H->ys.length<=i)(J:j 0 [] H)
(hs:∀i c ys H,z.cps[i]? =some c->j i ys H->g (.str ⟨#[c]⟩) @V H λσ2 H2=>xp @V σ2/\tt σ2 H2 λb H3=>if b=true then te σ2 H3 λv H4=>j (i+1) (ys++[v]) H4 else j (i+1) ys H3)
(O:∀ys H,j (z.cps.size) ys H->∀p,H p=none->Q (.ref p) @bg):
 wT (Q8 z) pk g tt te σ H Q:=by
 rwa[⟨λi m ys H=>m=z.cps.size - i/\i<=z.cps.size/\j i ys H,⟨z.cps.size,by simp,Nat.zero_le _,J⟩,?_⟩];rintro i m ys H ⟨rfl,hi,p⟩;have W:=F _ _ _ p;by_cases G:i<z.cps.size
 ·rwa[.inr ⟨G,by lia,j (i+1),λzs H' L=>⟨z.cps.size - (i+1),by lia,rfl,G,L⟩,λx H' y=> ?_⟩];obtain ⟨e,c,I,Y⟩:=y;subst e Y;exact hs i c ys _ I p
 ·have e:i=z.cps.size:=by lia
  subst e;exact .inl ⟨Nat.le_refl _,by lia,O ys H p⟩
end
section
variable {X:Cx}{K:Fg}
theorem Ao (O:X.K=K):dA X @cs (Rg K false):=O▸CI
theorem tL (O:X.K=K):dA X @dm (Rg K true):=O▸wk
theorem Ki (O:X.K=K):DX X (P5 K):=O▸NW
def P4 (K:Fg):List V->Hp->VK->Prop:=λxs H Q=>∃x,xs=[x]/\((∃z,x= .str z/\z.length<=sizeLine/\Q (.int z.length) H)\/∃p,x= .ref p/\∃ys,(aC K H p ys\/az K H p ys)/\Q (.int ys.length) H)
theorem DG (O:X.K=K):bj X (.builtin "len") (P4 K):=O▸DF
def P6 (K:Fg):List V->Hp->VK->Prop:=λxs H Q=>∃x c cv t b,xs=[x,c]/\cV c=some cv/\iM K H x t/\W.kitOne K t cv=some b/\Q (.bl b) H
theorem DH (O:X.K=K):bj X (.builtin "isinstance") (P6 K):=O▸yF
def P9 (K:Fg):List V->Hp->VK->Prop:=λxs H Q=>∃(a:Addr) (bs:List Bool),xs=[.ref a]/\aC K H a @bm/\Q (.bl @gS) H
theorem DL (O:X.K=K)(I:X.calm=true):bj X (.builtin "all") (P9 K):=O▸DM I
def Jn (K:Fg):List V->Hp->VK->Prop:=λxs H Q=>∃p ys,xs=[.ref p]/\(aC K H p ys\/az K H p ys)/\∀l,H l=none->Q (.ref l) @cj
theorem AU (O:X.K=K):bj X (.type "list") (Jn K):=O▸wV
def Fq (K:Fg):List V->Hp->VK->Prop:=λxs H Q=>∃p ys,xs=[.ref p]/\((aC K H p ys/\∀l,H l=none->Q (.ref l) @cT)\/(az K H p ys/\Q (.ref p) H))
theorem yE (O:X.K=K):bj X (.type "tuple") (Fq K):=O▸tT
def ML (K:Fg):V->List V->Hp->VK->Prop:=λx xs H Q=>∃z a ts,x= .str z/\xs=[.ref a]/\aC K H a @dv/\(ts.toArray.foldl (· + ·.length+z.length) 0)<=sizeLine/\(Builtin.Str.glued z ts).length<=sizeLine/\Q (.str @co) H
theorem Gm (O:X.K=K):zc X "str.join" (ML K):=O▸Gk
theorem Jv (O:X.K=K){es:List Expr}{k:Nat}{t:B6}{n:Nat}{pos:Pos}(I:X.calm=true)(h:DP X es t)
(z:(assignEach es X.env).length=n:=by rfl)(j:(assignEach es X.env).findIdx? (·.1)=none:=by rfl):PG X (.Tuple es k pos) (QG K n t):=O▸MP I h z j
end
theorem xp.refl (σ:St):xp σ σ:=⟨rfl,λ_ _ h=>h⟩
theorem xp.cons {σ j:St}{o o':Option V}(h:o=none\/o=o')(s:xp σ j):xp (o::σ) (o'::j):=by
 rwa[⟨by simp [s.1],λi v e=> ?_⟩]
 cases i with
 |zero=>
  rcases h with rfl|rfl
  ·exact nomatch (show (none:Option V)=some v from Option.some.inj e)
  ·exact e
 |succ i=>exact s.2 i v (by simpa using e)
theorem PU {σ:St}{x:V}:xp (none::σ) (some x::σ):= .cons (.inl rfl) (.refl _)
noncomputable def bH:Expr->Bool
 | .Starred _ _=>false
 |_=>true
theorem aS {e:Expr}{es:List Expr}{env:Env}(h:bH e=true):starEach (e::es) env=(false,eval e env)::starEach es env:=by
 cases e<;>first|rfl|cases h
noncomputable def aU:List Expr->Bool
 |[]=>true
 |e::es=>bH e&&aU es
theorem bN {pos:Pos}{env:Env}:∀ {es:List Expr},aU es=true->(backTo pos @bZ).any (·.1)=false
 |[],_=>rfl
 |e::es,h=>by
  have h':(bH e&&aU es)=true:=h;rw [Bool.and_eq_true] at h';rw [aS h'.1];show (false||(backTo pos @bZ).any (·.1))=false;rw [bN h'.2];rfl
theorem nL {pos:Pos}{env:Env}:∀ {es:List Expr},aU es=true->(backTo pos @bZ).all (λx=> !x.1)=true
 |[],_=>rfl
 |e::es,h=>by
  have h':(bH e&&aU es)=true:=h;rw [Bool.and_eq_true] at h';rw [aS h'.1];show (true&&(backTo pos @bZ).all (λx=> !x.1))=true;rw [nL h'.2];rfl
noncomputable def gF:Expr->Bool
 | .Call _ [] [] _=>false
 |_=>true
theorem w9 {o:Expr}{name:Str}{env:Env}{z:Sem Value}(h:gF o=true):attributeBase o name env z=z:=by
 unfold attributeBase;split
 ·cases h
 ·rfl
noncomputable def uq:Expr->Bool
 | .UnaryOp _ _ _=>false
 | .BoolOp _ _ _=>false
 | .IfExp _ _ _ _=>false
 | .Compare _ _ _ _=>false
 |_=>true
theorem Gz {e:Expr}{env:Env}{z:Sem Value}(h:uq e=true):isTrue e env z=(do let v<-z;standAt e.pos;holding [v] (truthy v)):=by
 cases e<;>first|rfl|cases h
section
variable {X:Cx}{K:Fg}{x:Str}{p pos apos cpos:Pos}{e o a:Expr}{es:List Expr}{t:TA}{te to ta:TE}{ps:List Str}{sp:Sp}{n m:Nat}{id T:String}{r:List V->Hp->VK->Prop}{name:Str}{rm:V->List V->Hp->VK->Prop}
theorem ar (j:PE X e te)(S:PA X es t)(hs:bH e=true:=by rfl):PA X (e::es) (Lc te t):=Jz j S (aS hs)
theorem b9 (c:aV X.prog X.w X.K X.mg X.base n x ps sp)(S:cr m X.A)(F:n<=m)(W:Gl X x)(z:PA X (e::es) t)(j:(x==("__debug__":Str))=false:=by decide)(G:aU (e::es)=true:=by rfl):
 PE X (.Call (.Name x p) (e::es) [] pos) (Be sp [] E0 t):=by
 have h':(bH e&&aU es)=true:=G;rw [Bool.and_eq_true] at h';exact Qc c S F W z j @fc @fd
theorem bb (I:bj X (.builtin id) r)(W:Gl X x)(F:X.mg x=none)(Y:bootBuiltins x=some (.builtin id))(z:PA X (e::es) t)(J:x≠"__name__":=by decide)(j:(x==("__debug__":Str))=false:=by decide)
(G:aU (e::es)=true:=by rfl):PE X (.Call (.Name x p) (e::es) [] pos) (Rf r t):=by
 have h':(bH e&&aU es)=true:=G;rw [Bool.and_eq_true] at h';exact FF I W F Y z J j @fc @fd
theorem aL (I:bj X (.type T) r)(W:Gl X x)(F:X.mg x=none)(Y:bootBuiltins x=some (.type T))(z:PA X (e::es) t)(J:x≠"__name__":=by decide)(j:(x==("__debug__":Str))=false:=by decide)
(G:aU (e::es)=true:=by rfl):PE X (.Call (.Name x p) (e::es) [] pos) (Rf r t):=by
 have h':(bH e&&aU es)=true:=G;rw [Bool.and_eq_true] at h';exact CG I W F Y z J j @fc @fd
end
def oa (b:Bool)(A B:Prop):Prop:=if b=true then A else B
theorem nZ {b:Bool}{A B:Prop}(h1:b=true->A)(h2:b=false->B):oa b A B:=by
 cases b with
 |true=>exact h1 rfl
 |false=>exact h2 rfl
theorem aP {b:Bool}{A B:Prop}(e:b=true)(h:A):oa b A B:=by subst e;exact h
theorem aG {b:Bool}{A B:Prop}(e:b=false)(h:B):oa b A B:=by subst e;exact h
theorem cB {c:Prop}[Decidable c]{A B:Prop}(h1:c->A)(h2: ¬c->B):oa (decide c) A B:=nZ (λh=>h1 (of_decide_eq_true h)) (λh=>h2 (of_decide_eq_false h))
theorem cZ {c:Prop}[Decidable c]{A B:Prop}(I:c)(h:A):oa (decide c) A B:=aP (decide_eq_true I) h
theorem bB {c:Prop}[Decidable c]{A B:Prop}(I: ¬c)(h:B):oa (decide c) A B:=aG (decide_eq_false I) h
theorem SE {c:Prop}[Decidable c]{A B:Prop}(h1: ¬c->A)(h2:c->B):oa (!decide c) A B:=by
 by_cases h:c
 ·rw [decide_eq_true h];exact aG rfl (h2 h)
 ·rw [decide_eq_false h];exact aP rfl (h1 h)
theorem PE.imp {X:Cx}{e:Expr}{t t':TE}(h:PE X e t)(i:∀σ H Q,t' σ H Q->t σ H Q):PE X e t':=λpins s σ H Q I q=>h pins s σ H Q I (i σ H Q q)
theorem dA.imp {X:Cx}{f:Value->Value->Sem Value}{r R:R2}(h:dA X f r)(i:∀x y H Q,R x y H Q->r x y H Q):dA X f R:=λpins s σ H x y v u Q I F L q=>h pins s σ H x y v u Q I F L @gr
theorem DX.imp {X:Cx}{r R:R2}(h:DX X r)(i:∀x y H Q,R x y H Q->r x y H Q):DX X R:=λvalue J pins s σ H x y v u Q I F L q=>h value J pins s σ H x y v u Q I F L @gr
theorem bj.imp {X:Cx}{f:Value}{r R:List V->Hp->VK->Prop}(h:bj X f r)(i:∀xs H Q,R xs H Q->r xs H Q):bj X f R:=λpins s σ H xs j Q I F q=>h pins s σ H xs j Q I F (i _ _ _ q)
theorem zc.imp {X:Cx}{id:String}{r R:V->List V->Hp->VK->Prop}(h:zc X id r)(i:∀x xs H Q,R x xs H Q->r x xs H Q):zc X id R:=λpins s σ H x xs v j Q I F z q=>h pins s σ H x xs v j Q I F z @gr
def LU (i:Nat):TE:=λσ H Q=>match σ[i]? with|some @bE=>Q v H|_=>False
theorem wv {X:Cx}(i:Nat){x:Str}{pos:Pos}(z:X.N[i]? =some x:=by rfl)(Y:QX X.env.scope x:=by first|exact Or.inl rfl|exact Or.inr @l|exact Or.inr @gF)(J:(x==("__debug__":Str))=false:=by decide)
(F:(x==("__classdict__":Str))=false:=by decide):PE X (.Name x pos) (LU i):=
 (Fy z Y J F).imp λσ H Q h=>by
   unfold LU at h
   cases e:σ[i]? with
   |none=>rw [e] at h;exact h.elim
   |some o=>
    cases o with
    |none=>rw [e] at h;exact h.elim
    |some v=>rw [e] at h;exact ⟨v,e,h⟩
def wI (g:Int->Int->V):R2:=λx y H Q=>match x,y with| .int i,.int j=>Q @cX H|_,_=>False
def wC (C:Int->Int->Prop)(g:Int->Int->V):R2:=λx y H Q=>match x,y with| .int i,.int j=>C i j/\Q @cX H|_,_=>False
theorem ke {g:Int->Int->V}:∀x y H Q,wI g x y H Q->Fs g x y H Q:=λx y H Q h=>by
 cases x with
 |int i=>cases y with
  |int j=>exact ⟨i,j,rfl,rfl,h⟩
  |_=>exact False.elim h
 |_=>exact False.elim h
theorem vf {C:Int->Int->Prop}{g:Int->Int->V}:∀x y H Q,wC C g x y H Q->rI C g x y H Q:=λx y H Q h=>by
 cases x with
 |int i=>cases y with
  |int j=>exact ⟨i,j,rfl,rfl,h⟩
  |_=>exact False.elim h
 |_=>exact False.elim h
section
variable {X:Cx}{K:Fg}
theorem K4:dA X (binaryOp .Sub) (wI λi j=> .int (i - j)):=MW.imp ke
theorem LR:dA X (binaryOp .FloorDiv) (wC DT λi j=> .int (i / j)):=JA.imp vf
def RM:R2:=λx y H Q=>match x,y with| .int i,.int j=>0<j/\Q (.int (i% j)) H|_,_=>False
theorem A9:dA X (binaryOp .Mod) RM:=M3.imp λx y H Q h=>vf (C:=λ_ j=>0<j) (g:=λi j=> .int (i% j)) x y H Q (by
 cases x with
 |int i=>cases y with
  |int j=>exact h
  |_=>exact False.elim h
 |_=>exact False.elim h)
theorem K5:dA X (binaryOp .Pow) (wC A5 λi j=> .int (i^j.toNat)):=MY.imp vf
theorem OT:dA X (binaryOp .LShift) (wC A5 λi j=> .int (i*2^j.toNat)):=MX.imp vf
theorem OY:dA X (binaryOp .BitAnd) (wI λi j=> .int (Builtin.bitAnd i j)):=M7.imp ke
theorem RB:dA X (binaryOp .BitOr) (wI λi j=> .int (Builtin.bitOr i j)):=Qe.imp ke
theorem w_lt:dA X (compareOp .Lt) (wI λi j=> .bl (decide (i<j))):=Qg.imp ke
theorem Ed:dA X (compareOp .LtE) (wI λi j=> .bl (decide (i<=j))):=Qh.imp ke
theorem IC:dA X (compareOp .Gt) (wI λi j=> .bl (decide (j<i))):=Qi.imp ke
theorem OX:dA X (compareOp .GtE) (wI λi j=> .bl (decide (j<=i))):=Qj.imp ke
def KM (p q:Addr)(H:Hp)(Q:VK):Prop:=∃xs ys,H p=some (.lst xs)/\H q=some (.lst ys)/\xs.length+ys.length<=sizeLine/\∀l,H l=none->Q (.ref l) (upd H l (.lst (xs++ys)))
def RZ:R2:=λx y H Q=>match x,y with
 | .int i,.int j=>Q (.int (i+j)) H
 | .str a,.str b=>a.length+b.length<=sizeLine/\Q (.str (a++b)) H
 | .ref p,.ref q=>KM p q H Q
 |_,_=>False
theorem O0:dA X @bB RZ:=(M8.or (Ap.or M6)).imp λx y H Q h=>by
 cases x with
 |int i=>cases y with
  |int j=>exact .inl ⟨i,j,rfl,rfl,h⟩
  |_=>exact False.elim h
 |str a=>cases y with
  |str b=>exact .inr (.inl ⟨a,b,rfl,rfl,h⟩)
  |_=>exact False.elim h
 |ref p=>cases y with
  |ref q=>obtain ⟨xs,ys,h1,h2,L,z⟩:=h;exact .inr (.inr ⟨p,q,xs,ys,rfl,rfl,h1,h2,L,z⟩)
  |_=>exact False.elim h
 |_=>exact False.elim h
def RL:R2:=λx y H Q=>match x,y with
 | .int i,.int j=>xj i j/\Q (.int (i*j)) H
 | .str z,.int n=>(1<n/\n<=1000/\0<z.length/\z.length<=1000)/\Q (.str ⟨(List.replicate n.toNat z.cps).foldl (· ++ ·) #[]⟩) H
 |_,_=>False
theorem K6:dA X @dV RL:=(MZ.or An).imp λx y H Q h=>by
 cases x with
 |int i=>cases y with
  |int j=>exact .inl ⟨i,j,rfl,rfl,h⟩
  |_=>exact False.elim h
 |str z=>cases y with
  |int n=>exact .inr ⟨z,n,rfl,rfl,h.1.1,h.1.2.1,h.1.2.2.1,h.1.2.2.2,h.2⟩
  |_=>exact False.elim h
 |_=>exact False.elim h
def RK:V->Hp->VK->Prop:=λx H Q=>match x with| .int i=>Q (.int (-i)) H|_=>False
theorem uf:OD X (unaryOp .USub) RK:=λpins s σ H x v Q I F h=>by
 cases x with
 |int i=>exact L5 pins s σ H _ v Q I F ⟨i,rfl,h⟩
 |_=>exact False.elim h
noncomputable def QN:V->V->Option Bool
 | .non,.non=>some true
 | .int i,.int j=>some (decide (i=j))
 | .str a,.str b=>some (decide (a=b))
 | .bl a,.bl b=>some (decide (a=b))
 | .non,.int _=>some false| .int _,.non=>some false| .non,.str _=>some false| .str _,.non=>some false| .non,.bl _=>some false| .bl _,.non=>some false
 | .int _,.str _=>some false| .str _,.int _=>some false| .bl _,.str _=>some false| .str _,.bl _=>some false
 |_,_=>none
theorem G0 {x y:V}{b:Bool}(h:QN x y=some b):Mu x y=true/\decide (x=y)=b:=by
 cases x<;>cases y<;>first|cases h|skip
 all_goals first
  |exact ⟨rfl,by simp⟩
  |(refine ⟨rfl,?_⟩;simp)
def RQ (neg:Bool):R2:=λx y H Q=>match y with
 | .non=>(match x with| .non=>Q (.bl (!neg)) H|_=>Q (.bl neg) H)
 |_=>False
theorem K8:dA X (compareOp .Is) (RQ false):=M4.imp λx y H Q h=>by
 cases y with
 |non=>cases x<;>exact ⟨rfl,h⟩
 |_=>exact False.elim h
def um (K:Fg)(neg:Bool)(x:V)(p:Addr)(H:Hp)(Q:VK):Prop:=∃xs,(aC K H p xs\/az K H p xs)/\dM x=true/\xs.all dM=true/\Q (.bl (if neg then !za x xs else za x xs)) H
noncomputable def iF (a b:Str):Bool:= !(Builtin.Str.occurrences b a 0 b.length 1).isEmpty
def RS (K:Fg)(neg:Bool):R2:=λx y H Q=>match y with
 | .str b=>(match x with| .str a=>Q (.bl (if neg then !iF a b else iF a b)) H|_=>False)
 | .ref p=>um K neg x p H Q
 |_=>False
theorem IB (O:X.K=K):dA X @cs (RS K false):=(CH.or (Ao O)).imp λx y H Q h=>by
 cases y with
 |str b=>cases x with
  |str a=>exact .inl ⟨a,b,rfl,rfl,h⟩
  |_=>exact False.elim h
 |ref p=>obtain ⟨xs,h1,h2,L,j⟩:=h;exact .inr ⟨p,xs,rfl,h1,h2,L,j⟩
 |_=>exact False.elim h
theorem lj (O:X.K=K):dA X @dm (RS K true):=(wj.or (tL O)).imp λx y H Q h=>by
 cases y with
 |str b=>cases x with
  |str a=>exact .inl ⟨a,b,rfl,rfl,h⟩
  |_=>exact False.elim h
 |ref p=>obtain ⟨xs,h1,h2,L,j⟩:=h;exact .inr ⟨p,xs,rfl,h1,h2,L,j⟩
 |_=>exact False.elim h
def oG (K:Fg)(p:Addr)(i:Int)(H:Hp)(Q:VK):Prop:=∃xs,(aC K H p xs\/az K H p xs)/\∃v,k7 xs i=some v/\Q v H
def vD (z:Str)(i:Int)(H:Hp)(Q:VK):Prop:=z.length<=sizeLine/\∃c,k7 z.cps.toList i=some c/\Q (.str ⟨#[c]⟩) H
def Tc (K:Fg):R2:=λx y H Q=>match x,y with
 | .str z,.int i=>vD z i H Q
 | .ref p,.int i=>oG K p i H Q
 |_,_=>False
theorem dG (O:X.K=K):DX X (Tc K):=(Ki O).imp λx y H Q h=>by
 cases x with
 |str z=>cases y with
  |int i=>obtain ⟨h1,h2⟩:=h;exact ⟨i,rfl,.inl ⟨z,rfl,h1,h2⟩⟩
  |_=>exact False.elim h
 |ref p=>cases y with
  |int i=>obtain ⟨xs,h1,h2⟩:=h;exact ⟨i,rfl,.inr ⟨p,rfl,xs,h1,h2⟩⟩
  |_=>exact False.elim h
 |_=>exact False.elim h
def iY (K:Fg)(p:Addr)(H:Hp)(Q:VK):Prop:=∃ys,(aC K H p ys\/az K H p ys)/\Q (.int ys.length) H
def RP (K:Fg):List V->Hp->VK->Prop:=λxs H Q=>match xs with
 |[.str z]=>z.length<=sizeLine/\Q (.int z.length) H
 |[.ref p]=>iY K p H Q
 |_=>False
theorem pZ (O:X.K=K):bj X (.builtin "len") (RP K):=(DG O).imp λxs H Q h=>by
 match xs,h with
 |[.str z],h=>exact ⟨_,rfl,.inl ⟨z,rfl,h⟩⟩
 |[.ref p],h=>exact ⟨_,rfl,.inr ⟨p,rfl,h⟩⟩
def BG (x:Str)(H:Hp)(Q:VK):Prop:=∃n,PySem.intText? x=some n/\x.length<=640/\Q (.int n) H
def RR:List V->Hp->VK->Prop:=λxs H Q=>match xs with
 |[.int i]=>Q (.int i) H
 |[.bl k]=>Q (.int (if k then 1 else 0)) H
 |[.str x]=>BG x H Q
 |_=>False
theorem Ee:bj X (.type "int") RR:=(DJ.or DI).imp λxs H Q h=>by
 match xs,h with
 |[.int i],h=>exact .inl (.inl ⟨i,rfl,h⟩)
 |[.bl k],h=>exact .inl (.inr ⟨k,rfl,h⟩)
 |[.str x],h=>obtain ⟨n,h1,h2,L⟩:=h;exact .inr ⟨x,n,rfl,h1,h2,L⟩
noncomputable def Kj:V->String->Option Bool
 | .non,T=>some (T=="NoneType")
 | .bl _,T=>some (T=="bool"||T=="int")
 | .int _,T=>some (T=="int")
 | .str _,T=>some (T=="str")
 |_,_=>none
def kQ (K:Fg)(x c:V)(H:Hp)(Q:VK):Prop:=∃cv t b,cV c=some cv/\iM K H x t/\W.kitOne K t cv=some b/\Q (.bl b) H
noncomputable def wg (T:String):Bool:=T=="int"||T=="str"||T=="bool"||T=="list"||T=="tuple"||T=="dict"
def LX (K:Fg):List V->Hp->VK->Prop:=λxs H Q=>match xs with
 |[x,.ty T]=>(match Kj x T with|some b=>wg T=true/\Q (.bl b) H|none=>kQ K x (.ty T) H Q)
 |[x,c]=>kQ K x c H Q
 |_=>False
end
theorem Di {K:Fg}{H:Hp}{x:V}{T:String}{b:Bool}(h:Kj x T=some b)(G:wg T=true):∃t,iM K H x t/\W.kitOne K t (.type T)=some b:=by
 have I:T="int"\/T="str"\/T="bool"\/T="list"\/T="tuple"\/T="dict":=by
  unfold wg at G;simp only [Bool.or_eq_true,beq_iff_eq] at G
  rcases G with ((((h|h)|h)|h)|h)|h<;>simp [h]
 cases x with
 |non=>refine ⟨_,.non,?_⟩;rcases I with rfl|rfl|rfl|rfl|rfl|rfl<;>(cases h;rfl)
 |bl y=>refine ⟨_,.bl y,?_⟩;rcases I with rfl|rfl|rfl|rfl|rfl|rfl<;>(cases h;rfl)
 |int y=>refine ⟨_,.int y,?_⟩;rcases I with rfl|rfl|rfl|rfl|rfl|rfl<;>(cases h;rfl)
 |str y=>refine ⟨_,.str y,?_⟩;rcases I with rfl|rfl|rfl|rfl|rfl|rfl<;>(cases h;rfl)
 |_=>cases h
section
variable {X:Cx}{K:Fg}{a b c e:Expr}{ta tb te:TE}{tA tB':TT}{eK:List Expr}{pos:Pos}
theorem OV (O:X.K=K):bj X (.builtin "isinstance") (LX K):=(DH O).imp λxs H Q h=>by
 have j:∀x c,kQ K x c H Q->P6 K [x,c] H Q:=λx c ⟨z,t,b,h1,h2,L,F⟩=>⟨x,c,z,t,b,rfl,h1,h2,L,F⟩
 match xs,h with
 |[x,.ty T],h=>
  have h':(match Kj x T with|some b=>wg T=true/\Q (.bl b) H|none=>kQ K x (.ty T) H Q):=h
  cases e:Kj x T with
  |none=>rw [e] at h';exact j _ _ h'
  |some b=>
   rw [e] at h';obtain ⟨t,h1,h2⟩:=Di (K:=K) (H:=H) e h'.1;exact ⟨x,.ty T,_,t,b,rfl,rfl,h1,h2,h'.2⟩
 |[x,.ref C],h=>exact j _ _ h
 |[x,.non],h=>exact j _ _ h
 |[x,.bl _],h=>exact j _ _ h
 |[x,.int _],h=>exact j _ _ h
 |[x,.str _],h=>exact j _ _ h
 |[x,.byt _],h=>exact j _ _ h
 |[x,.flt _],h=>exact j _ _ h
def O2 (t:TE):TT:=λσ H Q=>t σ H λx H'=>match x with| .bl k=>Q k H'|_=>False
theorem bw {j:CmpOp}{r:R2}(L:dA X (compareOp j) r)(W:PE X a ta)(hb:PE X b tb)(G:behindInMarks j b=false):PT X (.Compare a [j] [b] pos) (O2 @fz):=by
 intro pins s σ H Q I h
 refine wpAny_isTrue_Compare1 (bP @ej λv O ⟨x,H1,I1,R,q1⟩=>bP (hb pins O σ H1 _ I1 q1) λu S ⟨y,H2,J,r2,Y⟩=>
  bP (L pins S σ H2 x y v u _ J R r2 Y) λcv s3 ⟨z,F,U,r3,Z⟩=> ?_) G
 cases z with
 |bl k=>cases r3;exact wpAny_truthy_bool ⟨F,U,Z⟩
 |_=>exact False.elim Z
def qv (K:Fg)(p:Addr)(H:Hp)(Q:Bool->Hp->Prop):Prop:=(∃xs,(aC K H p xs\/az K H p xs)/\Q (!xs.isEmpty) H)\/∃kvs,H p=some (.dK kvs)/\Q (!kvs.isEmpty) H
def RD (K:Fg)(ta:TE):TT:=λσ H Q=>ta σ H λx H'=>match x with
 | .bl k=>Q k H'
 | .non=>Q false H'
 | .int i=>Q (i != 0) H'
 | .str y=>y.length<=sizeLine/\Q ((y.length:Int) != 0) H'
 | .ref p=>qv K p H' Q
 |_=>False
theorem fW (U:X.K=K)(S:PE X a ta)(R:uq a=true:=by rfl):PT X a (RD K ta):=by
 subst U;intro pins s σ H Q I h;rwa[isTrue_plain (bP @eg λv O z=> ?_) (Gz R)];obtain ⟨x,H1,J,L,F⟩:=z
 cases x with
 |bl k=>exact iU pins O σ H1 _ v Q J L ⟨k,rfl,F⟩
 |non=>exact iU pins O σ H1 _ v Q J L ⟨false,rfl,F⟩
 |int i=>exact iU pins O σ H1 _ v Q J L ⟨_,rfl,F⟩
 |str y=>exact iU pins O σ H1 _ v Q J L ⟨_,⟨F.1,rfl⟩,F.2⟩
 |ref p=>
  rcases F with ⟨xs,j|j,q⟩|⟨G,j,q⟩
  ·exact iU pins O σ H1 _ v Q J L ⟨_,.inl ⟨xs,j,rfl⟩,q⟩
  ·exact iU pins O σ H1 _ v Q J L ⟨_,.inr (.inl ⟨xs,j,rfl⟩),q⟩
  ·exact iU pins O σ H1 _ v Q J L ⟨_,.inr (.inr ⟨G,j,rfl⟩),q⟩
 |_=>exact False.elim F
def RY (t u:TT):TT:=λσ H Q=>t σ H λc H1=>oa c (u σ H1 Q) (Q false H1)
def Tb (t u:TT):TT:=λσ H Q=>t σ H λc H1=>oa c (Q true H1) (u σ H1 Q)
theorem mG (j:PT X a tA)(F:PW X (.BoolOp .And (b::eK) pos) tB'):PW X (.BoolOp .And (a::b::eK) pos) (RY tA tB'):=MM j F
theorem iC (j:PT X a tA)(F:PW X (.BoolOp .Or (b::eK) pos) tB'):PW X (.BoolOp .Or (a::b::eK) pos) (Tb tA tB'):=Qa j F
def Pl (ta tb:TE):TE:=λσ H Q=>ta σ H λx H1=>match x with| .bl c=>oa c @gG (Q (.bl false) H1)|_=>False
def RI (ta tb:TE):TE:=λσ H Q=>ta σ H λx H1=>match x with| .bl c=>oa c (Q (.bl true) H1) @gG|_=>False
theorem D8 (G:PE X a ta)(z:PE X (.BoolOp .And (b::eK) pos) tb):PE X (.BoolOp .And (a::b::eK) pos) (Pl ta tb):=by
 intro pins s σ H Q I h;rwa[BoolOp_and (bP (G pins s σ H _ I h) λv O j=> ?_)];obtain ⟨x,H1,J,L,F⟩:=j
 cases x with
 |bl c=>
  cases L;rwa[wpAny_truthy_bool ?_]
  cases c with
  |true=>exact z pins O σ H1 Q J F
  |false=>exact ⟨.bl false,H1,J,rfl,F⟩
 |_=>exact False.elim F
theorem OS (G:PE X a ta)(z:PE X (.BoolOp .Or (b::eK) pos) tb):PE X (.BoolOp .Or (a::b::eK) pos) (RI ta tb):=by
 intro pins s σ H Q I h;rwa[BoolOp_or (bP (G pins s σ H _ I h) λv O j=> ?_)];obtain ⟨x,H1,J,L,F⟩:=j
 cases x with
 |bl c=>
  cases L;rwa[wpAny_truthy_bool ?_]
  cases c with
  |false=>exact z pins O σ H1 Q J F
  |true=>exact ⟨.bl true,H1,J,rfl,F⟩
 |_=>exact False.elim F
def RJ (K:Fg)(ta:TE):TE:=λσ H Q=>ta σ H λx H'=>match x with
 | .bl k=>Q (.bl (!k)) H'
 | .non=>Q (.bl true) H'
 | .int i=>Q (.bl (!(i != 0))) H'
 | .str y=>y.length<=sizeLine/\Q (.bl (!((y.length:Int) != 0))) H'
 | .ref p=>qv K p H' λk H2=>Q (.bl (!k)) H2
 |_=>False
theorem D6 (S:X.K=K)(R:PE X a ta):PE X (.UnaryOp .Not a pos) (RJ K ta):=by
 subst S;intro pins s σ H Q I h;rwa[UnaryOp_ (bP (R pins s σ H _ I h) λv O G=> ?_)];obtain ⟨x,H1,U,W,F⟩:=G
 have z:(∃k,QY X.K x H1 k/\Q (.bl (!k)) H1)->wpAny @d X.A (unaryOp .Not v) @v X.xe O:=λh=>
  not_of (bP (iU pins O σ H1 x v (λk H2=>Q (.bl (!k)) H2) U W h) λk Z ⟨H2,L,Y⟩=>⟨.bl (!k),H2,L,rfl,Y⟩)
 cases x with
 |bl k=>exact z ⟨k,rfl,F⟩
 |non=>exact z ⟨false,rfl,F⟩
 |int i=>exact z ⟨_,rfl,F⟩
 |str y=>exact z ⟨_,⟨F.1,rfl⟩,F.2⟩
 |ref p=>
  rcases F with ⟨xs,j|j,q⟩|⟨J,j,q⟩
  ·exact z ⟨_,.inl ⟨xs,j,rfl⟩,q⟩
  ·exact z ⟨_,.inr (.inl ⟨xs,j,rfl⟩),q⟩
  ·exact z ⟨_,.inr (.inr ⟨J,j,rfl⟩),q⟩
 |_=>exact False.elim F
def RU (t:TT)(ta tb:TE):TE:=λσ H Q=>t σ H λc H1=>oa c (ta σ H1 Q) @gG
theorem A6 (I:PT X c tA)(j:PE X a ta)(F:PE X b tb):PE X (.IfExp c a b pos) (RU tA ta tb):=FA I j F
def RT (c:TT)(t u:TS):TS:=λD σ H=>c σ H λb H1=>oa b (t D σ H1) (u D σ H1)
theorem au {t u:TS}{p q:List Stmt}(I:PT X c tA)(j:uX X p t)(F:uX X q u):PS X (.If c p q pos) (RT tA t u):=Qb I j F
def oF (K:Fg)(p:Addr)(lo hi:Option Int)(H:Hp)(Q:VK):Prop:=(∃xs,aC K H p xs/\∀l,H l=none->Q (.ref l) (upd H l (.lst @bx)))\/
 ∃xs,az K H p xs/\ ¬(HT.sIx xs.length 0 lo=0/\HT.sIx xs.length xs.length hi=xs.length)/\∀l,H l=none->Q (.ref l) (upd H l (.tup @bx))
def Ta (K:Fg):V->Option Int->Option Int->Hp->VK->Prop:=λx lo hi H Q=>match x with| .ref p=>oF K p lo hi H Q|_=>False
theorem RA (O:X.K=K):Ot X (Ta K):=by
 subst O;intro pins s σ H x v G F lo hi sl Q I j hs pl J h
 cases x with
 |ref p=>
  rcases h with ⟨xs,h1,h2⟩|⟨xs,h1,h2,L⟩
  ·exact IT pins s σ H _ v G F lo hi sl Q I j hs pl J ⟨p,xs,rfl,h1,h2⟩
  ·exact Mo pins s σ H _ v G F lo hi sl Q I j hs pl J ⟨p,xs,rfl,h1,h2,L⟩
 |_=>exact False.elim h
def O6 (t:TE):TO:=λσ H Q=>t σ H λx H1=>match x with| .int i=>Q (some i) H1|_=>False
theorem pI (h:PE X e te):PO X (some e) (O6 te):=by
 intro pins s σ H Q I G;rw [evalPart_some];rwa[bP (h pins s σ H _ I G) λu O j=> ?_];obtain ⟨x,H1,J,L,F⟩:=j
 cases x with
 |int i=>obtain ⟨t,rfl⟩:=L;exact ⟨some i,H1,J,.int i t,F⟩
 |_=>exact False.elim F
def Eg (K:Fg)(T:String)(x:V)(H:Hp)(P:Prop):Prop:=match x with
 | .str _=>T="str"/\P
 | .int _=>T="int"/\P
 | .ref _=>Rc K T x H/\P
 |_=>False
def Te (K:Fg)(T:String)(r:V->List V->Hp->VK->Prop)(to:TE)(t:TA):TE:=λσ H Q=>to σ H λx H1=>Eg K T x H1 (t σ H1 λxs H2=>r x xs H2 Q)
end
section
variable {X:Cx}{K:Fg}{o e:Expr}{es:List Expr}{to:TE}{t:TA}{name:Str}{apos cpos:Pos}{T id:String}{r:V->List V->Hp->VK->Prop}
theorem xw {x:V}{H:Hp}{P:Prop}(h:Eg K T x H P):Rc K T x H/\P:=by
 cases x with
 |str z=>exact h
 |int i=>exact h
 |ref p=>exact h
 |_=>exact False.elim h
theorem fY (hK:X.K=K)(pa:PlainAttrs T)(U:Slot T name id)(L:typeOf (.builtin id)=pure (.type "method_descriptor"))(Y:zc X id r)(ho:PE X o to)(ha:PA X (e::es) t)
(hb:gF o=true:=by rfl)(S:aU (e::es)=true:=by rfl)(hl:(e::es).length<29:=by decide)(z:(apos.endLine==cpos.line)=true:=by rfl):
 PE X (.Call (.Attribute o name apos) (e::es) [] cpos) (Te K T r to t):=by
 subst hK;have h':(bH e&&aU es)=true:=S;rw [Bool.and_eq_true] at h';have hs:starEach (e::es) X.env=(false,eval e X.env)::starEach es X.env:=aS h'.1;have j:(backTo cpos @D).any (·.1)=false:=bN h'.2
 have F:((backTo cpos (starEach (e::es) X.env)).all (λx=> !x.1)&&(backToKw cpos @dI).all @eK
  &&decide ((e::es).length+([]:List Keyword).length+(if ([]:List Keyword).isEmpty then 0 else 1)<30))=true:=by
  rw [nL S,arm_keywordEach_nil];show (true&&true&&decide ((e::es).length+0+0<30))=true;rw [decide_eq_true @c];rfl
 intro pins s σ H Q I h;rwa[wpAny_Call_method_late (w9 hb) F z rfl (bP (ho pins s σ H _ I h) λv Z G=> ?_)];obtain ⟨x,H1,W,R,J⟩:=G;obtain ⟨ty,J⟩:=xw J;obtain ⟨h1,h2⟩:=Ek W R ty;rwa[⟨T,id,pa,U,L,h1,h2,?_⟩];have O:=ha cpos pins Z σ H1 _ W J;rw [hs] at O ⊢;rwa[Calls.callWith_builtin (by show (false||(backTo cpos @D).any (·.1))=false;rw [j]<;>rfl) (Calls.evalArgs_plain ?_)];exact bP O λus s2 ⟨vs,H2,I2,r2,q2⟩=>Y pins s2 σ H2 x vs v us Q I2 R r2 q2
def RX (K:Fg)(T:String)(r:V->List V->Hp->VK->Prop)(to:TE):TE:=λσ H Q=>to σ H λx H1=>Eg K T x H1 (r x [] H1 Q)
theorem D7 (S:X.K=K)(Z:PlainAttrs T)(U:Slot T name id)(L:typeOf (.builtin id)=pure (.type "method_descriptor"))(R:zc X id r)(W:PE X o to)
(Y:gF o=true:=by rfl)(z:(apos.endLine==cpos.line)=true:=by rfl):PE X (.Call (.Attribute o name apos) [] [] cpos) (RX K T r to):=by
 subst S;intro pins s σ H Q I h;rwa[wpAny_Call_method0_late (w9 Y) z (bP @ej λv O j=> ?_)];obtain ⟨x,H1,J,G,F⟩:=j;obtain ⟨ty,F⟩:=xw F;obtain ⟨h1,h2⟩:=Ek J G ty;exact ⟨T,id,Z,U,L,h1,h2,Calls.callWith_builtin rfl (PySem.evalArgs_none (R pins O σ H1 x [] v [] Q J G .nil F))⟩
noncomputable def BM (z y:Str):Int:=match Builtin.Str.occurrences z y 0 z.length 1 with|i::_=>(i:Int)|[]=> -1
def yh (K:Fg)(z:Str)(a:Addr)(H:Hp)(Q:VK):Prop:=∃ts:List Str,aC K H a @dv/\(ts.toArray.foldl (· + ·.length+z.length) 0)<=sizeLine/\(Builtin.Str.glued z ts).length<=sizeLine/\Q (.str @co) H
def Pe (K:Fg):V->List V->Hp->VK->Prop:=λx xs H Q=>match x,xs with| .str z,[.ref a]=>yh K z a H Q|_,_=>False
theorem zg (O:X.K=K):zc X "str.join" (Pe K):=(Gm O).imp λx xs H Q h=>by
 match x,xs,h with
 | .str z,[.ref a],h=>obtain ⟨j,h1⟩:=h;exact ⟨z,a,j,rfl,rfl,h1⟩
def Pj:V->List V->Hp->VK->Prop:=λx xs H Q=>match x,xs with| .int i,[]=>Q (.int (Builtin.Int.intBits i)) H|_,_=>False
theorem Ef:zc X "int.bit_length" Pj:=J2.imp λx xs H Q h=>by
 match x,xs,h with
 | .int i,[],h=>exact ⟨i,rfl,rfl,h⟩
def KR (a:Addr)(y:V)(H:Hp)(Q:VK):Prop:=∃xs,H a=some (.lst xs)/\xs.length<sizeLine/\Q .non (upd H a (.lst (xs++[y])))
def IG:V->List V->Hp->VK->Prop:=λx xs H Q=>match x,xs with| .ref a,[y]=>KR a y H Q|_,_=>False
theorem lr:zc X "list.append" IG:=by
 intro pins s σ H x xs v j Q I F z h
 match x,xs,h with
 | .ref a,[y],h=>
   obtain ⟨ys,h1,h2,L⟩:=h;exact C7 pins s σ H _ _ v j Q I F z ⟨a,ys,y,rfl,rfl,h1,h2,L⟩
def KZ (K:Fg)(a:Addr)(H:Hp)(Q:VK):Prop:=∃bs:List Bool,aC K H a @bm/\Q (.bl (bs.all _root_.id)) H
def Pm (K:Fg):List V->Hp->VK->Prop:=λxs H Q=>match xs with|[.ref a]=>KZ K a H Q|_=>False
theorem OZ (O:X.K=K)(I:X.calm=true):bj X (.builtin "all") (Pm K):=(DL O I).imp λxs H Q h=>by
 match xs,h with
 |[.ref a],h=>obtain ⟨j,h1⟩:=h;exact ⟨a,j,rfl,h1⟩
def yf (K:Fg)(p:Addr)(H:Hp)(Q:VK):Prop:=∃ys,(aC K H p ys\/az K H p ys)/\∀l,H l=none->Q (.ref l) @cj
def Pc (K:Fg):List V->Hp->VK->Prop:=λxs H Q=>match xs with|[.ref a]=>yf K a H Q|_=>False
theorem pX (O:X.K=K):bj X (.type "list") (Pc K):=(AU O).imp λxs H Q h=>by
 match xs,h with
 |[.ref a],h=>obtain ⟨ys,h1⟩:=h;exact ⟨a,ys,rfl,h1⟩
def Eo (K:Fg)(p:Addr)(H:Hp)(Q:VK):Prop:=∃ys,(aC K H p ys/\∀l,H l=none->Q (.ref l) @cT)\/(az K H p ys/\Q (.ref p) H)
def LV (K:Fg):List V->Hp->VK->Prop:=λxs H Q=>match xs with|[.ref a]=>Eo K a H Q|_=>False
theorem dE (O:X.K=K):bj X (.type "tuple") (LV K):=(yE O).imp λxs H Q h=>by
 match xs,h with
 |[.ref a],h=>obtain ⟨ys,h1⟩:=h;exact ⟨a,ys,rfl,h1⟩
def yj (K:Fg)(p:Addr)(H:Hp)(R:It->Hp->Prop):Prop:=(∃xs,aC K H p xs/\R (Ie K p) H)\/∃xs,az K H p xs/\R (Ic K p) H
def RG (K:Fg)(te:TE):TI:=λσ H R=>te σ H λx H1=>match x with| .str z=>R (Q8 z) H1| .ref p=>yj K p H1 R|_=>False
end
theorem iP {X:Cx}{K:Fg}(Y:X.K=K){tg e:Expr}{te:TE}(Z:PE X e te):PI X tg e (RG K te):=by
 subst Y;intro pins s σ H R I h;rwa[bP (Z pins s σ H _ I h) λv O j=> ?_];obtain ⟨x,H1,J,S,q⟩:=j;have W:∀ {t:TE},True:=λ{_}=>trivial
 have L:((∃z,x= .str z/\R (Q8 z) H1)\/(∃a,x= .ref a/\(∃xs,aC X.K H1 a xs)/\R (Ie X.K a) H1)\/(∃a,x= .ref a/\(∃xs,az X.K H1 a xs)/\R (Ic X.K a) H1))->
  wpAny @d X.A (pyIter v) @eI X.xe O:=λq=>by
  rcases q with ⟨z,rfl,q⟩|⟨a,rfl,⟨xs,G⟩,q⟩|⟨a,rfl,⟨xs,G⟩,q⟩
  ·obtain ⟨t,rfl⟩:=S
   have fp:∀b∈[O.heap.objs.size],jy X pins H1 b:=λb F=>by
    have e:b=O.heap.objs.size:=by simpa using F
    subst e;exact J.fpOk @h @ci
   cases U:z.cps.all (· <128)
   ·exact wpAny_pyIter_wide U ⟨O.heap.objs.size,[O.heap.objs.size],_,_,H1,rfl,J.kept (t':=O.toks) λb o e=>Heap.get?_push_of_some _ e,ui (.inr rfl),⟨Nat.zero_le _,_,Heap.get?_push_size _ rfl,rfl,rfl⟩,fp,q⟩
   ·exact wpAny_pyIter_ascii U ⟨O.heap.objs.size,[O.heap.objs.size],_,_,H1,rfl,J.kept (t':=O.toks) λb o e=>Heap.get?_push_of_some _ e,ui (.inl rfl),⟨Nat.zero_le _,_,Heap.get?_push_size _ rfl,rfl,rfl⟩,fp,q⟩
  ·cases S;obtain ⟨its,rv,p,hz⟩:=J.list G;rwa[wpAny_pyIter_list p.isList ?_];rwa[⟨O.heap.objs.size,[O.heap.objs.size],_,_,H1,rfl,J.kept (t':=O.toks) λb o e=>Heap.get?_push_of_some _ e,Ce a _,⟨_,Heap.get?_push_size _ rfl,rfl,rfl⟩,λb F=> ?_,q⟩]
   have e:b=O.heap.objs.size:=by simpa using F
   subst e;exact J.fpOk @h @ci
  ·cases S;obtain ⟨its,rv,p,hz⟩:=J.tuple G;rwa[wpAny_pyIter_tuple (show O.heap.IsTuple a its.toArray from p) ?_];rwa[⟨O.heap.objs.size,[O.heap.objs.size],_,_,H1,rfl,J.kept (t':=O.toks) λb o e=>Heap.get?_push_of_some _ e,zn a _,⟨_,Heap.get?_push_size _ rfl,rfl,rfl⟩,λb F=> ?_,q⟩]
   have e:b=O.heap.objs.size:=by simpa using F
   subst e;exact J.fpOk @h @ci
 cases x with
 |str z=>exact L (.inl ⟨z,rfl,q⟩)
 |ref p=>
  rcases q with ⟨xs,h1,h2⟩|⟨xs,h1,h2⟩
  ·exact L (.inr (.inl ⟨p,rfl,⟨xs,h1⟩,h2⟩))
  ·exact L (.inr (.inr ⟨p,rfl,⟨xs,h1⟩,h2⟩))
 |_=>exact False.elim q
section
variable {X:Cx}{tg:Expr}
def O5 (ta:TA):TI:=λσ H R=>ta σ H λvs H1=>match vs with|[.int j]=>(-4611686018427387904<=j/\j<4611686018427387904)/\R (Iq 0 j.toNat) H1|_=>False
def O4 (ta:TA):TI:=λσ H R=>ta σ H λvs H1=>match vs with|[.int i,.int j]=>(-4611686018427387904<=i/\i<4611686018427387904/\ -4611686018427387904<=j/\j<4611686018427387904)/\R (Iq i (j - i).toNat) H1|_=>False
theorem bS {a:Expr}{ta:TA}{p pos:Pos}(W:Gl X "range")(G:X.mg "range"=none)(J:PA X [a] ta)(hs:bH a=true:=by rfl):PI X tg (.Call (.Name "range" p) [a] [] pos) (O5 ta):=by
 intro pins s σ H R I h;rwa[Call_ (ik I W G boot_range (PyProof.Rows.callWith_type1 (bP @du λY U z=> ?_) (aS hs) rfl))];obtain ⟨S,H1,L,O,F⟩:=z
 match S,F with
 |[.int j],F=>
  cases O with
  |cons r rr=>
   cases rr;obtain ⟨t,rfl⟩:=r;have h1: -4611686018427387904<=j:=F.1.1;have h2:j<4611686018427387904:=F.1.2;exact call_range_1 (xY L @c @c @c @c (by simpa using F.2))
theorem Cd {a b:Expr}{ta:TA}{p pos:Pos}(W:Gl X "range")(J:X.mg "range"=none)(L:PA X [a,b] ta)(hs:bH a=true:=by rfl)(F:bH b=true:=by rfl):
 PI X tg (.Call (.Name "range" p) [a,b] [] pos) (O4 ta):=by
 intro pins s σ H R I h;rwa[Call_ (ik I W J boot_range (PyProof.Rows.callWith_type1 (bP @dt λZ Y z=> ?_) (aS hs) (bN (by show (bH b&&true)=true;rw [F];rfl))))];obtain ⟨U,H1,O,S,G⟩:=z
 match U,G with
 |[.int i,.int j],G=>
  cases S with
  |cons r rr=>
   cases rr with
   |cons r' rr=>
    cases rr;obtain ⟨t,rfl⟩:=r;obtain ⟨t',rfl⟩:=r';obtain ⟨⟨h1,h2,h3,h4⟩,q⟩:=G;exact call_range_2 (xY O @c @c @c @c q)
def setL (p:Addr)(k:Int)(v:V)(H:Hp)(Q:Hp->Prop):Prop:=∃xs j,H p=some (.lst xs)/\wE xs.length k=some j/\Q @bF
def RF:V->V->V->Hp->(Hp->Prop)->Prop:=λo i v H Q=>match o,i with| .ref p,.int k=>setL p k v H Q|_,_=>False
theorem jT:HS X RF:=by
 intro pins s σ H o i v O z u Q I F G J h
 match o,i,h with
 | .ref p,.int k,h=>
   obtain ⟨xs,j,h1,h2,L⟩:=h;exact EO pins s σ H _ _ v O z u Q I F G J ⟨p,xs,k,j,rfl,rfl,h1,h2,L⟩
def Ej (K:Fg)(n:Nat)(a:Addr)(H:Hp)(P:List V->Prop):Prop:=∃xs,az K H a xs/\xs.length=n/\P xs
def RC (K:Fg)(n:Nat)(t:B6):TG:=λv σ H Q=>match v with| .ref a=>Ej K n a H λxs=>t xs σ H Q|_=>False
def LO (t:TG)(u:B6):B6:=λvs σ H Q=>match vs with|v::r=>t v σ H λσ' H'=>u r σ' H' Q|[]=>False
def OR:B6:=λvs σ H Q=>match vs with|[]=>Q σ H|_=>False
theorem eU:DP X [] OR:=λpins s σ H R j Q I r h=>by
 match R,h with
 |[],h=>exact Ju pins s σ H [] j Q I r ⟨rfl,h⟩
theorem aM {e:Expr}{es:List Expr}{t:TG}{u:B6}(h1:PG X e t)(h2:DP X es u)(hs:bH e=true:=by rfl):DP X (e::es) (LO t u):=λpins s σ H R j Q I r h=>by
 match R,h with
 |v::vr,h=>exact Fw h1 h2 (by cases e<;>first|rfl|cases hs) pins s σ H _ j Q I r ⟨v,vr,rfl,h⟩
theorem gv {K:Fg}(O:X.K=K){es:List Expr}{k:Nat}{t:B6}{n:Nat}{pos:Pos}(F:X.calm=true)(h:DP X es t)
(z:(assignEach es X.env).length=n:=by rfl)(j:(assignEach es X.env).findIdx? (·.1)=none:=by rfl):PG X (.Tuple es k pos) (RC K n t):=λpins s σ H v u Q I r q=>by
 match v,q with
 | .ref a,⟨xs,h1,h2,h3⟩=>exact Jv O F h z j pins s σ H _ u Q I r ⟨a,xs,rfl,h1,h2,h3⟩
end
def La (pk:List @H)(wi:TI)(g:TG)(tt:TT)(te:TE):TE:=λσ H Q=>wi σ H λJ H1=>wT J pk g tt te σ H1 Q
def RV (wi:TI)(g:TG)(tb:TS):TS:=λD σ H=>wi σ H λJ H1=>AQ J g tb D σ H1
section
variable {X:Cx}{scope:Scope}{N':List Str}{pk:List @H}{tg elt iter:Expr}{ifs:List Expr}{pos:Pos}{wi:TI}{g:TG}{tt:TT}{te:TE}
noncomputable def wq:Expr->Bool
 | .Set _ _ _=>false
 |_=>true
theorem jp {e:Expr}{env:Env}(h:wq e=true)(x:Value):foldedSetIterable e env x=pure x:=by
 unfold foldedSetIterable
 cases e<;>first|rfl|cases h
theorem bG (I:X.calm=true)(S:dj X scope N' pk)(hi:PI X tg iter wi)(W:∀C s H ex,PG @o tg g)(J:∀C s H ex,Ip @o ifs tt)
(U:∀C s H ex,PE @o elt te)(hs:wq iter=true:=by rfl):PE X (.ListComp elt [⟨tg,iter,ifs,0⟩] scope pos) (La pk wi g tt te):=
 Jx I S hi W J U (jp hs)
theorem cu {i:Nat}{x:Str}{F j:Pos}(I:X.calm=true)(z:X.N.Nodup)(L:X.N[i]? =some x)(O:Lw X.env.scope x)(S:dj X scope N' pk)(hi:PI X tg iter wi)(W:∀C s H ex,PG @o tg g)
(J:∀C s H ex,Ip @o ifs tt)(U:∀C s H ex,PE @o elt te)(hs:wq iter=true:=by rfl)
(aa:swapsWith (.ListComp elt [⟨tg,iter,ifs,0⟩] scope pos) (some (.Name x F)) j.line X.env=pure true:=by rfl)(G:X.fn x=true\/X.env.scope.names.lookup x=some .local:=by first|exact .inl rfl|exact .inr rfl|assumption):
 PS X (.Assign [.Name x F] (.ListComp elt [⟨tg,iter,ifs,0⟩] scope pos) j) (Ew (La pk wi g tt te) (oW i)):=
 Jq I z L O S hi W J U (jp hs) aa G
theorem ce {U:List Stmt}{tb:TS}(G:PassesOwn @d X.A X.env X.xe)(I:X.calm=true)(hi:PI X tg iter wi)(W:PG X tg g)(F:uX X U tb)
(hs:wq iter=true:=by rfl):PS X (.For tg iter U [] pos) (RV wi g tb):=MO G I hi W F (jp hs)
end
def IJ (t u:TS):TS:=λD σ H=>∃M:St->Hp->Prop,t {D with nx:=M} σ H/\∀σ' H',M σ' H'->u D σ' H'
theorem bV {X:Cx}{st:Stmt}{eK:List Stmt}{t u:TS}(h1:PS X st t)(h2:uX X eK u):uX X (st::eK) (IJ t u):=by
 intro pins s σ H D I h;obtain ⟨M,J,z⟩:=h;rwa[wpAny_execs_cons (bP (h1 pins s σ H {D with nx:=M} I J) λf O q=> ?_)]
 cases f with
 |next=>
  obtain ⟨j,H',F,q⟩:=q;exact h2 pins O j H' D F (z j H' q)
 |ret v=>exact q
 |brk=>exact q
 |cont=>exact q
theorem fz {t u:TS}{D:pG}{σ:St}{H:Hp}(M:St->Hp->Prop)(h1:t {D with nx:=M} σ H)(h2:∀σ' H',M σ' H'->u D σ' H'):IJ t u D σ H:=⟨M,h1,h2⟩
section
variable {K:Fg}{H:Hp}{p q:Addr}{xs ys:List V}{Q:VK}
theorem bZ (h:aC K H p ys)(g:Q (.int ys.length) H):iY K p H Q:=⟨ys,.inl h,g⟩
theorem eX (h:az K H p ys)(g:Q (.int ys.length) H):iY K p H Q:=⟨ys,.inr h,g⟩
theorem aW {i:Int}{v:V}(h:aC K H p xs)(e:k7 xs i=some v)(g:Q v H):oG K p i H Q:=⟨xs,.inl h,v,e,g⟩
theorem ae {i:Int}{v:V}(h:az K H p xs)(e:k7 xs i=some v)(g:Q v H):oG K p i H Q:=⟨xs,.inr h,v,e,g⟩
theorem pL {z:Str}{i:Int}{c:Nat}(F:z.length<=sizeLine)(e:k7 z.cps.toList i=some c)(g:Q (.str ⟨#[c]⟩) H):vD z i H Q:=⟨F,c,e,g⟩
theorem iZ {x:V}(h:aC K H p xs)(h1:dM x=true)(h2:xs.all dM=true)(g:Q (.bl (za x xs)) H):um K false x p H Q:=⟨xs,.inl h,h1,h2,g⟩
theorem mW {x:V}(h:aC K H p xs)(h1:dM x=true)(h2:xs.all dM=true)(g:Q (.bl (!za x xs)) H):um K true x p H Q:=⟨xs,.inl h,h1,h2,g⟩
theorem Ck {x:V}(h:az K H p xs)(h1:dM x=true)(h2:xs.all dM=true)(g:Q (.bl (!za x xs)) H):um K true x p H Q:=⟨xs,.inr h,h1,h2,g⟩
theorem NY {x:Str}{n:Int}(e:PySem.intText? x=some n)(W:x.length<=640)(g:Q (.int n) H):BG x H Q:=⟨n,e,W,g⟩
theorem IW {R:Bool->Hp->Prop}(h:aC K H p xs)(g:R (!xs.isEmpty) H):qv K p H R:= .inl ⟨xs,.inl h,g⟩
theorem Mq {lo hi:Option Int}(h:aC K H p xs)(g:∀l,H l=none->Q (.ref l) (upd H l (.lst @bx))):oF K p lo hi H Q:= .inl ⟨xs,h,g⟩
theorem Mp {lo hi:Option Int}(h:az K H p xs)(G: ¬(HT.sIx xs.length 0 lo=0/\HT.sIx xs.length xs.length hi=xs.length))(g:∀l,H l=none->Q (.ref l) (upd H l (.tup @bx))):oF K p lo hi H Q:= .inr ⟨xs,h,G,g⟩
theorem Gw {z:Str}{ts:List Str}(h:aC K H p @dv)(h1:(ts.toArray.foldl (· + ·.length+z.length) 0)<=sizeLine)(h2:(Builtin.Str.glued z ts).length<=sizeLine)(g:Q (.str @co) H):yh K z p H Q:=⟨ts,h,h1,h2,g⟩
theorem fQ {y:V}(h:H p=some (.lst xs))(F:xs.length<sizeLine)(g:Q .non (upd H p (.lst (xs++[y])))):KR p y H Q:=⟨xs,h,F,g⟩
theorem QW {bs:List Bool}(h:aC K H p @bm)(g:Q (.bl @gS) H):KZ K p H Q:=⟨bs,h,g⟩
theorem Ps (h:aC K H p ys)(g:∀l,H l=none->Q (.ref l) @cT):Eo K p H Q:=⟨ys,.inl ⟨h,g⟩⟩
theorem bL {R:It->Hp->Prop}(h:aC K H p xs)(g:R (Ie K p) H):yj K p H R:= .inl ⟨xs,h,g⟩
theorem d9 {R:It->Hp->Prop}(h:az K H p xs)(g:R (Ic K p) H):yj K p H R:= .inr ⟨xs,h,g⟩
theorem jW {k:Int}{j:Nat}{v:V}{R:Hp->Prop}(h:H p=some (.lst xs))(Z:wE xs.length k=some j)(g:R @bF):setL p k v H R:=⟨xs,j,h,Z,g⟩
theorem jU {n:Nat}{P:List V->Prop}(h:az K H p xs)(W:xs.length=n)(g:P xs):Ej K n p H P:=⟨xs,h,W,g⟩
end
theorem du {i j:Int}(h1: -18446744073709551616<i)(h2:i<18446744073709551616):xj i j:= .inl ⟨h1,h2⟩
theorem io {i j:Int}(h1: -18446744073709551616<j)(h2:j<18446744073709551616):xj i j:= .inr ⟨h1,h2⟩
theorem rN {i j:Int}(h1:0<j)(h2:j<1073741824):DT i j:=⟨h1,h2⟩
theorem yA {i j:Int}(h1:0<=j)(h2:j<=1000000)(L:i.natAbs<18446744073709551616):A5 i j:=⟨h1,h2,L⟩
theorem eM (x:Str):x.cps.toList.length=x.length:=by simp [Str.length]
theorem EN {n:Nat}(h:n<=640):n<=sizeLine:=by rw [sizeLine_eq];lia
theorem Bk {n:Nat}(h:n<=9000):n<sizeLine:=by rw [sizeLine_eq];lia
def SX (K:Fg)(H:Hp)(a:Addr)(ns:List Int):Prop:=aC K H a @cg/\ns.length<=63
inductive D where
 |non|bl (b:Bool)|int (i:Int)|str (x:Str)|lst (ds:List D)|tup (ds:List D)
mutual
noncomputable def jP:D->D->Bool
 | .non,.non=>true
 | .bl a,.bl b=>a==b
 | .bl a,.int b=>(if a then 1 else 0)==b
 | .int a,.bl b=>a==(if b then 1 else 0)
 | .int a,.int b=>a==b
 | .str a,.str b=>a==b
 | .lst xs,.lst ys=>eqDs xs ys
 | .tup xs,.tup ys=>eqDs xs ys
 |_,_=>false
noncomputable def eqDs:List D->List D->Bool
 |[],[]=>true
 |x::xs,y::ys=>jP x y&&eqDs xs ys
 |_,_=>false
end
mutual
theorem mf:∀d:D,jP d d=true
 | .non=>rfl
 | .bl a=>by simp [jP]
 | .int a=>by simp [jP]
 | .str a=>by simp [jP]
 | .lst xs=>by rw [jP];exact eqDs_refl xs
 | .tup xs=>by rw [jP];exact eqDs_refl xs
theorem eqDs_refl:∀ds:List D,eqDs ds ds=true
 |[]=>rfl
 |d::ds=>by rw [eqDs,mf d,eqDs_refl ds];rfl
end
theorem fK:∀ {xs ys:List D},xs.length≠ys.length->eqDs xs ys=false
 |[],[],h=>absurd rfl h
 |[],_::_,_=>by simp [eqDs]
 |_::_,[],_=>by simp [eqDs]
 |x::xs,y::ys,h=>by
  rw [eqDs,fK (xs:=xs) (ys:=ys) (by simpa using h),Bool.and_false]
theorem fL:∀ {xs ys:List D},xs.length=ys.length->((List.range xs.length).all λj=>jP (xs.getD j .non) (ys.getD j .non))=eqDs xs ys
 |[],[],_=>rfl
 |[],_::_,h=>by simp at h
 |_::_,[],h=>by simp at h
 |x::xs,y::ys,h=>by
  have z:=fL (xs:=xs) (ys:=ys) (by simpa using h);rw [eqDs,<-z,length_cons,range_succ_eq_map,all_cons,all_map];rfl
inductive bM (K:Fg)(H:Hp):V->D->Prop
 |non:bM K H .non .non
 |bl (b:Bool):bM K H (.bl b) (.bl b)
 |int (i:Int):bM K H (.int i) (.int i)
 |str (x:Str):bM K H (.str x) (.str x)
 |lst {a:Addr} {xs:List V} {ds:List D} (h:aC K H a xs) (hl:xs.length=ds.length) (hi:∀(i:Nat) x d,xs[i]? =some x->ds[i]? =some d->bM K H x d):bM K H (.ref a) (.lst ds)
 |tup {a:Addr} {xs:List V} {ds:List D} (h:az K H a xs) (hl:xs.length=ds.length) (hi:∀(i:Nat) x d,xs[i]? =some x->ds[i]? =some d->bM K H x d):bM K H (.ref a) (.tup ds)
mutual
noncomputable def iO:D->Nat
 | .lst ds=>deps ds+1
 | .tup ds=>deps ds+1
 |_=>0
noncomputable def deps:List D->Nat
 |[]=>0
 |d::ds=>max (iO d) (deps ds)
end
theorem kT:∀ {ds:List D} {i:Nat} {d:D},ds[i]? =some d->iO d<=deps ds
 |[],_,_,h=>by simp at h
 |d::ds,0,_,h=>by simp at h;subst h;rw [deps];exact Nat.le_max_left _ _
 |d::ds,i+1,e,h=>by
  have:=kT (ds:=ds) (i:=i) (d:=e) (by simpa using h);rw [deps];exact Nat.le_trans this (Nat.le_max_right _ _)
section
variable {X:Cx}{pins:List (Addr×Obj)}{σ:St}{H:Hp}{s:Shared}
theorem yb {a:Addr}{xs ys:List V}(I:aA X pins σ H s)(h:aC X.K H a xs)(h':az X.K H a ys):False:=by
 obtain ⟨its,_,p,_⟩:=I.list h;obtain ⟨F,_,p2,_⟩:=I.tuple h';obtain ⟨o,e,c,_⟩:=p.isList;obtain ⟨o',j,z,_⟩:=p2;rw [e] at j;cases j;rw [c] at z;injection z with c2;exact absurd c2 @b
theorem bM.inj (I:aA X pins σ H s){x:V}{d e:D}(h:bM X.K H x d)(h':bM X.K H x e):d=e:=by
 induction h generalizing e with
 |non=>cases h';rfl
 |bl b=>cases h';rfl
 |int i=>cases h';rfl
 |str z=>cases h';rfl
 | @lst a xs ds hq hl hi ih=>
   cases h' with
   | @lst _ ys es hq' hl' hi'=>
     have j:=I.list_inj hq hq';subst j;congr 1;rwa[ext_getElem @c λi h1 h2=> ?_];exact ih i xs[i] _ @e (by simp [h1]) (hi' i xs[i] _ @e (by simp [h2]))
   |tup hq' _ _=>exact (yb I hq hq').elim
 | @tup a xs ds hq hl hi ih=>
   cases h' with
   | @tup _ ys es hq' hl' hi'=>
     have j:=I.tuple_inj hq hq';subst j;congr 1;rwa[ext_getElem @c λi h1 h2=> ?_];exact ih i xs[i] _ @e (by simp [h1]) (hi' i xs[i] _ @e (by simp [h2]))
   |lst hq' _ _=>exact (yb I hq' hq).elim
open PySem.SeqAt in
theorem jq (I:aA X pins σ H s){x:V}{d:D}(h:bM X.K H x d):∀ {y:V} {e:D} {u v:Value} {A:Around},bM X.K H y e->aF x u->aF y v->A.units+iO d<cLine->EqAt A s u v (jP d e):=by
 have F:∀ {x y:V} {u v:Value} {A:Around},dM x=true->dM y=true->aF x u->aF y v->EqAt A s u v (Kw x y):=λf1 f2 Y Z=>He Y Z f1 f2
 induction h with
 |non=>
  intro y e u v A U L G hu
  cases U with
  |non=>exact F (x:= .non) (y:= .non) rfl rfl L G
  |bl b=>exact F (x:= .non) (y:= .bl b) rfl rfl L G
  |int i=>exact F (x:= .non) (y:= .int i) rfl rfl L G
  |str z=>exact F (x:= .non) (y:= .str z) rfl rfl L G
  |lst hq _ _=>cases L;cases G;obtain ⟨_,_,p,_⟩:=I.list hq;exact EqAt.none_list p.isList @c
  |tup hq _ _=>cases L;cases G;obtain ⟨_,_,p,_⟩:=I.tuple hq;exact EqAt.none_tuple p @c
 |bl b=>
  intro y e u v A U L G hu
  cases U with
  |non=>exact F (x:= .bl b) (y:= .non) rfl rfl L G
  |bl c=>exact F (x:= .bl b) (y:= .bl c) rfl rfl L G
  |int i=>exact F (x:= .bl b) (y:= .int i) rfl rfl L G
  |str z=>exact F (x:= .bl b) (y:= .str z) rfl rfl L G
  |lst hq _ _=>cases L;cases G;obtain ⟨_,_,p,_⟩:=I.list hq;exact EqAt.bool_list b p.isList @c
  |tup hq _ _=>cases L;cases G;obtain ⟨_,_,p,_⟩:=I.tuple hq;exact EqAt.bool_tuple b p @c
 |int i=>
  intro y e u v A U L G hu
  cases U with
  |non=>exact F (x:= .int i) (y:= .non) rfl rfl L G
  |bl c=>exact F (x:= .int i) (y:= .bl c) rfl rfl L G
  |int j=>exact F (x:= .int i) (y:= .int j) rfl rfl L G
  |str z=>exact F (x:= .int i) (y:= .str z) rfl rfl L G
  |lst hq _ _=>obtain ⟨t,rfl⟩:=L;cases G;obtain ⟨_,_,p,_⟩:=I.list hq;exact EqAt.int_list i t p.isList @c
  |tup hq _ _=>obtain ⟨t,rfl⟩:=L;cases G;obtain ⟨_,_,p,_⟩:=I.tuple hq;exact EqAt.int_tuple i t p @c
 |str z=>
  intro y e u v A U L G hu
  cases U with
  |non=>exact F (x:= .str z) (y:= .non) rfl rfl L G
  |bl c=>exact F (x:= .str z) (y:= .bl c) rfl rfl L G
  |int j=>exact F (x:= .str z) (y:= .int j) rfl rfl L G
  |str z'=>exact F (x:= .str z) (y:= .str z') rfl rfl L G
  |lst hq _ _=>obtain ⟨t,rfl⟩:=L;cases G;obtain ⟨_,_,p,_⟩:=I.list hq;exact EqAt.str_list z t p.isList @c
  |tup hq _ _=>obtain ⟨t,rfl⟩:=L;cases G;obtain ⟨_,_,p,_⟩:=I.tuple hq;exact EqAt.str_tuple z t p @c
 | @lst a xs ds hq hl hi ih=>
   intro y e u v A U L G hu
   have aa:iO (.lst ds)=deps ds+1:=by rw [iO]
   cases L
   obtain ⟨its,Y,S,z1⟩:=I.list hq
   cases U with
   |non=>cases G;exact EqAt.list_none S.isList @c
   |bl b=>cases G;exact EqAt.list_bool b S.isList @c
   |int j=>obtain ⟨t,rfl⟩:=G;exact EqAt.list_int j t S.isList @c
   |str z=>obtain ⟨t,rfl⟩:=G;exact EqAt.list_str z t S.isList @c
   | @lst b ys es hq' hl' hi'=>
     cases G
     by_cases R:a=b
     ·subst R
      have e:=bM.inj I (.lst hq hl hi) (.lst hq' hl' hi')
      rw [<-e,mf]
      exact EqAt.same _
     obtain ⟨J,Z,p2,z2⟩:=I.list hq'
     rw [jP]
     have l1:=Y.length
     have l2:=Z.length
     by_cases O:ds.length=es.length
     ·rw [<-fL O]
      have ac:ds.length=its.toArray.size:=by rw [size_toArray];lia
      rw [ac]
      rwa[EqAt.of_refs R (RcAt.lists S.isList p2.isList (by simp only [size_toArray];lia) @c λj h1 h2=> ?_)]
      have j1:j<xs.length:=by rw [size_toArray] at h1;lia
      have j2:j<ys.length:=by rw [size_toArray] at h2;lia
      obtain ⟨w1,W,q1⟩:=Y.get (i:=j) (x:=xs[j]) @e
      obtain ⟨w2,e2,q2⟩:=Z.get (i:=j) (x:=ys[j]) @e
      have k1:its.toArray[j]=w1:=by
       have:its[j]? =some its.toArray[j]:=by simp
       rw [this] at W;exact Option.some.inj W
      have k2:J.toArray[j]=w2:=by
       have:J[j]? =some J.toArray[j]:=by simp
       rw [this] at e2;exact Option.some.inj e2
      rw [k1,k2]
      have d1:ds[j]? =some @bn:=by simp [List.getD,getElem?_eq_getElem (show j<ds.length by lia)]
      have d2:es[j]? =some @bo:=by simp [List.getD,getElem?_eq_getElem (show j<es.length by lia)]
      have ab:=kT d1
      rwa[ih j xs[j] _ @e d1 (hi' j ys[j] _ @e d2) q1 q2 ?_]
      have:A.in1.units=A.units+1:=rfl
      lia
     ·rw [fK O]
      exact EqAt.of_refs R (RcAt.lists_lengths S.isList p2.isList (by simp only [size_toArray];rw [bne_iff_ne];lia) @c)
   |tup hq' _ _=>cases G;obtain ⟨_,_,p2,_⟩:=I.tuple hq';exact EqAt.list_tuple S.isList p2 @c
 | @tup a xs ds hq hl hi ih=>
   intro y e u v A U L G hu
   have aa:iO (.tup ds)=deps ds+1:=by rw [iO]
   cases L
   obtain ⟨its,Y,S,z1⟩:=I.tuple hq
   cases U with
   |non=>cases G;exact EqAt.tuple_none S @c
   |bl b=>cases G;exact EqAt.tuple_bool b S @c
   |int j=>obtain ⟨t,rfl⟩:=G;exact EqAt.tuple_int j t S @c
   |str z=>obtain ⟨t,rfl⟩:=G;exact EqAt.tuple_str z t S @c
   |lst hq' _ _=>cases G;obtain ⟨_,_,p2,_⟩:=I.list hq';exact EqAt.tuple_list S p2.isList @c
   | @tup b ys es hq' hl' hi'=>
     cases G
     by_cases R:a=b
     ·subst R
      have e:=bM.inj I (.tup hq hl hi) (.tup hq' hl' hi')
      rw [<-e,mf]
      exact EqAt.same _
     obtain ⟨J,Z,p2,z2⟩:=I.tuple hq'
     rw [jP]
     have l1:=Y.length
     have l2:=Z.length
     have ad:eqDs ds es=((List.range @cd).all @eL&&its.toArray.size==J.toArray.size):=by
      by_cases O:ds.length=es.length
      ·have W:its.toArray.size=ds.length:=by rw [size_toArray];lia
       have e2:J.toArray.size=ds.length:=by rw [size_toArray];lia
       rw [W,e2,Nat.min_self,fL O];simp
      ·rw [fK O]
       have:(its.toArray.size==J.toArray.size)=false:=beq_eq_false_iff_ne.mpr (by simp only [size_toArray];lia)
       rw [this,Bool.and_false]
     rw [ad]
     rwa[EqAt.of_refs R (RcAt.tuples S p2 @c λj h1 h2=> ?_)]
     have j1:j<xs.length:=by rw [size_toArray] at h1;lia
     have j2:j<ys.length:=by rw [size_toArray] at h2;lia
     obtain ⟨w1,W,q1⟩:=Y.get (i:=j) (x:=xs[j]) @e
     obtain ⟨w2,e2,q2⟩:=Z.get (i:=j) (x:=ys[j]) @e
     have k1:its.toArray[j]=w1:=by
      have:its[j]? =some its.toArray[j]:=by simp
      rw [this] at W;exact Option.some.inj W
     have k2:J.toArray[j]=w2:=by
      have:J[j]? =some J.toArray[j]:=by simp
      rw [this] at e2;exact Option.some.inj e2
     rw [k1,k2]
     have d1:ds[j]? =some @bn:=by simp [List.getD,getElem?_eq_getElem (show j<ds.length by lia)]
     have d2:es[j]? =some @bo:=by simp [List.getD,getElem?_eq_getElem (show j<es.length by lia)]
     have ab:=kT d1
     rwa[ih j xs[j] _ @e d1 (hi' j ys[j] _ @e d2) q1 q2 ?_]
     have:A.in1.units=A.units+1:=rfl
     lia
end
def uE (K:Fg)(x y:V)(H:Hp)(P:Bool->Prop):Prop:=∃d e,bM K H x d/\bM K H y e/\iO d<=60/\P (jP d e)
theorem N9 {K:Fg}{x y:V}{H:Hp}{P:Bool->Prop}{d e:D}(h1:bM K H x d)(h2:bM K H y e)(J:iO d<=60)(g:P (jP d e)):uE K x y H P:=⟨d,e,h1,h2,J,g⟩
theorem N8 {K:Fg}{x y:V}{H:Hp}{P:Bool->Prop}{d:D}(h1:bM K H x d)(h2:bM K H y d)(J:iO d<=60)(g:P true):uE K x y H P:=⟨d,d,h1,h2,J,by rw [mf];exact g⟩
def Pi (K:Fg):R2:=λx y H Q=>match QN x y with|some b=>Q (.bl b) H|none=>uE K x y H λb=>Q (.bl b) H
def O7 (K:Fg):R2:=λx y H Q=>match QN x y with|some b=>Q (.bl (!b)) H|none=>uE K x y H λb=>Q (.bl (!b)) H
section
variable {X:Cx}{K:Fg}{m:Nat}
theorem xA {d:D}(S:cr m X.A)(J:iO d<=60):X.A.units+iO d<cLine:=by have:=S.un;lia
open PySem.SeqAt in
theorem gB (hK:X.K=K)(hr:cr m X.A):dA X (compareOp .Eq) (Pi K):=by
 subst hK
 intro pins s σ H x y v u Q I R L h
 unfold Pi at h
 cases e:QN x y with
 |some b=>
  rw [e] at h
  obtain ⟨h1,h2⟩:=G0 e
  exact Qk pins s σ H x y v u Q I R L ⟨h1,by rw [h2];exact h⟩
 |none=>
  rw [e] at h
  obtain ⟨d,e',h1,h2,hd,q⟩:=h
  have F:EP X pins σ Q (.bool (jP d e')) s:=⟨.bl _,H,I,rfl,q⟩
  have hu:=xA (X:=X) hr hd
  have G:X.A.units<cLine:=by lia
  cases h1 with
  | @lst a xs ds hq hl hi=>
    have D1:bM X.K H (.ref a) (.lst ds):= .lst hq hl hi
    cases R
    obtain ⟨its,Z,S,z1⟩:=I.list hq
    cases h2 with
    |non=>cases L;exact RcAt.list_none S.isList G _ _ _ _ F
    |bl b=>cases L;exact RcAt.list_bool b S.isList G _ _ _ _ F
    |int j=>obtain ⟨t,rfl⟩:=L;exact RcAt.list_int j t S.isList G _ _ _ _ F
    |str z=>obtain ⟨t,rfl⟩:=L;exact RcAt.list_str z t S.isList G _ _ _ _ F
    |tup hq' _ _=>cases L;obtain ⟨_,_,p2,_⟩:=I.tuple hq';exact RcAt.list_tuple S.isList p2 G _ _ _ _ F
    | @lst b ys es hq' hl' hi'=>
      cases L
      obtain ⟨J,r2,p2,z2⟩:=I.list hq'
      have aa:iO (.lst ds)=deps ds+1:=by rw [iO]
      rw [jP] at F
      have l1:=Z.length
      have l2:=r2.length
      by_cases O:ds.length=es.length
      ·rw [<-fL O,show ds.length=its.toArray.size by rw [size_toArray];lia] at F
       rwa[RcAt.lists S.isList p2.isList (by simp only [size_toArray];lia) G @dk _ _ _ _ F]
       have j1:j<xs.length:=by rw [size_toArray] at g1;lia
       have j2:j<ys.length:=by rw [size_toArray] at g2;lia
       obtain ⟨w1,U,q1⟩:=Z.get (i:=j) (x:=xs[j]) @e
       obtain ⟨w2,W,q2⟩:=r2.get (i:=j) (x:=ys[j]) @e
       have k1:its.toArray[j]=w1:=by
        have:its[j]? =some its.toArray[j]:=by simp
        rw [this] at U;exact Option.some.inj U
       have k2:J.toArray[j]=w2:=by
        have:J[j]? =some J.toArray[j]:=by simp
        rw [this] at W;exact Option.some.inj W
       rw [k1,k2]
       have Y:ds[j]? =some @bn:=by simp [List.getD,getElem?_eq_getElem (show j<ds.length by lia)]
       have d2:es[j]? =some @bo:=by simp [List.getD,getElem?_eq_getElem (show j<es.length by lia)]
       have ab:=kT Y
       rwa[jq I (hi j xs[j] _ @e Y) (hi' j ys[j] _ @e d2) q1 q2 ?_]
       have:X.A.in1.units=X.A.units+1:=rfl
       lia
      ·rw [fK O] at F
       exact RcAt.lists_lengths S.isList p2.isList (by simp only [size_toArray];rw [bne_iff_ne];lia) G _ _ _ _ F
  | @tup a xs ds hq hl hi=>
    cases R
    obtain ⟨its,Z,S,z1⟩:=I.tuple hq
    cases h2 with
    |non=>cases L;exact RcAt.tuple_none S G _ _ _ _ F
    |bl b=>cases L;exact RcAt.tuple_bool b S G _ _ _ _ F
    |int j=>obtain ⟨t,rfl⟩:=L;exact RcAt.tuple_int j t S G _ _ _ _ F
    |str z=>obtain ⟨t,rfl⟩:=L;exact RcAt.tuple_str z t S G _ _ _ _ F
    |lst hq' _ _=>cases L;obtain ⟨_,_,p2,_⟩:=I.list hq';exact RcAt.tuple_list S p2.isList G _ _ _ _ F
    | @tup b ys es hq' hl' hi'=>
      cases L
      obtain ⟨J,r2,p2,z2⟩:=I.tuple hq'
      have aa:iO (.tup ds)=deps ds+1:=by rw [iO]
      rw [jP] at F
      have l1:=Z.length
      have l2:=r2.length
      have ad:eqDs ds es=((List.range @cd).all @eL&&its.toArray.size==J.toArray.size):=by
       by_cases O:ds.length=es.length
       ·have U:its.toArray.size=ds.length:=by rw [size_toArray];lia
        have W:J.toArray.size=ds.length:=by rw [size_toArray];lia
        rw [U,W,Nat.min_self,fL O];simp
       ·rw [fK O]
        have:(its.toArray.size==J.toArray.size)=false:=beq_eq_false_iff_ne.mpr (by simp only [size_toArray];lia)
        rw [this,Bool.and_false]
      rw [ad] at F
      rwa[RcAt.tuples S p2 G @dk _ _ _ _ F]
      have j1:j<xs.length:=by rw [size_toArray] at g1;lia
      have j2:j<ys.length:=by rw [size_toArray] at g2;lia
      obtain ⟨w1,U,q1⟩:=Z.get (i:=j) (x:=xs[j]) @e
      obtain ⟨w2,W,q2⟩:=r2.get (i:=j) (x:=ys[j]) @e
      have k1:its.toArray[j]=w1:=by
       have:its[j]? =some its.toArray[j]:=by simp
       rw [this] at U;exact Option.some.inj U
      have k2:J.toArray[j]=w2:=by
       have:J[j]? =some J.toArray[j]:=by simp
       rw [this] at W;exact Option.some.inj W
      rw [k1,k2]
      have Y:ds[j]? =some @bn:=by simp [List.getD,getElem?_eq_getElem (show j<ds.length by lia)]
      have d2:es[j]? =some @bo:=by simp [List.getD,getElem?_eq_getElem (show j<es.length by lia)]
      have ab:=kT Y
      rwa[jq I (hi j xs[j] _ @e Y) (hi' j ys[j] _ @e d2) q1 q2 ?_]
      have:X.A.in1.units=X.A.units+1:=rfl
      lia
  |non=>cases h2 with
   |lst hq _ _=>cases R;cases L;obtain ⟨_,_,p,_⟩:=I.list hq;exact RcAt.none_list p.isList G _ _ _ _ F
   |tup hq _ _=>cases R;cases L;obtain ⟨_,_,p,_⟩:=I.tuple hq;exact RcAt.none_tuple p G _ _ _ _ F
   |_=>cases e
  |bl b=>cases h2 with
   |lst hq _ _=>cases R;cases L;obtain ⟨_,_,p,_⟩:=I.list hq;exact RcAt.bool_list b p.isList G _ _ _ _ F
   |tup hq _ _=>cases R;cases L;obtain ⟨_,_,p,_⟩:=I.tuple hq;exact RcAt.bool_tuple b p G _ _ _ _ F
   |int j=>cases R;obtain ⟨t,rfl⟩:=L;exact RcAt.bool_int b j t _ _ _ _ F
   |_=>cases e
  |int i=>cases h2 with
   |lst hq _ _=>obtain ⟨t,rfl⟩:=R;cases L;obtain ⟨_,_,p,_⟩:=I.list hq;exact RcAt.int_list i t p.isList G _ _ _ _ F
   |tup hq _ _=>obtain ⟨t,rfl⟩:=R;cases L;obtain ⟨_,_,p,_⟩:=I.tuple hq;exact RcAt.int_tuple i t p G _ _ _ _ F
   |bl b=>obtain ⟨t,rfl⟩:=R;cases L;exact RcAt.int_bool i t b _ _ _ _ F
   |_=>cases e
  |str z=>cases h2 with
   |lst hq _ _=>obtain ⟨t,rfl⟩:=R;cases L;obtain ⟨_,_,p,_⟩:=I.list hq;exact RcAt.str_list z t p.isList G _ _ _ _ F
   |tup hq _ _=>obtain ⟨t,rfl⟩:=R;cases L;obtain ⟨_,_,p,_⟩:=I.tuple hq;exact RcAt.str_tuple z t p G _ _ _ _ F
   |_=>cases e
open PySem.SeqAt in
theorem A8 (hK:X.K=K)(hr:cr m X.A):dA X (compareOp .NotEq) (O7 K):=by
 subst hK
 intro pins s σ H x y v u Q I R L h
 unfold O7 at h
 cases e:QN x y with
 |some b=>
  rw [e] at h
  obtain ⟨h1,h2⟩:=G0 e
  exact Qf pins s σ H x y v u Q I R L ⟨h1,by rw [h2];exact h⟩
 |none=>
  rw [e] at h
  obtain ⟨d,e',h1,h2,hd,q⟩:=h
  have F:EP X pins σ Q (.bool (!jP d e')) s:=⟨.bl _,H,I,rfl,q⟩
  have hu:=xA (X:=X) hr hd
  have G:X.A.units<cLine:=by lia
  cases h1 with
  | @lst a xs ds hq hl hi=>
    have D1:bM X.K H (.ref a) (.lst ds):= .lst hq hl hi
    cases R
    obtain ⟨its,Z,S,z1⟩:=I.list hq
    cases h2 with
    |non=>cases L;exact RcNeAt.list_none S.isList G _ _ _ _ F
    |bl b=>cases L;exact RcNeAt.list_bool b S.isList G _ _ _ _ F
    |int j=>obtain ⟨t,rfl⟩:=L;exact RcNeAt.list_int j t S.isList G _ _ _ _ F
    |str z=>obtain ⟨t,rfl⟩:=L;exact RcNeAt.list_str z t S.isList G _ _ _ _ F
    |tup hq' _ _=>cases L;obtain ⟨_,_,p2,_⟩:=I.tuple hq';exact RcNeAt.list_tuple S.isList p2 G _ _ _ _ F
    | @lst b ys es hq' hl' hi'=>
      cases L
      obtain ⟨J,r2,p2,z2⟩:=I.list hq'
      have aa:iO (.lst ds)=deps ds+1:=by rw [iO]
      rw [jP] at F
      have l1:=Z.length
      have l2:=r2.length
      by_cases O:ds.length=es.length
      ·rw [<-fL O,show ds.length=its.toArray.size by rw [size_toArray];lia] at F
       rwa[RcNeAt.lists S.isList p2.isList (by simp only [size_toArray];lia) G @dk _ _ _ _ F]
       have j1:j<xs.length:=by rw [size_toArray] at g1;lia
       have j2:j<ys.length:=by rw [size_toArray] at g2;lia
       obtain ⟨w1,U,q1⟩:=Z.get (i:=j) (x:=xs[j]) @e
       obtain ⟨w2,W,q2⟩:=r2.get (i:=j) (x:=ys[j]) @e
       have k1:its.toArray[j]=w1:=by
        have:its[j]? =some its.toArray[j]:=by simp
        rw [this] at U;exact Option.some.inj U
       have k2:J.toArray[j]=w2:=by
        have:J[j]? =some J.toArray[j]:=by simp
        rw [this] at W;exact Option.some.inj W
       rw [k1,k2]
       have Y:ds[j]? =some @bn:=by simp [List.getD,getElem?_eq_getElem (show j<ds.length by lia)]
       have d2:es[j]? =some @bo:=by simp [List.getD,getElem?_eq_getElem (show j<es.length by lia)]
       have ab:=kT Y
       rwa[jq I (hi j xs[j] _ @e Y) (hi' j ys[j] _ @e d2) q1 q2 ?_]
       have:X.A.in1.units=X.A.units+1:=rfl
       lia
      ·rw [fK O] at F
       exact RcNeAt.lists_lengths S.isList p2.isList (by simp only [size_toArray];rw [bne_iff_ne];lia) G _ _ _ _ F
  | @tup a xs ds hq hl hi=>
    cases R
    obtain ⟨its,Z,S,z1⟩:=I.tuple hq
    cases h2 with
    |non=>cases L;exact RcNeAt.tuple_none S G _ _ _ _ F
    |bl b=>cases L;exact RcNeAt.tuple_bool b S G _ _ _ _ F
    |int j=>obtain ⟨t,rfl⟩:=L;exact RcNeAt.tuple_int j t S G _ _ _ _ F
    |str z=>obtain ⟨t,rfl⟩:=L;exact RcNeAt.tuple_str z t S G _ _ _ _ F
    |lst hq' _ _=>cases L;obtain ⟨_,_,p2,_⟩:=I.list hq';exact RcNeAt.tuple_list S p2.isList G _ _ _ _ F
    | @tup b ys es hq' hl' hi'=>
      cases L
      obtain ⟨J,r2,p2,z2⟩:=I.tuple hq'
      have aa:iO (.tup ds)=deps ds+1:=by rw [iO]
      rw [jP] at F
      have l1:=Z.length
      have l2:=r2.length
      have ad:eqDs ds es=((List.range @cd).all @eL&&its.toArray.size==J.toArray.size):=by
       by_cases O:ds.length=es.length
       ·have U:its.toArray.size=ds.length:=by rw [size_toArray];lia
        have W:J.toArray.size=ds.length:=by rw [size_toArray];lia
        rw [U,W,Nat.min_self,fL O];simp
       ·rw [fK O]
        have:(its.toArray.size==J.toArray.size)=false:=beq_eq_false_iff_ne.mpr (by simp only [size_toArray];lia)
        rw [this,Bool.and_false]
      rw [ad] at F
      rwa[RcNeAt.tuples S p2 G @dk _ _ _ _ F]
      have j1:j<xs.length:=by rw [size_toArray] at g1;lia
      have j2:j<ys.length:=by rw [size_toArray] at g2;lia
      obtain ⟨w1,U,q1⟩:=Z.get (i:=j) (x:=xs[j]) @e
      obtain ⟨w2,W,q2⟩:=r2.get (i:=j) (x:=ys[j]) @e
      have k1:its.toArray[j]=w1:=by
       have:its[j]? =some its.toArray[j]:=by simp
       rw [this] at U;exact Option.some.inj U
      have k2:J.toArray[j]=w2:=by
       have:J[j]? =some J.toArray[j]:=by simp
       rw [this] at W;exact Option.some.inj W
      rw [k1,k2]
      have Y:ds[j]? =some @bn:=by simp [List.getD,getElem?_eq_getElem (show j<ds.length by lia)]
      have d2:es[j]? =some @bo:=by simp [List.getD,getElem?_eq_getElem (show j<es.length by lia)]
      have ab:=kT Y
      rwa[jq I (hi j xs[j] _ @e Y) (hi' j ys[j] _ @e d2) q1 q2 ?_]
      have:X.A.in1.units=X.A.units+1:=rfl
      lia
  |non=>cases h2 with
   |lst hq _ _=>cases R;cases L;obtain ⟨_,_,p,_⟩:=I.list hq;exact RcNeAt.none_list p.isList G _ _ _ _ F
   |tup hq _ _=>cases R;cases L;obtain ⟨_,_,p,_⟩:=I.tuple hq;exact RcNeAt.none_tuple p G _ _ _ _ F
   |_=>cases e
  |bl b=>cases h2 with
   |lst hq _ _=>cases R;cases L;obtain ⟨_,_,p,_⟩:=I.list hq;exact RcNeAt.bool_list b p.isList G _ _ _ _ F
   |tup hq _ _=>cases R;cases L;obtain ⟨_,_,p,_⟩:=I.tuple hq;exact RcNeAt.bool_tuple b p G _ _ _ _ F
   |int j=>cases R;obtain ⟨t,rfl⟩:=L;exact RcNeAt.bool_int b j t _ _ _ _ F
   |_=>cases e
  |int i=>cases h2 with
   |lst hq _ _=>obtain ⟨t,rfl⟩:=R;cases L;obtain ⟨_,_,p,_⟩:=I.list hq;exact RcNeAt.int_list i t p.isList G _ _ _ _ F
   |tup hq _ _=>obtain ⟨t,rfl⟩:=R;cases L;obtain ⟨_,_,p,_⟩:=I.tuple hq;exact RcNeAt.int_tuple i t p G _ _ _ _ F
   |bl b=>obtain ⟨t,rfl⟩:=R;cases L;exact RcNeAt.int_bool i t b _ _ _ _ F
   |_=>cases e
  |str z=>cases h2 with
   |lst hq _ _=>obtain ⟨t,rfl⟩:=R;cases L;obtain ⟨_,_,p,_⟩:=I.list hq;exact RcNeAt.str_list z t p.isList G _ _ _ _ F
   |tup hq _ _=>obtain ⟨t,rfl⟩:=R;cases L;obtain ⟨_,_,p,_⟩:=I.tuple hq;exact RcNeAt.str_tuple z t p G _ _ _ _ F
   |_=>cases e
end
structure Oq (h:Heap)(a T:Addr)(cls:Value)(dd:Option Addr)(fl:Value):Prop where
 ex:∃oe vs oT ts,h.get? a=some oe/\oe.cls=cls/\oe.dict=dd/\oe.data= .fields vs/\vs[1]? =some (.ref T)/\vs[2]? =some .none/\T≠a/\h.get? T=some oT/\oT.data= .fields ts/\ts[3]? =some fl
structure Pass (fs:List Addr)(ch:List Addr)(h h':Heap):Prop where
 keep:∀b o,b∉ch->b∉fs->h.get? b=some o->h'.get? b=some o
 slot:∀b o,b∉ch->h.get? b=some o->∃sl,h'.get? b=some {o with slots:=sl}
theorem Kb {o:Obj}{vs:Array Value}(J:o.data= .fields vs)(f:Array Value->Array Value):Obj.mapFields f o= {o with data:= .fields (f vs)}:=by
 obtain ⟨c,d,j,sl⟩:=o;cases J;rfl
section
variable {M:Model}{A:Around}{E:Value->Shared->Prop}{s:Shared}
theorem uF {base:Heap}{env:Env}{outer:List Env}{L e:Addr}{R:Obj}{vs:Array Value}{G:Value}{F:Bool}{Q:Unit->Shared->Prop}
(ac:A.frames=some (env::outer))(hl:s.heap.FunFrames base (env::outer))(hf:env.frame=some L)(he:s.heap.get? e=some R)(hd:R.data= .fields vs)(hsz:1<vs.size)(h2:vs[2]? =some .none)
(h:∀h' T,Pass (wL (env::outer)) [e] s.heap h'->s.heap.get? T=none->Oq h' e T R.cls R.dict (rawInt L)->Q () {s with heap:=h'}):
 wpAny M A (do let a<-frameOf env;let pl<-entryPlaceOf L F;let b<-EntryCells.newEntry G a .none (rawInt L) .none pl;setField (.ref e) 1 b) Q E s:=by
 have aa:e∉(env::outer).filterMap (·.frame):=λhm=>by
  obtain ⟨_,o,U,ai⟩:=hl.mem hm;rw [he] at U;cases U;exact ai vs hd
 rwa[wpAny_bind (wpAny_frameOf_fun ac hl hf λj I=>wpAny_bind (wpAny_entryPlaceOf λpl Y=> ?_))];unfold EntryCells.newEntry newFields;rwa[wpAny_bind (wpAny_newObj_type ?_ (Y.sizeOk5 _ _ _ _ _))];have ab:j.get? e=some R:=(I.2.1 e aa).trans he;generalize U:({cls:= .type "traceback",dict:=none,data:= .fields ([G,.ref L,.none,rawInt L,.none]++(if pl.isEmpty then List.replicate 6 Value.none else pl)).toArray}:Obj)=o
 have aj:o.data= .fields ([G,.ref L,.none,rawInt L,.none]++(if pl.isEmpty then List.replicate 6 Value.none else pl)).toArray:=by rw [<-U]
 have ah:o.isFreed=false:=by rw [<-U];rfl
 have Z:=Heap.get?_push_of_some (h:=j) o ab;rwa[wpAny_setField Z hd hsz ?_];have S:j.objs.size≠e:=Nat.ne_of_gt (Heap.lt_size ab);have W:=Obj.data_mapFields hd (·.setIfInBounds 1 @ct);have ad:=Heap.get?_update_self (Obj.mapFields (·.setIfInBounds 1 @ct)) Z (Obj.isFreed_of_fields W);have ag:=(Heap.get?_update_other (j.push o) (Obj.mapFields (·.setIfInBounds 1 @ct)) (Ne.symm S)).trans (Heap.get?_push_size j ah)
 have J:∀b u,b≠e->j.get? b=some u->((j.push o).update e (Obj.mapFields (·.setIfInBounds 1 @ct))).get? b=some u:=λb u af hb=>by
  rw [Heap.get?_update_other _ _ (Ne.symm af)];exact Heap.get?_push_of_some _ hb
 rwa[h _ j.objs.size ⟨λb u hb ae O=> ?_,λb u hb O=> ?_⟩ (Heap.get?_none_of_le (by rw [I.1];exact Nat.le_refl _)) ⟨_,_,o,_,ad,?_,?_,W,by simp [hsz],by rw [Array.getElem?_setIfInBounds_ne @b];exact h2,S,ag,aj,?_⟩]
 ·exact J b u (λz=>hb (by simp [z])) ((I.2.1 b ae).trans O)
 ·obtain ⟨sl,hs⟩:=I.2.2 b u O;exact ⟨sl,J b _ (λz=>hb (by simp [z])) hs⟩
 ·exact Obj.cls_mapFields _ _
 ·rw [Kb hd]
 ·first|(simp;done)|(rcases Y with rfl|⟨_,_,_,_,_,_,_,rfl⟩<;>simp)
theorem AR {a T:Addr}{F fl:Value}{dd:Option Addr}{f:Option Addr}{Q:Unit->Shared->Prop}(x:Oq s.heap a T F dd fl)
(h:∀h',Pass [] [T] s.heap h'->Oq h' a T F dd (f.elim .none λf=>rawInt f)->Q () {s with heap:=h'}):wpAny M A (setFlight (.ref a) f) Q E s:=by
 obtain ⟨Y,vs,oT,ts,h1,h2,Z,W,U,L,S,R,I,h9⟩:=x.ex;have J:3<ts.size:=(Array.getElem?_eq_some_iff.mp h9).1;unfold setFlight;rwa[wpAny_bind (wpAny_field h1 W U ?_)];rw [if_pos (show (Value.ref T != Value.none)=true from by simp)];have j:∀b,b≠T->∀g,(s.heap.update T g).get? b=s.heap.get? b:=λb G g=>Heap.get?_update_other _ _ (Ne.symm G);rwa[wpAny_setField R I J (h _ ⟨λb o G _ O=>(j b (λz=>G (by simp [z])) _).trans O,λb o G O=>⟨o.slots,(j b (λz=>G (by simp [z])) _).trans O⟩⟩ ?_)];exact ⟨Y,vs,_,_,(j a (Ne.symm S) _).trans h1,h2,Z,W,U,L,S,Heap.get?_update_self _ R (Obj.isFreed_of_fields (Obj.data_mapFields I _)),Obj.data_mapFields I _,by simp [J]⟩
end
theorem Pass.more {fs fs' ch:List Addr}{h h1:Heap}(a:Pass fs ch h h1)(hs:∀b∈fs,b∈fs'):Pass fs' ch h h1:=⟨λb o j F e=>a.keep b o j (λz=>F (hs b z)) e,a.slot⟩
def Nw (X:Cx)(pins:List (Addr×Obj))(H:Hp)(b:Addr):Prop:=H b=none/\b≠X.env.locals/\b∉X.fs/\(b∈X.ex\/X.s₀.heap.get? b=none)/\(∀x c,X.env.cells.lookup x=some c->c≠b)/\∀p∈X.pn++pins,p.1≠b
theorem bA.here {P:Program}{w:World}{H:Hp}{h:Heap}{a:Addr}{o:HO}(x:bA P w H h a o):∃u,h.get? a=some u:=by
 cases o with
 |lst xs=>obtain ⟨_,_,_,_,e⟩:=x;exact ⟨_,e⟩
 |tup xs=>obtain ⟨_,_,_,o,e,_⟩:=x;exact ⟨_,e⟩
 |dK kvs=>obtain ⟨_,_,_,_,o,_,_,e,_⟩:=x;exact ⟨_,e⟩
 |dT kvs=>obtain ⟨_,_,_,_,o,_,_,e,_⟩:=x;exact ⟨_,e⟩
 |set S n=>obtain ⟨o,_,_,_,e,_⟩:=x;exact ⟨_,e⟩
 |ins C dx fs=>obtain ⟨_,_,_,e,_⟩:=x;exact ⟨_,e⟩
 |own y=>obtain ⟨_,e⟩:=x;exact ⟨_,e⟩
 |xd fs=>obtain ⟨_,⟨_,_,_,e,_⟩,_⟩:=x;exact ⟨_,e⟩
 |rng lo hi=>obtain ⟨_,_,_,e⟩:=x;exact ⟨_,e⟩
 |frz ob u=>obtain ⟨e,_⟩:=x;exact ⟨_,e⟩
 |tbl ps=>exact ⟨_,show h.get? a=some _ from x⟩
 |met f y=>exact ⟨_,show h.get? a=some _ from x⟩
 |ext φ=>obtain ⟨_,e,_⟩:=x;exact e
theorem gu.none_of {P:Program}{w:World}{H:Hp}{h:Heap}{a:Addr}(x:gu P w H h)(e:h.get? a=none):H a=none:=by
 cases q:H a with
 |none=>rfl
 |some o=>obtain ⟨u,z⟩:=(x a o q).here;rw [e] at z;cases z
section
variable {X:Cx}{pins:List (Addr×Obj)}{σ:St}{H:Hp}{s:Shared}
theorem aA.nw {H':Hp}{b:Addr}(I:aA X pins σ H s)(F:s.heap.get? b=none)(L:H' b=none):Nw X pins H' b:=by
 rwa[⟨L,λz=> ?_,λz=> ?_,?_,λx c e z=> ?_,λp J z=> ?_⟩]
 ·obtain ⟨m,⟨o,_,_,j,_⟩,_⟩:=I.loc;rw [<-z,F] at j;cases j
 ·obtain ⟨_,o,j,_⟩:=I.funs.mem z;rw [F] at j;cases j
 ·by_cases G:b∈X.ex
  ·exact .inl G
  ·rwa[.inr ?_]
   cases q:X.s₀.heap.get? b with
   |none=>rfl
   |some o=>obtain ⟨o',e⟩:=I.base.there b o q G;rw [F] at e;cases e
 ·obtain ⟨v,o,j,_⟩:=I.cell x c e;rw [z,F] at j;cases j
 ·have e:=(I.pin p J).1;rw [z,F] at e;cases e
theorem aA.pass {ch:List Addr}{h':Heap}(I:aA X pins σ H s)(p:Pass @ee ch s.heap h')(G:∀b∈ch,Nw X pins H b):aA X pins σ H {s with heap:=h'}:=by
 have O:∀b u,H b=some u->b∉ch:=λb u e z=>by rw [(G b z).1] at e;cases e
 have L:∀b u,H b=some u->b∉wL X.stack:=λb u e z=>by rw [I.stkFree b z] at e;cases e
 have S:∀b o,X.s₀.heap.get? b=some o->b∉X.ex->b∉ch:=λb o e j F=>by
  rcases (G b F).2.2.2.1 with z|z
  ·exact j z
  ·rw [e] at z;cases z
 have ac:∀b o,X.s₀.heap.get? b=some o->b≠X.env.locals:=λb o e=>Nat.ne_of_lt @bd
 have ab:∀b o,X.s₀.heap.get? b=some o->b∉X.fs->b∉wL X.stack:=λb o e F z=>by
  rcases mem_cons.mp @gd with q|q
  ·exact ac b o e q
  ·exact F q
 have aa:X.env.locals∉ch:=λz=>(G _ z).2.1 rfl;have Y:∀x c,X.env.cells.lookup x=some c->c∉ch:=λx c e z=>(G c z).2.2.2.2.1 x c e rfl
 have J:∀x c,X.env.cells.lookup x=some c->∀v,s.heap.IsCell c v->h'.IsCell c v:=λx c e v ⟨o,Z,hd⟩=>by
  obtain ⟨sl,q⟩:=p.slot c o (Y x c e) Z;exact ⟨_,q,hd⟩
 rwa[⟨I.ok,I.os,I.bare,⟨λb o e n F j=> ?_,λb o e n F j=> ?_,I.base.free,λb o e j=> ?_,I.base.tups,I.base.frzs,I.base.tbls⟩,?_,λx c e=> ?_,I.free,I.freeC,λq hq=> ?_,λb u e=> ?_,I.len⟩]
 ·exact p.keep b o @cW (ab b o e F) (I.base.keep b o e n F j)
 ·obtain ⟨sl,R⟩:=I.base.slot b o e n F j;obtain ⟨af,U⟩:=p.slot b _ @cW R;exact ⟨af,U⟩
 ·obtain ⟨o',R⟩:=I.base.there b o e j;obtain ⟨af,U⟩:=p.slot b _ @cW R;exact ⟨_,U⟩
 ·obtain ⟨m,⟨o,es,ep,Z,r⟩,hl⟩:=I.loc;obtain ⟨sl,hL⟩:=p.slot _ o aa Z;rwa[⟨m,⟨_,es,ep,hL,r⟩,λi x v R U e3=> ?_⟩];obtain ⟨u,rv,l⟩:=hl i x v R U e3;rwa[⟨u,rv,?_⟩]
  rcases l with l|⟨k,c,e,z⟩
  ·exact .inl l
  ·exact .inr ⟨k,c,e,J x c e _ z⟩
 ·obtain ⟨v,z⟩:=I.cell x c e;exact ⟨v,J x c e v z⟩
 ·obtain ⟨e,n,ne,nf,d⟩:=I.pin q hq;rwa[⟨p.keep q.1 q.2 (λz=>(G _ z).2.2.2.2.2 q hq rfl) @i e,n,ne,nf,d⟩]
  rcases mem_cons.mp (I.stkSub _ z) with y|y
  ·exact ne y
  ·exact nf y
 ·rwa[(I.hok b u e).stay (λc v W q=>p.keep c v ?_ ?_ q) @ed λ_ _ q=>q]
  ·rcases W with z|z
   ·rw [z];exact O b u e
   ·exact O c _ z
  ·rcases W with z|z
   ·rw [z];exact L b u e
   ·exact L c _ z
def OC (X:Cx)(pins:List (Addr×Obj))(H:Hp)(h:Heap)(a:Addr)(cls:Value)(dd:Option Addr):Prop:=Nw X pins H a/\
 ((∃oe vs,h.get? a=some oe/\oe.cls=cls/\oe.dict=dd/\oe.data= .fields vs/\vs[1]? =some .none/\vs[2]? =some .none)\/∃T fl,Oq h a T cls dd fl/\Nw X pins H T/\(fl= .none\/∃L,X.env.frame=some L/\fl=rawInt L))
theorem Gh {A:Around}{M:Model}{E:Value->Shared->Prop}{a:Addr}{S:Value}{dd:Option Addr}{Q:Unit->Shared->Prop}{L:Addr}(I:aA X pins σ H s)(x:OC X pins H s.heap a S dd)
(hA:A.frames=some X.stack)(F:X.stack=X.env::X.outer)(hf:X.env.frame=some L)
(h:∀h' T,aA X pins σ H {s with heap:=h'}->Nw X pins H T->Oq h' a T S dd (rawInt L)->Q () {s with heap:=h'}):wpAny M A (noteFrame (.ref a) X.env) Q E s:=by
 obtain ⟨fa,x⟩:=x
 have ac:A.frames=some (X.env::X.outer):=by rw [<-F];exact hA
 have hl:s.heap.FunFrames X.base (X.env::X.outer):=by rw [<-F];exact I.stack
 unfold noteFrame;simp only [hf]
 rcases x with ⟨oe,vs,h1,h2,h3,Y,U,G⟩|⟨T,fl,x,fT,aa⟩
 ·rwa[wpAny_bind (wpAny_field h1 Y U ?_)];rw [if_neg @b];rwa[uF ac hl hf h1 Y (Array.getElem?_eq_some_iff.mp U).1 G λh' T p W x=> ?_];rw [<-F] at p;have J:=I.pass p (by simpa using fa);exact h h' T J (I.nw W (I.hok.none_of W)) (by rw [<-h2,<-h3];exact x)
 ·obtain ⟨oe,vs,oT,ts,h1,h2,h3,Y,U,G,h6,h7,h8,h9⟩:=id x.ex;rwa[wpAny_bind (wpAny_field h1 Y U ?_)];rw [if_pos (show (Value.ref T != Value.none)=true from by simp)];rwa[wpAny_bind (wpAny_field h7 h8 h9 ?_)]
  rcases aa with rfl|⟨L',R,rfl⟩
  ·rw [if_neg (show ¬((Value.none==rawInt L)=true) from by simp [rawInt])];have ab:3<ts.size:=(Array.getElem?_eq_some_iff.mp h9).1;rwa[wpAny_bind (wpAny_setField h7 h8 ab ?_)];have j:∀b,b≠T->∀g,(s.heap.update T g).get? b=s.heap.get? b:=λb Z g=>Heap.get?_update_other _ _ @gR
   have p1:Pass @ee [T] s.heap (s.heap.update T (Obj.mapFields (·.setIfInBounds 3 Value.none))):=
    ⟨λb o Z _ O=>(j b (λz=>Z (by simp [z])) _).trans O,λb o Z O=>⟨o.slots,(j b (λz=>Z (by simp [z])) _).trans O⟩⟩
   have J1:=I.pass p1 (by simpa using fT);rwa[uF (s:= {s with heap:=s.heap.update T (Obj.mapFields (·.setIfInBounds 3 Value.none))}) ac (base:=X.base) (by rw [<-F];exact J1.stack) hf ((j a (Ne.symm h6) _).trans h1) Y (Array.getElem?_eq_some_iff.mp U).1 G λh' T' p W x'=> ?_];rw [<-F] at p;have J:=J1.pass p (by simpa using fa);exact h h' T' J (J1.nw W (J1.hok.none_of W)) (by rw [<-h2,<-h3];exact x')
  ·rw [hf] at R;cases R;rw [if_pos (show (rawInt L==rawInt L)=true from by simp)];exact wpAny_pure (h s.heap T I fT x)
theorem Dg {A:Around}{M:Model}{E:Value->Shared->Prop}{a:Addr}{F:Value}{dd:Option Addr}{Q:Unit->Shared->Prop}{L:Addr}(I:aA X pins σ H s)(x:OC X pins H s.heap a F dd)
(S:A.frames=some X.stack)(j:X.stack=X.env::X.outer)(O:X.env.frame=some L)
(h:∀h' T,aA X pins σ H {s with heap:=h'}->Nw X pins H T->Oq h' a T F dd .none->Q () {s with heap:=h'}):wpAny M A (leaving X.env (.ref a)) Q E s:=by
 unfold leaving;rwa[wpAny_bind (Gh I x S j O λh1 T J G U=>AR (s:= {s with heap:=h1}) U λh2 p R=> ?_)];exact h h2 T (J.pass (p.more λ_ z=>nomatch z) (by simpa using G)) G R
end
def y4 (P:Program)(w:World):oA:=λouter H s E e s'=>∃(a T:Addr) (cls:Value) (dd:Option Addr) (H':Hp),e= .ref a/\s'.os=s.os/\AllBare s'.gens/\Un (wL outer) [] H H' s.heap s'.heap/\gu P w H' s'.heap/\
 s.heap.get? a=none/\s.heap.get? T=none/\H' a=none/\H' T=none/\Oq s'.heap a T cls dd .none/\E cls dd H'
def Fl (X:Cx)(E:XK):Prop:=∀(pins:List (Addr×Obj)) (σ:St) (H:Hp) (s:Shared) (a:Addr) (cls:Value) (dd:Option Addr),aA X pins σ H s->OC X pins H s.heap a cls dd->E cls dd H->X.xe (.ref a) s
theorem aA.afterE {X:Cx}{pins:List (Addr×Obj)}{σ:St}{H:Hp}{s s':Shared}{E:XK}{e:Value}(I:aA X pins σ H s)(h:y4 X.prog X.w X.stack H s E e s'):
 ∃a cls dd H',e= .ref a/\aA X pins σ H' s'/\OC X pins H' s'.heap a cls dd/\E cls dd H':=by
 obtain ⟨a,T,cls,dd,H',rfl,os,j,G,ae,J,L,F,O,x,q⟩:=h;rwa[⟨a,cls,dd,H',rfl,I.call' os G ae j (λb z=>nomatch z),⟨I.nw J F,.inr ⟨T,_,x,I.nw L O,.inl rfl⟩⟩,q⟩]
theorem Fl.passes {X:Cx}{E:XK}(f:Fl X E):iA (y4 X.prog X.w) X E:=λpins σ H s e s' I h=>by
 obtain ⟨a,F,Z,H',rfl,J,x,q⟩:=I.afterE h;exact f pins σ H' s' a F Z J x q
section
variable {P:Program}{w:World}{K:Fg}{mg:Str->Option Value}{base:Heap}{N:List Str}{qual:Str}{scope:Scope}{f:Addr}{cd:Value}{A:Around}{outer:List Env}{s:Shared}{H:Hp}{E:XK}
theorem im:Fl (rJ @ck P w K mg base N qual scope f cd A outer s H E) E:=by
 intro pins σ H' s' a F Z I x q;show wpAny _ _ _ _ _ _;rwa[Dg I x I.ok.frames rfl rfl λh' T J G L=> ?_];have j:=x.1;rwa[⟨a,T,F,Z,H',rfl,J.os,J.bare,J.base,J.hok,?_,?_,j.1,G.1,L,q⟩]
 ·rcases j.2.2.2.1 with z|z
  ·exact absurd (show a∈([]:List Addr) from z) @e
  ·exact z
 ·rcases G.2.2.2.1 with z|z
  ·exact absurd (show T∈([]:List Addr) from z) @e
  ·exact z
end
theorem bt.okX {P:Program}{w:World}{K:Fg}{mg:Str->Option Value}{base:Heap}{x qual:Str}{st:Stmt}{f:Addr}{fd:FuncData}{N ps:List Str}{k:Nat}{sp:Sp}(F:bt K x qual st f fd)(S:aj N ps @cK)(L:∀vs H Q E,sp vs H Q E->vs.length=ps.length)
(j:∀(cdv:Value) (A:Around) (outer:List Env) (s:Shared) (H:Hp) (vs:List V) (Q:VK) (E:XK),cr k (A.deeper (envOfC qual @cK s.heap.objs.size f cdv))->sp vs H Q E->
   ∃t,uX (rJ @ck P w K mg base N qual @cK f cdv A outer s H E) @ei t/\t {nx:=λ_ H'=>Q .non H',rt:=Q} @dn H):ay P w K mg base @ck (k+1) f fd ps sp:=by
 obtain ⟨J,U,Z,R,pm,W,cdv,Y,aa,rfl,I,z⟩:=F.ex;exact Lm I z S L λA outer s H vs Q E G O=>j cdv A outer s H vs Q E G O
structure DS (P:Program)(w:World)(K:Fg)(mg:Str->Option Value)(base:Heap)(n:Nat)(x:Str)(ps:List Str)(sp:Sp):Prop where
 ex:∃f fd,ay P w K mg base @ck n f fd ps sp/\fU K fd ps []/\W.keepIn K (.ref f)=true/\mg x=some (.ref f)
section
variable {X:Cx}{x:Str}{p pos:Pos}{e:Expr}{es:List Expr}{t:TA}{ps:List Str}{sp:Sp}{n m:Nat}{E:XK}
theorem FC (fl:Fl X E)(c:DS X.prog X.w X.K X.mg X.base n x ps sp)(S:cr m X.A)(J:n<=m)(W:Gl X x)(I:PA X (e::es) t)(j:(x==("__debug__":Str))=false:=by decide)
(G:aU (e::es)=true:=by rfl):PE X (.Call (.Name x p) (e::es) [] pos) (Be sp [] E t):=by
 obtain ⟨f,fd,F,b,k,z⟩:=c.ex;have h':(bH e&&aU es)=true:=G;rw [Bool.and_eq_true] at h';exact Bt (F.mono J) S W z k b .nil fl.passes I j @fc @fd
end
theorem Ku {K:Fg}{h:Heap}{C:Addr}{bmB:List Value}{newId:String}(X:K.In h)(q:W.excIn K C bmB newId=true):
 ∃bm N nm q bs hdct sn sub ab col dd k0 k1 k2 k3 k5 mN,h.get? C=some (excClassObj nm q C N bs bm hdct sn sub ab col dd k0 k1 k2 k3 k5 newId)/\h.Ns N mN/\mN "__init__"=none/\OwnTail h bmB bm:=by
 unfold W.excIn at q;split at q
 case h_2=>cases q
 case h_1 dd cd sl ho=>
  split at q
  case h_2=>cases q
  case h_1 C' bm k0 k1 k2 k3 n k5 hm hs=>
   simp only [Bool.and_eq_true,beq_iff_eq,Bool.not_eq_true'] at q;obtain ⟨⟨⟨⟨⟨R,O⟩,j⟩,J⟩,ae⟩,z⟩:=q;subst R O;obtain ⟨nm,bs,L,I,F,S,sn,sub,ab,col,G⟩:=cd;dsimp only at hm j ae z;subst hm j;obtain ⟨l⟩:=sl;simp only at hs;subst hs;exact ⟨bm,I,nm,F,bs,S,sn,sub,ab,col,dd,k0,k1,k2,k3,k5,_,X _ _ ho,.of_isNs (W.isNs_of_in X ae),W.nsMap_none_of_in X ae z,W.tail_of_in X J⟩
def Ma (C:Addr)(E:XK)(t:TA):TS:=λ_ σ H=>t σ H λvs H1=>vs.length<=sizeLine/\E (.ref C) none H1
section
variable {X:Cx}{C:Addr}{bmB:List Value}{B newId initId:String}{x:Str}{np cpos pos:Pos}{e:Expr}{es:List Expr}{t:TA}{E:XK}
theorem aA.made' {pins:List (Addr×Obj)}{σ:St}{H:Hp}{s:Shared}{h':Heap}{a:Addr}{vs:List Value}(I:aA X pins σ H s)(m:Heap.MadeExcOf s.heap h' a (.ref C) vs):
 aA X pins σ H {s with heap:=h'}/\OC X pins H h' a (.ref C) none:=by
 obtain ⟨t,h1,_⟩:=m.there;exact ⟨I.kept (t':=s.toks) m.keeps,I.nw m.new (I.hok.none_of m.new),.inl ⟨_,_,h1,rfl,rfl,rfl,rfl,rfl⟩⟩
theorem lO (fl:Fl X E)(hc:X.calm=true)(O:W.excIn X.K C bmB newId=true)(Z:ExcBaseFacts B newId initId bmB)(hg:Gl X x)(hm:X.mg x=some (.ref C))(ha:PA X (e::es) t)
(hp:aU (e::es)=true:=by rfl)(S:(x==("__debug__":Str))=false:=by decide):PS X (.Raise (some (.Call (.Name x np) (e::es) [] cpos)) none pos) (Ma C E t):=by
 intro pins s σ H D I h;have h':(bH e&&aU es)=true:=hp;rw [Bool.and_eq_true] at h';have he:=aS (env:=X.env) (es:=es) h'.1;have R:(backTo cpos @D).any (·.1)=false:=bN h'.2;obtain ⟨bm,N,nm,q,bs,j,sn,F,ab,U,dd,k0,k1,k2,k3,k5,mN,hC,hN,L,T⟩:=Ku I.ok.mod.kin O
 refine wpAny_Raise_call_subT (C:=C) (nm:=nm) (q:=q) (N:=N) (bs:=bs) (bm:=bm) (hdct:=j) (sn:=sn) (sub:=F) (ab:=ab) (col:=U) (dd:=dd) (k0:=k0) (k1:=k1) (k2:=k2) (k3:=k3) (k5:=k5)
  Z (mN:=mN) (T.hasType Z.hasBase) @bS (by rw [he];show (false||(backTo cpos @D).any (·.1))=false;rw [R];rfl) L (lW I hg hm ⟨rfl,?_⟩ S)
 have Y:=ha cpos pins s σ H _ I h;rw [he] at Y ⊢;rwa[Calls.evalArgs_plain (bP Y λus s2 ⟨vs,H2,G,r,z,q2⟩=>⟨rfl,by rw [<-r.length];exact z,G.bk _ _ hC,hN.keeps G.bk,T.keeps G.bk,λh' a m=> ?_⟩)];obtain ⟨J,x⟩:=G.made' m;exact fl pins σ H2 _ a _ _ J x q2
end
structure Exc0 (K:Fg)(C:Addr):Prop where
 ex:∃bmB newId,W.excIn K C bmB newId=true/\bmB.contains (.type "BaseException")=true
noncomputable def Cx.mk' (X:Cx)(a:Addr):Cx:= {X with A:=X.A.mark (some (.ref a)),calm:=false,xe:=λ_ _=>False}
def XP (X:Cx)(pins:List (Addr×Obj))(σ:St)(E:XK)(e:Value)(s':Shared):Prop:=∃a cls dd H',e= .ref a/\aA X pins σ H' s'/\OC X pins H' s'.heap a cls dd/\E cls dd H'
open PySem.W
section
variable {prog:Program}{w:World}{A:Around}{E:Value->Shared->Prop}{s:Shared}{K:Frag}{x D:Addr}{ox:Obj}{odo:Option Obj}{name:Str}
theorem N6 {R:Result->Shared->Prop}{tk:Tok}(X:K.In s.heap)(I:PySem.W.InstAt s.heap x ox D odo)
(aa:findIn K (.ref D) "__class__"=some (some (.builtin "object.__class__")))(z:mroIn K D (.type "BaseException")=some true)(G:mroIn K D (.type "object")=some true)
(h:R (.ok (.ret (.ref D))) s):codeAny @m A (.call (.builtin "BaseException.__getattribute__") ⟨[.ref x,.str "__class__" tk],[]⟩) R s:=by
 obtain ⟨O,g,d,t,os⟩:=s;have J:=I.type (M:=model prog w);have S:=looks_findIn (M:=model prog w) X aa;have U:=looks_mroIn (M:=model prog w) X z;rwa[codeAny_call_builtin PySem.F.attr_ValueError.ga.plain PySem.F.entry_bexc_ga ?_]
 have L:builtinKind "BaseException.__getattribute__"=some .slot:=by decide+kernel
 have j:splitId "BaseException.__getattribute__"=some ("BaseException","__getattribute__"):=by decide+kernel
 have Y:=PySem.F.args_bexc_ga (.ref x) (.str "__class__" tk);simp only [checkBuiltinCall,L,j];rwa[wpAny_bind ?_];unfold isInstance;rwa[wpAny_bind (J.at (U.at ?_))];have f5:=KF.type_class;have Z:=PySem.F.slot_gs_get.lookup;have f7:=PySem.F.slot_gs_set.lookup
 repeat (any_goals (first|assumption|with_reducible refine J.at ?_|with_reducible refine S.at ?_|wp_step))
 rwa[class_get (s:=⟨O,g,d,t,os⟩) (ox:=ox) (od:=odo) X I G ?_]
 repeat (any_goals (first|assumption|wp_step))
theorem Kv {Q:Option Value->Shared->Prop}(X:K.In s.heap)(I:PySem.W.InstAt s.heap x ox D odo)(j:findIn K (.ref D) "__getattribute__"=some (some (.builtin "BaseException.__getattribute__")))
(G:findIn K (.ref D) "__getattr__"=some none)(aa:findIn K (.ref D) "__class__"=some (some (.builtin "object.__class__")))(z:mroIn K D (.type "BaseException")=some true)(J:mroIn K D (.type "object")=some true)
(h:Q (some (.ref D)) {s with toks:=s.toks+1}):wpAny @m A (getAttr? (.ref x) "__class__") Q E s:=by
 obtain ⟨S,g,d,t,os⟩:=s;have L:=I.type (M:=model prog w);have O:=looks_findIn (M:=model prog w) X j;have L2':=looks_findIn (M:=model prog w) X G;have U:=looks_findIn (M:=model prog w) X aa;have Y:=looks_mroIn (M:=model prog w) X z;have Z:=PySem.F.attr_ValueError.ga.bind (.ref x);unfold getAttr? getAttrBy? getAttrBy;rwa[wpAny_bind (wpAny_mkText (wpAny_bind (wpAny_attempt (wpAny_holding (wpAny_bind (L.at (wpAny_bind (O.at ?_))))))))]
 have R:(Value.builtin "BaseException.__getattribute__"==Value.builtin "object.__getattribute__")=false:=by decide+kernel
 repeat (any_goals (first|assumption|wp_step))
 rwa[L2'.at ?_]
 repeat (any_goals (first|assumption|wp_step))
 rwa[N6 X I aa z J ?_];exact handed_on rfl (wpAny_pure h)
end
noncomputable def N7 (a:Addr)(cls:Value)(dd:Option Addr):HO:= .ext λh=>∃oe vs,h.get? a=some oe/\oe.cls=cls/\oe.dict=dd/\oe.data= .fields vs/\vs[2]? =some .none
structure Ra (K:Frag)(D:Addr):Prop where
 ga:findIn K (.ref D) "__getattribute__"=some (some (.builtin "BaseException.__getattribute__"))
 gr:findIn K (.ref D) "__getattr__"=some none
 cl:findIn K (.ref D) "__class__"=some (some (.builtin "object.__class__"))
 mB:mroIn K D (.type "BaseException")=some true
 mO:mroIn K D (.type "object")=some true
theorem yg {K:Frag}{x D:Addr}{ox:Obj}{odo:Option Obj}(k:Ra K D):KitX K (.ref x) (.ref D) (λh=>PySem.W.InstAt h x ox D odo) where
 ty:=λ_ _ _ I=>I.type
 it:=λM h X _=>by
  obtain ⟨cd,j,_⟩:=Option.bind_eq_some_iff.mp k.mO;unfold clsIn at j;split at j
  ·rename_i R O F af J;intro A' U Z s' L q;unfold isType loadHead;exact wpAny_bind (wpAny_loadPart (L _ _ (X _ _ J)) (wpAny_pure q))
  ·cases j
 ne:=λh S Y its n sl X G=>by
  obtain ⟨cd,j,_⟩:=Option.bind_eq_some_iff.mp k.mO;rwa[Bool.eq_false_iff.mpr λq=> ?_];have e:D=S:=Value.ref.inj (beq_iff_eq.mp q);subst e;unfold clsIn at j;split at j
  ·rename_i R O F af J;have z:=(X _ _ J).symm.trans G;cases z
  ·cases j
 ca:=λX I q=>Kv X I k.ga k.gr k.cl k.mB k.mO q
section
variable {X:Cx}
def AI (K:Fg)(a:Addr)(c:V)(H:Hp)(Q:VK):Prop:=∃D dd cv b,H a=some (N7 a (.ref D) dd)/\Ra K D/\(dd=none\/∃d fs,dd=some d/\H d=some (.xd fs))/\cV c=some cv/\W.kitOne K (.ref D) cv=some b/\Q (.bl b) H
end
structure QZ (k:Nat)(A:Around)(a:Addr):Prop where
 hd:A.handled=some (.ref a)
 dp:A.depth+3*k+5<recursionLimit
 un:A.units+16*k+200<cLine
structure Q9 (P:Program)(w:World)(K:Fg)(mg:Str->Option Value)(base:Heap)(k:Nat)(f:Addr)(fd:FuncData)(ps:List Str)(sp:Addr->Sp):Prop where
 len:∀a vs H Q E,sp a vs H Q E->vs.length=ps.length
 run:∀(a:Addr) (A:Around) (outer:List Env) (s:Shared) (H:Hp) (args:Args) (us:List Value) (vs:List V) (Q:VK) (E:XK),QZ k A a->my P w K mg base A outer s H->BindsTo s fd args @cm->aO vs us->sp a vs H Q E->
  codeAny @Y A (.call (.ref f) args) @dw s
structure CalH (P:Program)(w:World)(K:Fg)(mg:Str->Option Value)(base:Heap)(n:Nat)(x:Str)(ps:List Str)(sp:Addr->Sp):Prop where
 ex:∃f fd,Q9 P w K mg base n f fd ps sp/\fU K fd ps []/\W.keepIn K (.ref f)=true/\mg x=some (.ref f)
def nX (K:Fg)(a:Addr)(c:V)(H:Hp)(Q:VK):Prop:=kQ K (.ref a) c H Q\/AI K a c H Q
def Eh (K:Fg):List V->Hp->VK->Prop:=λxs H Q=>match xs with
 |[.ref a,c]=>nX K a c H Q
 |xs=>LX K xs H Q
theorem zh {X:Cx}{K:Fg}(O:X.K=K):bj X (.builtin "isinstance") (Eh K):=by
 intro pins s σ H xs G Q I r h;have F:LX K xs H Q->wpAny @d X.A (call (.builtin "isinstance") G) @v X.xe s:=λh=>OV O pins s σ H xs G Q I r h
 match xs,h with
 |[.ref a,c],h=>
  rcases h with h|⟨D,dd,Z,b,e,k,j,hc,U,q⟩
  ·subst O;obtain ⟨Z,t,b,h1,h2,h3,h4⟩:=h;exact yF pins s σ H _ G Q I r ⟨.ref a,c,Z,t,b,rfl,h1,h2,h3,h4⟩
  ·subst O;obtain ⟨u,w',rfl,r1,r2⟩:=xx r;cases HI hc r2;obtain rfl:u=Value.ref a:=r1;obtain ⟨⟨R,vs,L,J,Y,S,k5⟩,_,_⟩:=I.hok a _ e
   rcases j with rfl|⟨d,fs,rfl,ed⟩
   ·rwa[W.kia_one (yg (ox:=R) (odo:=none) k) I.kIn ⟨L,J,?_,?_⟩ U (λz=>nomatch z) λtk=>⟨.bl b,H,I.tok _,rfl,q⟩]
    ·unfold W.notCls;rw [S]
    ·rw [Y];trivial
   ·obtain ⟨mA,⟨od,es,ep,e',_⟩,_⟩:=I.hok d _ ed;rwa[W.kia_one (yg (ox:=R) (odo:=some od) k) I.kIn ⟨L,J,?_,?_⟩ U (λz=>nomatch z) λtk=>⟨.bl b,H,I.tok _,rfl,q⟩]
    ·unfold W.notCls;rw [S]
    ·rw [Y];exact e'
 |[],h=>exact F h
 |[.non],h=>exact F h
 |[.bl _],h=>exact F h
 |[.int _],h=>exact F h
 |[.str _],h=>exact F h
 |[.byt _],h=>exact F h
 |[.flt _],h=>exact F h
 |[.ty _],h=>exact F h
 |[.ref _],h=>exact F h
 |[.non,c],h=>exact F h
 |[.bl _,c],h=>exact F h
 |[.int _,c],h=>exact F h
 |[.str _,c],h=>exact F h
 |[.byt _,c],h=>exact F h
 |[.flt _,c],h=>exact F h
 |[.ty _,c],h=>exact F h
 |x::y::z::r,h=>exact F (by cases x<;>exact h)
theorem wF {K:Fg}{H:Hp}{a:Addr}{c:V}{z t:Value}{b:Bool}{Q:VK}(h1:cV c=some z)(h2:iM K H (.ref a) t)(L:W.kitOne K t z=some b)(g:Q (.bl b) H):nX K a c H Q:= .inl ⟨z,t,b,h1,h2,L,g⟩
theorem C9 {M:Model}{A:Around}{E:Value->Shared->Prop}{s:Shared}{env:Env}{o:Expr}{m:Str}{apos pos:Pos}{es:List Expr}{Q:Value->Shared->Prop}(j:gF o=true)(G:aU es=true)(W:es.length<29)(z:(apos.endLine==pos.line)=true)
(h:wpAny M A (eval o env) (λov s₁=>wpAny M A (getMethod ov m (do return (<-importBound o env).getD true)) (λfx s₂=>wpAny M A (callWith pos fx.1 fx.2 @hd (backToKw pos (keywordEach [] env))) Q E s₂) E s₁) E s):
 wpAny M A (eval (.Call (.Attribute o m apos) es [] pos) env) Q E s:=by
 have F:methodCallForm (es.length+([]:List Keyword).length) @hd (backToKw pos (keywordEach [] env))=true:=by
  unfold methodCallForm;rw [nL G,arm_keywordEach_nil];show (true&&true&&decide (es.length+0+0<30))=true;rw [decide_eq_true @c];rfl
 rw [arm_eval_Call,w9 j];rwa[wpAny_bind (bP h λov O h1=>wpAny_bind (wpAny_standAt ?_))];unfold methodCall;rw [F];rwa[wpAny_bind (wpAny_holding ?_)];unfold calleeOf;rw [if_pos rfl];rwa[bP h1 λfx S h2=> ?_];rwa[wpAny_bind ?_];unfold methodCallPos;rw [z];exact wpAny_pure h2
structure jS (P:Program)(w:World)(K:Fg)(mg:Str->Option Value)(base:Heap)(CX:oA)(n:Nat)(m:Str)(C:Addr)(sp:Sp):Prop where
 ex:∃f fd ps,uY K C/\HV K C m f/\ay P w K mg base CX n f fd ps sp/\fU K fd ps []
def wy (P:Program)(w:World)(K:Fg)(mg:Str->Option Value)(base:Heap)(CX:oA)(n:Nat)(m:Str)(a:Addr)(E:XK)(H:Hp)(k:Sp->Prop):Prop:=∃C dx fs sp,H a=some (.ins C dx fs)/\fs.lookup m=none/\jS P w K mg base CX n m C sp/\k sp
def O9 (P:Program)(w:World)(K:Fg)(mg:Str->Option Value)(base:Heap)(CX:oA)(n:Nat)(m:Str)(E:XK)(to:TE)(t:TA):TE:=λσ H Q=>to σ H λx H1=>match x with
 | .ref a=>wy P w K mg base CX n m a E H1 λsp=>t σ H1 λvs H2=>sp (.ref a::vs) H2 Q E
 |_=>False
section
variable {X:Cx}{CX:oA}{o e:Expr}{es:List Expr}{to:TE}{t:TA}{m:Str}{apos pos:Pos}{n k:Nat}{E:XK}
theorem vc (hx:iA CX X E)(hr:cr k X.A)(Y:n<=k)(Z:PE X o to)(ha:PA X (e::es) t)(hb:gF o=true:=by rfl)(L:aU (e::es)=true:=by rfl)(hl:(e::es).length<29:=by decide)
(z:(apos.endLine==pos.line)=true:=by rfl):PE X (.Call (.Attribute o m apos) (e::es) [] pos) (O9 X.prog X.w X.K X.mg X.base CX n m E to t):=by
 have h':(bH e&&aU es)=true:=L;rw [Bool.and_eq_true] at h';intro pins s σ H Q I h;rwa[C9 hb L hl z (bP (Z pins s σ H _ I h) λu R j=> ?_)];obtain ⟨x,H1,O,S,q⟩:=j
 match x,q with
 | .ref a,⟨C,dx,fs,sp,ea,l,c,q⟩=>
   obtain rfl:u=Value.ref a:=S;obtain ⟨f,fd,ps,U,G,F,b⟩:=c.ex;rwa[AL O ea U G l ?_];rwa[W.callWith_K (first:=[.ref a]) (h₀:=X.base) I.ok.mod.kin G.kp (bP (ha pos pins R σ H1 _ O q) λus s2 ⟨vs,H2,J,r,q2⟩=>⟨J.kIn,?_⟩) @fc @fd];exact Fi (us:= .ref a::us) (vs:= .ref a::vs) (F.mono Y) hr b .nil hx J (.cons rfl r) (by rw [append_nil];exact q2)
def yp (K:Fg)(f:Str)(a:Addr)(H:Hp)(Q:VK):Prop:=∃C dx fs v,H a=some (.ins C dx fs)/\uY K C/\aR K C f/\fs.lookup f=some v/\Q v H
def RW (K:Fg)(f:Str)(to:TE):TE:=λσ H Q=>to σ H λx H1=>match x with| .ref a=>yp K f a H1 Q|_=>False
theorem LP {K:Fg}{f:Str}(O:X.K=K)(z:PE X o to)(L:gF o=true:=by rfl):PE X (.Attribute o f pos) (RW K f to):=by
 subst O;intro pins s σ H Q I h;rwa[KQ (w9 L) (bP @cD λu S j=> ?_)];obtain ⟨x,H1,J,F,q⟩:=j
 match x,q with
 | .ref a,⟨C,dx,fs,v,ea,c,n,l,q⟩=>
   obtain rfl:u=Value.ref a:=F;exact AM J ea c n l λW U G R=>⟨v,H1,G,R,q⟩
def putAt (K:Fg)(f:Str)(a:Addr)(y:V)(H:Hp)(R:Hp->Prop):Prop:=∃C dx fs,H a=some (.ins C dx fs)/\uY K C/\aR K C f/\fs.length<1000/\R @cf
def RH (K:Fg)(f:Str)(to tv:TE):TS:=λD σ H=>tv σ H λy H1=>to σ H1 λx H2=>match x with| .ref a=>putAt K f a y H2 λH3=>D.nx σ H3|_=>False
theorem cL {K:Fg}{f:Str}{value:Expr}{tv:TE}{pos':Pos}(z:X.K=K)(J:PE X o to)(Y:PE X value tv)(hs:swapsWith value (some (.Attribute o f pos')) pos.line X.env=pure false:=by rfl):PS X (.Assign [.Attribute o f pos'] value pos) (RH K f to tv):=by
 subst z;intro pins s σ H D I h;rwa[plainObj_wpAny_Assign_Attribute (bP (Y pins s σ H _ I h) λu O ⟨y,H1,L,R,q⟩=>bP (J pins O σ H1 _ L q) λS s2 j=> ?_) hs];obtain ⟨x,H2,G,F,W⟩:=j
 match x,W with
 | .ref a,⟨C,dx,fs,ea,c,n,l,q⟩=>
   obtain rfl:S=Value.ref a:=F;exact zH G ea c n l R λZ U=>⟨σ,_,U,q⟩
theorem ww {P:Program}{w:World}{K:Fg}{mg:Str->Option Value}{base:Heap}{a C dx:Addr}{fs:List (Str×V)}{sp:Sp}{H:Hp}{L:Sp->Prop}(h1:H a=some (.ins C dx fs))(h2:fs.lookup m=none)(j:jS P w K mg base CX n m C sp)(g:L sp):wy P w K mg base CX n m a E H L:=⟨C,dx,fs,sp,h1,h2,j,g⟩
theorem fJ {K:Fg}{f:Str}{a C dx:Addr}{fs:List (Str×V)}{v:V}{H:Hp}{Q:VK}(h1:H a=some (.ins C dx fs))(h2:uY K C)(L:aR K C f)(j:fs.lookup f=some v)(g:Q v H):yp K f a H Q:=⟨C,dx,fs,v,h1,h2,L,j,g⟩
theorem cU {K:Fg}{f:Str}{a C dx:Addr}{fs:List (Str×V)}{y:V}{H:Hp}{R:Hp->Prop}(h1:H a=some (.ins C dx fs))(h2:uY K C)(L:aR K C f)(j:fs.length<1000)(g:R @cf):putAt K f a y H R:=⟨C,dx,fs,h1,h2,L,j,g⟩
end
structure iK (P:Program)(w:World)(K:Fg)(mg:Str->Option Value)(base:Heap)(CX:oA)(n:Nat)(x:Str)(C:Addr)(sp:Sp):Prop where
 ex:∃f fd ps,Mk K C f/\ay P w K mg base CX n f fd ps sp/\fU K fd ps []/\mg x=some (.ref C)
section
variable {X:Cx}{CX:oA}{e:Expr}{es:List Expr}{t:TA}{x:Str}{p pos:Pos}{n k:Nat}{E:XK}{C:Addr}{sp:Sp}
def gH (C:Addr)(sp:Sp)(E:XK)(vs:List V)(H:Hp)(Q:VK):Prop:=∀a dx,H a=none->H dx=none->dx≠a->sp (.ref a::(vs++[])) @r (λv H2=>v= .non/\Q (.ref a) H2) E
def Pa (C:Addr)(sp:Sp)(E:XK)(t:TA):TE:=λσ H Q=>t σ H λvs H1=>gH C sp E vs H1 Q
theorem fX (c:iK X.prog X.w X.K X.mg X.base CX n x C sp)(L:iA CX X E)(S:cr k X.A)(J:n+1<=k)(W:Gl X x)(I:PA X (e::es) t)(j:(x==("__debug__":Str))=false:=by decide)(G:aU (e::es)=true:=by rfl):
 PE X (.Call (.Name x p) (e::es) [] pos) (Pa C sp E t):=by
 obtain ⟨f,fd,ps,M,F,b,z⟩:=c.ex;have h':(bH e&&aU es)=true:=G;rw [Bool.and_eq_true] at h';rwa[(Jw M F (S.mono J) W z b .nil L I j @fc @fd).imp λσ H Q h=> ?_];exact h
end
section
variable {X:Cx}{K:Fg}{a b c:Expr}{ta tb tc:TE}{pos:Pos}
def DC (K:Fg)(p q:Addr)(H:Hp)(Q:VK):Prop:=KM p q H Q\/∃xs ys,az K H p xs/\az K H q ys/\xs≠[]/\xs.length+ys.length<=sizeLine/\(ys=[]->Q (.ref p) H)/\(ys≠[]->∀l,H l=none->Q (.ref l) (upd H l (.tup (xs++ys))))
def Po (K:Fg):R2:=λx y H Q=>match x,y with
 | .int i,.int j=>Q (.int (i+j)) H
 | .str a,.str b=>a.length+b.length<=sizeLine/\Q (.str (a++b)) H
 | .ref p,.ref q=>DC K p q H Q
 |_,_=>False
theorem LS (O:X.K=K):dA X @bB (Po K):=by
 subst O;rwa[(O0.or JB).imp λx y H Q h=> ?_]
 cases x with
 |int i=>cases y with
  |int j=>exact .inl h
  |_=>exact False.elim h
 |str a=>cases y with
  |str b=>exact .inl h
  |_=>exact False.elim h
 |ref p=>cases y with
  |ref q=>
   rcases h with h|⟨xs,ys,h1,h2,L,z,U,I⟩
   ·exact .inl h
   ·exact .inr ⟨p,q,xs,ys,rfl,rfl,h1,h2,L,z,U,I⟩
  |_=>exact False.elim h
 |_=>exact False.elim h
theorem QR {p q:Addr}{H:Hp}{Q:VK}{xs ys:List V}(h1:H p=some (.lst xs))(h2:H q=some (.lst ys))(F:xs.length+ys.length<=sizeLine)(g:∀l,H l=none->Q (.ref l) (upd H l (.lst (xs++ys)))):DC K p q H Q:= .inl ⟨xs,ys,h1,h2,F,g⟩
theorem QQ {p q:Addr}{H:Hp}{Q:VK}{xs ys:List V}(h1:az K H p xs)(h2:az K H q ys)(j:xs≠[])(O:ys≠[])(F:xs.length+ys.length<=sizeLine)(g:∀l,H l=none->Q (.ref l) (upd H l (.tup (xs++ys)))):DC K p q H Q:=
 .inr ⟨xs,ys,h1,h2,j,F,λz=>absurd z O,λ_=>g⟩
def IE (r r':R2)(ta tb tc:TE):TT:=λσ H Q=>ta σ H λx H1=>tb σ H1 λy H2=>r x y H2 λz H3=>match z with| .bl k=>oa k (tc σ H3 λw' H4=>r' y w' H4 λv H5=>match v with| .bl c=>Q c H5|_=>False) (Q false H3)|_=>False
theorem pT {F j:CmpOp}{r S:R2}(ho:dA X (compareOp F) r)(L:dA X (compareOp j) S)(ha:PE X a ta)(hb:PE X b tb)(hc:PE X c tc)
(W:lastMarks [F,j] [b,c]=false:=by with_unfolding_all rfl):PT X (.Compare a [F,j] [b,c] pos) (IE r S ta tb tc):=by
 intro pins s σ H Q I h
 refine isTrue_chain (bP (ha pins s σ H _ I h) λv Y ⟨x,H1,I1,r1,q1⟩=>test_link (bP (hb pins Y σ H1 _ I1 q1) λu s2 ⟨y,H2,I2,U,q2⟩=>
  bP (ho pins s2 σ H2 x y v u _ I2 r1 U q2) λd s3 ⟨z,O,R,r3,Z⟩=> ?_)) W
 match z,Z with
 | .bl k,Z=>
   cases r3;rwa[wpAny_truthy_bool ?_]
   cases k with
   |false=>exact ite_ff ⟨O,R,Z⟩
   |true=>
    rwa[ite_tt (test_last (bP (hc pins s3 σ O _ R Z) λw' s4 ⟨z',H4,I4,r4,q4⟩=>bP (L pins s4 σ H4 y z' u w' _ I4 U r4 q4) λd' s5 G=> ?_))];obtain ⟨z2,H5,I5,r5,J⟩:=G
    match z2,J with
    | .bl c,J=>
      cases r5;exact wpAny_truthy_bool ⟨H5,I5,J⟩
def Kt (a b:Addr)(H:Hp)(Q:VK):Prop:=∃xs zs,H a=some (.lst xs)/\H b=some (.lst zs)/\xs.length+zs.length<=sizeLine/\Q .non (upd H a (.lst (xs++zs)))
def IF:V->List V->Hp->VK->Prop:=λx xs H Q=>match x,xs with| .ref a,[.ref b]=>Kt a b H Q|_,_=>False
theorem iR:zc X "list.extend" IF:=by
 intro pins s σ H x xs v j Q I F z h
 match x,xs,h with
 | .ref a,[.ref b],⟨ys,zs,h1,h2,h3,h4⟩=>exact C6 pins s σ H _ _ v j Q I F z ⟨a,b,ys,zs,rfl,rfl,h1,h2,h3,h4⟩
theorem BO {a b:Addr}{H:Hp}{Q:VK}{xs zs:List V}(h:H a=some (.lst xs))(h2:H b=some (.lst zs))(F:xs.length+zs.length<=sizeLine)(g:Q .non (upd H a (.lst (xs++zs)))):Kt a b H Q:=⟨xs,zs,h,h2,F,g⟩
def O3:List V->Hp->VK->Prop:=λxs H Q=>match xs with|[.int i]=>i.natAbs.log2<1920/\Q (.str @gE) H|_=>False
theorem LQ:bj X (.type "str") O3:=wU.imp λxs H Q h=>by
 match xs,h with
 |[.int i],h=>exact ⟨i,rfl,h⟩
def RO:List V->Hp->VK->Prop:=λxs H Q=>match xs with|[.int i,.int j]=>Q (.int (if j>i then j else i)) H|_=>False
theorem OU (I:X.calm=true):bj X (.builtin "max") RO:=(DE I).imp λxs H Q h=>by
 match xs,h with
 |[.int i,.int j],h=>exact ⟨i,j,rfl,h⟩
def RN:List V->Hp->VK->Prop:=λxs H Q=>match xs with|[.int i,.int j]=>Q (.int (if j<i then j else i)) H|_=>False
theorem K7 (I:X.calm=true):bj X (.builtin "min") RN:=(DD I).imp λxs H Q h=>by
 match xs,h with
 |[.int i,.int j],h=>exact ⟨i,j,rfl,h⟩
end
open Builtin Builtin.Str
section
variable {X:Cx}{K:Fg}
theorem IM {l:List (Str×Tok)}:aO ((l.map (·.1)).map V.str) (strValues l):=by
 induction l with
 |nil=>exact .nil
 |cons p r ih=>exact .cons ⟨p.2,rfl⟩ ih
def LW:V->List V->Hp->VK->Prop:=λx xs H Q=>match x,xs with
 | .str z,[.str y]=>((y.length==0)=false/\z.length+2<=sizeLine)/\∀l,H l=none->Q (.ref l) (upd H l (.lst ((Txt.split z y).map V.str)))
 |_,_=>False
theorem IA:zc X "str.split" LW:=by
 intro pins s σ H x xs v S Q I G R h
 match x,xs,h with
 | .str x,[.str y],⟨⟨hy,hsz⟩,q⟩=>
   obtain ⟨t,rfl⟩:=G
   cases R with
   |cons r rr=>
    cases rr;obtain ⟨u,rfl⟩:=r
    have J:(partsBetween x (occurrences x y 0 x.length (x.length+1)) y.length).length<=sizeLine:=by
     have Y:=StrLaws.occ_length_le x y 0 x.length (x.length+1);rw [length_partsBetween];lia
    have z:∀(l:List (Str×Tok)) (k:Nat),l.map (·.1)=Txt.split x y->l.length<=sizeLine->EP X pins σ Q (.ref s.heap.objs.size) {s with heap:=s.heap.push {cls:= .type "list",data:= .seq (strValues l).toArray},toks:=k}:=λl k e L=>by
     rwa[⟨.ref s.heap.objs.size,_,I.laid (t':=k) (o:= .lst ((Txt.split x y).map V.str)) (λb U q=>Heap.get?_push_of_some _ q) @h ?_,rfl,q _ @bH⟩];rw [<-e];exact ⟨by simpa using L,strValues l,0,IM,Heap.get?_push_size _ rfl⟩
    have W:1<=sizeLine:=by lia
    cases h1:(decide (x.length<y.length)||decide (strKind x<strKind y))
    ·cases j:(occurrences x y 0 x.length (x.length+1)).isEmpty
     ·rwa[call_meets F.slot_str_split @fe F.entry_str_split @dC (meets_str_split_sep x y t u h1 hy j @c J) ?_];show wants _ _ _ {s with toks:=_,heap:=s.heap.push {cls:= .type "list",data:= .seq (strsFrom s.toks (partsBetween x (occurrences x y 0 x.length (x.length+1)) y.length)).toArray}};rw [strsFrom_eq];have e:(numbered s.toks (partsBetween x (occurrences x y 0 x.length (x.length+1)) y.length)).map (·.1)=Txt.split x y:=(numbered_texts _ _).trans ((if_neg (ne_true_of_eq_false h1)).trans (if_neg (ne_true_of_eq_false j))).symm;rwa[z _ _ e ?_];have O:=congrArg List.length (numbered_texts s.toks (partsBetween x (occurrences x y 0 x.length (x.length+1)) y.length));rw [length_map] at O;lia
     ·exact call_meets F.slot_str_split @fe F.entry_str_split @dC (meets_str_split_not_found x y t u h1 hy j)
       (z [(x,t)] s.toks ((if_neg (ne_true_of_eq_false h1)).trans (if_pos j)).symm W)
    ·exact call_meets F.slot_str_split @fe F.entry_str_split @dC (meets_str_split_cannot_occur x y t u h1)
      (z [(x,t)] s.toks (if_pos h1).symm W)
def RE (K:Fg):V->Option Int->Option Int->Hp->VK->Prop:=λx lo hi H Q=>match x with
 | .ref p=>oF K p lo hi H Q
 | .str z=>z.length<=sizeLine/\Q (.str (Txt.slice z lo hi)) H
 |_=>False
theorem A7 (U:X.K=K):Ot X (RE K):=by
 intro pins s σ H x v W S lo hi sl Q I R hs pl O h
 cases x with
 |ref p=>exact RA U pins s σ H _ v W S lo hi sl Q I R hs pl O h
 |str z=>
  obtain ⟨t,rfl⟩:=R;obtain ⟨J,q⟩:=h;rwa[⟨"str",_,F.slot_str_getitem.lookup,typeIs_str _ _ _,?_⟩];have G:∀L k,EP X pins σ Q (.str (Txt.slice z lo hi) L) {s with toks:=k}:=λL k=>⟨.str _,H,I.tok k,⟨L,rfl⟩,q⟩
  cases pl with
  |none=>cases O with
   |none=>exact wpAny_getItem_str_slice (l:=none) (u:=none) (st:=none) hs rfl @J
   |int j tj=>exact wpAny_getItem_str_slice (l:=none) (u:=some (j,tj)) (st:=none) hs rfl @J
  |int i ti=>cases O with
   |none=>exact wpAny_getItem_str_slice (l:=some (i,ti)) (u:=none) (st:=none) hs rfl @J
   |int j tj=>exact wpAny_getItem_str_slice (l:=some (i,ti)) (u:=some (j,tj)) (st:=none) hs rfl @J
 |_=>exact False.elim h
theorem pO {x:Str}{C:Addr}{pos:Pos}(W:Gl X x)(F:X.mg x=some (.ref C))(j:(x==("__debug__":Str))=false:=by decide):PE X (.Name x pos) (tC (.ref C)):=Bq (v:=V.ref C) W F rfl j
end
theorem aq.seqT {K:Fg}{H H':Hp}{a:Addr}{xs:List V}(e:aq H H')(h:az K H a xs):az K H' a xs:=by
 rcases h with (h|⟨o,h⟩)|h
 ·exact .inl (.inl (e _ _ h))
 ·exact .inl (.inr ⟨o,e _ _ h⟩)
 ·exact .inr h
theorem aq.upd {H:Hp}{p:Addr}{o:HO}(G:H p=none):aq H @fP:=λb u z=>by rw [am (bI z G)];exact z
section
variable {K:Fg}{H H':Hp}{x:V}
theorem Lk {α β:Type}{F:α->β->Prop}:∀ {xs:List α} {ds:List β} {i:Nat} {x:α},Paired F xs ds->xs[i]? =some x->∃d,ds[i]? =some d/\F x d
 |_,_,0,_,.cons r _,h=>⟨_,rfl,by simp at h;exact h▸r⟩
 |_,_,i+1,_,.cons _ t,h=>by simpa using Lk t (by simpa using h)
 |_,_,i,_,.nil,h=>by simp at h
theorem Lj {α β:Type}{F:α->β->Prop}:∀ {xs:List α} {ds:List β} {i:Nat} {d:β},Paired F xs ds->ds[i]? =some d->∃x,xs[i]? =some x/\F x d
 |_,_,0,_,.cons r _,h=>⟨_,rfl,by simp at h;exact h▸r⟩
 |_,_,i+1,_,.cons _ t,h=>by simpa using Lj t (by simpa using h)
 |_,_,i,_,.nil,h=>by simp at h
theorem _root_.PySem.Paired.len {α β:Type}{F:α->β->Prop}{xs:List α}{ds:List β}(h:Paired F xs ds):xs.length=ds.length:=by
 induction h with
 |nil=>rfl
 |cons _ _ ih=>simp [ih]
theorem S3 {α β:Type}{F:α->β->Prop}:∀ {xs:List α} {ds:List β},xs.length=ds.length->(∀(i:Nat) x d,xs[i]? =some x->ds[i]? =some d->F x d)->Paired F xs ds
 |[],[],_,_=> .nil
 |x::xs,d::ds,hl,h=> .cons (h 0 x d rfl rfl) (S3 (by simpa using hl) λi y e h1 h2=>h (i+1) y e (by simpa using h1) (by simpa using h2))
 |[],_::_,hl,_=>by simp at hl
 |_::_,[],hl,_=>by simp at hl
theorem _root_.PySem.Paired.get1 {α β:Type}{F:α->β->Prop}{xs:List α}{ds:List β}{i:Nat}{x:α}(h:Paired F xs ds)(e:xs[i]? =some x):∃d,ds[i]? =some d/\F x d:=Lk h e
theorem _root_.PySem.Paired.get2 {α β:Type}{F:α->β->Prop}{xs:List α}{ds:List β}{i:Nat}{d:β}(h:Paired F xs ds)(e:ds[i]? =some d):∃x,xs[i]? =some x/\F x d:=Lj h e
theorem _root_.PySem.Paired.of {α β:Type}{F:α->β->Prop}{xs:List α}{ds:List β}(W:xs.length=ds.length)(h:∀(i:Nat) x d,xs[i]? =some x->ds[i]? =some d->F x d):Paired F xs ds:=S3 W h
theorem _root_.PySem.Paired.app {α β:Type}{F:α->β->Prop}{xs j:List α}{ds z:List β}(h:Paired F xs ds)(h':Paired F j z):Paired F (xs++j) (ds++z):=by
 induction h with
 |nil=>exact h'
 |cons r _ ih=>exact .cons r ih
abbrev av (K:Fg)(H:Hp):List V->List D->Prop:=Paired (bM K H)
theorem eh {a:Addr}{xs:List V}{ds:List D}(h:az K H a xs)(p:av K H xs ds):bM K H (.ref a) (.tup ds):=
 .tup h p.len λi x d h1 h2=>by obtain ⟨e,L,r⟩:=p.get1 h1;rw [h2] at L;cases L;exact r
theorem SJ {a:Addr}{xs:List V}{ds:List D}(h:aC K H a xs)(p:av K H xs ds):bM K H (.ref a) (.lst ds):=
 .lst h p.len λi x d h1 h2=>by obtain ⟨e,L,r⟩:=p.get1 h1;rw [h2] at L;cases L;exact r
theorem bM.outT {ds:List D}(h:bM K H x (.tup ds)):∃a xs,x= .ref a/\az K H a xs/\av K H xs ds:=by
 cases h with
 |tup h hl hi=>exact ⟨_,_,rfl,h,PySem.Paired.of hl hi⟩
theorem bM.isInt {i:Int}(h:bM K H x (.int i)):x= .int i:=by cases h;rfl
theorem bM.isStr {i:Str}(h:bM K H x (.str i)):x= .str i:=by cases h;rfl
theorem bM.same {d:D}(h:bM K H x d)(s:aq H H'):bM K H' x d:=by
 induction h with
 |non=>exact .non
 |bl b=>exact .bl b
 |int i=>exact .int i
 |str z=>exact .str z
 |lst h hl hi ih=>exact .lst (s.seq h) hl ih
 |tup h hl hi ih=>exact .tup (s.seqT h) hl ih
theorem av.same {xs:List V}{ds:List D}(h:av K H xs ds)(s:aq H H'):av K H' xs ds:=Paired.imp' (λ_ _ z=>bM.same z s) h
mutual
noncomputable def noL:D->Bool
 | .lst _=>false
 | .tup ds=>noLs ds
 |_=>true
noncomputable def noLs:List D->Bool
 |[]=>true
 |d::ds=>noL d&&noLs ds
end
theorem gG:∀ {ds:List D} {i:Nat} {d:D},noLs ds=true->ds[i]? =some d->noL d=true
 |[],_,_,_,h=>by simp at h
 |e::ds,0,d,hn,h=>by
  rw [noLs,Bool.and_eq_true] at hn;simp at h;exact h▸hn.1
 |e::ds,i+1,d,hn,h=>by
  rw [noLs,Bool.and_eq_true] at hn;exact gG hn.2 (by simpa using h)
theorem az.noL {a p:Addr}{xs zs:List V}{o:HO}(h:az K H a xs)(G:H p=some (.lst zs)):az K @fP a xs:=by
 rcases h with (h|⟨u,h⟩)|h
 ·exact .inl (.inl (by rw [am (λz=>by rw [z,G] at h;cases h)];exact h))
 ·exact .inl (.inr ⟨u,by rw [am (λz=>by rw [z,G] at h;cases h)];exact h⟩)
 ·exact .inr h
theorem bM.noL {d:D}{p:Addr}{zs:List V}{o:HO}(h:bM K H x d)(j:L2.noL d=true)(G:H p=some (.lst zs)):bM K (L2.upd H p o) x d:=by
 induction h with
 |non=>exact .non
 |bl b=>exact .bl b
 |int i=>exact .int i
 |str z=>exact .str z
 |lst h hl hi ih=>rw [L2.noL] at j;cases j
 |tup h hl hi ih=>
  rw [L2.noL] at j;exact .tup (h.noL G) hl λi x d h1 h2=>ih i x d h1 h2 (gG j h2)
theorem bC {xs zs:List V}{ds:List D}{p:Addr}{o:HO}(h:av K H xs ds)(z:noLs ds=true)(G:H p=some (.lst zs)):av K @fP xs ds:=
 PySem.Paired.of h.len λi x d h1 h2=>by
  obtain ⟨e,L,r⟩:=h.get1 h1;rw [h2] at L;cases L;exact r.noL (gG z h2) G
theorem IX {p:Addr}{ys:List V}{Q:VK}(h:aC K H p ys\/az K H p ys)(g:Q (.int ys.length) H):iY K p H Q:=⟨ys,h,g⟩
theorem Mt {p:Addr}{ys:List V}{Q:VK}{i:Int}{v:V}(h:aC K H p ys\/az K H p ys)(e:k7 ys i=some v)(g:Q v H):oG K p i H Q:=⟨ys,h,v,e,g⟩
theorem NJ {p:Addr}{ys:List V}{Q:VK}(h:aC K H p ys\/az K H p ys)(g:∀l,H l=none->Q (.ref l) @cj):yf K p H Q:=⟨ys,h,g⟩
end
section
variable {K:Fg}{H H':Hp}{x:V}{Q:VK}
theorem aq.get {b:Addr}{o:HO}(s:aq H H')(h:H b=some o):H' b=some o:=s b o h
def NA (xs:List V)(H:Hp)(Q:VK):Prop:=xs.length<=sizeLine/\∀p,H p=none->Q (.ref p) (upd H p (.tup xs))
def Ri (xs:List V)(H:Hp)(Q:VK):Prop:=xs.length<=sizeLine/\∀p,H p=none->Q (.ref p) (upd H p (.lst xs))
def O1 (t:TA):TE:=λσ H Q=>t σ H λxs H1=>NA xs H1 Q
def Pb (t:TA):TE:=λσ H Q=>t σ H λxs H1=>Ri xs H1 Q
theorem cO {X:Cx}{es:List Expr}{t:TA}{pos:Pos}{L}(h:PA X es t):PE X (.Tuple es L pos) (O1 t):=MQ h
theorem pW {X:Cx}{es:List Expr}{t:TA}{pos:Pos}(h:PA X es t):PE X (.List es pos) (Pb t):=MR h
theorem bD {xs:List V}(F:xs.length<=sizeLine)(g:∀p H',aq H H'->H p=none->H' p=some (.tup xs)->Q (.ref p) H'):NA xs H Q:=
 ⟨F,λp n=>g p _ (.upd n) n ag⟩
theorem gI {xs:List V}(F:xs.length<=sizeLine)(g:∀p H',aq H H'->H p=none->H' p=some (.lst xs)->Q (.ref p) H'):Ri xs H Q:=
 ⟨F,λp n=>g p _ (.upd n) n ag⟩
theorem fm {p:Addr}{ys:List V}(h:aC K H p ys)(g:∀p H',aq H H'->H p=none->H' p=some (.tup ys)->Q (.ref p) H'):Eo K p H Q:=Ps h λp n=>g p _ (.upd n) n ag
theorem lV {p:Addr}{ys:List V}(h:aC K H p ys\/az K H p ys)(g:∀p H',aq H H'->H p=none->H' p=some (.lst ys)->Q (.ref p) H'):yf K p H Q:=NJ h λp n=>g p _ (.upd n) n ag
theorem Bl {p:Addr}{xs:List V}{lo hi:Option Int}(h:aC K H p xs)(g:∀p H',aq H H'->H p=none->H' p=some (.lst @bx)->Q (.ref p) H'):oF K p lo hi H Q:=Mq h λp n=>g p _ (.upd n) n ag
theorem eV {p:Addr}{xs:List V}{lo hi:Option Int}(h:az K H p xs)(G: ¬(HT.sIx xs.length 0 lo=0/\HT.sIx xs.length xs.length hi=xs.length))(g:∀p H',aq H H'->H p=none->H' p=some (.tup @bx)->Q (.ref p) H'):oF K p lo hi H Q:=Mp h G λp n=>g p _ (.upd n) n ag
theorem av.via {xs:List V}{ds:List D}(s:aq H H')(h:av K H xs ds):av K H' xs ds:=av.same h s
theorem be {n:Nat}(h:n<=1000000):n<=sizeLine:=by rw [sizeLine_eq];lia
theorem aE {α:Type}{f:α->D}{xs:List V}{j:List α}(h:av K H xs (j.map f)):xs.length=j.length:=by rw [h.len];simp
theorem bi {α:Type}{f:α->D}{xs:List V}{j:List α}{i:Nat}{x:V}(h:av K H xs (j.map f))(e:xs[i]? =some x):∃a,j[i]? =some a/\bM K H x (f a):=by
 obtain ⟨d,J,dx⟩:=h.get1 e;rw [getElem?_map] at J
 cases z:j[i]? with
 |none=>rw [z] at J;cases J
 |some l=>rw [z] at J;exact ⟨l,rfl,Option.some.inj J▸dx⟩
end
end L2
local macro_rules | `(tactic| walk_at "l3sq") => `(tactic| first
  | assumption
  | (show L2.az _ _ _ _; first | exact L2.az.of (by assumption) | exact L2.aq.seqT (by assumption) (by walk_at "l3sq"))
  | (show L2.aC _ _ _ _; first | exact L2.aC.of (by assumption) | exact L2.aq.seq (by assumption) (by walk_at "l3sq"))
  | (show L2.SX _ _ _ _; exact L2.SX.via (by assumption) (by walk_at "l3sq"))
  | (show L2.av _ _ _ _; exact L2.av.via (by assumption) (by walk_at "l3sq"))
  | (show L2.bM _ _ _ _; exact L2.bM.via (by assumption) (by walk_at "l3sq"))
  | (show _ = some _; exact L2.aq.get (by assumption) (by walk_at "l3sq")))
namespace L2
theorem Do {c:Prop}[Decidable c]{A B:Prop}(I: ¬c)(h:A):oa (!decide c) A B:=SE (λ_=>h) (λz=>absurd z I)
theorem AK {c:Prop}[Decidable c]{A B:Prop}(I:c)(h:B):oa (!decide c) A B:=SE (λz=>absurd I z) (λ_=>h)
end L2
set_option hygiene false in
local macro_rules|`(tactic|walk_at "l3gs")=>do
 let r←("hv hw hx;hy hz hA;hB hC;hD hE;hF hG hH;hI hJ hK hL hM hN hO;hP hQ;hR hS;hT hU".splitOn ";").toArray.mapM λx=>do let i:Array Lean.Term:=(x.splitOn " ").toArray.map λs=>⟨Lean.mkIdent (.mkSimple s)⟩;let p:=i[0]!;let e:=i.extract 1 i.size;`(Lean.Parser.Tactic.tacticSeq|(show @$p;first $[|refine @$e]*))
 `(tactic|((conv=>whnf);first $[|$r]*))
local macro_rules | `(tactic| walk_at "l3go") => `(tactic| ((repeat (walk_at "l3gs")); conv => whnf))
local macro_rules | `(tactic| walk_at "l3gc") => `(tactic| (walk_at "l3go"; refine L2.cutE (by walk_at "l3go"; exact ⟨rfl, rfl⟩) ?_))
local macro_rules | `(tactic| walk_at "l3gr") => `(tactic| first | refine L2.aG rfl ?_ | refine L2.aP rfl ?_)
namespace L2
open PySem PySem.Spec PyProof.Rows
section
variable {X:Cx}{K:Fg}{H:Hp}{Q:VK}
theorem Hw {prog:Program}{w:World}{A:Around}{E:Value->Shared->Prop}{s:Shared}{t b:Addr}{ws:List Value}{Q:Value->Shared->Prop}(ht:IsTup s.heap t (#[]:Array Value))(hb:IsTup s.heap b ws.toArray)(h:Q (.ref b) s):wpAny @m A (binaryOp .Add (.ref t) (.ref b)) Q E s:=by
 obtain ⟨⟨Y,dd,U,sl⟩,O,L,n,W⟩:=id ht;obtain ⟨⟨S,z,R,G⟩,j,I,Z,J⟩:=id hb;simp only at L W I J;subst L W I J;exact concat_meets ⟨_,O,rfl⟩ ⟨_,j,rfl⟩ noFill_tuple_add seq_tuple_add PySem.F.slot_tuple_add PySem.F.entry_tuple_add @cE (tuple_addW0 t b #[] ws.toArray n Z dd z sl G @e) ⟨O,j,h⟩
def P8 (K:Fg):R2:=λx y H Q=>∃a b ys,x= .ref a/\y= .ref b/\az K H a []/\az K H b ys/\Q (.ref b) H
theorem JC:dA X @bB (P8 X.K):=by
 intro pins s σ H x y v u Q I z L h;obtain ⟨a,b,ys,rfl,rfl,j,J,q⟩:=h;cases z;cases L;obtain ⟨its,G,S,_⟩:=I.tuple j;obtain ⟨F,O,p2,_⟩:=I.tuple J;cases G;exact Hw S p2 ⟨.ref b,H,I,rfl,q⟩
def Hy (K:Fg)(p q:Addr)(H:Hp)(Q:VK):Prop:=DC K p q H Q\/∃ys,az K H p []/\az K H q ys/\Q (.ref q) H
def Pn (K:Fg):R2:=λx y H Q=>match x,y with
 | .int i,.int j=>Q (.int (i+j)) H
 | .str a,.str b=>a.length+b.length<=sizeLine/\Q (.str (a++b)) H
 | .ref p,.ref q=>Hy K p q H Q
 |_,_=>False
theorem dP (O:X.K=K):dA X @bB (Pn K):=by
 subst O;rwa[((LS rfl).or JC).imp λx y H Q h=> ?_]
 cases x with
 |int i=>cases y with
  |int j=>exact .inl h
  |_=>exact False.elim h
 |str a=>cases y with
  |str b=>exact .inl h
  |_=>exact False.elim h
 |ref p=>cases y with
  |ref q=>
   rcases h with h|⟨ys,h1,h2,L⟩
   ·exact .inl h
   ·exact .inr ⟨p,q,ys,rfl,rfl,h1,h2,L⟩
  |_=>exact False.elim h
 |_=>exact False.elim h
theorem Hx {p q:Addr}{xs ys:List V}(h1:H p=some (.lst xs))(h2:H q=some (.lst ys))(F:xs.length+ys.length<=sizeLine)(g:∀l H',aq H H'->H l=none->H' l=some (.lst (xs++ys))->Q (.ref l) H'):Hy K p q H Q:= .inl (QR h1 h2 F λl n=>g l _ (.upd n) n ag)
theorem ju {p q:Addr}{xs ys:List V}(h1:az K H p xs)(h2:H q=some (.tup ys))(O:ys≠[])(F:xs.length+ys.length<=sizeLine)(g:∀l H',aq H H'->H' l=some (.tup (xs++ys))->Q (.ref l) H'):Hy K p q H Q:=by
 by_cases z:xs=[]
 ·subst z;exact .inr ⟨ys,h1,az.of h2,g q H (.refl _) h2⟩
 ·exact .inl (QQ h1 (az.of h2) z O F λl n=>g l _ (.upd n) ag)
theorem uJ (x:V)(xs:List V):jr (x::xs) (some 1) none=xs:=by
 unfold jr
 have e:HT.sIx (x::xs).length 0 (some 1)=1:=by
  rw [show (some (1:Int))=some ((1:Nat):Int) from rfl,HT.sIx_nat,length_cons];lia
 rw [e,HT.sIx_none,length_cons];simp
theorem ly {pk:List @H}{σ:St}{x y:V}:xp (d4 (none::none::pk) σ) (((d4 (none::none::pk) σ).set 0 (some x)).set 1 (some y)):=
 xp.cons (.inl rfl) (.cons (.inl rfl) (.refl _))
theorem qa {pk:List @H}{σ:St}{x y z u:V}:xp (d4 (none::none::none::none::pk) σ) (((((d4 (none::none::none::none::pk) σ).set 0 (some x)).set 1 (some y)).set 2 (some z)).set 3 @em):=
 xp.cons (.inl rfl) (.cons (.inl rfl) (.cons (.inl rfl) (.cons (.inl rfl) (.refl _))))
end
abbrev TJ:=Str->St->Hp->(Str->Hp->Prop)->Prop
section
variable {X:Cx}{es:List Expr}{t:TJ}{te:TE}{e:Expr}{pos:Pos}
def PJ (X:Cx)(es:List Expr)(t:TJ):Prop:=∀(pins:List (Addr×Obj)) (s:Shared) (σ:St) (H:Hp) (acc:Str) (Q:Str->Hp->Prop),aA X pins σ H s->t acc σ H Q->
 Joins @d X.A X.xe (evalEach es X.env) acc (λout s1=>∃H1,aA X pins σ H1 s1/\Q out H1) s
def SC:TJ:=λacc σ H Q=>Q acc H
theorem Ak:PJ X [] SC:=λpins s σ H j Q I h=>⟨H,I,h⟩
def SA (c:Str)(t:TJ):TJ:=λacc σ H Q=>(acc++c).length<=sizeLine/\t (acc++c) σ H Q
theorem Ai {c:Str}{k:Nat}(h:PJ X es t):PJ X (.Constant (.str c) k pos::es) (SA c t):=λpins s σ H j Q I ⟨F,q⟩=>
 Joins_cons (Calls.Constant_str ⟨c,_,rfl,F,h pins _ σ H _ Q @eY q⟩)
def SB (te:TE)(t:TJ):TJ:=λacc σ H Q=>te σ H λx H1=>match x with
 | .str y=>(reprText y).length<=sizeLine/\(acc++reprText y).length<=sizeLine/\t (acc++reprText y) σ H1 Q
 |_=>False
theorem Aj (L:PE X e te)(h:PJ X es t):PJ X (.FormattedValue e 114 none pos::es) (SB te t):=λpins s σ H G Q I q=>by
 rwa[Joins_cons (wpAny_FormattedValue_repr (bP (L pins s σ H _ I q) λv R j=> ?_))];obtain ⟨x,H1,J,O,F⟩:=j
 cases x with
 |str y=>
  obtain ⟨tk,rfl⟩:=O;obtain ⟨z,U,Y⟩:=F;rwa[wpAny_pyReprObj_str ?_ z];exact wpAny_formatField_str ⟨_,_,rfl,U,h pins _ σ H1 _ Q (J.tok _) Y⟩ ⟨_,_,rfl,U,h pins _ σ H1 _ Q ((J.tok _).tok _) Y⟩ z
 |_=>exact False.elim F
def PL (t:TJ):TE:=λσ H Q=>t Str.empty σ H λout H1=>out.length<=sizeLine/\Q (.str out) H1
theorem rj {M:Model}{A:Around}{E:Value->Shared->Prop}{Q j:Str->Shared->Prop}(i:∀o s,Q o s->j o s):∀(ps:List (Sem Value)) (acc:Str) (s:Shared),Joins M A E ps acc Q s->Joins M A E ps acc j s
 |[],acc,s,h=>i acc s h
 |x::eK,acc,s,h=>bP (show wpAny M A x _ E s from h) λv O ⟨y,t,e,z,r⟩=>⟨y,t,e,z,rj i eK (acc++y) O r⟩
theorem mI {j F:Expr}(h:PJ X (j::F::es) t):PE X (.JoinedStr (j::F::es) pos) (PL t):=λpins s σ H Q I q=>
 wpAny_JoinedStr (rj (λo O ⟨H1,J,z,G⟩=>⟨z,.str o,H1,J.tok _,⟨_,rfl⟩,G⟩) _ _ _ (h pins s σ H Str.empty _ I q))
end
section
variable {X:Cx}{K:Fg}
theorem CD (bs:List Bool):((List.range bs.length).any λi=>(bs[i]?).getD true)=bs.any id:=by
 rw [Bool.eq_iff_iff,any_eq_true,any_eq_true];constructor
 ·rintro ⟨i,hi,e⟩;have hi:=mem_range.mp hi;rw [getElem?_eq_getElem hi] at e;exact ⟨_,getElem_mem hi,e⟩
 ·rintro ⟨b,F,e⟩;obtain ⟨i,hi,rfl⟩:=mem_iff_getElem.mp F;exact ⟨i,mem_range.mpr hi,by rw [getElem?_eq_getElem hi];exact e⟩
theorem DK (J:X.calm=true):bj X (.builtin "any") (λxs H Q=>∃(a:Addr) (bs:List Bool),xs=[.ref a]/\aC X.K H a @bm/\Q (.bl (bs.any id)) H):=by
 intro pins s σ H xs U Q I r h;obtain ⟨a,bs,rfl,G,q⟩:=h;obtain ⟨u,rfl,L⟩:=iE r;cases L;obtain ⟨its,S,pl,hz⟩:=I.list G;have W:s.heap.IsList a its.toArray:=pl.isList;have F:=yS S
 have z:a<s.heap.objs.size:=by obtain ⟨_,e,_⟩:=W;exact Heap.lt_size e
 rwa[call_any_walk (wpAny_pyIter_list W ?_)]
 refine ⟨s.heap.objs.size,[s.heap.objs.size,a],[s.heap.objs.size],its.toArray.size,_,_,λi=>(bs[i]?).getD true,rfl,Walks.list (A:=X.A.in1) @eH _ a (Nat.ne_of_lt z) its.toArray,
  ⟨⟨_,Heap.get?_push_size _ rfl,rfl,rfl⟩,W.push _⟩,λi v s' Y Z O j=> ?_,λh' tk R=> ?_⟩
 ·obtain ⟨b,e,rfl⟩:=F.get i v (by simpa using O);simp only [e,Option.getD_some] at j;exact wpAny_truthy_bool j
 ·have e:((List.range its.toArray.size).any λi=>(bs[i]?).getD true)=bs.any id:=by
   rw [size_toArray,F.length];exact CD bs
  rw [e];exact ⟨.bl _,H,I.kept (LSm.kept_iter R),rfl,q⟩
def KU (K:Fg)(a:Addr)(H:Hp)(Q:VK):Prop:=∃bs:List Bool,aC K H a @bm/\Q (.bl (bs.any _root_.id)) H
def Pk (K:Fg):List V->Hp->VK->Prop:=λxs H Q=>match xs with|[.ref a]=>KU K a H Q|_=>False
theorem K9 (O:X.K=K)(I:X.calm=true):bj X (.builtin "any") (Pk K):=by
 subst O;rwa[(DK I).imp λxs H Q h=> ?_];unfold Pk at h;split at h
 ·obtain ⟨j,h1,h2⟩:=h;exact ⟨_,j,rfl,h1,h2⟩
 ·exact h.elim
theorem Lu {K:Fg}{p:Addr}{H:Hp}{Q:VK}{bs:List Bool}(h:aC K H p @bm)(g:Q (.bl (bs.any id)) H):KU K p H Q:=⟨bs,h,g⟩
noncomputable def IP (x y:Str):Bool:=decide (0+y.length<=x.length)&&Builtin.Str.subAt x y 0
def Ba:V->List V->Hp->VK->Prop:=λx xs H Q=>match x,xs with| .str z,[.str y]=>Q (.bl (IP z y)) H|_,_=>False
theorem Ec:zc X "str.startswith" Ba:=by
 intro pins s σ H x xs v L Q I j J h;unfold Ba at h;split at h
 ·rename_i z y;obtain ⟨t,rfl⟩:=j;obtain ⟨u,rfl,G,rfl⟩:=iE J;exact call_gives F.slot_str_startswith @eZ F.entry_str_startswith (F.args_str_startswith_2 _ _) (gives_str_startswith z y t G) ⟨.bl _,H,I,rfl,h⟩
 ·exact h.elim
end
noncomputable def gm:Stmt->Nat->Stmt
 | .ClassDef _ _ _ body _ _ _ _ _ _ _,j=>body.getD j (.Pass ⟨0,0,0,0⟩)
 |s,_=>s
structure gU (K:Fg)(C:Addr):Prop where
 cl:uY K C
 ha:W.findIn K (.ref C) "__class__"=some (some (.builtin "object.__class__"))
 hn:W.specialIn K (.builtin "object.__class__") "__get__"=some (some (.builtin "getset_descriptor.__get__"))
 htk:W.takesIn K (.builtin "object.__class__")=some true
 hm:W.mroIn K C (.type "object")=some true
structure Lv (K:Fg)(C:Addr):Prop where
 makes:W.makesIn K C=true
 init:W.findIn K (.ref C) "__init__"=some (some (.builtin "object.__init__"))
 kp:W.keepIn K (.ref C)=true
section
variable {X:Cx}{C:Addr}{x:Str}{p pos:Pos}
def Eu (C:Addr):TE:=λ_ H Q=>∀a dx,H a=none->H dx=none->dx≠a->Q (.ref a) @r
theorem Jj {pins:List (Addr×Obj)}{σ:St}{H:Hp}{s:Shared}{Q:VK}(M:Lv X.K C)(I:aA X pins σ H s)(h:Eu C σ H Q):wpAny @d X.A (call (.ref C) []) @v X.xe s:=by
 have J:=h (s.heap.objs.size+1) s.heap.objs.size (I.hok.fresh @eh) @bH (Nat.ne_of_lt @cc);have F:=aA.made (C:=C) I;have Y:=W.makes_of (M:=model X.prog X.w) I.kIn M.makes
 have O:((s.heap.push W.emptyDict).push @u).get? (s.heap.objs.size+1)=some @u:=by
  have:=Heap.get?_push_size @fp (o:=W.instObj C s.heap.objs.size) rfl;rwa [Heap.size_push] at this
 have L:PySem.W.Looks @d ((s.heap.push W.emptyDict).push @u) (typeOf (.ref (s.heap.objs.size+1))) (.ref C):=(PySem.W.Looks.ld O).andThen .now;have z:PySem.W.Looks @d ((s.heap.push W.emptyDict).push @u) (isInstance (.ref (s.heap.objs.size+1)) (.type "object")) true:=L.andThen (Y.top.keeps λb o e=>Heap.get?_push_of_some _ (Heap.get?_push_of_some _ e));rwa[wpAny_call (Da I.kIn M.makes M.init (λj=>PySem.W.Looks.of_pure (W.oi_bind j)) ?_)];obtain ⟨G,g,d,t,os⟩:=s;rwa[codeAny_call_builtin W.oi_plain W.entry_oi (@W.check_slot @d _ _ _ "object.__init__" "object" "__init__" (.ref (G.objs.size+1)) [] [] _ W.oi_kind W.oi_split z (W.oi_args (.ref (G.objs.size+1))) ?_)];rw [W.oi_run];exact wpAny_pure (And.intro rfl ⟨V.ref (G.objs.size+1),_,F,rfl,J⟩)
theorem Am (M:Lv X.K C)(z:Gl X x)(F:X.mg x=some (.ref C))(j:(x==("__debug__":Str))=false:=by decide):PE X (.Call (.Name x p) [] [] pos) (Eu C):=by
 intro pins s σ H Q I h;rwa[wpAny_Call_Name_kw (lW I z F ?_ j)];exact W.callWith_K0 I.kIn M.kp (Jj M I h)
end
theorem fA {H:Hp}{a dx:Addr}{o:HO}(h1:H a=none)(h2:H dx=none):aq H (upd (upd H dx (.own a)) a o):=λb u z=>by
 rw [am (λe=>by rw [e,h1] at z;cases z),am (λe=>by rw [e,h2] at z;cases z)];exact z
theorem ND {C:Addr}{σ:St}{H:Hp}{Q:VK}(g:∀a dx H',aq H H'->H a=none->H' a=some (.ins C dx [])->Q (.ref a) H'):Eu C σ H Q:=λa dx h1 h2 _=>g a dx _ (fA h1 h2) h1 ag
noncomputable def SU:Value->Option V
 | .none=>some .non
 | .bool b=>some (.bl b)
 | .int i _=>some (.int i)
 | .str x _=>some (.str x)
 | .bytes b _=>some (.byt b)
 | .float b _=>some (.flt b)
 | .ref a=>some (.ref a)
 | .type n=>some (.ty n)
 |_=>none
theorem B5 {x:V}{u:Value}(h:aF x u):SU u=some x:=by
 cases x with
 |non=>cases h;rfl
 |bl b=>cases h;rfl
 |int i=>obtain ⟨t,rfl⟩:=h;rfl
 |str i=>obtain ⟨t,rfl⟩:=h;rfl
 |byt i=>obtain ⟨t,rfl⟩:=h;rfl
 |flt i=>obtain ⟨t,rfl⟩:=h;rfl
 |ref i=>cases h;rfl
 |ty i=>cases h;rfl
theorem Fp {x y:V}{u:Value}(h:aF x u)(h':aF y u):x=y:=by
 have e:=(B5 h).symm.trans (B5 h');exact Option.some.inj e
section
variable {X:Cx}{K:Fg}
open Classical in
noncomputable def tS (K:Fg)(H:Hp)(e:D)(u:Value):Bool:=if h:∃d,∃x,aF x u/\bM K H x d then jP h.choose e else false
theorem BP {pins:List (Addr×Obj)}{σ:St}{H:Hp}{s:Shared}(I:aA X pins σ H s){e d:D}{x:V}{u:Value}(r:aF x u)(h:bM X.K H x d):tS X.K H e u=jP d e:=by
 have z:∃d,∃x,aF x u/\bM X.K H x d:=⟨d,x,r,h⟩;unfold tS;rw [dif_pos z];obtain ⟨y,L,j⟩:=z.choose_spec;have:=Fp r L;subst this;rw [bM.inj I j h]
theorem sL {pins:List (Addr×Obj)}{σ:St}{H:Hp}{s:Shared}(I:aA X pins σ H s){e:D}:∀ {xs:List V} {ds:List D} {us:List Value},aO xs us->av X.K H xs ds->us.any @cF=ds.any λd=>jP d e
 |_,_,_,.nil,.nil=>rfl
 |_,_,_,.cons r t,.cons h p=>by rw [any_cons,any_cons,BP I r h,sL I t p]
theorem nR {pins:List (Addr×Obj)}{σ:St}{H:Hp}{s:Shared}{A:Around}(I:aA X pins σ H s){y:V}{e:D}{v:Value}(L:aF y v)(O:bM X.K H y e):∀ {xs:List V} {ds:List D} {us:List Value},aO xs us->av X.K H xs ds->(∀d∈ds,A.units+iO d<cLine)->∀u∈us,SeqAt.EqAt A s u v (tS X.K H e u)
 |_,_,_,.nil,_,_=>λu z=>by cases z
 |_,_,_,.cons r t,.cons h p,hd=>λG z=>by
  rcases mem_cons.mp z with rfl|z
  ·rw [BP I r h];exact jq I h O r L (hd _ (.head _))
  ·exact nR I L O t p (λd j=>hd d (.tail _ j)) G z
def Sn (K:Fg):R2:=λx y H Q=>∃p xs ds e,y= .ref p/\(aC K H p xs\/az K H p xs)/\av K H xs ds/\bM K H x e/\(∀d∈ds,iO d<=50)/\Q (.bl @dW) H
theorem M5 {m:Nat}(S:cr m X.A):dA X @cs (Sn X.K):=by
 intro pins s σ H x y v u Q I L R h;obtain ⟨p,xs,ds,e,rfl,F,dx,O,U,q⟩:=h;cases R
 have z:∀d∈ds,X.A.units+1+iO d<cLine:=λd j=>by have:=S.un;have:=U d j;lia
 have G:∀d∈ds,X.A.units+iO d<cLine:=λd j=>by have:=z d j;lia
 rcases F with F|F
 ·obtain ⟨its,r,pl,W⟩:=I.list F;rwa[SeqAt.in_listAt @cF pl.isList (λw J=>nR I L O r dx (by first|exact G|exact z) w (by simpa using J)) ⟨.bl _,H,I,rfl,?_⟩];rw [show its.toArray.any @cF=its.any @cF by simp,sL I r dx];exact q
 ·obtain ⟨its,r,pl,W⟩:=I.tuple F;rwa[SeqAt.in_tupleAt @cF pl (λw J=>nR I L O r dx (by first|exact G|exact z) w (by simpa using J)) ⟨.bl _,H,I,rfl,?_⟩];rw [show its.toArray.any @cF=its.any @cF by simp,sL I r dx];exact q
def vE (K:Fg)(x:V)(p:Addr)(H:Hp)(Q:VK):Prop:=∃xs ds e,(aC K H p xs\/az K H p xs)/\av K H xs ds/\bM K H x e/\(∀d∈ds,iO d<=50)/\Q (.bl @dW) H
def Ph (K:Fg):R2:=λx y H Q=>match y with| .ref p=>vE K x p H Q|_=>False
theorem OW {m:Nat}(O:X.K=K)(S:cr m X.A):dA X @cs (Ph K):=by
 subst O;rwa[(M5 S).imp λx y H Q h=> ?_];unfold Ph at h;split at h
 ·obtain ⟨xs,ds,e,h1,h2,L,j,U⟩:=h;exact ⟨_,xs,ds,e,rfl,h1,h2,L,j,U⟩
 ·exact h.elim
theorem IY {x:V}{p:Addr}{H:Hp}{Q:VK}{xs:List V}{ds:List D}{e:D}(h:aC K H p xs)(h1:av K H xs ds)(h2:bM K H x e)(L:∀d∈ds,iO d<=50)(g:Q (.bl @dW) H):vE K x p H Q:=⟨xs,ds,e,.inl h,h1,h2,L,g⟩
end
section
variable {X:Cx}{x:Str}{p pos:Pos}{e:Expr}{es:List Expr}{t:TA}{ps:List Str}{sp:Sp}{n m:Nat}{E:XK}{C:Addr}
def Tq:XK:=λ_ _ _=>False
theorem Jy:iA (y4 X.prog X.w) X Tq:=λpins σ H s e s' I h=>by
 obtain ⟨a,T,F,Z,H',_,_,_,_,_,_,_,_,_,_,q⟩:=h;exact q.elim
end
open PySem.W
noncomputable def SH (K:Frag)(C:Addr)(bmB:List Value)(newId:String):Bool:=match K.lookup C with
 |some ⟨.type "type",_,.cls cd,sl⟩=>(match cd.mro,sl.toList with
  | .ref C'::bm,[_,_,_,_,some (.builtin n),_]=>C'==C&&n==newId&& !cd.hasDel&&tailIn K bmB bm&&nsOkIn K cd.ns&&cd.hasDict
  |_,_=>false)
 |_=>false
abbrev Tx:List Value:=[.type "ValueError",.type "Exception",.type "BaseException",.type "object"]
noncomputable def QM (a:Addr)(cls:Value)(dd:Option Addr):HO:= .ext λh=>∃oe vs,h.get? a=some oe/\oe.cls=cls/\oe.dict=dd/\oe.data= .fields vs/\vs[1]? =some .none/\vs[2]? =some .none
structure BaseI (K:Frag)(B:Addr):Prop where
 rd:readsIn K B (.type "type")=true
 at_:findCls K (.ref B) (.type "type") "__init__"=some (.val (.builtin "ValueError.__init__"))
 ga:specialIn K (.ref B) "__getattribute__"=some (some (.builtin "type.__getattribute__"))
inductive Sf (C:Addr)(fld:Str)(vs:List V)(H:Hp)(Q:VK)(_e:XK):Prop
 |mk (a v:_) (_:vs=[.ref a,v]) (_:H a=some (QM a (.ref C) none)) (_:∀d,H d=none->d≠a->Q .non (upd (upd H a (QM a (.ref C) (some d))) d (.xd [(fld,v)])))
structure XI (K:Frag)(C f:Addr):Prop where
 j:SH K C Tx "ValueError.__new__"=true
 init:findIn K (.ref C) "__init__"=some @Z
 fn:isFn K (.ref f)=true
 kp:keepIn K (.ref C)=true
structure XMk (P:Program)(w:World)(K:Frag)(mg:Str->Option Value)(base:Heap)(n:Nat)(x:Str)(C:Addr)(fld:Str):Prop where
 ex:∃f fd ps,XI K C f/\ay P w K mg base bd n f fd ps (Sf C fld)/\fU K fd ps []/\mg x=some (.ref C)
open PySem.Calls Att
theorem sK {i:Int}{n:Nat}(h:WData.weight (.int i)<=n):Builtin.Int.intBits i<=n:=by
 unfold WData.weight at h;unfold Builtin.Int.intBits;exact h
theorem pq:∀ {ns:List Int} {n:Nat},WData.weightAll @fa<=n->∀i∈ns,Builtin.Int.intBits i<=n
 |[],_,_,_,hi=>nomatch hi
 |a::r,n,h,i,hi=>by
  have h':WData.weight (.int a)+1+WData.weightAll (r.map WData.int)<=n:=by simpa [WData.weightAll] using h
  rcases mem_cons.mp hi with rfl|hi
  ·exact sK @c
  ·exact pq @c i hi
theorem yU {R:List Int}(h:WData.layableAll [WData.list (List.map WData.int R)]=true):∀i∈R,Builtin.Int.intBits i<=2^20:=by
 have h1:WData.layable (WData.list (List.map WData.int R))=true:=by simpa [WData.layableAll] using h
 unfold WData.layable at h1;rw [Bool.and_eq_true,Bool.and_eq_true] at h1;have h2:=of_decide_eq_true h1.2;rwa[pq ?_];simpa [WData.weight] using h2
theorem xb {l:OpenLaw}{n:Nat}{q:Program}{j:List Str}{XP:(Str->Option Value)->Heap->Prop}{YP:World->Heap->Prop}{d:DefRec}
(hn:l.most=some n)(W:d.params.defaults=[])
(O:∀(w:World) (s₀ s₁:Shared) (mg mb:Str->Option Value) (fa:Addr) (o:Obj) (pm cd doc:Value) (a:Addr) (vs:List Value) (ns:List Int),
   Ground q j [] XP w s₀ mg mb s₁.heap->YP w s₁.heap->
   s₁.heap.get? fa=some o->o.data= .func (docDef d.name d.params d.body d.scope pm cd doc)->s₁.heap.CodeRec cd d.name->mg d.name=some (.ref fa)->
   s₁.heap.get? a=some {cls:= .type "list",data:= .seq vs.toArray}->IntsAre vs ns->ns.length<=n->(∀i∈ns,Builtin.Int.intBits i<=2^20)->s₁.gens= #[]->
   codeAny (model l.prog w) callerA (.call (.ref fa) ⟨[.ref a],[]⟩) (λr s'=>r= .ok (.ret (.bool true))/\OldK s₁.heap s'.heap/\s'.os=s₁.os/\AllBare s'.gens) s₁):
 WalkO q j XP YP l.row.toRowW d [] @cZ:=by
 intro w s₀ s₁ mg mb G Y fa o pm cd doc dV kV ho hd R hD U hg aa Z as F J ab S ac;obtain rfl:dV= .none:=Dflts.none hD W;obtain rfl:kV= .none:=Dflts.noKw hD;obtain ⟨a,vs,ns,rfl,rfl,I,z,L⟩:=Cm hn F S;rwa[enter_call (codeAny_mono (O w s₀ s₁ mg mb fa o pm cd doc a vs ns G Y ho (fd_plain hd) R U I z L (yU J) hg) λr s' hq=> ?_)];obtain ⟨rfl,h2,h3,h4⟩:=hq;exact ⟨.inl ⟨.bool true,.bool true,[],rfl,λ_=>rfl,.bool true,CF l _,λ_=>⟨List.Pairwise.nil,λ_ hm=>(nomatch hm)⟩⟩,h2,h3,h4⟩
def O8:R2:=λx y H Q=>match x,y with
 | .int i,.int j=>IntMulOk i j/\Q (.int (i*j)) H
 |_,_=>False
theorem ve {X:Cx}:dA X @dV O8:=(OA (C:=IntMulOk) (g:=λi j=>i*j) λ_ _ _ _ _ _ _ I q=>mul_int q I).imp λx y H Q h=>by
 match x,y,h with
 | .int i,.int j,h=>exact ⟨i,j,rfl,rfl,h⟩
theorem GH {i k:Int}(h:Builtin.Int.intBits i<=2^20)(k0:0<=k)(k1:k<1000):IntMulOk (i*48271+7919*k*k+11) (2305843009213693951^4):=by
 have R:7919*k*k+11<=7919*1000*1000+11:=by
  have:7919*k*k<=7919*1000*1000:=Int.mul_le_mul @c @c k0 @b;lia
 have j:0<=7919*k*k+11:=by
  have:0<=7919*k*k:=Int.mul_nonneg @c k0;lia
 rw [Int.add_assoc];rwa[IntMulOk.of_le (m:=2^21) (n:=300) ?_ @f @b];rwa[Nat.le_trans (PyProof.Rows.bits_add (PyProof.Rows.bits_mul h (PySem.intBits_le_64 @b @b)) (PySem.intBits_le_64 @c @c)) @b]
open PySem.StrLaws Builtin.Str
noncomputable def jn (sp:List Nat):List @gl->List Nat
 |[]=>[]
 |[p]=>p
 |p::q::r=>p++sp++jn sp (q::r)
theorem kP (y:Str):∀ps:List Str,(Str.join y ps).cps.toList=jn y.cps.toList @cL
 |[]=>rfl
 |[p]=>rfl
 |p::q::r=>by
  show (p++y++Str.join y (q::r)).cps.toList=p.cps.toList++y.cps.toList++jn _ ((q::r).map λp=>p.cps.toList);rw [<-kP y (q::r)];simp [Str.cps_append]
theorem rn {c:Nat}{ts:List Nat}(I:c∉ts):∀ps:List @gl,ps≠[]->(jn (c::ts) ps).count c+1=(ps.map (·.count c)).sum+ps.length
 |[],h=>absurd rfl h
 |[p],_=>by simp [jn]
 |p::q::r,_=>by
  have j:=rn I (q::r) @e;have J:ts.count c=0:=List.count_eq_zero.mpr I;simp only [jn,List.count_append,List.count_cons_self,J,map_cons,sum_cons,length_cons] at j ⊢;lia
theorem NS {c:Nat}{ts:List Nat}:∀(ps qs:List @gl),ps≠[]->qs≠[]->(∀p∈ps,c∉p)->(∀q∈qs,c∉q)->jn (c::ts) ps=jn (c::ts) qs->ps=qs:=by
 have j:∀(p q a b:List Nat),c∉p->c∉q->p++c::a=q++c::b->p=q/\a=b:=by
  intro p
  induction p with
  |nil=>
   intro q a b _ F e
   cases q with
   |nil=>exact ⟨rfl,by simpa using e⟩
   |cons z q=>simp only [nil_append,cons_append,List.cons.injEq] at e;exact absurd (by rw [e.1];exact .head _) F
  |cons z p ih=>
   intro q a b G F e
   cases q with
   |nil=>simp only [nil_append,cons_append,List.cons.injEq] at e;exact absurd (by rw [<-e.1];exact .head _) G
   |cons z' q=>
    simp only [cons_append,List.cons.injEq] at e;obtain ⟨h1,h2⟩:=ih q a b (λz=>G (.tail _ z)) (λz=>F (.tail _ z)) e.2;exact ⟨by rw [e.1,h1],h2⟩
 intro ps
 induction ps with
 |nil=>intro qs h;exact absurd rfl h
 |cons p ps ih=>
  intro qs _ I G F e
  cases qs with
  |nil=>exact absurd rfl I
  |cons q qs=>
   have O:=G p (.head _);have L:=F q (.head _)
   cases ps with
   |nil=>
    cases qs with
    |nil=>simp only [jn] at e;rw [e]
    |cons q2 qs=>
     simp only [jn] at e;exact absurd (by rw [e];simp) O
   |cons p2 ps=>
    cases qs with
    |nil=>
     simp only [jn] at e;exact absurd (by rw [<-e];simp) L
    |cons q2 qs=>
     simp only [jn,append_assoc,cons_append] at e;obtain ⟨h1,h2⟩:=j p q _ _ O L e;have R:=List.append_cancel_left h2;rw [h1,ih (q2::qs) @e @e (λz J=>G z (.tail _ J)) (λz J=>F z (.tail _ J)) R]
theorem Gx {c:Nat}{ts:List Nat}(I:c∉ts):∀(ps:List @gl),(∀p∈ps,c∉p)->∀i,(jn (c::ts) ps)[i]? =some c->∃r,(jn (c::ts) ps).drop i=(c::ts)++r
 |[],_,i,h=>by simp [jn] at h
 |[p],hp,i,h=>by
  simp only [jn] at h;exact absurd (mem_of_getElem? h) (hp p (.head _))
 |p::q::r,hp,i,h=>by
  simp only [jn,append_assoc] at h ⊢;by_cases h1:i<p.length
  ·rw [getElem?_append_left h1] at h;exact absurd (mem_of_getElem? h) (hp p (.head _))
  ·rw [getElem?_append_right @c] at h;rw [List.drop_append,List.drop_eq_nil_of_le @c,nil_append];generalize i - p.length=j at h ⊢;by_cases h2:j<(c::ts).length
   ·rw [getElem?_append_left h2] at h
    cases j with
    |zero=>exact ⟨_,rfl⟩
    |succ j=>
     rw [List.getElem?_cons_succ] at h;exact absurd (mem_of_getElem? h) I
   ·rw [getElem?_append_right @c] at h;obtain ⟨R,e⟩:=Gx I (q::r) (λz F=>hp z (.tail _ F)) _ h;rwa[⟨R,?_⟩];rw [List.drop_append,List.drop_eq_nil_of_le @c,nil_append];exact e
theorem kJ (s sub:Str)(hi F:Nat)(O:∀i j,At s sub hi i->At s sub hi j->i<j->i+sub.length<=j):
 ∀(l:List Nat) (st:Array Nat×Nat),l.Pairwise (· < ·)->(∀i∈l,At s sub hi i->st.2<=i)->st.1.size+l.length<=F->
  (forIn l st (occBody s sub hi F)).run.fst.toList.length=st.1.size+(l.filter λi=>decide (i+sub.length<=hi)&&subAt s sub i).length
 |[],st,_,_,_=>by simp
 |a::l,st,hl,hf,hz=>by
  rw [forIn_cons];unfold occBody;have I:=List.pairwise_cons.mp hl;simp only [length_cons] at hz;split
  ·rename_i L;have R:At s sub hi a:=⟨L.1.2,L.2⟩;have h:=kJ s sub hi F O l (st.fst.push a,a+sub.length) I.2 (λi G J=>O a i R J (I.1 i G)) (by simp;lia);rwa[Eq.trans h ?_];rw [filter_cons_of_pos (by rw [decide_eq_true L.1.2,L.2];rfl)];simp;lia
  ·rename_i L;have R: ¬At s sub hi a:=λz=>L ⟨⟨⟨by lia,hf a (.head _) z⟩,z.1⟩,z.2⟩;have h:=kJ s sub hi F O l st I.2 (λi G J=>hf i (.tail _ G) J) @c;rwa[Eq.trans h ?_]
   rw [filter_cons_of_neg (by
    intro z;rw [Bool.and_eq_true,decide_eq_true_eq] at z
    exact R z)]
theorem wS (c:Nat):∀(L:List Nat) (n:Nat),L.length<=n->((List.range n).filter λi=>decide (L[i]? =some c)).length=L.count c:=by
 intro L
 induction L with
 |nil=>
  intro n _;rw [List.count_nil,length_eq_zero_iff,List.filter_eq_nil_iff];intro i _;simp
 |cons a L ih=>
  intro n j
  cases n with
  |zero=>simp at j
  |succ n=>
   have ah:L.length<=n:=by simpa using j
   rw [range_succ_eq_map]
   have e:(List.map Nat.succ (List.range n)).filter (λi=>decide ((a::L)[i]? =some c))=((List.range n).filter λi=>decide (L[i]? =some c)).map Nat.succ:=by
    rw [List.filter_map];rfl
   rw [filter_cons,e];by_cases z:a=c
   ·subst z;simp [ih n ah]
   ·rw [if_neg (by simp [z]),length_map,ih n ah,List.count_cons_of_ne z]
theorem xD:∀ {l:List Nat},(∀z∈l,z=0)->l.sum=0
 |[],_=>rfl
 |a::l,h=>by rw [sum_cons,h a (.head _),xD λz F=>h z (.tail _ F)]
theorem Gs:∀ {l:List Nat} {z:Nat},z∈l->z<=l.sum
 |a::l,z,h=>by
  rw [sum_cons]
  rcases mem_cons.mp h with rfl|h
  ·lia
  ·have:=Gs h;lia
theorem zu {y:Str}{c:Nat}{ts:List Nat}(U:y.cps.toList=c::ts)(R:c∉ts)(hk:Builtin.Str.strKind y=1){ps:List Str}(Y:ps≠[])(hp:∀p∈ps,c∉p.cps.toList):Txt.split (Str.join y ps) y=ps:=by
 generalize W:Str.join y ps=x
 have I:x.cps.toList=jn (c::ts) @cL:=by rw [<-W,kP,U]
 have G:∀p∈ps.map (λp=>p.cps.toList),c∉p:=λp az=>by
  obtain ⟨q,hq,rfl⟩:=mem_map.mp az;exact hp q hq
 have ae:y.length=(c::ts).length:=by rw [<-U];simp [Str.length]
 have ag:x.length=x.cps.toList.length:=by simp [Str.length]
 have O:∀i,At x y x.length i↔x.cps.toList[i]? =some c:=λi=>by
  unfold At;rw [subAt_eq,U,ae];constructor
  ·intro z;have z2:=eq_of_beq z.2
   have:((x.cps.toList.drop i).take (c::ts).length)[0]? =some c:=by rw [z2];rfl
   rw [getElem?_take_of_lt @e,getElem?_drop] at this;simpa using this
  ·intro z;rw [I] at z;obtain ⟨r,e⟩:=Gx R _ G i z;rw [<-I] at e
   have hl:i+(c::ts).length<=x.length:=by
    have:=congrArg List.length e;rw [length_drop,length_append] at this
    have hi:i<x.cps.toList.length:=by
     rw [I];exact (List.getElem?_eq_some_iff.mp z).1
    lia
   rwa[⟨hl,?_⟩];rw [e,List.take_left];exact beq_self_eq_true _
 have ap:∀i j,At x y x.length i->At x y x.length j->i<j->i+y.length<=j:=λi j hi hj af=>by
  rwa[Nat.le_of_not_lt λL=> ?_];have zi:=(O i).mp hi;have zj:=(O j).mp hj;rw [I] at zi;obtain ⟨r,e⟩:=Gx R _ G i zi;rw [<-I] at e
  have e2:x.cps.toList[j]? =((c::ts)++r)[j - i]? :=by
   rw [<-e,getElem?_drop];congr 1;lia
  rw [e2,getElem?_append_left @c] at zj;obtain ⟨k,ab⟩:∃k,j - i=k+1:=⟨j - i - 1,by lia⟩;rw [ab,List.getElem?_cons_succ] at zj;exact R (mem_of_getElem? zj)
 have ad:(occurrences x y 0 x.length (x.length+1)).length=x.cps.toList.count c:=by
  rw [occ_eq];rwa[(kJ x y x.length (x.length+1) ap (List.range' 0 (x.length+1 - 0)) (#[],0) List.pairwise_lt_range' (λi _ _=>Nat.zero_le _) @e).trans ?_];rw [show (#[]:Array Nat).size=0 from rfl,Nat.zero_add,Nat.sub_zero,<-List.range_eq_range',<-wS c x.cps.toList (x.length+1) @c];congr 1;rwa[List.filter_congr λi _=> ?_];rwa[Bool.eq_iff_iff.mpr ?_];rw [Bool.and_eq_true,decide_eq_true_eq,decide_eq_true_eq];exact O i
 have F:=rn R @cL (by simpa using Y)
 have aa:((ps.map λp=>p.cps.toList).map (·.count c)).sum=0:=by
  rw [map_map];rwa[xD λz hz=> ?_];obtain ⟨p,az,rfl⟩:=mem_map.mp hz;exact List.count_eq_zero.mpr (hp p az)
 rw [<-I,aa,length_map] at F
 have J:(Txt.split x y).length=ps.length:=by
  unfold Txt.split
  have k1: ¬Builtin.Str.strKind x<Builtin.Str.strKind y:=by
   rw [hk];unfold Builtin.Str.strKind;split
   ·lia
   ·split<;>lia
  rw [decide_eq_false k1,Bool.or_false];split
  ·rename_i L;have L:=of_decide_eq_true L;show 1=ps.length
   match ps,Y,F,W with
   |[_],_,_,_=>rfl
   |a::b::r,_,F,W=>
    have e:x.length=a.length+y.length+(Str.join y (b::r)).length:=by
     rw [<-W];show (a++y++Str.join y (b::r)).length=_;rw [Str.length_append,Str.length_append]
    lia
  ·split
   ·rename_i he
    have:(occurrences x y 0 x.length (x.length+1)).length=0:=by rw [List.isEmpty_iff.mp he];rfl
    show 1=ps.length;lia
   ·rw [length_partsBetween,ad];lia
 have hj:=join_split x y
 have S:Txt.split x y≠[]:=λz=>by
  rw [z] at J;exact Y (length_eq_zero_iff.mp J.symm)
 have hQ:x.cps.toList=jn (c::ts) ((Txt.split x y).map λp=>p.cps.toList):=by rw [<-U,<-kP,hj]
 have Z:=rn R ((Txt.split x y).map λp=>p.cps.toList) (by simpa using S);rw [<-hQ,length_map,J] at Z
 have ah:(((Txt.split x y).map λp=>p.cps.toList).map (·.count c)).sum=0:=by lia
 have ac:∀q∈(Txt.split x y).map (λp=>p.cps.toList),c∉q:=λq hq z=>by
  have h1:q.count c<=(((Txt.split x y).map λp=>p.cps.toList).map (·.count c)).sum:=Gs (mem_map_of_mem hq);have h2:=List.count_pos_iff.mpr z;lia
 have:=NS _ _ (by simpa using Y) (by simpa using S) G ac (I.symm.trans hQ);rwa[(List.map_inj_right (f:=λp:Str=>p.cps.toList) λa b e=> ?_).mp this.symm];exact Str.ext' (Array.toList_inj.mp e)
structure FunD (K:Fg)(x qual:Str)(st:Stmt)(T f:Addr)(fd:FuncData):Prop where
 ex:∃(oc:Value) (od:Option Addr) (kV doc pm:Value) (an:Option Addr) (cdv ct:Value) (osl:Array @bj),
  fd=W.fnOf x qual @fr @ei @cK (.ref T) kV doc pm an cdv ct/\K.lookup f=some ⟨oc,od,.func fd,osl⟩/\W.codeIn K cdv qual=true
structure CalD (P:Program)(w:World)(K:Fg)(mg:Str->Option Value)(base:Heap)(n:Nat)(x:Str)(ps:List Str)(dvs:List V)(sp:Sp):Prop where
 ex:∃f fd ds,ay P w K mg base @ck n f fd ps sp/\fU K fd ps ds/\aO dvs ds/\W.keepIn K (.ref f)=true/\mg x=some (.ref f)
def mE (base:Heap)(mg:Str->Option Value):Prop:=∃bm o,mg "__builtins__"=some (.ref bm)/\bm≠builtinsNs/\bm≠mainGlobals/\base.get? bm=some o/\o.cls= .type "module"/\o.dict=some builtinsNs/\o.data= .plain
theorem Dh {P:Program}{w:World}{K:Frag}{mg mb:Str->Option Value}{CX:oA}{k:Nat}{fa a:Addr}{fd:FuncData}{x:Str}{sp:Sp}{j:Shared}{vs:List Value}{ns:List Int}{tabs:List (Addr×Addr)}
(W:∀q∈tabs,CodeHd j.heap q.1 q.2/\j.heap.get? q.2=some (tabObj #[]))(aj:noTabs K=true)(ak:mE j.heap mg)
(KX:K.In j.heap)(ac:j.heap.Ns mainGlobals mg)(O:j.heap.Ns builtinsNs mb)(am:∀x:Str,x≠"__name__"->mb x=bootBuiltins x)(ai:j.heap.NoLimit)(hg:j.gens= #[])
(ha:j.heap.get? a=some {cls:= .type "list",data:= .seq vs.toArray})(hi:IntsAre vs ns)(hl:ns.length<=sizeLine)(hr:cr k callerA)
(F:∀base:Heap,K.In base->base.Ns mainGlobals mg->mE base mg->ay P w K mg base CX k fa fd [x] sp)(ab:∀(s:Shared) (u:Value),BindsTo s fd ⟨[u],[]⟩ [(x,u)])
(an:∀H:Hp,(∀q∈tabs,H q.2=some (.tbl #[]))->aC K H a @cg->sp [.ref a] H (λv _=>v= .bl true) λ_ _ _=>False)
(ap:∀H e s',CX [] H j @ff e s'->False):
 codeAny @Y callerA (.call (.ref fa) ⟨[.ref a],[]⟩) (λr s'=>r= .ok (.ret (.bool true))/\OldK j.heap s'.heap/\s'.os=j.os/\AllBare s'.gens) j:=by
 have rv:=ug hi;have ad:=hi.length
 have ta:∀q∈tabs,q.2≠a:=λq I z=>by have:=(W q I).2;rw [z,ha] at this;cases this
 have aa:∀H:Hp,aC K H a @cg->gu P w H j.heap->(∀q∈tabs,H q.2=some (.tbl #[]))->(∀b u,H b=some u->(∃q∈tabs,b=q.2)\/(b=a/\K.lookup a=none/\∃ob xs,u= .frz ob (.lst xs)))->
  codeAny @Y callerA (.call (.ref fa) ⟨[.ref a],[]⟩) (λr s'=>r= .ok (.ret (.bool true))/\OldK j.heap s'.heap/\s'.os=j.os/\AllBare s'.gens) j:=by
  intro H hS af ag hA;have G:∀ {b:Addr} {o:Obj},j.heap.get? b=some o->H b=none->(tQ j.heap H).get? b=some o:=λe n=>GF e n
  have ao:∀ {b:Addr} {o:Obj},j.heap.get? b=some o->o.cls≠ .none->o.cls≠ .type "list"->H b=none:=λ{b o} e d1 d2=>by
   cases q:H b with
   |none=>rfl
   |some u=>
    rcases hA b u q with ⟨t,R,rfl⟩|⟨rfl,_,_⟩
    ·rw [(W t R).2] at e;cases e;exact absurd rfl d1
    ·rw [ha] at e;cases e;exact absurd rfl d2
  have al:∀ {b:Addr} {o:Obj} {es:Array DictEntry} {ep:Nat},j.heap.get? b=some o->o.data= .dict es ep->H b=none:=λ{b o es ep} e d=>by
   cases q:H b with
   |none=>rfl
   |some u=>
    rcases hA b u q with ⟨t,R,rfl⟩|⟨rfl,_,_⟩
    ·rw [(W t R).2] at e;cases e;cases d
    ·rw [ha] at e;cases e;cases d
  have S:∀ {b:Addr} {m:Str->Option Value},j.heap.Ns b m->(tQ j.heap H).Ns b m:=λ{b m} ⟨o,es,ep,e,d,r⟩=>⟨o,es,ep,G e (al e d),d,r⟩
  have ae:K.In @fg:=λb o e=>G (KX b o e) (by
   cases q:H b with
   |none=>rfl
   |some u=>
    rcases hA b u q with ⟨t,R,rfl⟩|⟨rfl,hk,_⟩
    ·have e2:=KX _ _ e;rw [(W t R).2] at e2;have h2:=all_eq_true.mp aj (t.2,o) (mem_of_lookupK e);cases e2;exact absurd (show false=true from h2) Bool.false_ne_true
    ·rw [hk] at e;cases e)
  have hM:Mod K mg @fg:=⟨ae,S ac,⟨mb,S O,am⟩,let ⟨mc,h1,h2⟩:=ai;⟨mc,S h1,h2⟩⟩;have hB:mE @fg mg:=let ⟨bm,o,h1,h2,h3,h4,h5,h6,h7⟩:=ak;⟨bm,o,h1,h2,h3,G h4 (ao h4 (by rw [h5];simp) (by rw [h5];simp)),h5,h6,h7⟩;have e0:my P w K mg @fg callerA [] j H:=⟨rfl,hM,λb o e=>JZ e,Nat.le_of_eq (Dp _ _),trivial,λb O=>absurd (show b∈([]:List Addr) from O) @e,af,.of_eq hg⟩;rwa[codeAny_mono ((F _ ae (S ac) hB).run callerA [] j H ⟨[.ref a],[]⟩ [.ref a] [.ref a] _ _ hr e0 (ab j (.ref a)) (.cons rfl .nil) (an H ag hS)) λr s' h=> ?_]
  cases r with
  |error e=>exact (ap H e s' h).elim
  |ok fl=>
   cases fl with
   |next=>exact False.elim h
   |brk=>exact False.elim h
   |cont=>exact False.elim h
   |ret u=>
    obtain ⟨v,H',os,ah,un,Y,r',q⟩:=h;have q':v= .bl true:=q;subst q';obtain rfl:u=Value.bool true:=r';rwa[⟨rfl,⟨λb o e=> ?_,λb o e=>un.there b o e @e⟩,os,ah⟩]
    cases q:H b with
    |none=>exact .inl (un.keep b o e q (by intro z;exact absurd (show b∈([]:List Addr) from z) @e) @e)
    |some u=>
     rcases hA b u q with ⟨t,R,rfl⟩|⟨rfl,hk,ob,xs,rfl⟩
     ·obtain ⟨Z,e2⟩:=un.tbls _ _ (ag t R);have e3:s'.heap.get? t.2=some (tabObj (#[]++Z)):=Y _ _ e2;have e4:=(W t R).2;rw [e4] at e;cases e;exact .inr (.inl ⟨((W t R).1.tab e4).isCodeTable,rfl,#[],Z,rfl,e3⟩)
     ·have U:=un.frzs b ob _ q;obtain ⟨e1,_⟩:=af b _ q;obtain ⟨e2,_⟩:=Y b _ U;rw [e] at e1;cases e1;exact .inl e2
 have aq:∀(H:Hp),(∀b u,H b=some u->u= .tbl #[]->∃q∈tabs,b=q.2)->∀b,H b=some (.tbl #[])->bA P w H j.heap b (.tbl #[]):=λH z b e=>by
  obtain ⟨q,I,rfl⟩:=z b _ e rfl;exact (W q I).2
 cases hk:K.lookup a with
 |some o=>
  have e:=KX a o hk;rw [ha] at e;cases e;rwa[aa (λb=>if b∈tabs.map (·.2) then some (.tbl #[]) else none) (.inr ⟨_,vs.toArray,_,hk,rfl,rfl,rfl,by rw [size_toArray,ad];exact hl,by simpa using rv⟩) @dJ (λq I=>if_pos (mem_map_of_mem I)) @dJ]
  ·by_cases J:b∈tabs.map (·.2)
   ·have L:=(if_pos J).symm.trans z;cases L;obtain ⟨q,I,rfl⟩:=mem_map.mp J;exact (W q I).2
   ·have L:=(if_neg J).symm.trans z;cases L
  ·by_cases J:b∈tabs.map (·.2)
   ·obtain ⟨q,I,rfl⟩:=mem_map.mp J;exact .inl ⟨q,I,rfl⟩
   ·have L:=(if_neg J).symm.trans z;cases L
 |none=>
  have na:a∉tabs.map (·.2):=λz=>by obtain ⟨q,I,e⟩:=mem_map.mp z;exact ta q I e
  rwa[aa (λb=>if b∈tabs.map (·.2) then some (.tbl #[]) else if b=a then some (.frz {cls:= .type "list",data:= .seq vs.toArray} (.lst @cg)) else none) (.inl (.inr ⟨{cls:= .type "list",data:= .seq vs.toArray},(if_neg na).trans (if_pos rfl)⟩)) @dJ (λq I=>if_pos (mem_map_of_mem I)) @dJ]
  ·by_cases J:b∈tabs.map (·.2)
   ·have L:=(if_pos J).symm.trans z;cases L;obtain ⟨q,I,rfl⟩:=mem_map.mp J;exact (W q I).2
   ·have L:=(if_neg J).symm.trans z;by_cases O:b=a
    ·have U:=(if_pos O).symm.trans L;cases U;subst O;exact ⟨ha,by rw [length_map];exact hl,vs,_,rv,ha⟩
    ·have U:=(if_neg O).symm.trans L;cases U
  ·by_cases J:b∈tabs.map (·.2)
   ·obtain ⟨q,I,rfl⟩:=mem_map.mp J;exact .inl ⟨q,I,rfl⟩
   ·have L:=(if_neg J).symm.trans z;by_cases O:b=a
    ·have U:=(if_pos O).symm.trans L;cases U;exact .inr ⟨O,hk,_,_,rfl⟩
    ·have U:=(if_neg O).symm.trans L;cases U
theorem Eb {l:OpenLaw}{n k:Nat}{q:Program}{I:List Str}{XP:(Str->Option Value)->Heap->Prop}{YP:World->Heap->Prop}{d:DefRec}{K:Params->Frag}{CX:World->oA}{sp:World->Sp}{x:Str}{tabs:World->List (Addr×Addr)}
(hn:l.most=some n)(aa:n<=sizeLine)(W:d.params.defaults=[])(hr:cr k callerA)
(hY:∀(w:World) (h:Heap),YP w h->(K w.params).In h/\∀t∈tabs w,h.get? t.2=some (tabObj #[]))(aj:∀w:World,noTabs @bV=true)(R:∀w:World,∀t∈tabs w,codeHdIn @bV t.1 t.2=true)
(F:∀(w:World) (mg:Str->Option Value) (fa:Addr) (h:Heap),(K w.params).In h->h.Ns mainGlobals mg->mg d.name=some (.ref fa)->
   ∃fd:FuncData,(∀(s:Shared) (u:Value),BindsTo s fd ⟨[u],[]⟩ [(x,u)])/\
    ∀base:Heap,(K w.params).In base->base.Ns mainGlobals mg->mE base mg->ay l.prog w @bV mg base (CX w) k fa fd [x] (sp w))
(ab:∀(w:World) (H:Hp) (a:Addr) (ns:List Int),ns.length<=n->(∀i∈ns,Builtin.Int.intBits i<=2^20)->(∀t∈tabs w,H t.2=some (.tbl #[]))->aC @bV H a @cg->sp w [.ref a] H (λv _=>v= .bl true) λ_ _ _=>False)
(ap:∀(w:World) (H:Hp) (s:Shared) (e:Value) (s':Shared),CX w [] H s @ff e s'->False):
 WalkO q I XP YP l.row.toRowW d [] @cZ:=by
 rwa[xb hn W λw s₀ s₁ mg mb fa o pm cd ad a vs ns G Y ho hd ac U O L j J hg=> ?_];obtain ⟨Z,hT⟩:=hY w _ Y;obtain ⟨fd,hb,hF⟩:=F w mg fa _ Z G.T.g U
 have ak:mE s₁.heap mg:=by
  obtain ⟨bm,ob,h1,h2,S,h4,h5,h6⟩:=G.T.bmain;rwa[⟨bm,ob,h1,h2,λz=> ?_,S,h4,h5,h6⟩];obtain ⟨o',es,ep,e',d',_⟩:=G.T.g;rw [z,e'] at S;cases S;rw [d'] at h6;cases h6
 exact Dh (tabs:=tabs w) (λt ht=>⟨codeHd_of_K Z (R w t ht),hT t ht⟩) (aj w) ak Z G.T.g G.T.b G.T.builtins G.T.nolimit hg O L (Nat.le_trans j aa) hr hF hb (λH ag hS=>ab w H a ns j J ag hS) λH e s'=>ap w H s₁ e s'
noncomputable def uc (c:Addr)(q:Str):HO:= .ext λh=>h.CodeRec (.ref c) q
noncomputable def tZ (a:Addr)(o:Obj):HO:= .ext λh=>h.get? a=some o
noncomputable def A3 (c:Addr)(v:V):HO:= .ext λh=>∃u,aF v u/\h.IsCell c @em
section
variable {P:Program}{w:World}{H:Hp}{h:Heap}
theorem KJ {c:Addr}{q:Str}(e:h.CodeRec (.ref c) q):bA P w H h c (uc c q):=by
 obtain ⟨S,J,vs,W,I,ae,Y,Z⟩:=id e;cases I
 exact ⟨e,⟨J,ae⟩,λh1 h2 z k=>by
  obtain ⟨c1,j,G,L,R,U,F,O⟩:=z;cases R
  exact ⟨_,j,G,L,rfl,k _ U,F,O⟩⟩
theorem Bx {a:Addr}{o:Obj}(e:h.get? a=some o):bA P w H h a (tZ a o):=⟨e,⟨o,e⟩,λh1 h2 z k=>k _ z⟩
theorem KL {c:Addr}{v:V}{u:Value}(r:aF v u)(e:h.IsCell c @em):bA P w H h c (A3 c v):=by
 obtain ⟨o,I,J⟩:=id e
 exact ⟨⟨u,r,e⟩,⟨o,I⟩,λh1 h2 z k=>by
  obtain ⟨G,R,o',j,U⟩:=z
  exact ⟨G,R,o',k _ j,U⟩⟩
end
def gQ (H:Hp)(P:Addr)(q:Str):Prop:=∃ps,H P=some (.tbl ps)/\TriplesOk ps.toList/\∀pos cv,codeAmong pos ps.toList=some cv->∃c',cv= .ref c'/\H c'=some @gH
def fR (P:Addr)(H H':Hp):Prop:=∀b o,b≠P->H b=some o->H' b=some o
def bE (H H':Hp):Prop:=∀b o,(∀ps,o≠ .tbl ps)->H b=some o->H' b=some o
theorem bE.trans {H H1 H2:Hp}(a:bE H H1)(b:bE H1 H2):bE H H2:=λc o n e=>b c o n (a c o n e)
theorem aq.nt {H H':Hp}(s:aq H H'):bE H H':=λb o _ e=>s b o e
theorem fR.nt {P:Addr}{H H':Hp}{ps:Array Value}(s:fR P H H')(O:H P=some (.tbl ps)):bE H H':=λb o n e=>s b o (λz=>by rw [z,O] at e;cases e;exact n _ rfl) e
theorem gQ.same {H H':Hp}{P:Addr}{q:Str}(t:gQ H P q)(s:aq H H'):gQ H' P q:=
 let ⟨ps,h1,h2,h3⟩:=t;⟨ps,s _ _ h1,h2,λpos z e=>let ⟨c',a,b⟩:=h3 pos z e;⟨c',a,s _ _ b⟩⟩
theorem lv {a b:Int}{t u:Tok}{c:Value}:∀ {l:List Value},TriplesOk l->TriplesOk (l++[.int a t,.int b u,c])
 |[],_=>trivial
 | .int _ _:: .int _ _::_::r,h=>lv (l:=r) h
theorem sM {a b:Int}{t u:Tok}{c:Value}{pos:Pos}{j:Value}:∀ {l:List Value},TriplesOk l->codeAmong pos (l++[.int a t,.int b u,c])=some j->codeAmong pos l=some j\/j=c
 |[],_,h=>by
  simp only [nil_append,codeAmong] at h;split at h
  ·cases h;exact .inr rfl
  ·cases h
 | .int x _:: .int y _::z::r,ok,h=>by
   have h:(if x==pos.line&&y==pos.col then some z else codeAmong pos (r++[.int a t,.int b u,c]))=some j:=h;show (if x==pos.line&&y==pos.col then some z else codeAmong pos r)=some j\/_;by_cases F:(x==pos.line&&y==pos.col)=true
   ·rw [if_pos F] at h ⊢;exact .inl h
   ·rw [if_neg F] at h ⊢;exact sM (l:=r) ok h
def R7 (P:Addr)(q:Str)(mk:Addr->Value->Obj):TE:=λσ H Q=>gQ H P q/\∀f c' ctv H',fR P H H'->H f=none->H' f=some (tZ f (mk c' ctv))->H' c'=some @gH->gQ H' P q->Q (.ref f) H'
theorem MT {X:Cx}{c P:Addr}{j:Arguments}{U:Expr}{scope:Scope}{clos:List (Str×Addr)}{pos:Pos}(L:X.env.code= .ref c)(C:CodeHd X.base c P)(hB:mE X.base X.mg)(aa:defaultsOf j X.env=([],[]))(ae:closureFor scope X.env=pure clos):
 PE X (.Lambda j U scope pos) (R7 P (X.env.qual++"<lambda>") λc' ctv=>kla_obj "<lambda>" (X.env.qual++"<lambda>") j U scope clos ((X.mg "__name__").getD .none) c' ctv):=by
 intro pins s σ H Q I ⟨T,h⟩;rwa[kla_eval aa ?_];obtain ⟨ps,O,ht,hc⟩:=id T;have ac:s.heap.get? P=some (tabObj ps):=I.hok P _ O;have C':=C.keeps I.bk;have hg:s.heap.Ns mainGlobals X.mg:=I.ok.mod.glob.keeps I.bk
 have nb:∀ {b:Addr} {o:Obj},X.base.get? b=some o->b≠P:=λ{b o} e z=>by have:=(I.bs b o e).2;rw [z,O] at this;cases this
 have af:mainGlobals≠P:=by
  obtain ⟨o,es,ep,e,_⟩:=I.ok.mod.glob;exact nb e
 have hb:s.heap.BuiltinsAt X.mg P:=by
  obtain ⟨bm,o,h1,h2,h3,h4,h5,h6,h7⟩:=hB;exact ⟨bm,o,h1,h2,h3,nb h4,I.bk _ _ h4,h5,h6,h7⟩
 cases hm:codeAmong pos ps.toList with
 |none=>
  rwa[kla_makeFunction ae I.ok.glob hg L C' ac ht hm af hb λc' ctv h' tk hx G ad ab W=> ?_];generalize Y:kla_obj "<lambda>" (X.env.qual++"<lambda>") j U scope clos ((X.mg "__name__").getD .none) c' ctv=F;generalize Z:ps++ #[rawInt pos.line,rawInt pos.col,.ref c']=S at W;have J:s.heap.objs.size<=h'.objs.size:=Nat.le_trans G (Nat.le_of_lt ad);have lt:∀ {b:Addr} {u:HO},H b=some u->b<s.heap.objs.size:=λe=>I.hok.lt e;have ai:c'≠P:=Nat.ne_of_gt (Nat.lt_of_lt_of_le (lt O) G);have ah:h'.objs.size≠P:=Nat.ne_of_gt (Nat.lt_of_lt_of_le (lt O) J);have al:h'.objs.size≠c':=Nat.ne_of_gt ad;have an:H c'=none:=I.hok.fresh G;have R:H h'.objs.size=none:=I.hok.fresh J
  let H':Hp:=upd (upd (upd H P (.tbl S)) c' (uc c' (X.env.qual++"<lambda>"))) h'.objs.size (tZ h'.objs.size F)
  have ne:∀ {b:Addr} {u:HO},b≠P->H b=some u->H' b=some u:=λ{b u} nP e=>by
   have l:=lt e;show upd @bI h'.objs.size _ b=_;rw [am (Nat.ne_of_lt (Nat.lt_of_lt_of_le l J)),am (Nat.ne_of_lt (Nat.lt_of_lt_of_le l G)),am nP];exact e
  have eP:H' P=some (.tbl S):=by
   show upd @bI h'.objs.size _ P=_;rw [am ah.symm,am ai.symm];exact ag
  have ec:H' c'=some (uc c' (X.env.qual++"<lambda>")):=by
   show upd @bI h'.objs.size _ c'=_;rw [am al.symm];exact ag
  have ef:H' h'.objs.size=some (tZ h'.objs.size F):=ag;have kp:∀b o,b≠P->s.heap.get? b=some o->(h'.push F).get? b=some o:=λb o nP e=>Heap.get?_push_of_some _ (hx b o nP e);have tP:(h'.push F).get? P=some (tabObj S):=Heap.get?_push_of_some _ W
  have nP:∀ {b:Addr},H b=none->b≠P:=λ{b} n z=>by rw [z,O] at n;cases n
  have un:Un X.fs [] H H' s.heap (h'.push F):=by
   rwa[⟨λb o e n _ _=>kp b o (nP n) e,λb o e n _ _=>⟨o.slots,kp b o (nP n) e⟩,λb o e n _=> ?_,λb o e _=> ?_,λb xs e=>ne (λz=>by rw [z,O] at e;cases e) e,λb o u e=>ne (λz=>by rw [z,O] at e;cases e) e,λb qs e=> ?_⟩]
   ·have l:=Heap.lt_size e;show upd @bI h'.objs.size _ b=_;rw [am (Nat.ne_of_lt (Nat.lt_of_lt_of_le l J)),am (Nat.ne_of_lt (Nat.lt_of_lt_of_le l G)),am (nP n)];exact n
   ·by_cases z:b=P
    ·exact ⟨_,by rw [z];exact tP⟩
    ·exact ⟨o,kp b o z e⟩
   ·by_cases z:b=P
    ·rw [z,O] at e;cases e;exact ⟨#[rawInt pos.line,rawInt pos.col,.ref c'],by rw [z,eP,<-Z]⟩
    ·exact ⟨#[],by rw [ne z e];simp⟩
  have aj:gu X.prog X.w H' (h'.push F):=by
   intro b u e;by_cases z1:b=h'.objs.size
   ·rw [z1,ef] at e;cases e;rw [z1];exact Bx (Heap.get?_push_size _ (by rw [<-Y];rfl))
   by_cases z2:b=c'
   ·rw [z2,ec] at e;cases e;rw [z2];exact KJ (ab.keeps λb o e=>Heap.get?_push_of_some _ e)
   by_cases z3:b=P
   ·rw [z3,eP] at e;cases e;rw [z3];exact tP
   ·have e':H b=some u:=by
     have e:upd @bI h'.objs.size _ b=some u:=e;rw [am z1,am z2,am z3] at e;exact e
    rwa[(I.hok b u e').stay (λd v hd r=> ?_) (λd r=>ne (λz=>by rw [z,O] at r;cases r) r) λd xs r=>ne (λz=>by rw [z,O] at r;cases r) r];rwa[kp d v @i r]
    rcases hd with hd|hd
    ·exact z3 (hd.symm.trans z)
    ·rw [z,O] at hd;cases hd
  rwa[⟨.ref h'.objs.size,H',I.un (t':=tk) un aj,rfl,h _ c' ctv H' (λb o n e=>ne n e) R (by rw [<-Y] at ef;exact ef) ec ⟨S,eP,?_,λpos' cv e=> ?_⟩⟩]
  ·rw [<-Z,Array.toList_append];exact lv ht
  ·rw [<-Z,Array.toList_append] at e
   rcases sM ht e with z|z
   ·obtain ⟨d,e1,e2⟩:=hc pos' cv z;exact ⟨d,e1,ne (λy=>by rw [y,O] at e2;cases e2) e2⟩
   ·exact ⟨c',z,ec⟩
 |some cv=>
  obtain ⟨c',rfl,ak⟩:=hc pos cv hm;rwa[kla_makeFunctionHit ae I.ok.glob hg L C' ac ht hm hb λctv h' tk hk J=> ?_];have k2:∀b o,s.heap.get? b=some o->(h'.push (kla_obj "<lambda>" (X.env.qual++"<lambda>") j U scope clos ((X.mg "__name__").getD .none) c' ctv)).get? b=some o:=λb o e=>Heap.get?_push_of_some _ (hk b o e);have R:H h'.objs.size=none:=I.hok.fresh J;have sm:aq H (upd H h'.objs.size (tZ h'.objs.size (kla_obj "<lambda>" (X.env.qual++"<lambda>") j U scope clos ((X.mg "__name__").getD .none) c' ctv))):= .upd R;exact ⟨.ref h'.objs.size,_,I.laid (t':=tk) k2 J (Bx (Heap.get?_push_size _ rfl)),rfl,h _ c' ctv _ (λb o _ e=>sm b o e) R ag (sm _ _ ak) (T.same sm)⟩
structure sO (ps fs:List Str)(sc:Scope):Prop where
 kind:sc.kind= .function
 co:sc.isCoroutine=false
 gen:sc.isGenerator=false
 nd:(ps++fs).Nodup
 par:∀x∈ps,sc.names.lookup x=some .local
 fre:∀x∈fs,sc.names.lookup x=some .free
 nocell:∀x∈sc.names,x.2≠ .cell
 only:∀y∈sc.names,y.2= .free->y.1∈fs
noncomputable def Rl (P:Program)(w:World)(K:Frag)(mg:Str->Option Value)(base:Heap)(N:List Str)(qual:Str)(scope:Scope)(f:Addr)(cd:Value)(cl:List (Str×Addr))(A:Around)(outer:List Env)(s:Shared)(H:Hp):Cx where
 prog:=P
 w:=w
 K:=K
 mg:=mg
 base:=base
 A:=A.deeper (envX qual scope s.heap.objs.size f cd cl)
 N:=N
 s₀:=s
 H₀:=H
 env:=envX qual scope s.heap.objs.size f cd cl
 outer:=outer
 stack:=envX qual scope s.heap.objs.size f cd cl::outer
 ex:=[]
 calm:=true
 fn:=λ_=>false
 pn:=[]
 xe:=λ_ _=>False
theorem AH {ps:List Str}{us:List Value}{i:Nat}{x:Str}{u:Value}(J:ps.Nodup)(h1:ps[i]? =some x)(h2:us[i]? =some u):(ps.zip us).reverse.lookup x=some u:=by
 have L:(ps.zip us)[i]? =some (x,u):=by rw [getElem?_zip_eq_some];exact ⟨h1,h2⟩
 have G:(x,u)∈(ps.zip us).reverse:=mem_reverse.mpr (mem_of_getElem? L)
 have z:∀v,(x,v)∈(ps.zip us).reverse->v=u:=λv Y=>by
  obtain ⟨j,Z⟩:=mem_iff_getElem?.mp (mem_reverse.mp Y);obtain ⟨I,F⟩:=getElem?_zip_eq_some.mp Z;have:j=i:=qY J I h1;subst this;rw [h2] at F;exact (Option.some.inj F).symm
 cases e:(ps.zip us).reverse.lookup x with
 |none=>
  have:=lookup_eq_none_iff.mp e (x,u) G;simp at this
 |some v=>rw [z v (PySem.mem_of_lookup e)]
theorem Kc {P:Program}{w:World}{K:Frag}{mg:Str->Option Value}{base:Heap}{k:Nat}{f c':Addr}{name qual:Str}{F:Arguments}{U:Expr}{scope:Scope}{G:List (Str×Addr)}{pm ctv:Value}{ps fs:List Str}{A:Around}{outer:List Env}{s:Shared}{H:Hp}{us:List Value}{vs fvs:List V}{Q:VK}{E:XK}
(S:sO ps fs scope)(hf:s.heap.get? f=some (kla_obj name qual F U scope G pm c' ctv))(ah:s.heap.CodeRec (.ref c') qual)(hr:cr (k+1) A)(O:my P w K mg base A outer s H)
(ab:bindArgs (kla_fn name qual F U scope G pm (.ref c') ctv) ⟨us,[]⟩=pure @cm)(r:aO vs us)(hl:vs.length=ps.length)(ak:fvs.length=fs.length)
(j:∀(i:Nat) x v,fs[i]? =some x->fvs[i]? =some v->∃c u,G.lookup x=some c/\aF v u/\s.heap.IsCell c @em)(af:∀x c,G.lookup x=some c->x∈fs)
(ae:∀x y c,G.lookup x=some c->G.lookup y=some c->x=y)(aa:∀x c,G.lookup x=some c->H c=none)
(Z:cr k (A.deeper (envX qual scope s.heap.objs.size f (.ref c') G))->∃t,PE (Rl P w K mg base (ps++fs) qual scope f (.ref c') G A outer s H) U t/\t ((vs++fvs).map some) H Q):
 codeAny @Y A (.call (.ref f) ⟨us,[]⟩) @dw s:=by
 have ul:us.length=ps.length:=by rw [<-r.length,hl]
 rwa[kla_callFunE hr.depth hf rfl S.co S.gen rfl ah ?_];rw [ab];have aj:s.heap.NoLimit:=O.mod.nolimit.keeps λb o e=>(O.bs b o e).1;rwa[wpAny_pure (wpAny_newFunctionEnv S.nocell (λy W=>S.par _ (of_mem_zip W).1) (λh₁ ag ad=>⟨aj.fresh _ ad,?_⟩) S.kind)];show codeAny _ _ (.expr U (envX qual scope s.heap.objs.size f (.ref c') G)) _ _;have hk:∀b o,s.heap.get? b=some o->h₁.get? b=some o:=λb o e=>ad.extBut b o (Nat.ne_of_lt @G) (Heap.get?_push_of_some _ e);obtain ⟨t,ht,hq⟩:=Z (hr.deeper _)
 have R:∀x c,G.lookup x=some c->∃u,s.heap.IsCell c @em:=λx c e=>by
  obtain ⟨i,hi⟩:=mem_iff_getElem?.mp (af x c e);have ai:i<fs.length:=(List.getElem?_eq_some_iff.mp hi).1;obtain ⟨c2,u,e2,_,hc⟩:=j i x _ hi (getElem?_eq_getElem @c);rw [e] at e2;cases e2;exact ⟨u,hc⟩
 have L:∀ {c:Addr} {v:Option Value},s.heap.IsCell c v->h₁.IsCell c v:=λ{c v} ⟨o,ho,hd⟩=>⟨o,hk _ _ ho,hd⟩;have Y:∀x,scope.names.lookup x=some .free->x∈fs:=λx e=>S.only _ (PySem.mem_of_lookup e) rfl
 have I:aA (Rl P w K mg base (ps++fs) qual scope f (.ref c') G A outer s H) [] ((vs++fvs).map some) H {s with heap:=h₁,toks:=s.toks+(ps.zip us).length}:=by
  have ac:∀b:Addr,b∉(Rl P w K mg base (ps++fs) qual scope f (.ref c') G A outer s H).ex:=λb z=>absurd (show b∈([]:List Addr) from z) @e
  refine ⟨⟨O.mod,S.kind,rfl,rfl,Nat.le_refl _,ae,λy W=> ?_,λy c z _=>(nomatch (show false=true from z)),λ_=>hr.hd,Around.frames_deeper O.frames,.inr ⟨rfl,rfl⟩,λb z=>absurd z (ac b),O.bs,O.bsz,λb _ _=>ac b,λb z=>absurd z (ac b),O.funs,O.frf⟩,
   rfl,O.bare,Un.kept hk,⟨_,ag,λi y v h1 h2 h3=> ?_⟩,λy c h=> ?_,O.hok.fresh @h,aa,λp hp=>absurd (show p∈([]:List (Addr×Obj)) from hp) @e,O.hok.kept hk,?_⟩
  ·have W:scope.names.lookup y=some .cell\/scope.names.lookup y=some .free:=W
   rcases W with W|W
   ·exact absurd rfl (S.nocell _ (PySem.mem_of_lookup W))
   ·obtain ⟨i,hi⟩:=mem_iff_getElem?.mp (Y y W);have ai:i<fs.length:=(List.getElem?_eq_some_iff.mp hi).1;obtain ⟨c2,u,e2,_⟩:=j i y _ hi (getElem?_eq_getElem @c);exact ⟨c2,e2⟩
  ·have h1:(ps++fs)[i]? =some y:=h1;rw [getElem?_map] at h2;obtain ⟨v',hv,e⟩:=Option.map_eq_some_iff.mp h2;cases e;by_cases hi:i<ps.length
   ·rw [getElem?_append_left hi] at h1;rw [getElem?_append_left @c] at hv;obtain ⟨u,hu,rv⟩:=r.get hv;rwa[⟨u,rv,.inl ⟨S.par y (mem_of_getElem? h1),?_⟩⟩];exact AH (nodup_append.mp S.nd).1 h1 hu
   ·rw [getElem?_append_right @c] at h1;rw [getElem?_append_right @c,hl] at hv;obtain ⟨c,u,e2,rv,hc⟩:=j _ y _ h1 hv;exact ⟨u,rv,.inr ⟨.inr (S.fre y (mem_of_getElem? h1)),c,e2,L hc⟩⟩
  ·obtain ⟨u,hc⟩:=R y c h;exact ⟨_,L hc⟩
  ·show _=(ps++fs).length;rw [length_map,length_append,length_append];lia
 rwa[kla_codeExpr (wpAny_mono (ht [] _ _ H Q I hq) (λu s' hs=> ?_) λe s' hs=>False.elim hs)];obtain ⟨v,H',J,rv,q⟩:=hs;exact ⟨v,H',J.os,J.bare,J.base,J.hok,rv,q⟩
noncomputable def hid (cs:List Addr)(H:Hp):Hp:=λb=>if b∈cs then none else H b
noncomputable def unhid (cs:List Addr)(H H2:Hp):Hp:=λb=>if b∈cs then H b else H2 b
theorem my.hid {P:Program}{w:World}{K:Frag}{mg:Str->Option Value}{base:Heap}{A:Around}{outer:List Env}{s:Shared}{H:Hp}{cs:List Addr}(e:my P w K mg base A outer s H)(I:∀c∈cs,∃φ,H c=some (.ext φ)):my P w K mg base A outer s @gm:=by
 have j:∀ {b:Addr},H b=none->L2.hid cs H b=none:=λ{b} n=>by unfold L2.hid;split<;>first|rfl|exact n
 have F:∀ {b:Addr} {o:HO},H b=some o->(∀φ,o≠ .ext φ)->L2.hid cs H b=some o:=λ{b o} q n=>by
  unfold L2.hid;rw [if_neg λz=>by obtain ⟨φ,e⟩:=I b z;rw [q] at e;exact n φ (Option.some.inj e)];exact q
 rwa[⟨e.frames,e.mod,λb o z=>⟨(e.bs b o z).1,j (e.bs b o z).2⟩,e.bsz,e.funs,λb G=>j (e.frf b G),λb o z=> ?_,e.bare⟩]
 have L:H b=some o:=by
  unfold L2.hid at z;split at z
  ·cases z
  ·exact z
 exact (e.hok b o L).stay @fI (λd q=>F q λφ z=>by cases z) λd xs q=>F q λφ z=>by cases z
theorem CE.unhid {P:Program}{w:World}{K:Frag}{mg:Str->Option Value}{base:Heap}{A:Around}{outer:List Env}{s s':Shared}{H:Hp}{cs:List Addr}{Q:VK}{u:Value}(e:my P w K mg base A outer s H)(U:∀c∈cs,∃φ,H c=some (.ext φ))
(h:CE outer P w @gm s (λv H2=>(∀c∈cs,H2 c=none)->Q v @da) u s'):CE outer P w H s Q u s':=by
 obtain ⟨v,H2,os,W,J,ae,r,q⟩:=h
 have G:∀ {b:Addr},H b=none->L2.hid cs H b=none:=λ{b} n=>by unfold L2.hid;split<;>first|rfl|exact n
 have F:∀ {b:Addr} {o:HO},H b=some o->(∀φ,o≠ .ext φ)->b∉cs/\L2.hid cs H b=some o:=λ{b o} q n=>by
  have nb:b∉cs:=λz=>by obtain ⟨φ,e⟩:=U b z;rw [q] at e;exact n φ (Option.some.inj e)
  exact ⟨nb,by unfold L2.hid;rw [if_neg nb];exact q⟩
 have L:∀ {c:Addr},c∈cs->L2.hid cs H c=none:=λ{c} z=>by unfold L2.hid;rw [if_pos z]
 have aa:∀ {c:Addr},c∈cs->L2.unhid cs H H2 c=H c:=λ{c} z=>by unfold L2.unhid;rw [if_pos z]
 have j:∀ {b:Addr},b∉cs->L2.unhid cs H H2 b=H2 b:=λ{b} z=>by unfold L2.unhid;rw [if_neg z]
 have I:∀ {c:Addr},c∈cs->H2 c=none:=λ{c} z=>by
  obtain ⟨φ,R⟩:=U c z;obtain ⟨_,⟨o,Y⟩,_⟩:=e.hok c _ R;exact J.free c o Y (L z) @e
 have nC:∀ {b:Addr},H b=none->b∉cs:=λ{b} n z=>by obtain ⟨φ,R⟩:=U b z;rw [n] at R;cases R
 rwa[⟨v,L2.unhid cs H H2,os,W,⟨λb o q n O S=>J.keep b o q (G n) O S,λb o q n O S=>J.slot b o q (G n) O S,λb o q n S=>by rw [j (nC n)];exact J.free b o q (G n) S,λb o q S=>J.there b o q S,λb xs q=> ?_,λb o xs q=> ?_,λb xs q=> ?_⟩,λb o z=> ?_,r,q λc U=>I U⟩]
 ·obtain ⟨n,z⟩:=F q λφ z=>by cases z
  rw [j n];exact J.tups b xs z
 ·obtain ⟨n,z⟩:=F q λφ z=>by cases z
  rw [j n];exact J.frzs b o xs z
 ·obtain ⟨n,z⟩:=F q λφ z=>by cases z
  rw [j n];exact J.tbls b xs z
 ·by_cases O:b∈cs
  ·rw [aa O] at z;obtain ⟨φ,R⟩:=U b O;rw [z] at R;cases R;obtain ⟨h1,⟨o1,Y⟩,st⟩:=e.hok b _ z
   have nf:b∉wL outer:=λy=>by have:=e.frf b y;rw [z] at this;cases this
   have k1:=J.keep b o1 Y (L O) nf @e;exact ⟨st _ _ h1 (λo q=>by rw [Y] at q;cases q;exact k1),⟨o1,k1⟩,st⟩
  ·rw [j O] at z;rwa[(ae b o z).stay @fI (λd y=> ?_) λd xs y=> ?_]
   ·rw [j λZ=>by rw [I Z] at y;cases y];exact y
   ·rw [j λZ=>by rw [I Z] at y;cases y];exact y
structure sS (P:Program)(w:World)(K:Frag)(mg:Str->Option Value)(base:Heap)(n:Nat)(f:Addr)(sp:Sp):Prop where
 run:∀(A:Around) (outer:List Env) (s:Shared) (H:Hp) (us:List Value) (vs:List V) (Q:VK) (E:XK),cr n A->my P w K mg base A outer s H->aO vs us->sp vs H Q E->codeAny @Y A (.call (.ref f) ⟨us,[]⟩) @dw s
 keep:∀(vs:List V) (H:Hp) (Q:VK) (E:XK) (h:Heap),sp vs H Q E->gu P w H h->K.In h->∃k,(k=Keeper.frame\/k=Keeper.machine\/k=Keeper.boundFrame)/\Looks @Y h @ew k
section
variable {X:Cx}{x:Str}{p pos:Pos}{e:Expr}{es:List Expr}{t:TA}{n m:Nat}
def Md (P:Program)(w:World)(K:Frag)(mg:Str->Option Value)(base:Heap)(m:Nat)(i:Nat)(t:TA):TE:=λσ H Q=>∃f n sp,σ[i]? =some @Z/\n<=m/\sS P w K mg base n f sp/\t σ H λvs H1=>sp vs H1 Q E0
theorem FE (i:Nat)(hr:cr m X.A)(Z:X.N[i]? =some x)(hv:QX X.env.scope x)(ha:PA X (e::es) t)(W:(x==("__debug__":Str))=false:=by decide)(L:(x==("__classdict__":Str))=false:=by decide)
(hp:aU (e::es)=true:=by rfl):PE X (.Call (.Name x p) (e::es) [] pos) (Md X.prog X.w X.K X.mg X.base m i t):=by
 have h':(bH e&&aU es)=true:=hp;rw [Bool.and_eq_true] at h';intro pins s σ H Q I h;obtain ⟨f,n,sp,hσ,hn,C,h⟩:=h;rwa[wpAny_Call_Name_kw (bP (Fy (X:=X) Z hv W L pins s σ H (λv H1=>v= .ref f/\H1=H) I ⟨.ref f,hσ,rfl,rfl⟩) λu Y S=> ?_)];obtain ⟨v,H0,I0,R,ev,eH⟩:=S;subst ev;subst eH;have R:u=Value.ref f:=R;subst R;have he:=aS (env:=X.env) (es:=es) h'.1;have G:(backTo pos @D).any (·.1)=false:=bN h'.2
 have j:wpAny @d X.A (spliced (backTo pos (starEach (e::es) X.env))) (λU O=>(∃k,(k=Keeper.frame\/k=Keeper.machine\/k=Keeper.boundFrame)/\Looks @d O.heap @ew k)/\wpAny @d X.A (call (.ref f) ([]++U)) @v X.xe O) X.xe Y:=by
  rwa[bP (ha pos pins Y σ H0 _ I0 h) λU O ⟨vs,H1,J,r,q⟩=>⟨C.keep _ _ _ _ _ q J.hok J.kIn,?_⟩];rwa[wpAny_call (codeAny_mono (C.run X.A X.stack O H1 U vs Q E0 (hr.mono hn) J.env0 r q) λr s' F=> ?_)]
  cases r with
  |error e=>exact False.elim F
  |ok fl=>
   cases fl with
   |ret u=>exact J.after F
   |next=>exact False.elim F
   |brk=>exact False.elim F
   |cont=>exact False.elim F
 rw [he] at j ⊢;exact callWith_of (P:=λh=>∃k,(k=Keeper.frame\/k=Keeper.machine\/k=Keeper.boundFrame)/\Looks @d h @ew k) (by show ((false||(backTo pos @D).any (·.1))||false)=false;rw [G];rfl) (λh z=>z) (evalArgs_plain j)
end
theorem wG {cs:List Addr}{H:Hp}(I:∀c∈cs,∃φ,H c=some (.ext φ)){b:Addr}{o:HO}(n:∀φ,o≠ .ext φ)(e:H b=some o):hid cs H b=some o:=by
 unfold hid;rw [if_neg λz=>by obtain ⟨φ,R⟩:=I b z;rw [e] at R;exact n φ (Option.some.inj R)];exact e
theorem zm {cs:List Addr}{H H2:Hp}(s:aq @gm H2):aq H @da:=λb o e=>by
 unfold unhid;by_cases z:b∈cs
 ·rw [if_pos z];exact e
 ·rw [if_neg z];rwa[s b o ?_];unfold hid;rw [if_neg z];exact e
def Ld (P:Program)(w:World)(f c':Addr)(obj:Obj)(q:Str)(cl:List (Str×Addr))(fs:List Str)(fvs:List V)(m:Nat)(sp:List V->Hp->VK->Prop):Sp:=λvs H Q _=>H f=some (tZ f obj)/\H c'=some @gH/\(∀(i:Nat) x v,fs[i]? =some x->fvs[i]? =some v->∃c,cl.lookup x=some c/\H c=some (A3 c v))/\vs.length=m/\sp vs H Q
theorem Ke {P:Program}{w:World}{K:Frag}{mg:Str->Option Value}{base:Heap}{k:Nat}{f c':Addr}{name qual:Str}{j:Arguments}{F:Expr}{scope:Scope}{U:List (Str×Addr)}{pm ctv:Value}{ps fs:List Str}{fvs:List V}{sp:List V->Hp->VK->Prop}
(S:sO ps fs scope)(ab:∀us:List Value,us.length=ps.length->bindArgs (kla_fn name qual j F scope U pm (.ref c') ctv) ⟨us,[]⟩=pure @cm)(ac:fvs.length=fs.length)
(af:∀x c,U.lookup x=some c->x∈fs)(ae:∀x y c,U.lookup x=some c->U.lookup y=some c->x=y)
(L:∀(cs:List Addr) (vs:List V) (H:Hp) (Q:VK),(∀c∈cs,∃φ,H c=some (.ext φ))->sp vs H Q->sp vs @gm (λv H2=>(∀c∈cs,H2 c=none)->Q v @da))
(J:∀(A:Around) (outer:List Env) (s:Shared) (H:Hp) (vs:List V) (Q:VK),cr k (A.deeper (envX qual scope s.heap.objs.size f (.ref c') U))->sp vs H Q->∃t,PE (Rl P w K mg base (ps++fs) qual scope f (.ref c') U A outer s H) F t/\t ((vs++fvs).map some) H Q):
 sS P w K mg base (k+1) f (Ld P w f c' @bN qual U fs fvs ps.length sp):=by
 rwa[⟨λA outer s H us vs Q E hr Z r ⟨hf,R,O,hl,ag⟩=> ?_,λvs H Q E h ⟨hf,_⟩ ad _=> ?_⟩]
 ·have W:∀x c,U.lookup x=some c->∃v,H c=some (A3 c v):=λx c e=>by
   obtain ⟨i,hi⟩:=mem_iff_getElem?.mp (af x c e);have ak:i<fs.length:=(List.getElem?_eq_some_iff.mp hi).1;obtain ⟨c2,e2,h2⟩:=O i x _ hi (getElem?_eq_getElem @c);rw [e] at e2;cases e2;exact ⟨_,h2⟩
  have aj:∀c∈U.map (·.2),(∃x,U.lookup x=some c)\/∀x,U.lookup x≠some c:=λc _=>by
   by_cases z:∃x,U.lookup x=some c
   ·exact .inl z
   ·exact .inr λx e=>z ⟨x,e⟩
  let cs:List Addr:=fs.filterMap λx=>U.lookup x
  have G:∀c,c∈cs↔∃x,U.lookup x=some c:=λc=>by
   constructor
   ·intro z;obtain ⟨x,_,e⟩:=mem_filterMap.mp z;exact ⟨x,e⟩
   ·rintro ⟨x,e⟩;exact mem_filterMap.mpr ⟨x,af x c e,e⟩
  have I:∀c∈cs,∃φ,H c=some (.ext φ):=λc hc=>by
   obtain ⟨x,e⟩:=(G c).mp hc;obtain ⟨v,h⟩:=W x c e;exact ⟨_,h⟩
  have ai:s.heap.get? f=some @bN:=(Z.hok f _ hf).1;have ah:s.heap.CodeRec (.ref c') qual:=(Z.hok c' _ R).1
  have ul:us.length=ps.length:=by rw [<-r.length,hl]
  rwa[codeAny_mono (Kc (Q:=λv H2=>(∀c∈cs,H2 c=none)->Q v @da) (E:=E) (fvs:=fvs) S ai ah hr (Z.hid I) (ab us ul) r hl ac (λi x v h1 h2=> ?_) af ae (λx c e=> ?_) (λaa=>J A outer s _ vs _ aa (L cs vs H Q I ag))) λrr s' Y=> ?_]
  ·obtain ⟨c,e,h⟩:=O i x v h1 h2;obtain ⟨u,rv,hc⟩:=(Z.hok c _ h).1;exact ⟨c,u,e,rv,hc⟩
  ·unfold hid;rw [if_pos ((G c).mpr ⟨x,e⟩)]
  ·cases rr with
   |error e=>exact False.elim Y
   |ok fl=>
    cases fl with
    |ret u=>exact CE.unhid Z I Y
    |next=>exact False.elim Y
    |brk=>exact False.elim Y
    |cont=>exact False.elim Y
 ·have e:h.get? f=some @bN:=(ad f _ hf).1;exact ⟨.frame,.inl rfl,(Looks.ld (part:=none) e).andThen .now⟩
inductive PV (P:Addr)(q:Str)(x:Str)(mk:List (Str×Addr)->Addr->Value->Obj)(vs:List V)(H:Hp)(Q:VK)(_e:XK):Prop
 |mk (v:_) (_:vs=[v]) (_:gQ H P q) (_:∀f c' ctv c H',fR P H H'->H f=none->H' f=some (tZ f (mk [(x,c)] c' ctv))->H' c'=some @gH->H' c=some (A3 c v)->gQ H' P q->Q (.ref f) H')
theorem QJ {P:Program}{w:World}{K:Frag}{mg:Str->Option Value}{base:Heap}{k:Nat}{f c Z:Addr}{name qual x:Str}{F lp:Arguments}{lb:Expr}{lsc scope:Scope}{O R:Pos}{dV kV ad pm ct oc:Value}{an od:Option Addr}
{ao:Array @bj}{N:List Str}(lk:K.lookup f=some ⟨oc,od,.func (fnOf name qual F [.Return (some (.Lambda lp lb lsc O)) R] scope dV kV ad pm an (.ref c) ct),ao⟩)(ah:codeIn K (.ref c) qual=true)(S:aj N [x] scope)
(C:CodeHd base c Z)(hB:mE base mg)(aa:∀env,defaultsOf lp env=([],[]))(as:∀L,closureFor lsc (envOfC qual scope L f (.ref c))=pure [(x,L+1)])(ab:∀L,(cellsFrom (L+1) scope.names []).lookup x=some (L+1))(ac:scope.names.lookup x=some .cell):
 ay P w K mg base bd (k+1) f (fnOf name qual F [.Return (some (.Lambda lp lb lsc O)) R] scope dV kV ad pm an (.ref c) ct) [x] (PV Z (qual++".<locals>."++"<lambda>") x λcl c' ctv=>kla_obj "<lambda>" (qual++".<locals>."++"<lambda>") lp lb lsc cl ((mg "__name__").getD .none) c' ctv):=by
 rwa[⟨λvs H Q E ⟨v,e,_,_⟩=>by rw [e];rfl,λA outer s H au us vs Q E hr e0 hb r ar=> ?_⟩];obtain ⟨v,rfl,hT,hq⟩:=ar;have KX:K.In s.heap:=e0.mod.kin.keeps λb o e=>(e0.bs b o e).1;have ap:s.heap.NoLimit:=e0.mod.nolimit.keeps λb o e=>(e0.bs b o e).1
 have U:∀y∈[x].zip us,scope.names.lookup y.1=some .local\/(scope.names.lookup y.1=some .cell/\((cellsFrom (s.heap.objs.size+1) scope.names []).lookup y.1).isSome=true):=λ⟨n,v⟩ hy=>by
  rcases S.par n (of_mem_zip hy).1 with q|q
  ·exact .inl q
  ·exact .inr ⟨q,cellsFrom_some _ _ _ (.inl q)⟩
 rwa[codeAny_call_function hr.depth (KX _ _ lk) rfl S.co S.gen rfl (codeRec_of KX ah) (hb _ _ _ _ ?_)];rwa[wpAny_newFunctionEnv_cells S.kind U λenv he s1 x1=> ?_];subst he;rwa[⟨ap.keeps x1.toInCall.keep,codeAny_func ?_⟩];have I:aA (rJ bd P w K mg base N qual scope f (.ref c) A outer s H E) [] (start N [v]) H s1:=uB S hr.hd e0 rfl r x1;rwa[wpAny_mono (Q:=λfl s'=>∃u H',fl= .ret u/\aA (rJ bd P w K mg base N qual scope f (.ref c) A outer s H E) [] (start N [v]) H' s'/\∃j c' ctv,u= .ref j/\fR Z H H'/\H j=none/\H' j=some (tZ j (kla_obj "<lambda>" (qual++".<locals>."++"<lambda>") lp lb lsc [(x,s.heap.objs.size+1)] ((mg "__name__").getD .none) c' ctv))/\H' c'=some (uc c' (qual++".<locals>."++"<lambda>"))/\gQ H' Z (qual++".<locals>."++"<lambda>")) ?_ (λfl s' hs=> ?_) λe s' hs=>hs]
 ·rwa[wpAny_execs_cons (wpAny_Return_some (bP (MT (X:=rJ bd P w K mg base N qual scope f (.ref c) A outer s H E) (clos:=[(x,s.heap.objs.size+1)]) rfl C hB (aa _) (as _) [] s1 _ H (λv' H'=>∃j c' ctv,v'= .ref j/\fR Z H H'/\H j=none/\H' j=some (tZ j (kla_obj "<lambda>" (qual++".<locals>."++"<lambda>") lp lb lsc [(x,s.heap.objs.size+1)] ((mg "__name__").getD .none) c' ctv))/\H' c'=some (uc c' (qual++".<locals>."++"<lambda>"))/\gQ H' Z (qual++".<locals>."++"<lambda>")) I ⟨hT,λj c' ctv H' a b d e g=>⟨j,c',ctv,rfl,a,b,d,e,g⟩⟩) λu s' ⟨v',H',J,rv,j,c',ctv,ev,eK⟩=> ?_))];subst ev;have rv:u=Value.ref j:=rv;subst rv;exact ⟨_,H',rfl,J,j,c',ctv,rfl,eK⟩
 ·obtain ⟨u,H',rfl,J,j,c',ctv,rfl,a,b,d,e,g⟩:=hs
  have ak:N[0]? =some x:=by
   have:=S.pre
   have h2:(N.take 1)[0]? =some x:=by rw [show N.take 1=[x] from this];rfl
   rw [getElem?_take_of_lt @b] at h2;exact h2
  obtain ⟨m,hn,ae⟩:=J.loc;obtain ⟨u0,al,af⟩:=ae 0 x v ak rfl (.inr (.inl ac))
  have ai:s'.heap.IsCell (s.heap.objs.size+1) (some u0):=by
   rcases af with ⟨z,_⟩|⟨_,c2,e2,hc⟩
   ·have z:scope.names.lookup x=some .local:=z;rw [ac] at z;cases z
   ·have e2:(cellsFrom (s.heap.objs.size+1) scope.names []).lookup x=some c2:=e2;rw [ab] at e2;cases e2;exact hc
  have nc:H' (s.heap.objs.size+1)=none:=J.freeC x _ (ab _);have G:aq H' (upd H' (s.heap.objs.size+1) (A3 (s.heap.objs.size+1) v)):= .upd nc;have Y:∀ {b:Addr} {o:Obj},s.heap.get? b=some o->b≠s.heap.objs.size+1:=λ{b o} e=>Nat.ne_of_lt (Nat.lt_succ_of_lt @G);have W:=J.base;rwa[⟨.ref j,_,J.os,J.bare,⟨W.keep,W.slot,λb o e n hx=>by rw [am (Y e)];exact W.free b o e n hx,W.there,λb xs e=>G _ _ (W.tups b xs e),λb o xs e=>G _ _ (W.frzs b o xs e),λb ps e=>let ⟨more,z⟩:=W.tbls b ps e;⟨more,G _ _ z⟩⟩,λb o z=> ?_,rfl,hq j c' ctv (s.heap.objs.size+1) _ (λb o n e=>G _ _ (a b o n e)) b (G _ _ d) (G _ _ e) ag (g.same G)⟩];have z:upd H' (s.heap.objs.size+1) (A3 (s.heap.objs.size+1) v) b=some o:=z;by_cases zb:b=s.heap.objs.size+1
  ·rw [zb,ag] at z;cases z;rw [zb];exact KL al ai
  ·rw [am zb] at z;exact (J.hok b o z).stay @fI (λd q=>G _ _ q) λd xs q=>G _ _ q
theorem ay.calm {P:Program}{w:World}{K:Frag}{mg:Str->Option Value}{base:Heap}{k:Nat}{f:Addr}{fd:FuncData}{ps:List Str}{sp:Sp}(F:ay P w K mg base @ck k f fd ps sp):ay P w K mg base bd k f fd ps (λvs H Q _=>sp vs H Q E0):=by
 rwa[⟨λvs H Q E h=>F.len _ _ _ _ h,λA outer s H j I vs Q E S R O r h=>codeAny_mono (F.run A outer s H j I vs Q E0 S R O r h) λL s' G=> ?_⟩]
 cases L with
 |ok fl=>cases fl<;>exact G
 |error e=>obtain ⟨a,T,J,Z,H',_,_,_,_,_,_,_,_,_,_,z⟩:=G;exact z.elim
theorem DS.calm {P:Program}{w:World}{K:Frag}{mg:Str->Option Value}{base:Heap}{n:Nat}{x:Str}{ps:List Str}{sp:Sp}(c:DS P w K mg base n x ps sp):aV P w K mg base n x ps (λvs H Q _=>sp vs H Q E0):=by
 obtain ⟨f,fd,F,b,k,j⟩:=c.ex;exact ⟨f,fd,F.calm,b,k,j⟩
def Kf (j:Int)(H:Hp)(Q:VK):Prop:=∃n:Nat,Builtin.Range.small 0 j 1=true/\Builtin.Range.rangeSize 0 j 1=n/\n<=1000/\∀l,H l=none->Q (.ref l) (upd H l (.lst ((List.range n).map λi:Nat=>V.int (i:Int))))
def Pd (te:TE):TE:=λσ H Q=>te σ H λx H1=>match x with
 | .int j=>Kf j H1 Q
 |_=>False
theorem QD {j:Int}{n:Nat}{H:Hp}{Q:VK}(h1:Builtin.Range.small 0 j 1=true)(h2:Builtin.Range.rangeSize 0 j 1=n)(L:n<=1000)(g:∀l H',aq H H'->H l=none->H' l=some (.lst ((List.range n).map λi:Nat=>V.int (i:Int)))->Q (.ref l) H'):Kf j H Q:=⟨n,h1,h2,L,λl z=>g l _ (.upd z) z ag⟩
theorem vd {X:Cx}{e:Expr}{te:TE}{p1 p2 G z:Pos}(hc:X.calm=true)(L:Gl X "list")(J:X.mg "list"=none)(W:Gl X "range")(U:X.mg "range"=none)(he:PE X e te)(hs:bH e=true:=by rfl):
 PE X (.Call (.Name "list" p1) [.Call (.Name "range" p2) [e] [] z] [] G) (Pd te):=by
 intro pins s σ H Q I h;have ay:starEach [Expr.Call (.Name "range" p2) [e] [] z] X.env=[(false,eval (.Call (.Name "range" p2) [e] [] z) X.env)]:=aS (by rfl);have ae:starEach [e] X.env=[(false,eval e X.env)]:=aS hs;rwa[wpAny_Call_Name_kw (ik I L J boot_list ?_)];rwa[PyProof.Rows.callWith_type1 ?_ ay (bN (by rfl))];rw [ay];show wpAny _ _ (spliced ((false,eval (.Call (.Name "range" p2) [e] [] z) X.env)::backTo G @cP)) _ _ s;rwa[Calls.spliced_cons ?_];rwa[wpAny_Call_Name_kw (ik I W U boot_range ?_)];rwa[PyProof.Rows.callWith_type1 ?_ ae (bN (by rfl))];rw [ae];show wpAny _ _ (spliced ((false,eval e X.env)::backTo z @cP)) _ _ s;rwa[Calls.spliced_cons (bP @cw λu O S=> ?_)];obtain ⟨x,H1,I1,r1,q1⟩:=S;rwa[Calls.spliced_nil ?_]
 cases x with
 |int j=>
  obtain ⟨t,rfl⟩:=r1;obtain ⟨n,h1,h2,h3,q⟩:=q1;rwa[call_range_1 ?_];rwa[Calls.spliced_nil ?_];rwa[call_list_range (n:=n) (I1.ok.hd hc) (Heap.get?_push_size _ rfl) h1 h2 @c λh' tk F c' R hS au=> ?_];have Y:=I1.kept (t':=O.toks+1+1) (h':=O.heap.push {cls:= .type "range",data:= .fields #[.int 0 O.toks,.int j t,.int 1 (O.toks+1)]}) λb o e=>Heap.get?_push_of_some _ e
  have rv:aO ((List.range n).map λi:Nat=>V.int (i:Int)) F.toList:=by
   rwa[PySem.Paired.of (by rw [length_map,length_range,Array.length_toList,au.1]) λi v d Z e2=> ?_];rw [getElem?_map] at Z;obtain ⟨k,R,rfl⟩:=Option.map_eq_some_iff.mp Z;obtain ⟨hi,R⟩:=List.getElem?_eq_some_iff.mp R;rw [List.getElem_range] at R;subst R;obtain ⟨t',e3⟩:=au.2 i d (by rw [<-Array.getElem?_toList];exact e2);exact ⟨t',by rw [e3];congr 1;lia⟩
  have hl:((List.range n).map λi:Nat=>V.int (i:Int)).length<=sizeLine:=be (by rw [length_map,length_range];lia);exact ⟨.ref _,_,Y.laid (t':=tk) R @h (show bA X.prog X.w _ h' _ (.lst _) from ⟨hl,F.toList,c',rv,hS⟩),rfl,q _ (Y.hok.fresh @h)⟩
 |_=>exact False.elim q1
section
variable {X:Cx}{pins:List (Addr×Obj)}{σ:St}{H:Hp}{s:Shared}{h':Heap}
theorem aA.sub {j:List (Addr×Obj)}(I:aA X pins σ H s)(h:∀p∈j,p∈pins):aA X j σ H s:=I.pins_of λp G=>I.pin p (mem_append_right _ (h p G))
theorem aA.repin {t':Nat}{a:Addr}{o o':Obj}(I:aA X ((a,o)::pins) σ H s)(W:X.s₀.heap.objs.size<=a)(j:∀p∈X.pn++pins,p.1≠a)(k:∀b u,b≠a->s.heap.get? b=some u->h'.get? b=some u)(L:h'.get? a=some o')(Y:∀v,o'.data≠ .cell v):
 aA X ((a,o')::pins) σ H {s with heap:=h',toks:=t'}:=by
 obtain ⟨S,p2,F,U,O⟩:=I.pin (a,o) @y;have R:aA X pins σ H s:=I.sub λp G=> .tail _ G
 have J:aA X pins σ H {s with heap:=h',toks:=t'}:=R.turned (it:=a) k p2 F (.inr W) (λx c e z=>by
  obtain ⟨v,Z,h1,h2⟩:=I.cell x c e;rw [z] at h1;have S:s.heap.get? a=some o:=S;rw [S] at h1;cases h1
  exact O v h2) j
 rwa[J.pins_of λp G=> ?_]
 rcases mem_cons.mp G with rfl|G
 ·exact ⟨L,p2,F,U,Y⟩
 ·exact J.pin p @bO
theorem aA.pinNew {t':Nat}{a:Addr}{o:Obj}(I:aA X pins σ H s)(G:s.heap.objs.size<=a)(k:∀b u,s.heap.get? b=some u->h'.get? b=some u)(j:h'.get? a=some o)(J:∀v,o.data≠ .cell v):aA X ((a,o)::pins) σ H {s with heap:=h',toks:=t'}:=by
 rwa[(I.kept (t':=t') k).pins_of λp F=> ?_]
 rcases mem_cons.mp F with rfl|F
 ·exact ⟨j,I.hok.fresh G,Nat.ne_of_gt (Nat.lt_of_lt_of_le I.lt G),I.nofs G,J⟩
 ·exact (I.kept (t':=t') k).pin p (mem_append_right _ F)
end
theorem jD {X:Cx}{pins:List (Addr×Obj)}{σ:St}{H:Hp}{s:Shared}{l:Addr}{xs:List V}(I:aA X pins σ H s)(e:H l=some (.lst xs)):∃us:List Value,aO xs us/\s.heap.IsList l us.toArray:=by
 obtain ⟨_,us,n,r,h1⟩:=(show bA X.prog X.w H s.heap l (.lst xs) from I.hok l _ e);exact ⟨us,r,_,h1,rfl,n,rfl⟩
structure LamIn (X:Cx)(fs:List Str)(js:List Nat)(cl:List (Str×Addr)):Prop where
 at_:∀(i:Nat) x,fs[i]? =some x->∃j c,js[i]? =some j/\X.N[j]? =some x/\X.env.scope.names.lookup x=some .cell/\X.env.cells.lookup x=some c/\cl.lookup x=some c
 dom:∀x c,cl.lookup x=some c->x∈fs/\X.env.cells.lookup x=some c
section
variable {prog:Program}{w:World}{A:Around}{E:Value->Shared->Prop}{s:Shared}
theorem Az {it t:Addr}{i:Nat}{j:Array Value}{x:Value}{Q:Value->Shared->Prop}(z:s.heap.IsTupleIter it t i)(S:s.heap.IsTuple t j)(U:j[i]? =some x)
(R:∀h',h'.IsTupleIter it t (i+1)->Heap.SameBut it s.heap h'->Q x {s with heap:=h'}):wpAny @m A (Builtin.SmallTypes.nextOf (.ref it)) Q E s:=by
 obtain ⟨o,I,O,J⟩:=id z;obtain ⟨W,G,_,Y,L⟩:=S;unfold Builtin.SmallTypes.nextOf;rwa[wpAny_bind (wpAny_callSpecial?_slot (name:=s!"__next__") z.typeIs F.slot_tuple_iterator_next (wpAny_call_entry F.slot_tuple_iterator_next z.typeIs F.entry_tuple_iterator_next ?_ (F.args_tuple_iterator_next_1 _)))];show wpAny _ _ (field (.ref it) 0>>=_) _ _ s;rwa[wpAny_bind (wpAny_field I J (x:= .ref t) rfl ?_)];show wpAny _ _ (if (Value.ref t==Value.none)=true then _ else _) _ _ s;rw [if_neg (show ¬((Value.ref t==Value.none)=true) from Bool.false_ne_true)];show wpAny _ _ (field (.ref it) 1>>=_) _ _ s;rwa[wpAny_bind (wpAny_field I J (x:= .int i 0) rfl ?_)];show wpAny _ _ (seqItems? (.ref t)>>=_) _ _ s;rwa[wpAny_bind (wpAny_seqItems G L ?_)];simp only [Int.toNat_natCast,U];rwa[wpAny_bind (wpAny_setField I J @e (wpAny_pure ⟨x,rfl,wpAny_pure (R _ ?_ (Heap.SameBut.update ..))⟩))];exact ⟨_,Heap.get?_update_self _ I (Obj.isFreed_of_fields (Obj.data_mapFields J _)),(Obj.cls_mapFields ..).trans O,by rw [Obj.data_mapFields J];simp [rawInt]⟩
theorem jh {it t:Addr}{i:Nat}{j:Array Value}{Q:Value->Shared->Prop}(O:A.handled=none)(z:s.heap.IsTupleIter it t i)(S:s.heap.IsTuple t j)(U:j[i]? =none)
(R:∀h' e,Heap.ExtBut it s.heap h'->(∃o,h'.get? e=some o/\o.cls= .type "StopIteration")->E (.ref e) {s with heap:=h'}):wpAny @m A (Builtin.SmallTypes.nextOf (.ref it)) Q E s:=by
 obtain ⟨o,I,W,J⟩:=id z;obtain ⟨Y,G,_,Z,L⟩:=S;unfold Builtin.SmallTypes.nextOf;rwa[wpAny_bind (wpAny_callSpecial?_slot (name:=s!"__next__") z.typeIs F.slot_tuple_iterator_next (wpAny_call_entry F.slot_tuple_iterator_next z.typeIs F.entry_tuple_iterator_next ?_ (F.args_tuple_iterator_next_1 _)))];show wpAny _ _ (field (.ref it) 0>>=_) _ _ s;rwa[wpAny_bind (wpAny_field I J (x:= .ref t) rfl ?_)];show wpAny _ _ (if (Value.ref t==Value.none)=true then _ else _) _ _ s;rw [if_neg (show ¬((Value.ref t==Value.none)=true) from Bool.false_ne_true)];show wpAny _ _ (field (.ref it) 1>>=_) _ _ s;rwa[wpAny_bind (wpAny_field I J (x:= .int i 0) rfl ?_)];show wpAny _ _ (seqItems? (.ref t)>>=_) _ _ s;rwa[wpAny_bind (wpAny_seqItems G L ?_)];simp only [Int.toNat_natCast,U];rwa[wpAny_bind (wpAny_rule (wpAny_bind (wpAny_setField I J @e ?_)))];show wpAny _ _ (newExc (.type "StopIteration") []>>=_) _ _ _;rwa[wpAny_bind ?_];simp only [newExc,newTuple];rwa[wpAny_bind (wpAny_newObj_type ?_ (by size_fits))];rwa[wpAny_bind (m:=firstArgMember _ _) (wpAny_of_eq (a:=Value.none) (by first|rfl|(simp only [firstArgMember];rfl)) ?_)];rwa[wpAny_newObj_type ?_ (by size_fits)];simp only [raiseNew];rwa[wpAny_bind (wpAny_handled ?_)]
 first|rw [show A.in1.handled=none from O]|rw [O]
 rwa[wpAny_bind (wpAny_pure (wpAny_throw ?_))];exact R _ _ (((Heap.SameBut.update ..).extBut.push _).push _) ⟨_,Heap.get?_push_size _ rfl,rfl⟩
end
theorem uG {prog:Program}{w:World}{A:Around}(L:A.handled=none)(it l:Addr)(G:l≠it)(j:Array Value):
 Draws prog w A it [it,l] j.size (λi v=>j[i]? =some v) (λi h=>h.IsTupleIter it l i/\h.IsTuple l j) where
 live:=λ_ _ st=>let ⟨o,ho,_⟩:=st.1;⟨o,ho⟩
 frame:=λ_ _ _ st R=>⟨st.1.at λo e=>R it @e o e,let ⟨o,ho,r⟩:=st.2;⟨o,R l @e o ho,r⟩⟩
 item:=λi s Q E hi st I=>by
  rwa[Az st.1 st.2 (x:=j[i]) (by simp [hi]) λh' z F=> ?_];exact I _ h' s.toks (by simp [hi]) ⟨z,let ⟨o,ho,r⟩:=st.2;⟨o,(F.2 l G).trans ho,r⟩⟩ F
 done:=λs Q E st J=>jh L st.1 st.2 @e J
open Sem (wp)
open AutoSeq1 (wpAny_loadPart')
theorem rb (l:Addr)(j:Array Value)(n:Nat)(z:Option Addr)(sl:Array @bj):
 Meets (Builtin.«enumerate.__new__» ⟨[.type "enumerate",.ref l],[]⟩) (λ_ R s=>s.heap.get? l=some {cls:= .type "tuple",dict:=z,data:= .seq j n,slots:=sl}/\
  R (.ok (.ret (.ref (s.heap.push {cls:= .type "tuple_iterator",data:= .fields #[.ref l,.int 0 0]}).objs.size)))
    {s with heap:=(s.heap.push {cls:= .type "tuple_iterator",data:= .fields #[.ref l,.int 0 0]}).push {cls:= .type "enumerate",data:= .fields #[.none,.bool false,.ref s.heap.objs.size,rawInt 0,.none,.none]}}):=
 .of_wp λprog w A R s h=>by
  obtain ⟨I,g,d,tk,os⟩:=s;obtain ⟨W,h⟩:=h;have F:=sub_enumerate;have G:Heap.IsTuple (Shared.heap ⟨I,g,d,tk,os⟩) l j:=⟨_,W,rfl,n,rfl⟩
  wp_walk using wpAny_loadPart' W
  rwa[wpAny_stack_any λst=>wpAny_pure ?_];split
  ·rename_i c _ _ _ _ _;cases (c==Value.type "enumerate")
   ·wp_walk using wpAny_loadPart' W,wpAny_pyIter_tuple G
    exact ⟨_,rfl,h⟩
   ·wp_walk using wpAny_loadPart' W,wpAny_pyIter_tuple G
    exact ⟨_,rfl,h⟩
  ·wp_walk using wpAny_loadPart' W,wpAny_pyIter_tuple G
   exact ⟨_,rfl,h⟩
theorem tU {prog:Program}{w:World}{A:Around}{E:Value->Shared->Prop}{s:Shared}{l:Addr}{j:Array Value}{Q:Value->Shared->Prop}(O:s.heap.IsTuple l j)
(h:∀h',IsEnum h' (s.heap.objs.size+1) s.heap.objs.size 0 .none->h'.IsTupleIter s.heap.objs.size l 0->h'.objs.size=s.heap.objs.size+2->
   (∀b o,s.heap.get? b=some o->h'.get? b=some o)->Q (.ref (s.heap.objs.size+1)) {s with heap:=h'}):wpAny @m A (call (.type "enumerate") [.ref l]) Q E s:=by
 obtain ⟨⟨c,G,R,sl⟩,W,I,n,J⟩:=O;replace I:c= .type "tuple":=I;replace J:R= .seq j n:=J;subst I J;rwa[callType_new F.called_enumerate @b (F.typeCall_enumerate_1 _) (F.newCall_enumerate_1 _) (λz=>F.args_object_init_2 z _) F.entry_enumerate_new (rb l j n G sl) ⟨W,?_⟩];have L:(s.heap.push {cls:= .type "tuple_iterator",data:= .fields #[.ref l,.int 0 0]}).objs.size=s.heap.objs.size+1:=Heap.size_push ..;show _/\_;rw [L]
 have U:IsEnum ((s.heap.push {cls:= .type "tuple_iterator",data:= .fields #[.ref l,.int 0 0]}).push {cls:= .type "enumerate",data:= .fields #[.none,.bool false,.ref s.heap.objs.size,rawInt 0,.none,.none]}) (s.heap.objs.size+1) s.heap.objs.size 0 .none:=by
  have:=Heap.get?_push_size (s.heap.push {cls:= .type "tuple_iterator",data:= .fields #[.ref l,.int 0 0]}) (o:= {cls:= .type "enumerate",data:= .fields #[.none,.bool false,.ref s.heap.objs.size,rawInt 0,.none,.none]}) rfl;rw [L] at this;exact this
 rwa[⟨⟨_,U,rfl⟩,h _ U ⟨_,Heap.get?_push_of_some _ (Heap.get?_push_size _ rfl),rfl,rfl⟩ (by rw [Heap.size_push,L]) λb o x=>Heap.get?_push_of_some _ (Heap.get?_push_of_some _ x)⟩]
theorem aA.turnLaid {X:Cx}{pins:List (Addr×Obj)}{σ:St}{H:Hp}{s:Shared}{h':Heap}{t':Nat}{ch:List Addr}{a:Addr}{o:HO}(I:aA X pins σ H s)(L:∀b∈ch,jy X pins H b)(k:∀b u,b∉ch->s.heap.get? b=some u->h'.get? b=some u)
(R:s.heap.objs.size<=a)(J:bA X.prog X.w @bu h' a o):aA X pins σ @bu {s with heap:=h',toks:=t'}:=by
 have Y:H a=none:=I.hok.fresh R;have U:∀ {b:Addr} {u:Obj},s.heap.get? b=some u->b≠a:=λ{b u} e=>Nat.ne_of_lt (Nat.lt_of_lt_of_le @G R)
 have O:∀ {b:Addr} {u:HO},H b=some u->b∉ch:=λ{b u} e z=>by have:=(L b z).1;rw [e] at this;cases this
 have G:aq H @bu:= .upd Y
 refine I.step (g':=s.gens) (d':=s.drawn) (ch:=ch) (λb F=> ?_) (λb u _ _ j e _=>k b u j e) (λb u _ _ j e _=>⟨u.slots,k b u j e⟩) (λb u _ e n=>by rw [am (U e)];exact n) (λb u j e=>⟨u,k b u j e⟩)
  (λb xs e=>G _ _ e) (λb u v e=>G _ _ e) (λb ps e=>⟨#[],by rw [G _ _ e];simp⟩) (λm S=> ?_) (λb u e=> ?_) I.bare
 ·obtain ⟨_,W,_,f3,Z,f5⟩:=L b F;exact ⟨f3,W,Z,f5⟩
 ·obtain ⟨o,es,ep,ho,r⟩:=S;exact ⟨o,es,ep,k _ o (λz=>(L _ z).2.1 rfl) ho,r⟩
 ·by_cases F:b=a
  ·subst F;rw [ag] at e;cases e;exact J
  ·rw [am F] at e;rwa[(I.hok b u e).stay (λc v j q=>k c v ?_ q) (λc q=>G _ _ q) λc xs q=>G _ _ q]
   rcases j with z|z
   ·rw [z];exact O e
   ·exact O z
noncomputable def S2 (K:Fg)(a:Addr):It:=⟨(Ie K a).go,λi H x H'=>∃T y,x= .ref T/\H T=none/\H'=upd H T (.tup [.int i,y])/\∀xs,aC K H a xs->xs[i]? =some y,(Ie K a).stop⟩
theorem Em {P:Program}{w:World}{K:Fg}{R:List Expr}{k:Nat}{pos:Pos}(a it e:Addr):xf P w K (.Tuple R k pos) (S2 K a) [e,it] e (λi h=>(∃old,IsEnum h e it i old)/\h.IsListIter it a i) where
 mem:=by simp
 obj:=λi h st b O=>by
  obtain ⟨⟨old,U⟩,o,ho,c,d⟩:=st
  rcases mem_cons.mp O with rfl|O
  ·exact ⟨_,U,λv z=>by cases z⟩
  ·rw [mem_singleton.mp O];exact ⟨o,ho,λv z=>by rw [d] at z;cases z⟩
 keep:=λi h h' st kk=>by
  obtain ⟨⟨old,U⟩,j⟩:=st;exact ⟨⟨old,kk e @e _ U⟩,j.at λo z=>kk it @e o z⟩
 item:=by
  intro X hP hw hK hc i pins s σ H E I hf st hg;subst hP hw hK;obtain ⟨⟨old,U⟩,j⟩:=st;obtain ⟨xs,x,hq,hx⟩:=hg;obtain ⟨its,rv,p,hz⟩:=I.list hq;have hl:s.heap.IsList a its.toArray:=p.isList;obtain ⟨u,hu,ru⟩:=rv.get hx;obtain ⟨oi,L,ci,di⟩:=id j;obtain ⟨ol,G,cl,_⟩:=id hl
  have ac:e≠it:=λz=>by have h1:=L.symm.trans (z▸U);cases h1;exact absurd (Value.type.inj ci) @b
  have ai:e≠a:=λz=>by have h1:=G.symm.trans (z▸U);cases h1;exact absurd @bG @b
  have Z:a≠it:=λz=>by rw [z,L] at G;cases G;rw [ci] at cl;exact absurd @bG @b
  have W:=WalksT.enumerateD (Draws.list (prog:=X.prog) (w:=X.w) (A:=X.A.in1) @bS it a Z its.toArray) e ac (by simp [ac,ai]) @e
  have hi:i<its.toArray.size:=by rw [size_toArray];exact (List.getElem?_eq_some_iff.mp hu).1
  rwa[W.item i s _ _ hi ⟨⟨old,U⟩,j,hl⟩ λT ak h' tk hP hT ad Y hk=>⟨.ref T,rfl,?_⟩];rwa[W.go R k pos i T _ _ _ Y λh2 S ab=> ?_];obtain ⟨t,u',J,rfl⟩:=hP
  have J:its[i]? =some u':=by simpa using J
  rw [hu] at J;cases J;have aa:T∉[e,it]:=W.apart i T h' Y;have kk:∀b o,b∉[e,it]->s.heap.get? b=some o->h2.get? b=some o:=λb o nb z=>ab b o nb (hk b o nb z)
  have ae:IsTup h2 T (#[.int i t,u]:Array Value):=by
   obtain ⟨o,ho,c,r⟩:=ad;exact ⟨o,ab T o aa ho,c,r⟩
  have aj:bA X.prog X.w (upd H T (.tup [.int i,x])) h2 T (.tup [.int i,x]):=⟨by show 2<=sizeLine;decide,[.int i t,u],.cons ⟨t,rfl⟩ (.cons ru .nil),ae⟩;rwa[⟨.ref T,upd H T (.tup [.int i,x]),I.turnLaid (t':=tk) hf kk hT aj,rfl,⟨T,x,rfl,I.hok.fresh hT,rfl,λys hy=>by rw [I.list_inj hy hq];exact hx⟩,⟨S.1,S.2.1⟩,λb O=> ?_⟩];have ne:b≠T:=λz=>aa (by rw [<-z];exact O);rw [am ne];exact (hf b O).1
 done:=by
  intro X hP hw hK hc i pins s σ H E I hf st hg;subst hP hw hK;obtain ⟨⟨old,U⟩,j⟩:=st;obtain ⟨xs,hq,hx⟩:=hg;obtain ⟨its,rv,p,hz⟩:=I.list hq;have hl:s.heap.IsList a its.toArray:=p.isList;have al:=rv.length;obtain ⟨oi,L,ci,di⟩:=id j;obtain ⟨ol,G,cl,_⟩:=id hl
  have Z:a≠it:=λz=>by rw [z,L] at G;cases G;rw [ci] at cl;exact absurd @bG @b
  have D:=Draws.list (prog:=X.prog) (w:=X.w) (A:=X.A.in1) @bS it a Z its.toArray;have hT:s.TypeIs (.ref e) "enumerate":=⟨_,U,rfl⟩;obtain ⟨f0,f1,f2,f3,f4,f5⟩:=hf it @e;unfold pyNext;rwa[wpAny_bind (wpAny_attempt (wpAny_callSpecial?_slot (name:=s!"__next__") hT F.slot_enumerate_next (wpAny_call_entry F.slot_enumerate_next hT F.entry_enumerate_next ?_ (F.args_enumerate_next_1 _))))];show wpAny _ _ (field (.ref e) 2>>=_) _ _ _;rwa[wpAny_bind (wpAny_field U rfl (x:= .ref it) rfl ?_)];rwa[wpAny_bind (wpAny_nextOf_list_end @bS j hl (by simp;lia) λh' x ah af=> ?_)];obtain ⟨o,ho,ag⟩:=af;rwa[wpAny_bind (wpAny_isInstance (T:="StopIteration") (b:=true) ⟨o,ho,ag⟩ isSubtype_stop ?_)];exact wpAny_pure ⟨rfl,I.turned (t':=s.toks) (λb o O e=>ah b o O e) f0 f1 f3 f4 f5⟩
 self:=λ_ _ _ _ _ st h=>let ⟨⟨old,U⟩,_⟩:=st;wpAny_pyIter_enum U h
noncomputable def S8 (K:Fg)(a:Addr):It:=⟨(Ic K a).go,λi H x H'=>∃T y,x= .ref T/\H T=none/\H'=upd H T (.tup [.int i,y])/\∀xs,az K H a xs->xs[i]? =some y,(Ic K a).stop⟩
theorem El {P:Program}{w:World}{K:Fg}{R:List Expr}{k:Nat}{pos:Pos}(a it e:Addr):xf P w K (.Tuple R k pos) (S8 K a) [e,it] e (λi h=>(∃old,IsEnum h e it i old)/\h.IsTupleIter it a i) where
 mem:=by simp
 obj:=λi h st b O=>by
  obtain ⟨⟨old,U⟩,o,ho,c,d⟩:=st
  rcases mem_cons.mp O with rfl|O
  ·exact ⟨_,U,λv z=>by cases z⟩
  ·rw [mem_singleton.mp O];exact ⟨o,ho,λv z=>by rw [d] at z;cases z⟩
 keep:=λi h h' st kk=>by
  obtain ⟨⟨old,U⟩,j⟩:=st;exact ⟨⟨old,kk e @e _ U⟩,j.at λo z=>kk it @e o z⟩
 item:=by
  intro X hP hw hK hc i pins s σ H E I hf st hg;subst hP hw hK;obtain ⟨⟨old,U⟩,j⟩:=st;obtain ⟨xs,x,hq,hx⟩:=hg;obtain ⟨its,rv,p,hz⟩:=I.tuple hq;have hl:s.heap.IsTuple a its.toArray:=p;obtain ⟨u,hu,ru⟩:=rv.get hx;obtain ⟨oi,L,ci,di⟩:=id j;obtain ⟨ol,G,cl,_⟩:=id hl
  have ac:e≠it:=λz=>by have h1:=L.symm.trans (z▸U);cases h1;exact absurd (Value.type.inj ci) @b
  have ai:e≠a:=λz=>by have h1:=G.symm.trans (z▸U);cases h1;exact absurd @bG @b
  have Z:a≠it:=λz=>by rw [z,L] at G;cases G;rw [ci] at cl;exact absurd @bG @b
  have W:=WalksT.enumerateD (uG (prog:=X.prog) (w:=X.w) (A:=X.A.in1) @bS it a Z its.toArray) e ac (by simp [ac,ai]) @e
  have hi:i<its.toArray.size:=by rw [size_toArray];exact (List.getElem?_eq_some_iff.mp hu).1
  rwa[W.item i s _ _ hi ⟨⟨old,U⟩,j,hl⟩ λT ak h' tk hP hT ad Y hk=>⟨.ref T,rfl,?_⟩];rwa[W.go R k pos i T _ _ _ Y λh2 S ab=> ?_];obtain ⟨t,u',J,rfl⟩:=hP
  have J:its[i]? =some u':=by simpa using J
  rw [hu] at J;cases J;have aa:T∉[e,it]:=W.apart i T h' Y;have kk:∀b o,b∉[e,it]->s.heap.get? b=some o->h2.get? b=some o:=λb o nb z=>ab b o nb (hk b o nb z)
  have ae:IsTup h2 T (#[.int i t,u]:Array Value):=by
   obtain ⟨o,ho,c,r⟩:=ad;exact ⟨o,ab T o aa ho,c,r⟩
  have aj:bA X.prog X.w (upd H T (.tup [.int i,x])) h2 T (.tup [.int i,x]):=⟨by show 2<=sizeLine;decide,[.int i t,u],.cons ⟨t,rfl⟩ (.cons ru .nil),ae⟩;rwa[⟨.ref T,upd H T (.tup [.int i,x]),I.turnLaid (t':=tk) hf kk hT aj,rfl,⟨T,x,rfl,I.hok.fresh hT,rfl,λys hy=>by rw [I.tuple_inj hy hq];exact hx⟩,⟨S.1,S.2.1⟩,λb O=> ?_⟩];have ne:b≠T:=λz=>aa (by rw [<-z];exact O);rw [am ne];exact (hf b O).1
 done:=by
  intro X hP hw hK hc i pins s σ H E I hf st hg;subst hP hw hK;obtain ⟨⟨old,U⟩,j⟩:=st;obtain ⟨xs,hq,hx⟩:=hg;obtain ⟨its,rv,p,hz⟩:=I.tuple hq;have hl:s.heap.IsTuple a its.toArray:=p;have al:=rv.length;obtain ⟨oi,L,ci,di⟩:=id j;obtain ⟨ol,G,cl,_⟩:=id hl
  have Z:a≠it:=λz=>by rw [z,L] at G;cases G;rw [ci] at cl;exact absurd @bG @b
  have D:=uG (prog:=X.prog) (w:=X.w) (A:=X.A.in1) @bS it a Z its.toArray;have hT:s.TypeIs (.ref e) "enumerate":=⟨_,U,rfl⟩;obtain ⟨f0,f1,f2,f3,f4,f5⟩:=hf it @e;unfold pyNext;rwa[wpAny_bind (wpAny_attempt (wpAny_callSpecial?_slot (name:=s!"__next__") hT F.slot_enumerate_next (wpAny_call_entry F.slot_enumerate_next hT F.entry_enumerate_next ?_ (F.args_enumerate_next_1 _))))];show wpAny _ _ (field (.ref e) 2>>=_) _ _ _;rwa[wpAny_bind (wpAny_field U rfl (x:= .ref it) rfl ?_)];rwa[wpAny_bind (jh @bS j hl (by simp;lia) λh' x ah af=> ?_)];obtain ⟨o,ho,ag⟩:=af;rwa[wpAny_bind (wpAny_isInstance (T:="StopIteration") (b:=true) ⟨o,ho,ag⟩ isSubtype_stop ?_)];exact wpAny_pure ⟨rfl,I.turned (t':=s.toks) (λb o O e=>ah b o O e) f0 f1 f3 f4 f5⟩
 self:=λ_ _ _ _ _ st h=>let ⟨⟨old,U⟩,_⟩:=st;wpAny_pyIter_enum U h
def SD (K:Fg)(p:Addr)(H:Hp)(R:It->Hp->Prop):Prop:=(∃xs,aC K H p xs/\R (S2 K p) H)\/∃xs,az K H p xs/\R (S8 K p) H
def Td (K:Fg)(te:TE):TI:=λσ H R=>te σ H λx H1=>match x with| .ref p=>SD K p H1 R|_=>False
theorem Iz {X:Cx}{K:Fg}(Z:X.K=K){j:List Expr}{k:Nat}{tpos p pos:Pos}{e:Expr}{te:TE}(hg:Gl X "enumerate")(W:X.mg "enumerate"=none)(he:PE X e te)(hs:bH e=true:=by rfl):
 PI X (.Tuple j k tpos) (.Call (.Name "enumerate" p) [e] [] pos) (Td K te):=by
 subst Z;intro pins s σ H R I h;have st:starEach [e] X.env=[(false,eval e X.env)]:=aS hs;rwa[Call_ (ik I hg W boot_enumerate (PyProof.Rows.callWith_type1 ?_ st (bN (by rfl))))];rw [st];show wpAny _ _ (spliced ((false,eval e X.env)::backTo pos @cP)) _ _ s;rwa[Calls.spliced_cons (bP @cw λu O z=> ?_)];obtain ⟨x,H1,J,L,U⟩:=z;rwa[Calls.spliced_nil ?_]
 cases x with
 |ref a=>
  have L:u=Value.ref a:=L;subst L
  have fp:∀b∈[O.heap.objs.size+1,O.heap.objs.size],jy X pins H1 b:=λb S=>by
   rcases mem_cons.mp S with rfl|S
   ·exact J.fpOk @eh (J.hok.fresh @eh)
   ·rw [mem_singleton.mp S];exact J.fpOk @h @ci
  rcases U with ⟨xs,F,q⟩|⟨xs,F,q⟩
  ·obtain ⟨its,rv,p,hz⟩:=J.list F;rwa[call_enumerate_list p.isList λh' h1 h2 Y G=> ?_];exact wpAny_pyIter_enum h1 ⟨_,[O.heap.objs.size+1,O.heap.objs.size],_,_,H1,rfl,J.kept (t':=O.toks) G,Em a _ _,⟨⟨_,h1⟩,h2⟩,fp,q⟩
  ·obtain ⟨its,rv,p,hz⟩:=J.tuple F;rwa[tU (show O.heap.IsTuple a its.toArray from p) λh' h1 h2 Y G=> ?_];exact wpAny_pyIter_enum h1 ⟨_,[O.heap.objs.size+1,O.heap.objs.size],_,_,H1,rfl,J.kept (t':=O.toks) G,El a _ _,⟨⟨_,h1⟩,h2⟩,fp,q⟩
 |_=>exact False.elim U
theorem QI {CX:oA}{P:Program}{w:World}{K:Frag}{mg:Str->Option Value}{base:Heap}{f:Addr}{fd:FuncData}{ps:List Str}:ay P w K mg base CX 1 f fd ps (λ_ _ _ _=>False):=⟨λ_ _ _ _ h=>h.elim,λ_ _ _ _ _ _ _ _ _ _ _ _ _ h=>h.elim⟩
theorem qS {X:Cx}{s:Stmt}:PS X s @ff:=λ_ _ _ _ _ _ h=>h.elim
theorem GW {K:Fg}{a:Addr}{xs:List V}{g:TG}{tb:TS}{D:pG}{σ:St}{H:Hp}(j:Nat->St->Hp->Prop)(J:j 0 σ H)(G:∀i σ H,i<=xs.length->j i σ H->aC K H a xs)
(hs:∀(i:Nat) x σ H T H',xs[i]? =some x->j i σ H->aq H H'->H' T=some (.tup [.int i,x])->g (.ref T) σ H' λσ2 H2=>tb {D with nx:=j (i+1),ct:=j (i+1),bk:=D.nx} σ2 H2)(L:∀σ H,j xs.length σ H->D.nx σ H):AQ (S2 K a) g tb D σ H:=by
 rwa[⟨λi m σ H=>m=xs.length - i/\i<=xs.length/\j i σ H,⟨xs.length,by simp,Nat.zero_le _,J⟩,?_⟩];rintro i m σ H ⟨rfl,hi,p⟩;by_cases F:i<xs.length
 ·rwa[.inr ⟨⟨xs,xs[i],G i σ H hi p,by simp [F]⟩,j (i+1),λR H' I=>⟨xs.length - (i+1),by lia,rfl,F,I⟩,λx H' y=> ?_⟩];obtain ⟨T,z,rfl,O,rfl,y⟩:=y;exact hs i z σ _ T _ (y xs (G i σ _ hi p)) p (.upd O) ag
 ·have e:i=xs.length:=by lia
  subst e;exact .inl ⟨⟨xs,G _ σ H @h p,Nat.le_refl _⟩,L σ H p⟩
theorem Fx {X:Cx}(i:Nat){x:Str}{pos:Pos}(hi:X.N[i]? =some x:=by rfl)(z:X.N.Nodup:=by (conv=>arg 1;whnf);decide+kernel)(j:Lw X.env.scope x:=by first|exact Or.inl rfl|exact Or.inr rfl)(F:X.fn x=true\/X.env.scope.names.lookup x=some .local:=by first|exact .inl rfl|exact .inr rfl|assumption):PG X (.Name x pos) (oW i):=lP z hi j F
theorem Ft {X:Cx}(i:Nat){x:Str}{e:Expr}{te:TE}{pos pos':Pos}(U:PE X e te)(hi:X.N[i]? =some x:=by rfl)(z:X.N.Nodup:=by (conv=>arg 1;whnf);decide+kernel)(j:Lw X.env.scope x:=by first|exact Or.inl rfl|exact Or.inr rfl)(hs:swapsWith e (some (.Name x pos')) pos.line X.env=pure false:=by rfl)(F:X.fn x=true\/X.env.scope.names.lookup x=some .local:=by first|exact .inl rfl|exact .inr rfl|assumption):PS X (.Assign [.Name x pos'] e pos) (Ew te (oW i)):=bF z hi j U hs F
end L2
local macro_rules|`(tactic|walk_at "l3de")=>`(tactic|first|(show L2.PE _ (.Name _ _) _;first|exact L2.wv 0|exact L2.wv 1|exact L2.wv 2|exact L2.wv 3|exact L2.wv 4|exact L2.wv 5|exact L2.wv 6|exact L2.wv 7|exact L2.wv 8|exact L2.wv 9|exact L2.Bq rfl (by assumption) (by assumption)|exact L2.pO rfl (by assumption))|(show L2.PE _ (.Subscript _ (.Slice _ _ _ _) _) _;exact L2.lQ (L2.A7 rfl) (by right) (by right) (by right))|(show L2.PE _ (.Subscript _ _ _) _;exact L2.bT (L2.dG rfl) (by right) (by right) (fun _ _=>rfl))|(show L2.PE _ (.Constant _ _ _) _;first|exact L2.aB|exact L2.aT|exact L2.fg|exact L2.Al)|(show L2.PE _ (.Call _ _ _ _) _;walk_at "l3dc")|(show L2.PE _ (.BinOp _ _ _ _) _;walk_at "l3db")|(show L2.PE _ (.Tuple _ _ _) _;exact L2.cO (by right))|(show L2.PE _ (.List _ _) _;exact L2.pW (by right))|(show L2.PE _ (.Attribute _ _ _) _;exact L2.LP rfl (by right))|(show L2.PE _ (.Compare _ _ _ _) _;walk_at "l3dm")|(show L2.PE _ (.IfExp _ _ _ _) _;exact L2.A6 (by right) (by right) (by right))|(show L2.PE _ (.UnaryOp .Not _ _) _;exact L2.D6 rfl (by right))|(show L2.PE _ (.UnaryOp .USub _ _) _;exact L2.ur L2.uf (by right))|(show L2.PE _ (.BoolOp _ [_] _) _;exact L2.Fz (by right))|(show L2.PE _ (.BoolOp .And _ _) _;exact L2.D8 (by right) (by right))|(show L2.PE _ (.BoolOp .Or _ _) _;exact L2.OS (by right) (by right)))
local macro_rules|`(tactic|walk_at "l3dc")=>`(tactic|first|(show L2.PE _ (.Call (.Name "len" _) _ _ _) _;exact L2.bb (L2.pZ rfl) rfl (by assumption) PySem.boot_len (by right))|(show L2.PE _ (.Call (.Name _ _) _ _ _) _;exact L2.b9 (by assumption) (by assumption) (by decide) rfl (by right))|(show L2.PE _ (.Call (.Attribute _ "append" _) _ _ _) _;exact L2.fY rfl PySem.F.plainAttrs_list PySem.F.slot_list_append PySem.F.type_list_append L2.lr (by right) (by right))|(show L2.PE _ (.Call (.Attribute _ "extend" _) _ _ _) _;exact L2.fY rfl PySem.F.plainAttrs_list PySem.F.slot_list_extend PySem.F.type_list_extend L2.iR (by right) (by right))|(show L2.PE _ (.Call (.Attribute _ "split" _) _ _ _) _;exact L2.fY rfl PySem.F.plainAttrs_str PySem.F.slot_str_split PySem.F.type_str_split L2.IA (by right) (by right))|(show L2.PE _ (.Call (.Attribute _ "join" _) _ _ _) _;exact L2.fY rfl PySem.F.plainAttrs_str PySem.F.slot_str_join PySem.F.type_str_join (L2.zg rfl) (by right) (by right)))
local macro_rules|`(tactic|walk_at "l3db")=>`(tactic|first|(show L2.PE _ (.BinOp _ .Add _ _) _;exact L2.bR (L2.dP rfl) (by right) (by right))|(show L2.PE _ (.BinOp _ .Sub _ _) _;exact L2.bR L2.K4 (by right) (by right))|(show L2.PE _ (.BinOp _ .Mult _ _) _;exact L2.bR L2.K6 (by right) (by right))|(show L2.PE _ (.BinOp _ .Mod _ _) _;exact L2.bR L2.A9 (by right) (by right))|(show L2.PE _ (.BinOp _ .FloorDiv _ _) _;exact L2.bR L2.LR (by right) (by right))|(show L2.PE _ (.BinOp _ .Pow _ _) _;exact L2.bR L2.K5 (by right) (by right))|(show L2.PE _ (.BinOp _ .LShift _ _) _;exact L2.bR L2.OT (by right) (by right))|(show L2.PE _ (.BinOp _ .BitAnd _ _) _;exact L2.bR L2.OY (by right) (by right))|(show L2.PE _ (.BinOp _ .BitOr _ _) _;exact L2.bR L2.RB (by right) (by right)))
local macro_rules|`(tactic|walk_at "l3dm")=>`(tactic|first|(show L2.PE _ (.Compare _ [.Eq] _ _) _;exact L2.fb (L2.gB rfl (by assumption)) (by right) (by right) (L2.bx _))|(show L2.PE _ (.Compare _ [.NotEq] _ _) _;exact L2.fb (L2.A8 rfl (by assumption)) (by right) (by right) (L2.bx _))|(show L2.PE _ (.Compare _ [.Lt] _ _) _;exact L2.fb L2.w_lt (by right) (by right) (L2.bx _))|(show L2.PE _ (.Compare _ [.Gt] _ _) _;exact L2.fb L2.IC (by right) (by right) (L2.bx _))|(show L2.PE _ (.Compare _ [.LtE] _ _) _;exact L2.fb L2.Ed (by right) (by right) (L2.bx _))|(show L2.PE _ (.Compare _ [.GtE] _ _) _;exact L2.fb L2.OX (by right) (by right) (L2.bx _))|(show L2.PE _ (.Compare _ [.In] _ _) _;exact L2.fb (L2.IB rfl) (by right) (by right) (by with_unfolding_all rfl))|(show L2.PE _ (.Compare _ [.Is] _ _) _;exact L2.fb L2.K8 (by right) (by right) (L2.bx _)))
local macro_rules|`(tactic|walk_at "l3dt")=>`(tactic|first|(show L2.PT _ (.Compare _ _ _ _) _;walk_at "l3dn")|(show L2.PT _ (.BoolOp _ _ _) _;exact L2.PW.pt (by right))|(show L2.PT _ (.UnaryOp .Not _ _) _;exact L2.dU (by right))|(show L2.PT _ _ _;exact L2.fW rfl (by right)))
local macro_rules|`(tactic|walk_at "l3dn")=>`(tactic|first|(show L2.PT _ (.Compare _ [.Eq] _ _) _;exact L2.bw (L2.gB rfl (by assumption)) (by right) (by right) (L2.bx _))|(show L2.PT _ (.Compare _ [.Lt] _ _) _;exact L2.bw L2.w_lt (by right) (by right) (L2.bx _))|(show L2.PT _ (.Compare _ [.Gt] _ _) _;exact L2.bw L2.IC (by right) (by right) (L2.bx _))|(show L2.PT _ (.Compare _ [.LtE] _ _) _;exact L2.bw L2.Ed (by right) (by right) (L2.bx _))|(show L2.PT _ (.Compare _ [.GtE] _ _) _;exact L2.bw L2.OX (by right) (by right) (L2.bx _))|(show L2.PT _ (.Compare _ [.NotEq] _ _) _;exact L2.bw (L2.A8 rfl (by assumption)) (by right) (by right) (L2.bx _))|(show L2.PT _ (.Compare _ [.In] _ _) _;exact L2.bw (L2.IB rfl) (by right) (by right) (by with_unfolding_all rfl))|(show L2.PT _ (.Compare _ [.Is] _ _) _;exact L2.bw L2.K8 (by right) (by right) (L2.bx _))|(show L2.PT _ (.Compare _ [.LtE,.Lt] _ _) _;exact L2.pT L2.Ed L2.w_lt (by right) (by right) (by right))|(show L2.PT _ (.Compare _ [.LtE,.LtE] _ _) _;exact L2.pT L2.Ed L2.Ed (by right) (by right) (by right)))
local macro_rules|`(tactic|walk_at "l3dd")=>`(tactic|first|(show L2.PE _ _ _;walk_at "l3de")| (show L2.PA _ _ _;first|exact L2.ao|exact L2.ar (by right) (by right))| (show L2.PT _ _ _;walk_at "l3dt")| (show L2.PS _ (.Assign [.Name _ _] _ _) _;first|(refine' L2.Ft 0 ?_;walk_at "l3dd")|(refine' L2.Ft 1 ?_;walk_at "l3dd")|(refine' L2.Ft 2 ?_;walk_at "l3dd")|(refine' L2.Ft 3 ?_;walk_at "l3dd")|(refine' L2.Ft 4 ?_;walk_at "l3dd")|(refine' L2.Ft 5 ?_;walk_at "l3dd")|(refine' L2.Ft 6 ?_;walk_at "l3dd")|(refine' L2.Ft 7 ?_;walk_at "l3dd")|(refine' L2.Ft 8 ?_;walk_at "l3dd")|(refine' L2.Ft 9 ?_;walk_at "l3dd")|(refine' L2.Ft 10 ?_;walk_at "l3dd"))| (show L2.PW _ (.BoolOp .And [_] _) _;exact L2.pM (by right))| (show L2.PW _ (.BoolOp .Or [_] _) _;exact L2.ig (by right))| (show L2.PW _ (.BoolOp .And _ _) _;exact L2.mG (by right) (by right))| (show L2.PW _ (.BoolOp .Or _ _) _;exact L2.iC (by right) (by right))| (show L2.PO _ none _;exact L2.pN)| (show L2.PO _ _ _;exact L2.pI (by right))| (show L2.PG _ (.Name _ _) _;first|exact L2.Fx 0|exact L2.Fx 1|exact L2.Fx 2|exact L2.Fx 3|exact L2.Fx 4|exact L2.Fx 5|exact L2.Fx 6|exact L2.Fx 7|exact L2.Fx 8|exact L2.Fx 9|exact L2.Fx 10)| (show L2.PG _ (.Tuple _ _ _) _;exact L2.gv rfl rfl (by right))| (show L2.DP _ [] _;exact L2.eU)| (show L2.DP _ _ _;exact L2.aM (by right) (by right))| (show L2.PI _ _ _ _;exact L2.iP rfl (by right)))
namespace L2
open PySem PySem.Spec PyProof.Rows
section
variable {κ:Type}[DecidableEq κ]
noncomputable def fk (kvs:List (κ×V))(k:κ):Option V:=(kvs.find? λkv=>decide (kv.1=k)).map (·.2)
noncomputable def dO (kvs:List (κ×V))(k:κ)(v:V):List (κ×V):=
 if (kvs.any λkv=>decide (kv.1=k))=true then kvs.map (λkv=>if kv.1=k then (kv.1,v) else kv) else kvs++[(k,v)]
theorem cP {p:κ×V}{r:List (κ×V)}{k:κ}(e:p.1=k):fk (p::r) k=some p.2:=by simp [fk,find?_cons,e]
theorem cQ {p:κ×V}{r:List (κ×V)}{k:κ}(e: ¬p.1=k):fk (p::r) k=fk r k:=by simp [fk,find?_cons,e]
theorem lu (k:κ):∀kvs:List (κ×V),(kvs.any λkv=>decide (kv.1=k))=(fk kvs k).isSome
 |[]=>rfl
 |p::r=>by
  rw [any_cons];by_cases e:p.1=k
  ·simp only [cP e,decide_eq_true e,Bool.true_or,Option.isSome_some]
  ·rw [cQ e,decide_eq_false e,Bool.false_or];exact lu k r
theorem xy (k j:κ)(y:V):∀kvs:List (κ×V),fk (kvs.map λkv=>if kv.1=k then (kv.1,y) else kv) j=(fk kvs j).map λx=>if j=k then y else x
 |[]=>rfl
 |p::r=>by
  have F:=xy k j y r;rw [map_cons];by_cases h:p.1=k
  ·rw [if_pos h];by_cases e:p.1=j
   ·rw [cP (p:=(p.1,y)) e,cP e,Option.map_some,if_pos (e.symm.trans h)]
   ·rw [cQ (p:=(p.1,y)) e,cQ e,F]
  ·rw [if_neg h];by_cases e:p.1=j
   ·rw [cP (p:=p) e,cP e,Option.map_some,if_neg (λz=>h (e.trans z))]
   ·rw [cQ (p:=p) e,cQ e,F]
theorem uh (k j:κ)(y:V):∀kvs:List (κ×V),fk kvs k=none->fk (kvs++[(k,y)]) j=if j=k then some y else fk kvs j
 |[],_=>by
  by_cases e:k=j
  ·rw [if_pos e.symm];exact cP (p:=(k,y)) e
  ·rw [if_neg (λz=>e z.symm)];exact cQ (p:=(k,y)) e
 |p::r,hn=>by
  rw [cons_append]
  have R: ¬p.1=k:=λz=>by rw [cP z] at hn;cases hn
  rw [cQ R] at hn;have F:=uh k j y r hn;by_cases e:p.1=j
  ·rw [cP e,cP e,if_neg (λz=>R (e.trans z))]
  ·rw [cQ e,cQ e,F]
theorem fE (z:List (κ×V))(k j:κ)(y:V):fk (dO z k y) j=if j=k then some y else fk z j:=by
 unfold dO;by_cases a:(z.any λG=>decide (G.1=k))=true
 ·rw [if_pos a,xy];rw [lu] at a;by_cases e:j=k
  ·obtain ⟨x,F⟩:=Option.isSome_iff_exists.mp a;rw [if_pos e,e,F,Option.map_some,if_pos rfl]
  ·rw [if_neg e]
   cases fk z j with
   |none=>rfl
   |some x=>rw [Option.map_some,if_neg e]
 ·rw [if_neg a];rwa[uh k j y z ?_];rw [lu] at a
  cases q:fk z k with
  |none=>rfl
  |some x=>rw [q] at a;exact (a rfl).elim
theorem cX (j:List (κ×V))(k:κ)(v:V):(dO j k v).length<=j.length+1:=by
 unfold dO;split
 ·rw [length_map];lia
 ·rw [length_append,length_cons,length_nil];lia
theorem jR.isSome_eq {o:Option V}{u:Option Value}(r:jR o u):o.isSome=u.isSome:=by
 cases o with
 |none=>cases u with
  |none=>rfl
  |some _=>exact (show False from r).elim
 |some _=>cases u with
  |none=>exact (show False from r).elim
  |some _=>rfl
theorem KV.val {j:List (κ×V)}{vs:List (κ×Value)}(r:KV j vs)(k:κ):jR (fk j k) (valueAt vs k):=by
 unfold KV at r
 induction r with
 |nil=>exact True.intro
 | @cons p q ps qs h t ih=>
   obtain ⟨h1,h2⟩:=h;by_cases e:p.1=k
   ·have F:q.1=k:=h1.symm.trans e
    have b:valueAt (q::qs) k=some q.2:=by simp [valueAt,find?_cons,F]
    rw [cP e,b];exact h2
   ·have F: ¬q.1=k:=λz=>e @fA
    have b:valueAt (q::qs) k=valueAt qs k:=by simp [valueAt,find?_cons,F]
    rw [cQ e,b];exact ih
theorem KV.any {j:List (κ×V)}{vs:List (κ×Value)}(r:KV j vs)(k:κ):(j.any λkv=>decide (kv.1=k))=vs.any λkv=>decide (kv.1=k):=by
 unfold KV at r
 induction r with
 |nil=>rfl
 |cons h t ih=>rw [any_cons,any_cons,ih,h.1]
theorem KV.repl {j:List (κ×V)}{vs:List (κ×Value)}(r:KV j vs)(k:κ){y:V}{u:Value}(L:aF y u):
 KV (j.map λkv=>if kv.1=k then (kv.1,y) else kv) (vs.map λkv=>if kv.1=k then (kv.1,u) else kv):=by
 unfold KV at r ⊢
 induction r with
 |nil=>exact .nil
 | @cons p q ps qs h t ih=>
   rw [map_cons,map_cons];rwa[.cons ?_ ih];obtain ⟨h1,h2⟩:=h;by_cases e:p.1=k
   ·rw [if_pos e,if_pos (h1.symm.trans e)];exact ⟨h1,L⟩
   ·rw [if_neg e,if_neg (λz=>e @fA)];exact ⟨h1,h2⟩
theorem KV.put {j:List (κ×V)}{vs:List (κ×Value)}(r:KV j vs)(k:κ){y:V}{u:Value}(L:aF y u):KV (dO j k y) (stored vs k u):=by
 unfold dO stored;rw [r.any k];by_cases e:(vs.any λG=>decide (G.1=k))=true
 ·rw [if_pos e,if_pos e];exact r.repl k L
 ·rw [if_neg e,if_neg e];exact Paired.snoc r ⟨rfl,L⟩
theorem KV.length {j:List (κ×V)}{vs:List (κ×Value)}(r:KV j vs):j.length=vs.length:=Paired.length r
end
theorem uz {P:Program}{w:World}{k:c7}{u:Value}(r:aF (kV k) u):(b6 P w).is k u=true:=by
 cases k with
 |inl i=>obtain ⟨t,e⟩:=(show ∃t,u=Value.int i t from r);subst e;exact yd P w i t
 |inr x=>obtain ⟨t,e⟩:=(show ∃t,u=Value.str x t from r);subst e;exact yc P w x t
theorem uA {P:Program}{w:World}:∀ {ks:List c7} {us:List Value},aO @gT us->ItemsAre @cN ks us
 |[],_,r=>by rw [map_nil] at r;cases r;exact .nil
 |k::ks,_,r=>by
  rw [map_cons] at r
  cases r with
  |cons h t=>exact .cons (uz h) (uA t)
abbrev KT (H:Hp):List (List c7×V)->List (List c7×Addr×Value)->Prop:=Paired λp q=>p.1=q.1/\H q.2.1=some (.tup (p.1.map kV))/\aF p.2 q.2.2
theorem KT.val {H:Hp}{j:List (List c7×V)}{xs:List (List c7×Addr×Value)}(r:KT H j xs)(k:List c7):jR (fk j k) ((atKey xs k).map (·.2)):=by
 induction r with
 |nil=>exact True.intro
 | @cons p q ps qs h t ih=>
   obtain ⟨h1,_,h2⟩:=h;by_cases e:p.1=k
   ·have F:q.1=k:=h1.symm.trans e
    have b:atKey (q::qs) k=some q.2:=by simp [atKey,find?_cons,F]
    rw [cP e,b];exact h2
   ·have F: ¬q.1=k:=λz=>e @fA
    have b:atKey (q::qs) k=atKey qs k:=by simp [atKey,find?_cons,F]
    rw [cQ e,b];exact ih
theorem KT.repl {H:Hp}{j:List (List c7×V)}{xs:List (List c7×Addr×Value)}(r:KT H j xs)(k:List c7){y:V}{u:Value}(L:aF y u):
 KT H (j.map λkv=>if kv.1=k then (kv.1,y) else kv) (xs.map (PySem.putAt k u)):=by
 induction r with
 |nil=>exact .nil
 | @cons p q ps qs h t ih=>
   rw [map_cons,map_cons];rwa[.cons ?_ ih];obtain ⟨h1,h2,F⟩:=h;unfold PySem.putAt;by_cases e:p.1=k
   ·rw [if_pos e,if_pos (h1.symm.trans e)];exact ⟨h1,h2,L⟩
   ·rw [if_neg e,if_neg (λz=>e @fA)];exact ⟨h1,h2,F⟩
theorem KT.put {H:Hp}{j:List (List c7×V)}{xs:List (List c7×Addr×Value)}(r:KT H j xs)(k:List c7){b:Addr}{y:V}{u:Value}(F:H b=some (.tup (k.map kV)))(L:aF y u):
 KT H (dO j k y) (storedH xs k b u):=by
 have e:(j.any λG=>decide (G.1=k))=(atKey xs k).isSome:=by
  rw [lu,(r.val k).isSome_eq,Option.isSome_map]
 unfold dO storedH;rw [e];by_cases q:(atKey xs k).isSome=true
 ·rw [if_pos q,if_pos q];exact r.repl k L
 ·rw [if_neg q,if_neg q];exact Paired.snoc r ⟨rfl,F,L⟩
theorem KT.keeps {H H':Hp}{j:List (List c7×V)}{xs:List (List c7×Addr×Value)}(r:KT H j xs)(J:∀b ys,H b=some (.tup ys)->H' b=some (.tup ys)):KT H' j xs:=
 Paired.mapP r λ_ _ z=>⟨z.1,J _ _ z.2.1,z.2.2⟩
section
variable {P:Program}{w:World}{H:Hp}{h:Heap}{a:Addr}
theorem Li {u:HO}(W:gu P w H h)(e:Rd H a u):bA P w H h a u:=e.ok W
theorem BR {j:List (c7×V)}(W:gu P w H h)(e:Rd H a (.dK j)):j.length<=sizeLine/\(a==sysModules)=false/\∃vs,KV j vs/\h.DictOf @cN a vs:=
 show bA P w H h a (.dK j) from Li W e
theorem Hm {j:List (c7×V)}(W:gu P w H h)(e:H a=some (.dK j)):j.length<=sizeLine/\(a==sysModules)=false/\∃vs,KV j vs/\h.DictOf @cN a vs:=BR W (.inl e)
theorem wA {ks:List c7}(W:gu P w H h)(e:H a=some (.tup @gT)):(tupleKind @cN).is h ks a:=by
 obtain ⟨_,its,r,o,h1,h2,n,L⟩:=(show bA P w H h a (.tup @gT) from W a _ e);exact ⟨o,its.toArray,n,h1,h2,L,by simpa using uA r⟩
theorem BQ {j:List (List c7×V)}(W:gu P w H h)(e:Rd H a (.dT j)):j.length<=sizeLine/\(a==sysModules)=false/\
 ∃xs,KT H j xs/\h.DictOfH @fM a xs:=by
 obtain ⟨z,y,xs,r,o,es,J,h1,h2,L,I,U⟩:=(show bA P w H h a (.dT j) from Li W e);rwa[⟨z,y,xs,r,o,es,J,h1,h2,L,I,λx F=> ?_,U⟩]
 have G:∀ {l:List (List c7×V)} {m:List (List c7×Addr×Value)},KT H l m->∀x∈m,(tupleKind @cN).is h x.1 x.2.1:=by
  intro l m q
  induction q with
  |nil=>intro x F;exact nomatch F
  | @cons p q ps qs hq t ih=>
    intro x F
    rcases mem_cons.mp F with e|F
    ·subst e;exact wA W (by rw [<-hq.1];exact hq.2.1)
    ·exact ih x F
 exact G r x F
theorem QO {j:List (List c7×V)}(W:gu P w H h)(e:H a=some (.dT j)):j.length<=sizeLine/\(a==sysModules)=false/\
 ∃xs,KT H j xs/\h.DictOfH @fM a xs:=BQ W (.inl e)
end
def mz (H:Hp)(a:Addr)(y:V)(r:Option V):Prop:=
 (∃kvs k,Rd H a (.dK kvs)/\y=kV k/\r=fk kvs k)\/∃kvs k b,Rd H a (.dT kvs)/\y= .ref b/\H b=some (.tup (k.map kV))/\r=fk kvs k
def Ih (H:Hp)(a:Addr)(y v:V)(H':Hp):Prop:=
 (∃kvs k,H a=some (.dK kvs)/\y=kV k/\kvs.length<sizeLine/\H'=upd H a (.dK (dO kvs k v)))\/
 ∃kvs k b,H a=some (.dT kvs)/\y= .ref b/\H b=some (.tup (k.map kV))/\kvs.length<sizeLine/\H'=upd H a (.dT (dO kvs k v))
theorem mz.k {H:Hp}{a:Addr}{j:List (c7×V)}{k:c7}(e:H a=some (.dK j)):mz H a (kV k) (fk j k):= .inl ⟨j,k,.inl e,rfl,rfl⟩
theorem Ih.k {H:Hp}{a:Addr}{j:List (c7×V)}{k:c7}{v:V}(e:H a=some (.dK j))(W:j.length<sizeLine):Ih H a (kV k) v (upd H a (.dK (dO j k v))):= .inl ⟨j,k,e,rfl,W,rfl⟩
section
variable {X:Cx}{pins:List (Addr×Obj)}{σ:St}{H:Hp}{s:Shared}{a:Addr}{y v:V}{u r:Value}{o:Option V}{A:Around}{E:Value->Shared->Prop}
theorem aA.big (I:aA X pins σ H s):sysModules<s.heap.objs.size:=by
 have h:mainGlobals<s.heap.objs.size:=(I.mod.glob.keeps I.bk).lt;exact Nat.lt_trans @b h
theorem DA {Q:Value->Shared->Prop}(S:A.units+1<cLine)(I:aA X pins σ H s)(g:mz H a y @bE)(O:aF y u)(h:∀w' s',aA X pins σ H s'->aF v w'->Q w' s'):
 wpAny @d A (getItem (.ref a) u) Q E s:=by
 rcases g with ⟨L,k,e,F,l⟩|⟨L,k,b,e,F,U,l⟩
 ·subst F;obtain ⟨z,W,Y,j,Z⟩:=BR I.hok e;obtain ⟨w',J,G⟩:=jR.some_of (v:=v) (o:=valueAt Y k) (by rw [l];exact j.val k);exact wpAny_getItem_of (uz O) Z.mapOf J (h w' _ @eY G)
 ·subst F;cases (show u=Value.ref b from O);obtain ⟨z,W,xs,j,Z⟩:=BQ I.hok e;obtain ⟨w',J,G⟩:=jR.some_of (v:=v) (o:=(atKey xs k).map (·.2)) (by rw [l];exact j.val k);obtain ⟨p,R,aD⟩:=Option.map_eq_some_iff.mp J;rwa[wpAny_getItem_heap (tupleKind_room_in1 S) (wA I.hok U) Z R ?_];rw [aD];exact h w' _ @eY G
theorem SK {Q:Value->Shared->Prop}(O:A.units+1<cLine)(I:aA X pins σ H s)(g:mz H a y o)(L:aF y u)(h:∀s',aA X pins σ H s'->Q (.bool o.isSome) s'):
 wpAny @d A (compareOp .In u (.ref a)) Q E s:=by
 rcases g with ⟨G,k,e,F,l⟩|⟨G,k,b,e,F,U,l⟩
 ·subst F;obtain ⟨z,J,R,j,Z⟩:=BR I.hok e;rwa[wpAny_in_of (uz L) J Z.mapOf ?_];rw [<-(j.val k).isSome_eq,<-l];exact h _ @eY
 ·subst F;cases (show u=Value.ref b from L);obtain ⟨z,J,xs,j,Z⟩:=BQ I.hok e;rwa[wpAny_in_heap (tupleKind_room_in1 O) (wA I.hok U) J Z ?_];have q:=(j.val k).isSome_eq;rw [Option.isSome_map] at q;rw [<-q,<-l];exact h _ @eY
theorem pR {h':Heap}{t':Nat}{j:HO}(I:aA X pins σ H s)(J:Q1 (H a))(hs:Heap.SameBut a s.heap h')(U:∃q,h'.get? a=some q)(F:bA X.prog X.w (upd H a j) h' a j):
 aA X pins σ (upd H a j) {s with heap:=h',toks:=t'}:=
 I.write (x:=a) (e:=a) J (.inl rfl) (λb q G z=>(hs.2 b G).trans z) U F
theorem wO {P:Program}{w:World}{H':Hp}{h':Heap}{j:List (c7×V)}{vs:List (c7×Value)}(z:j.length<=sizeLine)(J:(a==sysModules)=false)(F:KV j vs)(dd:h'.DictOf @cN a vs):
 bA P w H' h' a (.dK j):=⟨z,J,vs,F,dd⟩
theorem Dy {H':Hp}{Q:Unit->Shared->Prop}(hu:A.units+1<cLine)(I:aA X pins σ H s)(g:Ih H a y v H')(U:aF y u)(Y:aF v r)(h:∀s',aA X pins σ H' s'->Q () s'):
 wpAny @d A (setItem (.ref a) u r) Q E s:=by
 rcases g with ⟨j,k,e,S,l,L⟩|⟨j,k,b,e,S,eb,l,L⟩
 ·subst S L;obtain ⟨z,O,vs,F,Z⟩:=Hm I.hok e
  have R:vs.length<=sizeLine:=by rw [<-F.length];exact z
  have W:(dO j k v).length<=sizeLine:=by have:=cX j k v;lia
  rwa[wpAny_setItem_pairs (hsz:=R) (uz U) Z λh' G hs=>h _ ?_];have he:∃q,h'.get? a=some q:=let ⟨q,_,_,J,_⟩:=G;⟨q,J⟩;exact pR I (by rw [e];exact True.intro) hs he (wO W O (F.put k Y) G)
 ·subst S L;cases (show u=Value.ref b from U);obtain ⟨z,O,xs,F,Z⟩:=QO I.hok e
  have R:xs.length<=sizeLine:=by rw [<-Paired.length F];exact z
  have W:(dO j k v).length<=sizeLine:=by have:=cX j k v;lia
  rwa[wpAny_setItem_heap (hsz:=R) (tupleKind_room_in1 hu) (wA I.hok eb) Z λh' G hs=>h _ ?_];obtain ⟨q,es,ep,J,h2,h3,h4,_,h5⟩:=G;rwa[pR I (by rw [e];exact True.intro) hs ⟨q,J⟩ ⟨W,O,_,(F.put k eb Y).keeps λc ys ec=> ?_,q,es,ep,J,h2,h3,h4,h5⟩];rw [am (Qy ec e (λz=>nomatch z))];exact ec
end
def Q0 (i:Expr):Prop:=∀ov iv,subscripted i false ov iv=operate [ov,iv] (getItem ov iv)
theorem IK {prog:Program}{w:World}{A:Around}{E:Value->Shared->Prop}{s:Shared}{env:Env}{value J:Expr}{pos:Pos}{T id:String}{Q:Value->Shared->Prop}
(W:typeLookup (.type T) "__getitem__"=pure (some (.builtin id)))(hs:Q0 J)
(h:wpAny @m A (eval value env) (λo s₁=>wpAny @m A (eval J env) (λi s₂=>s₂.TypeIs o T/\wpAny @m A (getItem o i) Q E s₂) E s₁) E s):
 wpAny @m A (eval (.Subscript value J pos) env) Q E s:=by
 rwa[Subscript_ (wpAny_mono h (λo s₁ G=>wpAny_mono G (λi s₂ j=> ?_) λ_ _ x=>x) λ_ _ x=>x)];obtain ⟨L,j⟩:=j;unfold subscriptTail;rwa[wpAny_bind ?_];rw [getitemInPython_of_ne L.not_modules];rwa[wpAny_bind (wpAny_specialOf L W ?_)]
 have z:wpAny @m A (subscripted J false o i) (λr F=>wpAny @m A (letTemporaryGo value o r>>=λ_=>pure r) Q E F) E s₂:=by
  rw [hs o i];exact wpAny_operating (wpAny_mono j (λr F I=>wpAny_bind (wpAny_letTemporaryGo (wpAny_pure I))) λ_ _ x=>x)
 first
  |exact wpAny_pure (wpAny_bind z)
  |exact wpAny_bind (wpAny_pure (wpAny_bind z))
  |exact wpAny_bind z
theorem yv {X:Cx}{pins:List (Addr×Obj)}{σ:St}{H:Hp}{s:Shared}{a:Addr}{y:V}{o:Option V}(I:aA X pins σ H s)(g:mz H a y o):s.TypeIs (.ref a) "dict":=by
 rcases g with ⟨j,k,e,_,_⟩|⟨j,k,b,e,_,_,_⟩
 ·obtain ⟨_,_,R,_,Z⟩:=BR I.hok e;exact Z.typeIs
 ·obtain ⟨_,_,xs,_,Z⟩:=BQ I.hok e;exact Z.typeIs
def PQ (td ty:TE):TE:=λσ H Q=>td σ H λx H1=>ty σ H1 λy H2=>∃a v,x= .ref a/\mz H2 a y @bE/\Q v H2
def Sa (ty td:TE):TE:=λσ H Q=>ty σ H λy H1=>td σ H1 λx H2=>∃a o,x= .ref a/\mz H2 a y o/\Q (.bl o.isSome) H2
def P1 (td ty tv:TE):TS:=λD σ H=>tv σ H λv H1=>td σ H1 λx H2=>ty σ H2 λy H3=>∃a H4,x= .ref a/\Ih H3 a y v H4/\D.nx σ H4
section
variable {X:Cx}{o i e value:Expr}{pos pos' tpos:Pos}{td ty tv:TE}
theorem Bs (J:X.A.units+1<cLine)(S:PE X o td)(hi:PE X i ty)(hs:Q0 i):PE X (.Subscript o i pos) (PQ td ty):=by
 intro pins s σ H Q I h;rwa[IK PySem.F.slot_dict_getitem.lookup hs (bP @eg λu O ⟨x,H1,U,L,R⟩=>bP (hi pins O σ H1 _ U R) λiv s2 j=> ?_)];obtain ⟨y,H2,z,W,a,v,ex,g,Z⟩:=j;subst ex;obtain rfl:u=Value.ref a:=L;exact ⟨yv z g,DA J z g W λw' s3 Y G=>⟨v,H2,Y,G,Z⟩⟩
theorem MU (z:X.A.units+1<cLine)(hi:PE X i ty)(L:PE X o td):PC X .In i o (Sa ty td):=by
 intro pins s σ H Q I h;rwa[bP @dY λZ O ⟨y,H1,R,S,J⟩=>bP (L pins O σ H1 _ R J) λu s2 j=> ?_];obtain ⟨x,H2,G,F,a,U,ex,g,Y⟩:=j;subst ex;obtain rfl:u=Value.ref a:=F;exact SK z G g S λs3 W=>⟨.bl U.isSome,H2,W,rfl,Y⟩
theorem Js (W:X.A.units+1<cLine)(z:PE X o td)(hi:PE X i ty)(hv:PE X value tv)(hs:swapsWith value (some (.Subscript o i pos')) pos.line X.env=pure false):
 PS X (.Assign [.Subscript o i pos'] value pos) (P1 td ty tv):=by
 intro pins s σ H D I h;rwa[wpAny_Assign_Subscript (bP (hv pins s σ H _ I h) λr O ⟨v,H1,I1,J,q1⟩=>bP (z pins O σ H1 _ I1 q1) λu S ⟨x,H2,G,F,Y⟩=>bP (hi pins S σ H2 _ G Y) λiv s3 j=> ?_) hs];obtain ⟨y,H3,R,L,a,Z,ex,g,q3⟩:=j;subst ex;obtain rfl:u=Value.ref a:=F;exact Dy W R g L J λs4 U=>⟨σ,Z,U,q3⟩
end
theorem Hn {P:Program}{w:World}{H:Hp}(h:Heap)(F:sysModules<h.objs.size):bA P w H (h.push {cls:= .type "dict",data:= .dict #[]}) h.objs.size (.dK []):=
 ⟨Nat.zero_le _,beq_eq_false_iff_ne.mpr (Ne.symm (Nat.ne_of_lt F)),[],.nil,Heap.DictOf.new h⟩
def zp:List (TE×TE)->St->Hp->(List (V×V)->Hp->Prop)->Prop
 |[],_,H,Q=>Q [] H
 |(tk,tv)::r,σ,H,Q=>tk σ H λx H1=>tv σ H1 λy H2=>zp r σ H2 λps H3=>Q ((x,y)::ps) H3
abbrev VV:List (V×V)->List (Value×Value)->Prop:=Paired λp q=>aF p.1 q.1/\aF p.2 q.2
def Rn (X:Cx)(pos:Pos)(keys:List @gs)(values:List Expr)(trs:List (TE×TE)):Prop:=
 ∀(pins:List (Addr×Obj)) (s:Shared) (σ:St) (H:Hp) (Q:List (V×V)->Hp->Prop),aA X pins σ H s->zp trs σ H Q->
  wpAny @d X.A (evalPairs (pairTrees keys values X.env pos)) (λvs s'=>∃ps H',aA X pins σ H' s'/\VV ps vs/\Q ps H') X.xe s
theorem Bo {X:Cx}{pos:Pos}:Rn X pos [] [] []:=λpins s σ H Q I h=>pairTrees_nil_walk ⟨[],H,I,.nil,h⟩
theorem gE {X:Cx}{pos:Pos}{k v:Expr}{ks:List @gs}{vs:List Expr}{tk tv:TE}{j:List (TE×TE)}(W:PE X k tk)(hv:PE X v tv)(Z:Rn X pos ks vs j):
 Rn X pos (some k::ks) (v::vs) ((tk,tv)::j):=λpins s σ H Q I h=>
 pairTrees_cons_walk (bP @ej λu O ⟨x,H1,I1,J,U⟩=>bP (hv pins O σ H1 _ I1 U) λw2 S ⟨y,H2,G,L,Y⟩=>
  bP (Z pins S σ H2 _ G Y) λws s3 ⟨ps,F,R,z,q3⟩=>⟨(x,y)::ps,F,R,.cons ⟨J,L⟩ z,q3⟩)
noncomputable def cW (kvs more:List (c7×V)):List (c7×V):=more.foldl (λacc kv=>dO acc kv.1 kv.2) kvs
theorem KV.merge:∀ {more:List (c7×V)} {rs:List (c7×Value)} {kvs:List (c7×V)} {vs:List (c7×Value)},KV more rs->KV kvs vs->KV (cW kvs more) (merged vs rs):=by
 intro more rs kvs vs r;unfold KV at r
 induction r generalizing kvs vs with
 |nil=>intro q;exact q
 | @cons p q ps qs h t ih=>
   intro j
   have e:KV @fJ (stored vs q.1 q.2):=by
    have:=j.put p.1 h.2;rw [<-h.1];exact this
   exact ih e
theorem jZ:∀(more kvs:List (c7×V)),(cW kvs more).length<=kvs.length+more.length
 |[],kvs=>by show kvs.length<=kvs.length+0;lia
 |p::r,kvs=>by
  have h1:=jZ r @fJ;have h2:=cX kvs p.1 p.2;show (cW @fJ r).length<=_;rw [length_cons];lia
theorem rO {P:Program}{w:World}:∀ {kvs:List (c7×V)} {ws:List (Value×Value)},VV (kvs.map λkv=>(kV kv.1,kv.2)) ws->∃rs,Carries @cN ws rs/\KV kvs rs
 |[],_,r=>by rw [map_nil] at r;cases r;exact ⟨[],True.intro,.nil⟩
 |p::kvs,_,r=>by
  rw [map_cons] at r
  cases r with
  | @cons a b as bs h t=>
    obtain ⟨rs,c,q⟩:=rO (P:=P) (w:=w) t;obtain ⟨z,j⟩:=b;exact ⟨(p.1,j)::rs,⟨uz h.1,rfl,c⟩,.cons ⟨rfl,h.2⟩ q⟩
def PP (trs:List (TE×TE)):TE:=λσ H Q=>∀p,H p=none->zp trs σ (upd H p (.dK [])) λps H2=>H2 p=some (.dK [])/\∃kvs:List (c7×V),ps=kvs.map (λkv=>(kV kv.1,kv.2))/\kvs.length<=15/\Q (.ref p) (upd H2 p (.dK (cW [] kvs)))
theorem Br {X:Cx}{pos:Pos}{j:List @gs}{F:List Expr}{G:List (TE×TE)}(h:Rn X pos j F G)(O:j.all (·.isSome)=true)(hl:j.length=F.length)(h0:j≠[])
(U:j.length<=15):PE X (.Dict j F pos) (PP G):=by
 intro pins s σ H Q I q;have Z:=I.hok.fresh (Nat.le_refl s.heap.objs.size);have I1:=I.laid (a:=s.heap.objs.size) (o:= .dK []) (h':=s.heap.push {cls:= .type "dict",data:= .dict #[]}) (t':=s.toks) (λ_ _ q=>Heap.get?_push_of_some _ q) @h (Hn s.heap I.big);rwa[wpAny_Dict_walk (knd:=b6 X.prog X.w) O hl h0 U (bP (h pins _ σ _ _ I1 (q _ Z)) λws s2 R=> ?_)];obtain ⟨ps,H2,W,S,e,J,ep,lk,q2⟩:=R;subst ep;obtain ⟨rs,c,rk⟩:=rO (P:=X.prog) (w:=X.w) S;obtain ⟨z,hd,aa,Y,dd⟩:=Hm W.hok e;cases Y;rwa[⟨rs,c,dd,λh' L hs=>⟨.ref s.heap.objs.size,_,?_,rfl,q2⟩⟩]
 have hz:(cW [] J).length<=sizeLine:=by
  have h1:=jZ J [];rw [length_nil] at h1;rw [sizeLine_eq];lia
 have he:∃q,h'.get? s.heap.objs.size=some q:=let ⟨q,_,_,hq,_⟩:=L;⟨q,hq⟩;exact pR W (by rw [e];exact True.intro) hs he (wO hz hd (rk.merge .nil) L)
structure M1 (X:Cx)(o:Expr)(m:Str)(apos:Pos)(e:Expr)(cpos:Pos):Prop where
 base:attributeBase o m X.env @gf=eval o X.env
 few:((backTo cpos (starEach [e] X.env)).all (λx=> !x.1)&&(backToKw cpos @dI).all @eK
  &&decide (([e]:List Expr).length+([]:List Keyword).length+(if ([]:List Keyword).isEmpty then 0 else 1)<30))=true
 line:(apos.endLine==cpos.line)=true
 trees:backTo cpos (starEach [e] X.env)=[(false,eval e X.env)]
structure M2 (X:Cx)(o:Expr)(m:Str)(apos:Pos)(e f:Expr)(cpos:Pos):Prop where
 base:attributeBase o m X.env @gf=eval o X.env
 few:((backTo cpos (starEach [e,f] X.env)).all (λx=> !x.1)&&(backToKw cpos @dI).all @eK
  &&decide (([e,f]:List Expr).length+([]:List Keyword).length+(if ([]:List Keyword).isEmpty then 0 else 1)<30))=true
 line:(apos.endLine==cpos.line)=true
 trees:backTo cpos (starEach [e,f] X.env)=[(false,eval e X.env),(false,eval f X.env)]
end L2
namespace PySem
namespace F
theorem lk_list_keys:typeLookup (.type "list") "keys"=pure none:=by rw [typeLookup_type,builtinLookup_eq_fast];kernel_rfl
theorem lk_list_hook:typeLookup (.type "list") "__getattr__"=pure none:=by rw [typeLookup_type,builtinLookup_eq_fast];kernel_rfl
theorem sub_attr_attr:isSubtype (.type "AttributeError") (.type "AttributeError")=pure true:=by rw [isSubtype_type];kernel_rfl
theorem attr_first:((Manifest.find? "AttributeError").elim false λt=>t.mro.contains "StopIteration"||t.mro.contains "SystemExit")=false:=by decide+kernel
end F
section
variable {α:Type}{prog:Program}{w:World}{A:Around}{E:Value->Shared->Prop}{s:Shared}
theorem C5 {e:Addr}{o name:Value}{vs:Array Value}{z:Option Addr}{sl:Array @bj}{Q:Unit->Shared->Prop}(U:s.heap.get? e=some ⟨.type "AttributeError",z,.fields vs,sl⟩)(I:vs[6]? =some unsetMember)(R:vs[7]? =some unsetMember)
(j:Q () {s with heap:=s.heap.update e (Obj.mapFields λvs=>vs.extract 0 6++ #[name,o])}):wpAny @m A (noteAttr (.ref e) o name) Q E s:=by
 have L:s.TypeIs (.ref e) "AttributeError":=⟨_,U,rfl⟩;unfold noteAttr lacksNameAndObj;rwa[wpAny_bind ?_];rwa[wpAny_bind (wpAny_isInstance L F.sub_attr_attr ?_)];simp only [Bool.not_true,Bool.false_eq_true,if_false];rwa[wpAny_bind (wpAny_load U ?_)];simp only [I,R];have G:unsetMember=Value.int 0 0:=rfl;rw [G];simp only [Bool.or_self,Bool.false_eq_true,if_false];rw [if_neg @b];rwa[wpAny_pure ?_];simp only [if_true];rwa[wpAny_bind (wpAny_rule ?_)];rwa[wpAny_bind (wpAny_typeOf L ?_)];exact wpAny_layMembers U rfl j
theorem Ag {o:Value}{name j:Str}{Q:α->Shared->Prop}(R:A.handled=none)(I:j.length<=sizeLine)(J:∀e h' t',(∀b ob,s.heap.get? b=some ob->h'.get? b=some ob)->(∃ob,h'.get? e=some ob/\ob.cls= .type "AttributeError")->E (.ref e) {s with heap:=h',toks:=t'}):
 wpAny @m A (raiseAttrError o name j:Sem α) Q E s:=by
 unfold raiseAttrError;rwa[wpAny_bind (wpAny_mkStr ?_ I)];rwa[wpAny_bind ?_];unfold newExc newTuple;rwa[wpAny_bind (wpAny_newObj_type ?_ (by show (1:Nat)<=sizeLine;exact L2.be @b))];rwa[wpAny_bind (m:=firstArgMember _ _) (wpAny_of_eq (a:=Value.none) (by simp only [firstArgMember,F.attr_first];rfl) ?_)];rwa[wpAny_newObj_type ?_];rwa[wpAny_bind (wpAny_mkText ?_)];rwa[wpAny_bind ?_];generalize G:(s.heap.push {cls:= .type "tuple",data:= .seq #[Value.str j s.toks]})=h1
 have L:∀b ob,s.heap.get? b=some ob->h1.get? b=some ob:=λb ob z=>by rw [<-G];exact Heap.get?_push_of_some _ z
 show wpAny @m A (noteAttr (.ref h1.objs.size) o _) _ _ {s with heap:=h1.push {cls:= .type "AttributeError",data:= .fields #[Value.ref s.heap.objs.size,.none,.none,.none,.bool false,.none,unsetMember,unsetMember]},toks:=s.toks+1+1};rwa[C5 (vs:= #[Value.ref s.heap.objs.size,.none,.none,.none,.bool false,.none,unsetMember,unsetMember]) (Heap.get?_push_size _ rfl) rfl rfl ?_];rwa[wpAny_raiseNew_none R ?_];have O:=Heap.SameBut.update (h1.push {cls:= .type "AttributeError",data:= .fields #[Value.ref s.heap.objs.size,.none,.none,.none,.bool false,.none,unsetMember,unsetMember]}) h1.objs.size (Obj.mapFields λS=>S.extract 0 6++ #[Value.str name (s.toks+1),o]);rwa[J h1.objs.size _ _ (λb ob z=> ?_) ?_]
 ·rw [O.2 b (Nat.ne_of_lt (Heap.lt_size (L b ob z)))];exact Heap.get?_push_of_some _ (L b ob z)
 ·exact ⟨_,Heap.get?_update_self _ (Heap.get?_push_size _ rfl) rfl,rfl⟩
end
section
variable {prog:Program}{w:World}{A:Around}{E:Value->Shared->Prop}{h:Heap}{g:Array GenState}{d:Drawn}{t:Nat}{os:OsState}{a:Addr}{its:Array Value}{n:Nat}{sl:Array @bj}
theorem py {tk:Tok}{Q:Fin->Shared->Prop}(G:A.handled=none)(z:h.get? a=some ⟨.type "list",none,.seq its n,sl⟩)(j:∀e h' t',(∀b ob,h.get? b=some ob->h'.get? b=some ob)->(∃ob,h'.get? e=some ob/\ob.cls= .type "AttributeError")->E (.ref e) ⟨h',g,d,t',os⟩):
 wpAny @m A (Builtin.«object.__getattribute__» ⟨[.ref a,.str "keys" tk],[]⟩) Q E ⟨h,g,d,t,os⟩:=by
 have L:(⟨h,g,d,t,os⟩:Shared).TypeIs (.ref a) "list":=⟨_,z,rfl⟩;have R:=F.lk_list_keys
 repeat (any_goals (first|assumption|with_reducible refine Ag G ?_ ?_|wp_step))
 all_goals first|exact L2.be @f|exact j
theorem rg {tk:Tok}{R:Result->Shared->Prop}(G:A.handled=none)(z:h.get? a=some ⟨.type "list",none,.seq its n,sl⟩)(j:∀e h' t',(∀b ob,h.get? b=some ob->h'.get? b=some ob)->(∃ob,h'.get? e=some ob/\ob.cls= .type "AttributeError")->R (.error (.ref e)) ⟨h',g,d,t',os⟩):
 codeAny @m A (.call (.builtin "list.__getattribute__") ⟨[.ref a,.str "keys" tk],[]⟩) R ⟨h,g,d,t,os⟩:=
 codeAny_call_builtin F.slot_list_getattribute.plain F.entry_list_ga (F.slot_list_getattribute.check _ _ _ _ _ _ _ _ (show (⟨h,g,d,t,os⟩:Shared).TypeIs (.ref a) "list" from ⟨_,z,rfl⟩) (F.args_list_getattribute_2 _ _) (py G z j))
theorem rh {Q:Option Value->Shared->Prop}(L:A.handled=none)(j:h.get? a=some ⟨.type "list",none,.seq its n,sl⟩)(I:∀h' t',(∀b ob,h.get? b=some ob->h'.get? b=some ob)->Q none ⟨h',g,d,t',os⟩):wpAny @m A (getAttr? (.ref a) "keys") Q E ⟨h,g,d,t,os⟩:=by
 have O:(⟨h,g,d,t,os⟩:Shared).TypeIs (.ref a) "list":=⟨_,j,rfl⟩;have S:=F.slot_list_getattribute.lookup;have U:=F.slot_list_getattribute.bind (.ref a);have Z:=F.lk_list_hook;unfold getAttr? getAttrBy?
 repeat (any_goals (first|assumption|wp_step))
 rwa[rg L j (λe h' t' k x=> ?_)];have R:(⟨h',g,d,t',os⟩:Shared).TypeIs (.ref e) "AttributeError":=x;have G:=F.sub_attr_attr;have z:=I h' t' k;show wpAny _ _ (getattributeRaised _ _ _ _ _ _ _) _ _ _;unfold getattributeRaised;rwa[wpAny_bind (wpAny_isInstance R G ?_)];simp only [if_true]
 have J:hookBehind (.type "list") none=pure none:=by unfold hookBehind;rw [if_neg @b,Z]
 rwa[wpAny_bind ?_];show wpAny _ _ (hookBehind (.type "list") none) _ _ _;rw [J];rwa[wpAny_pure ?_];unfold hookOrError attributeErrorLeaves;simp only [Bool.not_false,if_true];rwa[wpAny_throw ?_];rwa[wpAny_bind (wpAny_isInstance R G ?_)];simp only [if_true];exact wpAny_pure z
end
end PySem
namespace PySem
namespace F
theorem entry_dul:entryFor table "dict.update.loop"=some Builtin.«dict.update.loop»:=entryFor_of_tree @k
theorem plain_dul:plainId "dict.update.loop"=true:=by decide+kernel
end F
end PySem
namespace L2
open PySem PySem.Spec PyProof.Rows
noncomputable def gJ (kvs ps:List (c7×V)):List (c7×V):=ps.foldl (λa p=>dO a p.1 p.2) kvs
theorem Kx {X:Cx}{pins:List (Addr×Obj)}{σ:St}{l It dd:Addr}{xs:List V}{R:Result->Shared->Prop}{A:Around}(hh:A.handled=none)
(an:X.s₀.heap.objs.size<=It)(ah:∀p∈X.pn++pins,p.1≠It):
 ∀(r j:Nat) (s:Shared) (H:Hp) (kvs ps:List (c7×V)) (t:Tok) (oI:Obj),xs.length - j=r->j<=xs.length->
  aA X ((It,oI)::pins) σ H s->H l=some (.lst xs)->s.heap.IsListIter It l j->H dd=some (.dK kvs)->Paired (λx (p:c7×V)=>∃b,x=V.ref b/\H b=some (.tup [kV p.1,p.2])) (xs.drop j) ps->kvs.length+ps.length<sizeLine->
  (∀s',aA X pins σ (upd H dd (.dK (gJ kvs ps))) s'->R (.ok (.ret .none)) s')->
  codeAny @d A (.builtin "dict.update.loop" ⟨[.ref dd,.ref It,.int j t,.none],[]⟩) R s:=by
 intro r
 induction r with
 |zero=>
  intro j s H kvs ps t oI hr hj I Y ad hd hp hz hR
  have ej:j=xs.length:=by lia
  subst ej;rw [drop_length] at hp;cases hp;obtain ⟨us,O,aa⟩:=jD I Y
  have Z:us.toArray.size=xs.length:=by rw [size_toArray,O.length]
  have nI:=I.pin (It,oI) @y
  have ac:l≠It:=λz=>by have:=nI.2.1;rw [<-z,Y] at this;cases this
  have W:=Walks.list (prog:=X.prog) (w:=X.w) (A:=A.in1) hh It l ac us.toArray;rwa[codeAny_builtin PySem.F.entry_dul ?_];rw [Around.under_plainId PySem.F.plain_dul _];show wpAny _ A.in1 (pyNext (.ref It)>>=_) _ _ _;rwa[wpAny_bind (W.done _ _ _ ⟨by rw [Z];exact ad,aa⟩ λh1 L J=> ?_)];have J:∀b u,b≠It->s.heap.get? b=some u->h1.get? b=some u:=λb u n e=>J b u (by simpa using n) e;have I0:aA X pins σ H s:=I.sub λp hp=> .tail _ hp
  have as:∀x c,X.env.cells.lookup x=some c->c≠It:=λx c e z=>by
   obtain ⟨v,oc,h1,h2⟩:=I.cell x c e;rw [z,nI.1] at h1;cases h1;exact nI.2.2.2.2 v h2
  have I1:aA X pins σ H {s with heap:=h1,toks:=L}:=I0.turned (it:=It) J nI.2.1 nI.2.2.1 (.inr an) as ah
  have eH:upd H dd (.dK (gJ kvs []))=H:=by
   funext b
   unfold upd gJ;split
   ·rename_i e;rw [e,hd];rfl
   ·rfl
  rw [eH] at hR;exact wpAny_bind (wpAny_pure (wpAny_pure (hR _ I1)))
 |succ r ih=>
  intro j s H kvs ps t oI hr hj I Y ad hd hp hz hR
  have ab:j<xs.length:=by lia
  obtain ⟨us,O,aa⟩:=jD I Y
  have Z:us.toArray.size=xs.length:=by rw [size_toArray,O.length]
  have nI:=I.pin (It,oI) @y
  have ac:l≠It:=λz=>by have:=nI.2.1;rw [<-z,Y] at this;cases this
  have W:=Walks.list (prog:=X.prog) (w:=X.w) (A:=A.in1) hh It l ac us.toArray;rw [drop_eq_getElem_cons ab] at hp
  obtain ⟨G,U,rfl,⟨b,eb,hb⟩,aq⟩:∃G U,ps=G::U/\(∃b,xs[j]=V.ref b/\H b=some (.tup [kV G.1,G.2]))/\Paired (λx (p:c7×V)=>∃b,x=V.ref b/\H b=some (.tup [kV p.1,p.2])) (xs.drop (j+1)) U:=by
   cases hp with
   |cons a c=>exact ⟨_,_,rfl,a,c⟩
  rwa[codeAny_builtin PySem.F.entry_dul ?_];rw [Around.under_plainId PySem.F.plain_dul _];show wpAny _ A.in1 (pyNext (.ref It)>>=_) _ _ _;rwa[wpAny_bind (W.item j _ _ _ (by rw [Z];exact ab) ⟨ad,aa⟩ λu h1 L hP ae J=> ?_)]
  have hu:us[j]? =some u:=by simpa using hP
  have ru:aF (V.ref b) u:=by
   obtain ⟨u',al,ru⟩:=O.get (show xs[j]? =some (V.ref b) by rw [getElem?_eq_getElem ab,eb]);rw [hu] at al;cases al;exact ru
  cases (show u=Value.ref b from ru);obtain ⟨S,af,aw,ao⟩:=id ae.1;have J:∀b u,b≠It->s.heap.get? b=some u->h1.get? b=some u:=λb u n e=>J b u (by simpa using n) e
  have I1:aA X ((It,S)::pins) σ H {s with heap:=h1,toks:=L}:=
   I.repin (t':=L) an ah J af λv e=>by rw [ao] at e;cases e
  obtain ⟨its,aB,ht,aH⟩:=I1.tuple (az.of hb)
  obtain ⟨ku,vu,ai,rk,rv⟩:∃ku vu,its=[ku,vu]/\aF (kV G.1) ku/\aF G.2 vu:=by
   cases aB with|cons a t1=>cases t1 with|cons b t2=>cases t2;exact ⟨_,_,rfl,a,b⟩
  subst ai;show wpAny _ A.in1 (holding [Value.ref b] _>>=_) _ _ _;rwa[wpAny_bind (wpAny_holding ?_)];rwa[wpAny_bind (wpAny_tryCatch ?_)];unfold Builtin.Dict.pairItems;rwa[wpAny_bind (wpAny_typeOf ht.typeIs ?_)];rw [if_pos @b];obtain ⟨ot,av,aG,nt,au⟩:=id ht;rwa[wpAny_bind (wpAny_seqItems av au @bU)];show wpAny _ A.in1 (holding [ku,vu] (dictSet dd ku vu)) _ _ _;rwa[wpAny_holding ?_];obtain ⟨zk,aE,vs,aj,ar⟩:=Hm I1.hok hd
  have ax:vs.length<=sizeLine:=by rw [<-aj.length];exact zk
  have aD:(dO kvs G.1 G.2).length<=sizeLine:=by have:=cX kvs G.1 G.2;rw [length_cons] at hz;lia
  rwa[wpAny_dictSet_pairs (hsz:=ax) (uz rk) ar λh2 ak ay=> ?_];have he:∃q,h2.get? dd=some q:=let ⟨q,_,_,hq,_⟩:=ak;⟨q,hq⟩;have I2:=pR (t':=L+1) I1 (by rw [hd];exact True.intro) ay he (wO aD aE (aj.put G.1 rv) ak);have aC:=I2.pin (It,S) @y
  have ap:l≠dd:=λz=>by rw [z,hd] at Y;cases Y
  rwa[wpAny_pure ⟨plainId_quiet PySem.F.plain_dul _,?_⟩];rwa[ih (j+1) _ (upd H dd (.dK @he)) @he U _ S @c @c I2 (by rw [am ap];exact Y) ⟨S,aC.1,aw,ao⟩ ag (Paired.imp' (λx p ⟨c,ec,hc⟩=>⟨c,ec,by rw [am (λz=>by rw [z,hd] at hc;cases hc)];exact hc⟩) aq) ?_ ?_]
  ·have:=cX kvs G.1 G.2;rw [length_cons] at hz;lia
  ·intro s' I';rw [Bb] at I';exact hR s' I'
def Lq (l:Addr)(H:Hp)(Q:VK):Prop:=∃(xs:List V) (ps:List (c7×V)),H l=some (.lst xs)/\Paired (λx (p:c7×V)=>∃b,x=V.ref b/\H b=some (.tup [kV p.1,p.2])) xs ps/\ps.length<sizeLine/\∀d,H d=none->Q (.ref d) (upd H d (.dK (gJ [] ps)))
theorem Dz {X:Cx}{pins:List (Addr×Obj)}{σ:St}{H:Hp}{s:Shared}{l:Addr}{Q:VK}(hh:X.A.handled=none)(I:aA X pins σ H s)(hP:Lq l H Q){E:Value->Shared->Prop}:
 wpAny @d X.A (call (.type "dict") [.ref l]) @v E s:=by
 obtain ⟨xs,ps,W,U,hz,q⟩:=hP;rwa[callType_codes (Q₁:=λJ s₁=>J= .ref s.heap.objs.size/\s₁= {s with heap:=s.heap.push {cls:= .type "dict",data:= .dict #[]}}) PySem.F.kt_called_dict (PySem.F.kt_typeCall_dict_1 _) PySem.F.entry_dict_init (kt_code_dict_new _ ⟨rfl,rfl⟩) ?_];rintro J s₁ ⟨rfl,rfl⟩;generalize S:s.heap.objs.size=Z
 have nd:H Z=none:=by rw [<-S];exact I.hok.fresh @h
 have j:(s.heap.push {cls:= .type "dict",data:= .dict #[]}).DictOf (b6 X.prog X.w) Z []:=by rw [<-S];exact Heap.DictOf.new s.heap
 have I1:aA X pins σ @de {s with heap:=s.heap.push {cls:= .type "dict",data:= .dict #[]}}:=by
  have z:=I.laid (a:=s.heap.objs.size) (o:= .dK []) (t':=s.toks) (h':=s.heap.push {cls:= .type "dict",data:= .dict #[]}) (λb q hq=>Heap.get?_push_of_some _ hq) @h (wO @fQ (beq_eq_false_iff_ne.mpr (Ne.symm (Nat.ne_of_lt I.big))) .nil (Heap.DictOf.new s.heap));rw [S] at z;exact z
 rwa[⟨j.typeIs,PySem.F.args_dict_init_2 _ _,?_⟩];unfold Builtin.«dict.__init__»;rwa[wpAny_bind ?_];unfold Builtin.Dict.selfAndRest;rwa[wpAny_bind (wpAny_notOrdered_dict j.typeIs ?_)];show wpAny _ _ (pure (Z,[Value.ref l])) _ _ _;rwa[wpAny_pure ?_];show wpAny _ _ (Builtin.Dict.updateFrom "dict.__init__" Z (.ref l) [] .none) _ _ _;unfold Builtin.Dict.updateFrom
 have ap:l≠Z:=λz=>by rw [z,nd] at W;cases W
 have G:upd H Z (.dK []) l=some (.lst xs):=by rw [am ap];exact W
 obtain ⟨_,us,n,ad,aa⟩:=(show bA X.prog X.w _ _ l (.lst xs) from I1.hok l _ G);have ab:({s with heap:=s.heap.push {cls:= .type "dict",data:= .dict #[]}}:Shared).TypeIs (.ref l) "list":=⟨_,aa,rfl⟩;rwa[wpAny_bind (wpAny_typeOf ab ?_)];rw [if_pos @b];rwa[wpAny_bind (rh (by exact hh) aa λh' R k=> ?_)];rw [if_pos (show (none:Option Value).isNone=true from rfl)];rwa[wpAny_bind (wpAny_rule ?_)];have O:aA X pins σ @de {s with heap:=h',toks:=R}:=I1.kept (t':=R) k;obtain ⟨ae,ac,L⟩:=jD O G;rwa[wpAny_bind (wpAny_pyIter_list L ?_)]
 have I3:aA X ((h'.objs.size,{cls:= .type "list_iterator",data:= .fields #[.ref l,.int 0 0]})::pins) σ @de {s with heap:=h'.push {cls:= .type "list_iterator",data:= .fields #[.ref l,.int 0 0]},toks:=R}:=
  O.pinNew (t':=R) (a:=h'.objs.size) @h (λb u e=>Heap.get?_push_of_some _ e) (Heap.get?_push_size _ rfl) λv e=>by cases e
 rwa[wpAny_pure ⟨plainId_quiet PySem.F.plain_dul _,?_⟩];rwa[Kx (A:=X.A.in1) (xs:=xs) (l:=l) (It:=h'.objs.size) (dd:=Z) hh O.sz (λp U=>Nat.ne_of_lt (Heap.lt_size (O.pin p U).1)) _ 0 _ @de [] ps _ _ rfl @fQ I3 G ⟨_,Heap.get?_push_size _ rfl,rfl,rfl⟩ ag ?_ ?_ ?_]
 ·exact Paired.imp' (λx p ⟨c,ec,Y⟩=>⟨c,ec,by rw [am (λz=>by rw [z,nd] at Y;cases Y)];exact Y⟩) U
 ·rw [length_nil,Nat.zero_add];exact hz
 ·intro s' I';rw [Bb] at I';exact ⟨rfl,V.ref Z,_,I',rfl,q Z nd⟩
def LY:List V->Hp->VK->Prop:=λxs H Q=>match xs with|[.ref l]=>Lq l H Q|_=>False
theorem ID {X:Cx}(j:X.calm=true):bj X (.type "dict") LY:=by
 intro pins s σ H xs z Q I r h
 match xs,h,r with
 |[.ref l],h,r=>
  cases r with
  |cons a t=>
   cases t;cases (show _=Value.ref l from a);exact Dz @eJ I h
end L2
namespace My
open PySem L2 PyProof.Rows
theorem KW (a b:Nat):Builtin.bitAnd (a:Int) (b:Int)=((a&&&b:Nat):Int):=by
 unfold Builtin.bitAnd;simp
theorem MV (a b:Nat):Builtin.bitOr (a:Int) (b:Int)=((a|||b:Nat):Int):=by
 unfold Builtin.bitOr Builtin.bitAnd Builtin.bitNot
 have h1: ¬(0:Int)<= -(a:Int) - 1:=by lia
 have h2: ¬(0:Int)<= -(b:Int) - 1:=by lia
 simp only [h1,h2,decide_false]
 have R:(-(-(a:Int) - 1) - 1).toNat=a:=by lia
 have O:(-(-(b:Int) - 1) - 1).toNat=b:=by lia
 rw [R,O];lia
theorem testBit_and (M k:Nat):decide (M&&&2^k=0)= !M.testBit k:=by
 have e:(M&&&2^k).testBit k=M.testBit k:=by rw [Nat.testBit_and,Nat.testBit_two_pow_self,Bool.and_true]
 cases h:M.testBit k with
 |true=>
  rw [h] at e;rwa[decide_eq_false λz=> ?_];rw [z] at e;simp at e
 |false=>
  rwa[decide_eq_true (Nat.eq_of_testBit_eq λi=> ?_)];rw [Nat.testBit_and,Nat.zero_testBit];by_cases hi:k=i
  ·subst hi;rw [h];rfl
  ·rw [Nat.testBit_two_pow_of_ne hi,Bool.and_false]
noncomputable def j9 (M n:Nat):List Nat:=(List.range n).filter λi=>M.testBit i
theorem kY (M n:Nat):j9 M (n+1)=j9 M n++if M.testBit n then [n] else []:=by
 unfold j9;rw [range_succ,filter_append];congr 1;cases h:M.testBit n<;>simp [h]
theorem uv {M n i:Nat}:i∈j9 M n↔i<n/\M.testBit i=true:=by
 unfold j9;rw [mem_filter,mem_range]
noncomputable def L (M:Nat):Nat:=Builtin.Int.intBits (M:Int)
theorem HW (M:Nat):L M=if M=0 then 0 else M.log2+1:=by
 unfold L Builtin.Int.intBits;by_cases h:M=0
 ·subst h;rfl
 ·have:((M:Int)==0)=false:=beq_eq_false_iff_ne.mpr @c;rw [this,if_neg h];simp
theorem Q3 (M:Nat):M<2^L M:=by
 rw [HW];split
 ·rename_i h;subst h;decide
 ·exact Nat.lt_log2_self
theorem Q4 {M n:Nat}(h:M<2^n):L M<=n:=by
 rw [HW];split
 ·lia
 ·rename_i F;have:=(Nat.log2_lt F).mpr h;lia
theorem Bc {M:Nat}(h:M≠0):M.testBit (L M - 1)=true:=by
 rw [HW,if_neg h];have h1:=Nat.log2_self_le h;have h2:=Nat.lt_log2_self (n:=M);rw [Nat.add_sub_cancel,Nat.testBit_eq_decide_div_mod_eq];rwa[decide_eq_true ?_]
 have e:M / 2^M.log2=1:=by
  rwa[Nat.div_eq_of_lt_le @c ?_];rw [Nat.pow_succ] at h2;lia
 rw [e]
noncomputable def jQ (M:Nat):List Nat:=j9 M (L M)
theorem lT {M i:Nat}:i∈jQ M↔M.testBit i=true:=by
 unfold jQ;rw [uv];rwa[⟨λh=>h.2,λh=>⟨?_,h⟩⟩];rwa[Nat.lt_of_not_le λj=> ?_];have:=Nat.testBit_lt_two_pow (Nat.lt_of_lt_of_le (Q3 M) (Nat.pow_le_pow_right @b j));rw [this] at h;cases h
theorem B4 {M n i:Nat}(h:M<2^n)(hi:i∈jQ M):i<n:=by
 have:=(uv.mp hi).1;have:=Q4 h;lia
theorem DN {M:Nat}(h:M≠0):∃l,jQ M=l++[L M - 1]:=by
 have G:L M=(L M - 1)+1:=by
  have:=HW M;rw [if_neg h] at this;lia
 rwa[⟨j9 M (L M - 1),?_⟩]
 have e:jQ M=j9 M ((L M - 1)+1):=by rw [<-G];rfl
 rw [e,kY,Bc h];rfl
theorem HJ {M:Nat}:jQ M=[]↔M=0:=by
 constructor
 ·intro h;rwa[Classical.byContradiction λz=> ?_];obtain ⟨l,e⟩:=DN z;rw [h] at e;simp at e
 ·rintro rfl;rfl
noncomputable def oN (ks:List Nat):Nat:=ks.foldl (λacc k=>acc|||2^k) 0
theorem qU:∀(ks:List Nat) (acc i:Nat),(ks.foldl (λacc k=>acc|||2^k) acc).testBit i=(acc.testBit i||decide (i∈ks))
 |[],acc,i=>by simp
 |k::ks,acc,i=>by
  rw [foldl_cons,qU ks,Nat.testBit_or];by_cases h:k=i
  ·subst h;simp [Nat.testBit_two_pow_self]
  ·rw [Nat.testBit_two_pow_of_ne h];have h': ¬i=k:=λz=>h z.symm;simp [h']
end My
namespace L2
open PySem PySem.Spec PyProof.Rows
def aK (H H':Hp):Prop:=∀b o,(∀xs,o≠ .lst xs)->(∀C dx fs,o≠ .ins C dx fs)->H b=some o->H' b=some o
theorem aK.refl (H:Hp):aK H H:=λ_ _ _ _ e=>e
theorem aK.trans {H H1 H2:Hp}(a:aK H H1)(b:aK H1 H2):aK H H2:=λc o j W e=>b c o j W (a c o j W e)
theorem aq.st {H H':Hp}(s:aq H H'):aK H H':=λb o _ _ e=>s b o e
theorem aK.updL {H:Hp}{a:Addr}{xs:List V}{o:HO}(h:H a=some (.lst xs)):aK H @bu:=λb u j _ e=>by
 rw [am (λz=>by rw [z,h] at e;cases e;exact j _ rfl)];exact e
theorem aK.updI {H:Hp}{a C dx:Addr}{fs:List (Str×V)}{o:HO}(h:H a=some (.ins C dx fs)):aK H @bu:=λb u _ W e=>by
 rw [am (λz=>by rw [z,h] at e;cases e;exact W _ _ _ rfl)];exact e
theorem aK.tup {H H':Hp}(s:aK H H'){a:Addr}{xs:List V}(h:H a=some (.tup xs)):H' a=some (.tup xs):=s a _ (λ_ z=>by cases z) (λ_ _ _ z=>by cases z) h
theorem aK.sqT {K:Fg}{H H':Hp}(s:aK H H'){a:Addr}{xs:List V}(h:az K H a xs):az K H' a xs:=by
 rcases h with (h|⟨u,h⟩)|h
 ·exact .inl (.inl (s.tup h))
 ·exact .inl (.inr ⟨u,s _ _ (λ_ z=>by cases z) (λ_ _ _ z=>by cases z) h⟩)
 ·exact .inr h
theorem aK.den {K:Fg}{H H':Hp}(s:aK H H'){x:V}{d:D}(h:bM K H x d)(j:L2.noL d=true):bM K H' x d:=by
 induction h with
 |non=>exact .non
 |bl b=>exact .bl b
 |int i=>exact .int i
 |str z=>exact .str z
 |lst h hl hi ih=>rw [L2.noL] at j;cases j
 |tup h hl hi ih=>
  rw [L2.noL] at j;exact .tup (s.sqT h) hl λi x d h1 h2=>ih i x d h1 h2 (gG j h2)
theorem aK.dens {K:Fg}{H H':Hp}(s:aK H H'){xs:List V}{ds:List D}(h:av K H xs ds)(z:noLs ds=true):av K H' xs ds:=
 PySem.Paired.of h.len λi x d h1 h2=>by
  obtain ⟨e,L,r⟩:=h.get1 h1;rw [h2] at L;cases L;exact s.den r (gG z h2)
theorem none_of {H H':Hp}(s:aq H H'){a:Addr}(h:H' a=none):H a=none:=by
 cases y:H a with
 |none=>rfl
 |some o=>rw [s _ _ y] at h;cases h
theorem jg {a b:List D}(h1:noLs a=true)(h2:noLs b=true):noLs (a++b)=true:=by
 induction a with
 |nil=>exact h2
 |cons d a ih=>
  rw [noLs,Bool.and_eq_true] at h1;rw [cons_append,noLs,h1.1,ih h1.2];rfl
theorem eL {α β:Type}{R:α->β->Prop}{xs:List α}{ys:List β}{i:Nat}{x:α}{y:β}(h:Paired R xs ys)(r:R x y):Paired R (xs.set i x) (ys.set i y):=by
 have W:=h.len;rwa[PySem.Paired.of (by simp [W]) λj a b F O=> ?_];by_cases Z:i=j
 ·subst Z
  have hi:i<xs.length:=by
   have:=(List.getElem?_eq_some_iff.mp F).1;rwa [length_set] at this
  rw [getElem?_set_self hi] at F;rw [getElem?_set_self @c] at O;cases F;cases O;exact r
 ·rw [getElem?_set_ne Z] at F O;obtain ⟨L,h2,z⟩:=h.get1 F;rw [O] at h2;cases h2;exact z
theorem bE.sqT {K:Fg}{H H':Hp}(s:bE H H'){a:Addr}{xs:List V}(h:az K H a xs):az K H' a xs:=by
 rcases h with (h|⟨u,h⟩)|h
 ·exact .inl (.inl (s _ _ (λ_ z=>by cases z) h))
 ·exact .inl (.inr ⟨u,s _ _ (λ_ z=>by cases z) h⟩)
 ·exact .inr h
theorem bE.sqL {K:Fg}{H H':Hp}(s:bE H H'){a:Addr}{xs:List V}(h:aC K H a xs):aC K H' a xs:=by
 rcases h with (h|⟨u,h⟩)|h
 ·exact .inl (.inl (s _ _ (λ_ z=>by cases z) h))
 ·exact .inl (.inr ⟨u,s _ _ (λ_ z=>by cases z) h⟩)
 ·exact .inr h
theorem bE.den {K:Fg}{H H':Hp}(s:bE H H'){x:V}{d:D}(h:bM K H x d):bM K H' x d:=by
 induction h with
 |non=>exact .non
 |bl b=>exact .bl b
 |int i=>exact .int i
 |str z=>exact .str z
 |lst h hl hi ih=>exact .lst (s.sqL h) hl ih
 |tup h hl hi ih=>exact .tup (s.sqT h) hl ih
theorem bE.dens {K:Fg}{H H':Hp}(s:bE H H'){xs:List V}{ds:List D}(h:av K H xs ds):av K H' xs ds:=Paired.imp' (λ_ _ z=>s.den z) h
def eI (H H':Hp):Prop:=∀b o,(∀xs,o≠ .lst xs)->(∀C dx fs,o≠ .ins C dx fs)->(∀ps,o≠ .tbl ps)->H b=some o->H' b=some o
theorem eI.refl (H:Hp):eI H H:=λ_ _ _ _ _ e=>e
theorem eI.trans {H H1 H2:Hp}(a:eI H H1)(b:eI H1 H2):eI H H2:=λc o z W j e=>b c o z W j (a c o z W j e)
theorem aK.sx {H H':Hp}(s:aK H H'):eI H H':=λb o j W _ e=>s b o j W e
theorem bE.sx {H H':Hp}(s:bE H H'):eI H H':=λb o _ _ j e=>s b o j e
theorem eI.sqT {K:Fg}{H H':Hp}(s:eI H H'){a:Addr}{xs:List V}(h:az K H a xs):az K H' a xs:=by
 rcases h with (h|⟨u,h⟩)|h
 ·exact .inl (.inl (s _ _ (λ_ z=>by cases z) (λ_ _ _ z=>by cases z) (λ_ z=>by cases z) h))
 ·exact .inl (.inr ⟨u,s _ _ (λ_ z=>by cases z) (λ_ _ _ z=>by cases z) (λ_ z=>by cases z) h⟩)
 ·exact .inr h
theorem eI.den {K:Fg}{H H':Hp}(s:eI H H'){x:V}{d:D}(h:bM K H x d)(j:L2.noL d=true):bM K H' x d:=by
 induction h with
 |non=>exact .non
 |bl b=>exact .bl b
 |int i=>exact .int i
 |str z=>exact .str z
 |lst h hl hi ih=>rw [L2.noL] at j;cases j
 |tup h hl hi ih=>
  rw [L2.noL] at j;exact .tup (s.sqT h) hl λi x d h1 h2=>ih i x d h1 h2 (gG j h2)
def GT (G:Hp->Prop):Prop:=∀H H',aK H H'->G H->G H'
def NT (H:Hp):Prop:=∀b ps,H b≠some (.tbl ps)
noncomputable def xn (H:Hp):Hp:=λb=>match H b with|some (.tbl _)=>none|o=>o
theorem Gg (H:Hp):NT (xn H):=λb ps h=>by
 unfold xn at h;split at h
 ·cases h
 ·rename_i x z;rw [h] at z;exact z _ rfl
theorem qV (H:Hp):aq (xn H) H:=λb o h=>by
 unfold xn at h;split at h
 ·cases h
 ·exact h
theorem qW {H:Hp}{b:Addr}{o:HO}(h:H b=some o)(n:∀ps,o≠ .tbl ps):xn H b=some o:=by
 unfold xn;rw [h]
 cases o<;>first|rfl|exact absurd rfl (n _)
theorem Bv (H:Hp):bE H (xn H):=λ_ _ n h=>qW h n
theorem Nu {H H':Hp}(s:aq (xn H) H'):bE H H':=λb o n h=>s _ _ (qW h n)
theorem bE.onto {H0 H H':Hp}(j:NT H0)(s:aq H0 H)(s':bE H H'):aq H0 H':=λb o h=>s' b o (λps z=>j b ps (by rw [h,z])) (s b o h)
theorem lS {H:Hp}{b:Addr}(h:H b=none):xn H b=none:=by unfold xn;rw [h]
open PySem.Calls PySem.W
def yk (K:Fg)(a:Addr)(c:V)(H:Hp)(Q:VK):Prop:=nX K a c H Q\/∃xs cv b,az K H a xs/\cV c=some cv/\W.kitOne K (.type "tuple") cv=some b/\Q (.bl b) H
def Pg (K:Fg):List V->Hp->VK->Prop:=λxs H Q=>match xs with
 |[.ref a,c]=>yk K a c H Q
 |xs=>Eh K xs H Q
theorem NX {K:Fg}{H:Hp}{a:Addr}{c:V}{xs:List V}{z:Value}{b:Bool}{Q:VK}(h:az K H a xs)(h1:cV c=some z)(L:W.kitOne K (.type "tuple") z=some b)(g:Q (.bl b) H):yk K a c H Q:= .inr ⟨xs,z,b,h,h1,L,g⟩
theorem Gy {K:Fg}{H:Hp}{a:Addr}{c:V}{z t:Value}{b:Bool}{Q:VK}(h1:cV c=some z)(h2:iM K H (.ref a) t)(L:W.kitOne K t z=some b)(g:Q (.bl b) H):yk K a c H Q:= .inl (wF h1 h2 L g)
theorem lq {X:Cx}{K:Fg}(O:X.K=K):bj X (.builtin "isinstance") (Pg K):=by
 intro pins s σ H xs j Q I r h;have F:Eh K xs H Q->wpAny @d X.A (call (.builtin "isinstance") j) @v X.xe s:=λh=>zh O pins s σ H xs j Q I r h
 match xs,h with
 |[.ref a,c],h=>
  rcases h with h|⟨ys,U,b,e,G,R,q⟩
  ·exact F h
  ·subst O;obtain ⟨u,S,rfl,J,L⟩:=xx r;cases HI G L;obtain rfl:u=Value.ref a:=J;obtain ⟨its,_,p,_⟩:=I.tuple e;obtain ⟨o,h1,h2,_⟩:=p;exact W.kia_one W.kitx_tuple I.kIn ⟨o,h1,h2⟩ R (λz=>nomatch z) λtk=>⟨.bl b,H,I.tok _,rfl,q⟩
 |[],h=>exact F h
 |[.non],h=>exact F h
 |[.bl _],h=>exact F h
 |[.int _],h=>exact F h
 |[.str _],h=>exact F h
 |[.byt _],h=>exact F h
 |[.flt _],h=>exact F h
 |[.ty _],h=>exact F h
 |[.ref _],h=>exact F h
 |[.non,c],h=>exact F h
 |[.bl _,c],h=>exact F h
 |[.int _,c],h=>exact F h
 |[.str _,c],h=>exact F h
 |[.byt _,c],h=>exact F h
 |[.flt _,c],h=>exact F h
 |[.ty _,c],h=>exact F h
 |x::y::z::r,h=>exact F (by cases x<;>exact h)
theorem sS.imp {P:Program}{w:World}{K:Frag}{mg:Str->Option Value}{base:Heap}{n m:Nat}{f:Addr}{sp j:Sp}(c:sS P w K mg base n f sp)(I:n<=m)(h:∀vs H Q E,j vs H Q E->sp vs H Q E):sS P w K mg base m f j:=
 ⟨λA outer s H z vs Q E S F r g=>c.run A outer s H z vs Q E (S.mono I) F r (h _ _ _ _ g),λvs H Q E G g=>c.keep vs H Q E G (h _ _ _ _ g)⟩
end L2
namespace My
open PySem L2 PyProof.Rows
noncomputable def yr:List Nat:=[48,49,50,51,52,53,54,55,56,57]
noncomputable def D5 (x:Str):Bool:=if x.length=0\/9<x.length then false else if x.cps.toList[0]? =some 48/\x≠s!"0" then false else x.cps.toList.all λc=>decide (c∈yr)
noncomputable def Gi (x:Str):Option Nat:=if D5 x=true then some (PySem.NumText.digitsVal x.cps.toList) else none
noncomputable def Bu (x:Str):Option Int:=(Gi x).map λn:Nat=>(n:Int)
noncomputable def lk (fl:Nat):List Nat->Nat->Nat->Option Nat
 |[],_,lo=>some lo
 |k::ks,last,lo=>if last<k/\k<fl then lk fl ks k (lo+2^k) else none
abbrev Mi:Str:=s!" "
noncomputable def Rb (s:Str):List Str:=Txt.split s Mi
theorem Ea {ps:List Str}(F:ps≠[])(G:∀p∈ps,32∉p.cps.toList):Rb (Str.join Mi ps)=ps:=zu (c:=32) (ts:=[]) @f @b @f F G
noncomputable def pE (i:Int):Str:=Str.ofString @gE
theorem rD {i:Int}(F:0<=i)(h1:i<=9):Gi (pE i)=some i.toNat/\(pE i).length=1/\∀c∈(pE i).cps.toList,48<=c/\c<=57:=by
 rcases (show i=0\/i=1\/i=2\/i=3\/i=4\/i=5\/i=6\/i=7\/i=8\/i=9 by lia) with rfl|rfl|rfl|rfl|rfl|rfl|rfl|rfl|rfl|rfl<;>decide+kernel
structure S7 where
 start:Int
 room:Int
 turns:Int
 kind:Str
noncomputable def S7.ok (fl:Int)(l:S7):Bool:=decide (0<=l.start/\l.start<fl/\1<=l.room/\l.room<=6/\1<=l.turns/\l.turns<=4/\(l.kind=s!"plain"\/l.kind=s!"hasty"\/l.kind=s!"slow"))
theorem Od {i:Int}(F:0<=i)(h1:i<=9):32∉(pE i).cps.toList/\59∉(pE i).cps.toList:=by
 have:=(rD F h1).2.2;exact ⟨λz=>by have:=this 32 z;lia,λz=>by have:=this 59 z;lia⟩
theorem J0 {i:Int}(F:0<=i)(h1:i<=9):Bu (pE i)=some i:=by
 unfold Bu;rw [(rD F h1).1];show some ((i.toNat:Nat):Int)=some i;rw [Int.toNat_of_nonneg F]
end My
namespace My
open PySem L2 PyProof.Rows
noncomputable def IU (bs:List Bool)(first:Int):Nat->Nat->Int
 |_,0=> -1
 |k,r+1=>if bs.getD ((first+k)% bs.length).toNat false=true then (first+k)% bs.length else IU bs first (k+1) r
noncomputable def sf (bs:List Bool)(first:Int):Int:=IU bs first 0 bs.length
theorem PX {bs:List Bool}{i:Nat}(h1:1<=bs.length)(L:bs.length<=3)(hi:i<bs.length):sf bs (i:Int)=if bs.getD i false=true then (i:Int) else sf bs ((i:Int)+1):=by
 match bs,h1,L,hi with
 |[a],_,_,hi=>
  obtain rfl:i=0:=by simp at hi;lia
  cases a<;>decide
 |[a,b],_,_,hi=>
  have:i=0\/i=1:=by simp at hi;lia
  rcases this with rfl|rfl<;>cases a<;>cases b<;>decide
 |[a,b,c],_,_,hi=>
  have:i=0\/i=1\/i=2:=by simp at hi;lia
  rcases this with rfl|rfl|rfl<;>cases a<;>cases b<;>cases c<;>decide
structure A4 where
 pl:Int
 li:Int
 dr:Int
 mr:Int
 ab:List (Int×Int)
noncomputable def A4.d (c:A4):D:= .tup [.int c.pl,.int c.li,.int c.dr,.int c.mr,.tup (c.ab.map λq=> .tup [.int q.1,.int q.2])]
noncomputable def A4.srv (c:A4):Bool:=decide (c.mr=0)
structure Rd where
 t:Int
 s:Int
 g:Int
 l:Int
noncomputable def Rd.d (r:Rd):D:= .tup [.int r.t,.int r.s,.int r.g,.int r.l]
noncomputable def oO (w:Str)(is:List Int):Str:=Str.join Mi (w::is.map pE)
theorem D9 {w:Str}{j:List Int}(z:32∉w.cps.toList)(h:∀i∈j,0<=i/\i<=9):Rb (oO w j)=w::j.map pE:=Ea @e λp G=>by
 rcases mem_cons.mp G with rfl|G
 ·exact z
 ·obtain ⟨i,hi,rfl⟩:=mem_map.mp G;exact (Od (h i hi).1 (h i hi).2).1
end My
namespace L2
open PySem PySem.Spec PyProof.Rows
noncomputable def Se (bs:List Bool)(n:Nat):List Nat:=(List.range n).filter λi=>bs.getD i false
noncomputable abbrev srv (bs:List Bool):List Nat:=Se bs bs.length
end L2
namespace My
open PySem L2 PyProof.Rows
abbrev d0:Str:=s!"0"
abbrev d1:Str:=s!"1"
abbrev d2:Str:=s!"2"
abbrev PF:Str:=s!"near"
abbrev Mc:Str:=s!"least"
abbrev L9:Str:=s!"turns"
abbrev Pt:Str:=s!"zone"
abbrev fo:Str:=s!"fixed"
inductive Kd where
 |near
 |least
 |turns
 |zone (is:List Int)
 |fixed (is:List Int)
noncomputable def Kd.nm:Kd->Str
 | .near=>PF
 | .least=>Mc
 | .turns=>L9
 | .zone _=>Pt
 | .fixed _=>fo
noncomputable def Kd.is:Kd->List Int
 | .zone is=>is
 | .fixed is=>is
 |_=>[]
def Kd.ok (fl:Int)(n:Nat):Kd->Prop
 | .zone is=>(is.length:Int)=fl/\∀i∈is,0<=i/\i<(n:Int)
 | .fixed is=>1<=is.length/\is.length<=9/\∀i∈is,0<=i/\i<(n:Int)
 |_=>True
end My
namespace L2
open PySem PySem.Spec PySem.Calls PyProof.Rows PySem.W
theorem MJ {prog:Program}{w:World}{s:Shared}{A:Around}{E:Value->Shared->Prop}{Q:Value->Shared->Prop}{i j:Int}{u v:Value}(F:aF (.int i) u)(L:aF (.int j) v)(q:Q (.bool (decide (i<j))) s):wpAny @m A (richCompare .Lt u v) Q E s:=by
 obtain ⟨t,rfl⟩:=F;obtain ⟨z,rfl⟩:=L;exact HT.rcLt_int A s i t j z prog w E Q q
theorem N1 {xs:List V}{j:List Int}{i:Nat}{v:V}{g:Int}(h:xs=j.map V.int)(h1:xs[i]? =some v)(h2:j[i]? =some g):v= .int g:=by
 rw [h,getElem?_map,h2] at h1;exact (Option.some.inj h1).symm
theorem Ka {X:Cx}{pins:List (Addr×Obj)}{σ:St}{H:Hp}{l S It:Addr}{xs:List V}{gs:List Int}{dv:Value}{R:Result->Shared->Prop}(U:X.A.handled=none)(hu:X.A.units+2<cLine)(ac:H l=some (.lst xs))(hG:xs=gs.map V.int)
(ax:X.s₀.heap.objs.size<=It)(aq:X.s₀.heap.objs.size<=S)(am:∀p∈X.pn++pins,p.1≠It)(ak:∀p∈X.pn++pins,p.1≠S)(aa:S≠It)
(hR:∀(i:Nat) v u g s',xs[i]? =some v->gs[i]? =some g->aF v u->(∀h∈gs,decide (h<g)=false)->aA X pins σ H s'->R (.ok (.ret u)) s'):
 ∀(r j i:Nat) (s:Shared) (v:V) (g:Int) (vb:Value) (c:Nat) (oI:Obj),xs.length - (j+1)=r->j+1<=xs.length->
  aA X ((S,seqObj "list" #[vb,vb] c)::(It,oI)::pins) σ H s->s.heap.IsListIter It l (j+1)->xs[i]? =some v->gs[i]? =some g->aF v vb->(∀j' h,j'<=j->gs[j']? =some h->decide (h<g)=false)->
  codeAny @d X.A (.builtin "min.loop" ⟨[.ref It,.none,.ref S],[("default",dv)]⟩) R s:=by
 have Z:(toString "min"++toString ".loop":String)="min.loop":=by decide
 have aB:∀(o:Obj),∀p∈X.pn++(S,o)::pins,p.1≠It:=λo p G=>by
  rcases mem_append.mp G with G|G
  ·exact am p @bT
  ·rcases mem_cons.mp G with rfl|G
   ·exact aa
   ·exact am p @bO
 have as:∀(o:Obj),∀p∈X.pn++(It,o)::pins,p.1≠S:=λo p G=>by
  rcases mem_append.mp G with G|G
  ·exact ak p @bT
  ·rcases mem_cons.mp G with rfl|G
   ·exact aa.symm
   ·exact ak p @bO
 have af:∀ {a b:Addr×Obj},∀p∈a::b::pins,p∈b::a::pins:=λ{a b} p G=>by
  rcases mem_cons.mp G with rfl|G
  ·exact .tail _ (.head _)
  ·rcases mem_cons.mp G with rfl|G
   ·exact .head _
   ·exact .tail _ (.tail _ G)
 have aI:xs.length=gs.length:=by rw [hG,length_map]
 intro r
 induction r with
 |zero=>
  intro j i s v g vb c oI hr hj I aj hv hg rv J;obtain ⟨us,ad,hl⟩:=jD I ac
  have ai:us.toArray.size=xs.length:=by rw [size_toArray,ad.length]
  have nS:=I.pin (S,_) @y;have nI:=I.pin (It,oI) @S
  have ah:l≠It:=λz=>by have:=nI.2.1;rw [<-z,ac] at this;cases this
  have W:=Walks.list (prog:=X.prog) (w:=X.w) (A:=X.A.in1) U It l ah us.toArray;rwa[codeAny_builtin PySem.F.entry_min_loop ?_];rw [Around.under_plainId PySem.F.plain_min_loop _];show wpAny _ X.A.in1 (seqItems? (.ref S)>>=_) _ _ _;rwa[wpAny_bind @cQ];show wpAny _ X.A.in1 (tryCatch (pyNext (.ref It)) _>>=_) _ _ _;rwa[wpAny_bind (wpAny_tryCatch (W.done _ _ _ ⟨by rw [ai,show xs.length=j+1 by lia];exact aj,hl⟩ λh1 Y L=> ?_))];have L:∀b u,b≠It->s.heap.get? b=some u->h1.get? b=some u:=λb u n e=>L b u (by simpa using n) e;have I0:aA X pins σ H s:=I.sub λp G=> .tail _ (.tail _ G)
  have av:∀ {a:Addr} {o:Obj},s.heap.get? a=some o->(∀v,o.data≠ .cell v)->∀x c,X.env.cells.lookup x=some c->c≠a:=λ{a o} ho hd x c e z=>by
   obtain ⟨v,oc,h1,h2⟩:=I.cell x c e;rw [z,ho] at h1;cases h1;exact hd v h2
  have aG:=L S _ aa nS.1;have s1:=Heap.SameBut.update h1 S (Obj.mapSeq λ_=>(#[]:Array Value));have I1:aA X pins σ H {s with heap:=h1,toks:=Y}:=I0.turned (it:=It) L nI.2.1 nI.2.2.1 (.inr ax) (av nI.1 nI.2.2.2.2) am;have ap:∀x c,X.env.cells.lookup x=some c->c≠S:=av nS.1 nS.2.2.2.2;show wpAny _ X.A.in1 (updateSeq S (λ_=> #[])>>=_) _ _ _;rwa[wpAny_bind ?_];rwa[wpAny_updateSeq aG rfl (wpAny_bind (wpAny_letGo @bU))];rwa[hR i v vb g _ hv hg rv (λh U=> ?_) ?_]
  ·obtain ⟨q,hq,e⟩:=List.getElem_of_mem U;exact J q h @c (by rw [getElem?_eq_getElem hq,e])
  ·exact I1.turned (it:=S) (λb u n e=>(s1.2 b n).trans e) nS.2.1 nS.2.2.1 (.inr aq) ap ak
 |succ r ih=>
  intro j i s v g vb c oI hr hj I aj hv hg rv J
  have ae:j+1<xs.length:=by lia
  obtain ⟨us,ad,hl⟩:=jD I ac
  have ai:us.toArray.size=xs.length:=by rw [size_toArray,ad.length]
  have nS:=I.pin (S,_) @y;have nI:=I.pin (It,oI) @S
  have ah:l≠It:=λz=>by have:=nI.2.1;rw [<-z,ac] at this;cases this
  have W:=Walks.list (prog:=X.prog) (w:=X.w) (A:=X.A.in1) U It l ah us.toArray;rwa[codeAny_builtin PySem.F.entry_min_loop ?_];rw [Around.under_plainId PySem.F.plain_min_loop _];show wpAny _ X.A.in1 (seqItems? (.ref S)>>=_) _ _ _;rwa[wpAny_bind @cQ];show wpAny _ X.A.in1 (tryCatch (pyNext (.ref It)) _>>=_) _ _ _;rwa[wpAny_bind (wpAny_tryCatch (W.item (j+1) _ _ _ (by rw [ai];exact ae) ⟨aj,hl⟩ λu h1 Y hP au L=> ?_))]
  have aE:us[j+1]? =some u:=by simpa using hP
  obtain ⟨v1,al⟩:∃v1,xs[j+1]? =some v1:=⟨_,getElem?_eq_getElem ae⟩;obtain ⟨g1,ab⟩:∃g1,gs[j+1]? =some g1:=⟨_,getElem?_eq_getElem @c⟩
  have ar:aF v1 u:=by
   obtain ⟨u',ag,ru⟩:=ad.get al;rw [aE] at ag;cases ag;exact ru
  obtain ⟨O,aw,ay,ao⟩:=id au.1;have L:∀b u,b≠It->s.heap.get? b=some u->h1.get? b=some u:=λb u n e=>L b u (by simpa using n) e
  have I1:aA X ((S,seqObj "list" #[vb,vb] c)::(It,O)::pins) σ H {s with heap:=h1,toks:=Y}:=
   ((I.sub af).repin (t':=Y) ax (aB _) L aw λv e=>by rw [ao] at e;cases e).sub af
  have e1:=N1 hG al ab;have e0:=N1 hG hv hg;have az:=I1.pin (S,_) @y;have aC:=I1.pin (It,O) @S;show wpAny _ X.A.in1 (tryCatch (holding [u,u] (richCompare .Lt u vb>>=_)) _>>=_) _ _ _
  have ag:X.A.in1.units<cLine:=by show X.A.units+1<_;lia
  rwa[wpAny_bind (wpAny_tryCatch (wpAny_holding (wpAny_bind (MJ (e1▸ar) (e0▸rv) ?_))))];rwa[wpAny_bind (wpAny_holding (wpAny_truthy_bool ?_))];rwa[wpAny_bind (wpAny_letGo @bU)]
  cases an:decide (g1<g) with
  |true=>
   have s1:=Heap.SameBut.update h1 S (Obj.mapSeq λ_=> #[u,u]);obtain ⟨c2,aD⟩:∃c2,(h1.update S (Obj.mapSeq λ_=> #[u,u])).get? S=some (seqObj "list" #[u,u] c2):=⟨_,get?_update_seq az.1 λ_=> #[u,u]⟩;simp only [if_true];rwa[wpAny_bind ?_];rwa[wpAny_updateSeq az.1 rfl (wpAny_bind (wpAny_letGo ?_))];rw [Z];rwa[wpAny_pure ⟨plainId_quiet PySem.F.plain_min_loop _,ih (j+1) (j+1) _ v1 g1 u c2 O @c ae (I1.repin (t':=Y) aq (as _) (λb u n e=>(s1.2 b n).trans e) aD λv e=>by cases e) ⟨O,(s1.2 It aa.symm).trans aC.1,ay,ao⟩ al ab ar λj' h aH U=> ?_⟩];by_cases e:j'=j+1
   ·subst e;rw [ab] at U;cases U;exact decide_eq_false (Int.lt_irrefl _)
   ·have a:=of_decide_eq_true an;have b:=of_decide_eq_false (J j' h @c U);exact decide_eq_false @c
  |false=>
   simp only [Bool.false_eq_true,if_false];rwa[wpAny_bind (wpAny_letGo ?_)];rw [Z];rwa[wpAny_pure ⟨plainId_quiet PySem.F.plain_min_loop _,ih (j+1) i _ v g vb c O @c ae I1 ⟨O,aC.1,ay,ao⟩ hv hg rv λj' h aH U=> ?_⟩];by_cases e:j'=j+1
   ·subst e;rw [ab] at U;cases U;exact an
   ·exact J j' h @c U
theorem DO (a d:Value):argsOk "min" ⟨[a],[(s!"default",d)]⟩:=by unfold argsOk;kernel_rfl
theorem NE {X:Cx}{pins:List (Addr×Obj)}{σ:St}{H:Hp}{s:Shared}{l:Addr}{xs:List V}{gs:List Int}{d:V}{dv:Value}{Q:VK}{E:Value->Shared->Prop}(hh:X.A.handled=none)(hu:X.A.units+2<cLine)(I:aA X pins σ H s)(ai:H l=some (.lst xs))(rd:aF d dv)(h0:xs=[]->Q d H)(hG:xs=gs.map V.int)
(hQ:∀(i:Nat) v g,xs[i]? =some v->gs[i]? =some g->(∀h∈gs,decide (h<g)=false)->Q v H):
 wpAny @d X.A (call (.builtin "min") [.ref l] [(s!"default",dv)]) @v E s:=by
 have Z:(toString "min"++toString ".loop":String)="min.loop":=by decide
 obtain ⟨us,am,ab⟩:=jD I ai
 have ae:us.toArray.size=xs.length:=by rw [size_toArray,am.length]
 obtain ⟨ol,aD,_⟩:=id ab;have ay:l<s.heap.objs.size:=Heap.lt_size aD;rwa[kmk_tree PySem.F.kind_min PySem.F.plain_min PySem.F.entry_min (DO _ _) ?_];show wpAny _ X.A.in1 (Builtin.Builtins.bindParams "min" ["key","default"] 0 ⟨[],[(s!"default",dv)]⟩>>=_) _ _ s;rwa[wpAny_bind (wpAny_of_eq (show Builtin.Builtins.bindParams "min" ["key","default"] 0 ⟨[],[(s!"default",dv)]⟩=pure [none,some dv] from rfl) ?_)];rwa[wpAny_bind @bU];rwa[wpAny_bind (wpAny_pyIter_list ab ?_)];rwa[wpAny_bind (wpAny_newList ?_ @fQ)];rw [Z];generalize J:s.heap.objs.size=j at *
 have I1:aA X ((j,{cls:= .type "list_iterator",data:= .fields #[.ref l,.int 0 0]})::pins) σ H {s with heap:=s.heap.push {cls:= .type "list_iterator",data:= .fields #[.ref l,.int 0 0]}}:=
  I.pinNew (t':=s.toks) (a:=j) (by rw [J];exact Nat.le_refl _) (λb u e=>Heap.get?_push_of_some _ e) (by rw [<-J];exact Heap.get?_push_size _ rfl) λv e=>by cases e
 have hS:(s.heap.push {cls:= .type "list_iterator",data:= .fields #[.ref l,.int 0 0]}).objs.size=j+1:=by rw [size_push',J]
 generalize ac:(s.heap.push {cls:= .type "list_iterator",data:= .fields #[.ref l,.int 0 0]}).objs.size=S at *
 have I2:=I1.pinNew (t':=s.toks) (h':=(s.heap.push {cls:= .type "list_iterator",data:= .fields #[.ref l,.int 0 0]}).push (seqObj "list" #[] 0)) (a:=S) (o:=seqObj "list" #[] 0) (Nat.le_of_eq ac) (λb u e=>Heap.get?_push_of_some _ e) (by rw [<-ac];exact Heap.get?_push_size _ rfl) λv e=>by cases e
 have aa:S≠j:=by rw [hS];exact Nat.ne_of_gt @cc
 have an:X.s₀.heap.objs.size<=j:=by rw [<-J];exact I.sz
 have aq:X.s₀.heap.objs.size<=S:=by rw [hS];exact Nat.le_succ_of_le an
 have ap:∀p∈X.pn++pins,p.1<j:=λp G=>by rw [<-J];exact Heap.lt_size (I.pin p G).1
 have ah:∀p∈X.pn++pins,p.1≠j:=λp G=>Nat.ne_of_lt (ap p G)
 have ak:∀p∈X.pn++pins,p.1≠S:=λp G=>by rw [hS];exact Nat.ne_of_lt (Nat.lt_succ_of_lt (ap p G))
 have av:l≠j:=Nat.ne_of_lt ay;rwa[wpAny_pure ⟨plainId_quiet PySem.F.plain_min_loop _,?_⟩];generalize au:({s with heap:=(s.heap.push {cls:= .type "list_iterator",data:= .fields #[.ref l,.int 0 0]}).push (seqObj "list" #[] 0)}:Shared)=s2 at I2;show codeAny _ _ (.builtin "min.loop" ⟨[.ref j,.none,.ref S],[("default",dv)]⟩) _ s2;have nS:=I2.pin (S,_) @y;have nI:=I2.pin (j,_) @S;have W:=Walks.list (prog:=X.prog) (w:=X.w) (A:=X.A.in1) hh j l av us.toArray
 have U:s2.heap.IsList l us.toArray:=by
  obtain ⟨o,a,b⟩:=ab;rw [<-au];exact ⟨o,Heap.get?_push_of_some _ (Heap.get?_push_of_some _ a),b⟩
 rwa[codeAny_builtin PySem.F.entry_min_loop ?_];rw [Around.under_plainId PySem.F.plain_min_loop _];show wpAny _ X.A.in1 (seqItems? (.ref S)>>=_) _ _ _;rwa[wpAny_bind @cQ];show wpAny _ X.A.in1 (tryCatch (pyNext (.ref j)) _>>=_) _ _ _;by_cases hx:xs=[]
 ·rwa[wpAny_bind (wpAny_tryCatch (W.done _ _ _ ⟨by rw [ae,hx];exact ⟨_,nI.1,rfl,rfl⟩,U⟩ λh1 L O=> ?_))]
  have I3:aA X pins σ H {s2 with heap:=h1,toks:=L}:=(I2.sub λp G=> .tail _ (.tail _ G)).turned (it:=j) (λb u n e=>O b u (by simpa using n) e) nI.2.1 nI.2.2.1 (.inr an) (λx c e z=>by
   obtain ⟨v,oc,h1,h2⟩:=I2.cell x c e;rw [z,nI.1] at h1;cases h1
   exact nI.2.2.2.2 v h2) ah
  exact wpAny_bind (wpAny_rule (wpAny_pure ⟨d,H,I3,rd,h0 hx⟩))
 have Y:0<xs.length:=length_pos_iff.mpr hx;rwa[wpAny_bind (wpAny_tryCatch (W.item 0 _ _ _ (by rw [ae];exact Y) ⟨⟨_,nI.1,rfl,rfl⟩,U⟩ λu h1 L hP aj O=> ?_))]
 have aE:us[0]? =some u:=by simpa using hP
 obtain ⟨v1,ao⟩:∃v1,xs[0]? =some v1:=⟨_,getElem?_eq_getElem Y⟩
 have aG:xs.length=gs.length:=by rw [hG,length_map]
 obtain ⟨g1,ag⟩:∃g1,gs[0]? =some g1:=⟨_,getElem?_eq_getElem @c⟩
 have aw:aF v1 u:=by
  obtain ⟨u',ad,ru⟩:=am.get ao;rw [aE] at ad;cases ad;exact ru
 obtain ⟨R,al,aB,as⟩:=id aj.1;have O:∀b u,b≠j->s2.heap.get? b=some u->h1.get? b=some u:=λb u n e=>O b u (by simpa using n) e
 have af:∀ {a b:Addr×Obj},∀p∈a::b::pins,p∈b::a::pins:=λ{a b} p G=>by
  rcases mem_cons.mp G with rfl|G
  ·exact .tail _ (.head _)
  ·rcases mem_cons.mp G with rfl|G
   ·exact .head _
   ·exact .tail _ (.tail _ G)
 have I3:aA X ((S,seqObj "list" #[] 0)::(j,R)::pins) σ H {s2 with heap:=h1,toks:=L}:=
  ((I2.sub af).repin (t':=L) an (λp G=>by
    rcases mem_append.mp G with G|G
    ·exact ah p @bT
    ·rcases mem_cons.mp G with rfl|G
     ·exact aa
     ·exact ah p @bO) O al λv e=>by rw [as] at e;cases e).sub af
 have az:=I3.pin (S,_) @y;have aC:=I3.pin (j,R) @S;have s1:=Heap.SameBut.update h1 S (Obj.mapSeq λ_=> #[u,u]);obtain ⟨c2,ax⟩:∃c2,(h1.update S (Obj.mapSeq λ_=> #[u,u])).get? S=some (seqObj "list" #[u,u] c2):=⟨_,get?_update_seq az.1 λ_=> #[u,u]⟩;show wpAny _ X.A.in1 (updateSeq S (λ_=> #[u,u])>>=_) _ _ _;rwa[wpAny_bind ?_];rwa[wpAny_updateSeq az.1 rfl ?_];rw [Z];rwa[wpAny_pure ⟨plainId_quiet PySem.F.plain_min_loop _,Ka hh hu ai hG an aq ah ak aa (λi v u g s' hv hg ru hb I=>⟨v,H,I,ru,hQ i v g hv hg hb⟩) _ 0 0 _ v1 g1 u c2 R rfl Y (I3.repin (t':=L) aq (λp G=> ?_) (λb u n e=>(s1.2 b n).trans e) ax λv e=>by cases e) ⟨R,(s1.2 _ aa.symm).trans aC.1,aB,as⟩ ao ag aw λj' h aH ar=> ?_⟩]
 ·rcases mem_append.mp G with G|G
  ·exact ak p @bT
  ·rcases mem_cons.mp G with rfl|G
   ·exact aa.symm
   ·exact ak p @bO
 ·have e:j'=0:=by lia
  subst e;rw [ag] at ar;cases ar;exact decide_eq_false (Int.lt_irrefl _)
def PH (K:Fg)(te td:TE):TE:=λσ H Q=>te σ H λx H1=>td σ H1 λd H2=>
 ∃l ns,x= .ref l/\H2 l=some (.lst (List.map V.int ns))/\(ns=[]->Q d H2)/\∀n∈ns,(∀m∈ns,n<=m)->Q (.int n) H2
theorem Bp {X:Cx}{K:Fg}{k:Nat}{p pos J:Pos}{e D:Expr}{te td:TE}(S:X.K=K)(Y:X.calm=true)(hg:Gl X "min")(F:X.mg "min"=none)(hr:cr k X.A)
(he:PE X e te)(W:PE X D td)(hs:bH e=true:=by rfl):
 PE X (.Call (.Name "min" p) [e] [⟨some "default",D,J⟩] pos) (PH K te td):=by
 subst S;intro pins s σ H Q I h;have st:starEach [e] X.env=[(false,eval e X.env)]:=aS hs;rwa[wpAny_Call_Name_kw (ik I hg F boot_min ?_)];rwa[callWith_kw (env:=X.env) ?_ (by rw [st];rfl) (by rw [st];rfl)];rw [st];show wpAny _ _ (spliced ((false,eval e X.env)::backTo pos @cP)) _ _ s;rwa[Calls.spliced_cons (bP @cw λu R j=> ?_)];obtain ⟨x,H1,I1,L,q1⟩:=j;rwa[Calls.spliced_nil ?_];rwa[kws_cons (bP (W pins R σ H1 _ I1 q1) λud s3 j=> ?_)];obtain ⟨d,H3,U,Z,q3⟩:=j;rwa[kws_nil ?_];obtain ⟨l,ns,rfl,G,h0,h1⟩:=q3;have L:u=Value.ref l:=L;subst L;rwa[NE (I.ok.hd Y) (by have:=hr.un;lia) U G Z (λz=>h0 (map_eq_nil_iff.mp z)) rfl λi v n hv O hb=> ?_];obtain rfl:=N1 rfl hv O;rwa[h1 n (mem_of_getElem? O) λm F=> ?_];have:=hb m F;have:decide (m<n)=false:=this;have:=of_decide_eq_false this;lia
def NF (K:Frag)(x:Str)(st:Stmt)(f:Addr):Prop:=nsIn K mainGlobals x=some @Z/\∃fd,bt K x x st f fd
def MF (K:Frag)(C:Addr)(x q:Str)(st:Stmt)(f:Addr):Prop:=HV K C x f/\∃fd,bt K x q st f fd
theorem Qv {K:Frag}{x:Str}{st:Stmt}{f:Addr}{J:Value}{od W:Option Addr}{aa:Array @bj}{Z R F j Y:Value}(a:nsIn K mainGlobals x=some @Z)(l:K.lookup f=some ⟨J,od,.func (fnOf x x @fr @ei @cK .none Z R F W j Y),aa⟩)(c:codeIn K j x=true)(k:keepIn K (.ref f)=true):NF K x st f:=⟨a,_,AO l c k⟩
theorem QA {K:Frag}{C:Addr}{x q:Str}{st:Stmt}{f:Addr}{J:Value}{od W:Option Addr}{aa:Array @bj}{Z R F j Y:Value}(a:findIn K (.ref C) x=some @Z)(l:K.lookup f=some ⟨J,od,.func (fnOf x q @fr @ei @cK .none Z R F W j Y),aa⟩)(c:codeIn K j q=true)(k:keepIn K (.ref f)=true)(n:isFn K (.ref f)=true):MF K C x q st f:=⟨⟨a,n,k⟩,_,AO l c k⟩
structure tV (P:Program)(w:World)(K:Frag)(mg:Str->Option Value)(base:Heap)(h:Heap):Prop where
 X:K.In h
 G:h.Ns mainGlobals mg
def BA (x q:Str)(st:Stmt)(us:List Value)(ps:List Str):Prop:=∀(kV doc pm:Value) (an:Option Addr) (cdv ct:Value),bindArgs (fnOf x q @fr @ei @cK .none kV doc pm an cdv ct) ⟨us,[]⟩=pure @cm
def OI (x q:Str)(st:Stmt)(ps0:List Str):List Str->List Value->Prop
 |[],us=>BA x q st us ps0
 |_::ps,us=>∀a,OI x q st ps0 ps (us++[a])
def BN (x q:Str)(st:Stmt)(ps:List Str):Prop:=OI x q st ps ps []
theorem OI.all {x q:Str}{st:Stmt}{j:List Str}:∀ {ps:List Str} {us vs:List Value},OI x q st j ps us->vs.length=ps.length->BA x q st (us++vs) j
 |[],us,[],h,_=>by rw [append_nil];exact h
 |_::ps,us,v::vs,h,hl=>by
  have z:=OI.all (h v) (Nat.succ.inj hl);rw [append_assoc] at z;exact z
theorem BN.all {x q:Str}{st:Stmt}{ps:List Str}(h:BN x q st ps)(us:List Value)(W:us.length=ps.length):BA x q st us ps:=OI.all (us:=[]) h W
section
variable {P:Program}{w:World}{K:Frag}{mg:Str->Option Value}{base h:Heap}{x q:Str}{st:Stmt}{f C:Addr}{fd:FuncData}{ps:List Str}{n:Nat}{sp:Sp}
theorem bt.bn (F:bt K x q st f fd)(b:BN x q st ps):fU K fd ps []:=F.binds λZ R I W j Y z G=>b.all z G Z R I W j Y
theorem tV.gl (T:tV P w K mg base h){v:Value}(a:nsIn K mainGlobals x=some @bE):mg x=some v:=mg_of T.X T.G a
theorem tV.no (T:tV P w K mg base h)(a:nsIn K mainGlobals x=some none):mg x=none:=mg_none_of T.X T.G a
theorem tV.ok {CX:oA}(T:tV P w K mg base h)(o:ay P w K mg base CX n f fd ps sp):ay P w K mg base CX n f fd ps sp:=o
theorem tV.cal (T:tV P w K mg base h)(a:nsIn K mainGlobals x=some @Z)(F:bt K x x st f fd)(o:ay P w K mg base bd n f fd ps sp)(b:BN x x st ps:=by (repeat intro _);rfl):aV P w K mg base n x ps sp:=⟨_,_,o,F.bn b,F.kp,T.gl a⟩
theorem tV.calX (T:tV P w K mg base h)(a:nsIn K mainGlobals x=some @Z)(F:bt K x x st f fd)(o:ay P w K mg base @ck n f fd ps sp)(b:BN x x st ps:=by (repeat intro _);rfl):DS P w K mg base n x ps sp:=⟨_,_,o,F.bn b,F.kp,T.gl a⟩
theorem Sy {CX:oA}(F:bt K x q st f fd)(c:uY K C)(m:HV K C x f)(o:ay P w K mg base CX n f fd ps sp)(b:BN x q st ps:=by (repeat intro _);rfl):jS P w K mg base CX n x C sp:=⟨_,_,_,c,m,o,F.bn b⟩
theorem tV.mkc {CX:oA}{y:Str}(T:tV P w K mg base h)(F:bt K x q st f fd)(m:Mk K C f)(g:mg y=some (.ref C))(o:ay P w K mg base CX n f fd ps sp)(b:BN x q st ps:=by (repeat intro _);rfl):iK P w K mg base CX n y C sp:=⟨_,_,_,m,o,F.bn b,g⟩
theorem tV.cal' (T:tV P w K mg base h)(a:NF K x st f)(o:∀ {fd},bt K x x st f fd->ay P w K mg base bd n f fd ps sp)(b:BN x x st ps:=by (repeat intro _);rfl):aV P w K mg base n x ps sp:=let ⟨a,_,F⟩:=a;T.cal a F (o F) b
theorem tV.calX' (T:tV P w K mg base h)(a:NF K x st f)(o:∀ {fd},bt K x x st f fd->ay P w K mg base @ck n f fd ps sp)(b:BN x x st ps:=by (repeat intro _);rfl):DS P w K mg base n x ps sp:=let ⟨a,_,F⟩:=a;T.calX a F (o F) b
theorem tV.mcal' {D:Addr}{CX:oA}(T:tV P w K mg base h)(a:MF K D x q st f)(c:uY K C)(m:HV K C x f)(o:∀ {fd},bt K x q st f fd->ay P w K mg base CX n f fd ps sp)(b:BN x q st ps:=by (repeat intro _);rfl):jS P w K mg base CX n x C sp:=let ⟨_,_,F⟩:=a;Sy F c m (o F) b
theorem tV.mkc' {D:Addr}{CX:oA}{y:Str}(T:tV P w K mg base h)(a:MF K D x q st f)(m:Mk K C f)(g:mg y=some (.ref C))(o:∀ {fd},bt K x q st f fd->ay P w K mg base CX n f fd ps sp)(b:BN x q st ps:=by (repeat intro _);rfl):iK P w K mg base CX n y C sp:=let ⟨_,_,F⟩:=a;T.mkc F m g (o F) b
theorem bt.law {y:Str}(F:bt K x q st f fd)(b:BN x q st [y]:=by (repeat intro _);rfl)(s:Shared)(v:Value):BindsTo s fd ⟨[v],[]⟩ [(y,v)]:=by
 obtain ⟨J,L,Z,R,G,W,j,Y,aa,rfl,I,z⟩:=F.ex;exact .of_eq (b v Z R G W j Y)
end
theorem Tp {p:Prop}(h:p):p:=h
end L2
namespace My
open PySem L2 PyProof.Rows
seal PE PT PS uX PA PI PG DP Ip PW PO dA OD bj DX zc Ot HS
seal oa iY oG vD KM um BG kQ qv oF yh KR KZ yf Eo yj setL Ej AQ wT xj DT A5 iF BM IJ uE
seal DC nX AI L2.yp L2.putAt L2.wy gH Kt N7 NA Ri Hy KU vE Eu
seal Kf
def top (i:Nat):Stmt:=PySem.Challenge.pw_liftcourt_k36_a_lifts_turn.main.body.getD i (.Pass ⟨0,0,0,0⟩)
abbrev MD:Stmt:=top 2
theorem P0:aj ["k"] ["k"] (af MD):=by ac_rfl
abbrev MC:Stmt:=top 3
theorem PZ:aj ["mask","k"] ["mask","k"] (af MC):=by ac_rfl
abbrev qC:Stmt:=top 4
theorem Co:aj ["mask","k"] ["mask","k"] (af qC):=by ac_rfl
abbrev qB:Stmt:=top 5
theorem Cn:aj ["mask","k"] ["mask","k"] (af qB):=by ac_rfl
abbrev Ae:Stmt:=top 6
theorem Jh:aj ["mask","k"] ["mask","k"] (af Ae):=by ac_rfl
abbrev Af:Stmt:=top 7
theorem Ji:aj ["mask","k"] ["mask","k"] (af Af):=by ac_rfl
abbrev vO:Stmt:=top 8
theorem EU:aj ["numbers","mask","k"] ["numbers"] (af vO):=by ac_rfl
abbrev vQ:Stmt:=top 9
theorem EW:aj ["mask"] ["mask"] (af vQ):=by ac_rfl
abbrev vP:Stmt:=top 10
theorem EV:aj ["mask","numbers"] ["mask"] (af vP):=by ac_rfl
abbrev qM:Stmt:=top 11
theorem Cw:aj ["mask"] ["mask"] (af qM):=by ac_rfl
abbrev qN:Stmt:=top 13
theorem Cy:aj ["cabin"] ["cabin"] (af qN):=by ac_rfl
abbrev ib:Stmt:=top 14
theorem tJ:aj ["cabin"] ["cabin"] (af ib):=by ac_rfl
abbrev zW:Stmt:=top 15
theorem IZ:aj ["start","goal"] ["start","goal"] (af zW):=by ac_rfl
abbrev qE:Stmt:=top 16
theorem Cq:aj ["room","cabin","riders","goals"] ["room","cabin","riders"] (af qE):=by ac_rfl
abbrev kE:Stmt:=top 17
theorem oK:aj ["floor","light","riders","ways"] ["floor","light","riders"] (af kE):=by ac_rfl
abbrev v7:Stmt:=top 18
theorem E6:aj ["sort","cabin","tasks","riders","floor","light"] ["sort","cabin","tasks","riders"] (af v7):=by ac_rfl
abbrev Fc:Stmt:=top 19
theorem Mv:aj ["sort","room","cabin","riders","floor","tasks","next_up","next_down","up","down"] ["sort","room","cabin","riders"] (af Fc):=by ac_rfl
abbrev vJ:Stmt:=top 20
theorem ER:aj ["sort","cabin","word","goals","light"] ["sort","cabin","word"] (af vJ):=by ac_rfl
abbrev qP:Stmt:=top 21
theorem CC:aj ["floors","cabin","word"] ["floors","cabin","word"] (af qP):=by ac_rfl
abbrev hI:Stmt:=top 22
theorem tD:aj ["cabin","place","light","door"] ["cabin","place","light","door"] (af hI):=by ac_rfl
abbrev qG:Stmt:=top 23
theorem Cr:aj ["sort","floors","turns","cabin","word","place","light","door","done"] ["sort","floors","turns","cabin","word"] (af qG):=by ac_rfl
abbrev kz:Stmt:=top 24
theorem xQ:aj ["sort","light","start","goal"] ["sort","light","start","goal"] (af kz):=by ac_rfl
abbrev kF:Stmt:=top 25
theorem dJ:aj ["sort","room","cabin","riders","floor","light","outs","ins","aboard","tag","start","goal","lift"] ["sort","room","cabin","riders"] (af kF):=by ac_rfl
abbrev gw:Stmt:=top 37
theorem qw:aj ["text"] ["text"] (af gw):=by ac_rfl
abbrev m6:Stmt:=top 38
theorem zL:aj ["text"] ["text"] (af m6):=by ac_rfl
abbrev kA:Stmt:=top 42
theorem xU:aj ["cabin"] ["cabin"] (af kA):=by ac_rfl
abbrev hV:Stmt:=top 44
theorem tG:aj ["cabins","first","many","step","lift"] ["cabins","first"] (af hV):=by ac_rfl
abbrev Bm:Stmt:=top 48
abbrev cA:Stmt:=top 49
theorem Cz:aj ["lifts"] ["lifts"] (af cA):=by ac_rfl
abbrev kq:Stmt:=top 50
theorem oH:aj ["words","house","lifts"] ["words","house"] (af kq):=by ac_rfl
abbrev nK:Stmt:=top 51
theorem zV:aj ["text","house","words","lifts"] ["text","house"] (af nK):=by ac_rfl
abbrev kt:Stmt:=top 53
theorem xP:aj ["house","floor"] ["house","floor"] (af kt):=by ac_rfl
abbrev m8:Stmt:=top 54
theorem zN:aj ["house","lift"] ["house","lift"] (af m8):=by ac_rfl
abbrev m7:Stmt:=top 55
theorem zM:aj ["house","start","goal"] ["house","start","goal"] (af m7):=by ac_rfl
abbrev m9:Stmt:=top 56
theorem zO:aj ["house","deed"] ["house","deed"] (af m9):=by ac_rfl
abbrev v8:Stmt:=top 61
theorem E7:aj ["kind","turns"] ["kind","turns"] (af v8):=by ac_rfl
abbrev vM:Stmt:=top 63
theorem ET:aj ["house","lift"] ["house","lift"] (af vM):=by ac_rfl
abbrev qD:Stmt:=top 64
theorem Cp:aj ["house","lift"] ["house","lift"] (af qD):=by ac_rfl
abbrev v6:Stmt:=top 65
theorem E5:aj ["house","lift"] ["house","lift"] (af v6):=by ac_rfl
abbrev qH:Stmt:=top 70
theorem Cs:aj ["moment"] ["moment"] (af qH):=by ac_rfl
abbrev vK:Stmt:=top 71
theorem xM:aj ["state","tags","place","light","door","marks","aboard"] ["state"] (af vK):=by ac_rfl
abbrev ky:Stmt:=top 72
theorem oJ:aj ["house","state","deeds","taken","deed"] ["house","state","deeds"] (af ky):=by ac_rfl
abbrev wb:Stmt:=top 73
theorem E9:aj ["moment","tag","start","goal","key"] ["moment","tag","start","goal","key"] (af wb):=by ac_rfl
abbrev qO:Stmt:=top 74
theorem CA:aj ["rider","lift"] ["rider","lift"] (af qO):=by ac_rfl
abbrev ki:Stmt:=top 75
theorem xL:aj ["cabin","marks"] ["cabin","marks"] (af ki):=by ac_rfl
abbrev qI:Stmt:=top 76
theorem Ct:aj ["moment","lift","mark","cabin"] ["moment","lift","mark"] (af qI):=by ac_rfl
abbrev nh:Stmt:=top 77
theorem zP:aj ["moment","lift","mark","cabin"] ["moment","lift","mark"] (af nh):=by ac_rfl
abbrev wa:Stmt:=top 81
theorem E8:aj ["moment","deed","name"] ["moment","deed"] (af wa):=by ac_rfl
abbrev Bn:Stmt:=top 82
theorem Fa:aj ["moment","dealer","place","rider","told"] ["moment","dealer","place","rider"] (af Bn):=by ac_rfl
abbrev lL:Stmt:=top 83
theorem CB:aj ["moment","dealer","place","rider"] ["moment","dealer"] (af lL):=by ac_rfl
abbrev nj:Stmt:=top 84
theorem zQ:aj ["moment","word","tags","lift","floor"] ["moment","word","tags","lift"] (af nj):=by ac_rfl
abbrev nz:Stmt:=top 87
theorem qA:aj ["moment","lift","riders","house","told","cabin","outs","ins","door","count"] ["moment","lift","riders"] (af nz):=by ac_rfl
abbrev nv:Stmt:=top 88
theorem qz:aj ["moment","rule","lift","riders","house","cabin","word"] ["moment","rule","lift","riders"] (af nv):=by ac_rfl
abbrev fG:Stmt:=top 89
theorem iG:aj ["moment","rule","lift","cabin","riders"] ["moment","rule","lift"] (af fG):=by ac_rfl
abbrev Sh:Stmt:=top 90
theorem Sg:aj ["moment","rule","lift"] ["moment","rule","lift"] (af Sh):=by ac_rfl
abbrev zX:Stmt:=top 96
theorem I9:aj ["light","here","up","down"] ["light","here","up","down"] (af zX):=by ac_rfl
abbrev qJ:Stmt:=top 97
theorem Cu:aj ["here","up","down"] ["here","up","down"] (af qJ):=by ac_rfl
abbrev m4:Stmt:=top 98
theorem zJ:aj ["top","floor","light","here","at_end"] ["top","floor","light","here"] (af m4):=by ac_rfl
abbrev gx:Stmt:=top 99
theorem qx:aj ["light","here","up","down"] ["light","here","up","down"] (af gx):=by ac_rfl
abbrev vL:Stmt:=top 105
theorem ES:aj ["text","floors"] ["text","floors"] (af vL):=by ac_rfl
abbrev Ad:Stmt:=top 107
theorem Jg:aj ["_law_script","_law_k"] ["_law_script","_law_k"] (af Ad):=by ac_rfl
abbrev Ac:Stmt:=top 108
theorem Jf:aj ["_law_script","_law_k","_law_prime","_law_many"] ["_law_script","_law_k","_law_prime","_law_many"] (af Ac):=by ac_rfl
abbrev vW:Stmt:=top 109
theorem xS:aj ["_law_script","_law_k","_law_most","_law_mixed"] ["_law_script","_law_k","_law_most"] (af vW):=by ac_rfl
abbrev vR:Stmt:=top 110
theorem EX:aj ["_law_thing"] ["_law_thing"] (af vR):=by ac_rfl
abbrev Fe:Stmt:=top 111
theorem Mx:aj ["_law_script","_law_number","_law_far"] ["_law_script","_law_number"] (af Fe):=by ac_rfl
abbrev z7:Stmt:=top 112
theorem Jc:aj ["_law_script","_law_at_here","_law_floors","_law_kind","_law_start"] ["_law_script","_law_at_here","_law_floors"] (af z7):=by ac_rfl
abbrev vV:Stmt:=top 113
theorem E1:aj ["_law_script","_law_most","_law_floors","_law_many","_law_locked","_law_sort"] ["_law_script","_law_most"] (af vV):=by ac_rfl
abbrev vX:Stmt:=top 114
theorem xT:aj ["_law_house_here","_law_place","_law_light","_law_fire","_law_floors"] ["_law_house_here","_law_place","_law_light","_law_fire"] (af vX):=by ac_rfl
abbrev v4:Stmt:=top 115
theorem i7:aj ["_law_script","_law_at_here","_law_house_here","_law_number","_law_fire","_law_lift_here","_law_place","_law_light","_law_count_here","_law_door","_law_marks","_law_goals_here","_law_aboard","_law_k","_law_goal"] ["_law_script","_law_at_here","_law_house_here","_law_number","_law_fire"] (af v4):=by ac_rfl
abbrev vU:Stmt:=top 116
theorem EY:aj ["_law_script","_law_at_here","_law_house_here","_law_tag_here","_law_lifts","_law_start","_law_goal"] ["_law_script","_law_at_here","_law_house_here","_law_tag_here","_law_lifts"] (af vU):=by ac_rfl
abbrev vT:Stmt:=top 117
theorem qy:aj ["_law_script","_law_house_here","_law_fire","_law_cabins","_law_lifts","_law_waiting","_law_k"] ["_law_script","_law_house_here","_law_fire"] (af vT):=by ac_rfl
abbrev nu:Stmt:=top 118
theorem zS:aj ["_law_script","_law_at_here"] ["_law_script","_law_at_here"] (af nu):=by ac_rfl
abbrev qL:Stmt:=top 119
theorem Cv:aj ["_law_cabins","_law_lift_here","_law_many","_law_step"] ["_law_cabins","_law_lift_here"] (af qL):=by ac_rfl
abbrev MA:Stmt:=top 120
theorem PY:aj ["_law_cabins","_law_lift_here"] ["_law_cabins","_law_lift_here"] (af MA):=by ac_rfl
abbrev z6:Stmt:=top 121
theorem Jb:aj ["_law_log","_law_row","_law_number"] ["_law_log"] (af z6):=by ac_rfl
abbrev Fd:Stmt:=top 122
theorem Mw:aj ["_law_rider_here"] ["_law_rider_here"] (af Fd):=by ac_rfl
abbrev vS:Stmt:=top 123
theorem xR:aj ["_law_lift_here","_law_cabin_here","_law_riders","_law_tasks_here"] ["_law_lift_here","_law_cabin_here","_law_riders"] (af vS):=by ac_rfl
abbrev z8:Stmt:=top 124
theorem Jd:aj ["_law_sort","_law_cabin_here","_law_riders","_law_tasks_here","_law_floor"] ["_law_sort","_law_cabin_here","_law_riders","_law_tasks_here"] (af z8):=by ac_rfl
abbrev z5:Stmt:=top 125
theorem vG:aj ["_law_sort","_law_lift_here","_law_cabin_here","_law_riders","_law_floor","_law_tasks_here","_law_ups","_law_downs","_law_here_here"] ["_law_sort","_law_lift_here","_law_cabin_here","_law_riders"] (af z5):=by ac_rfl
abbrev ia:Stmt:=top 126
theorem tI:aj ["_law_name","_law_top","_law_seen_here","_law_floor","_law_light","_law_here_here","_law_up","_law_down"] ["_law_name","_law_top","_law_seen_here"] (af ia):=by ac_rfl
abbrev Ab:Stmt:=top 127
theorem Je:aj ["_law_name","_law_top","_law_seen_here","_law_floor","_law_light","_law_here_here","_law_up","_law_down"] ["_law_name","_law_top","_law_seen_here"] (af Ab):=by ac_rfl
abbrev zY:Stmt:=top 128
theorem Ja:aj ["_law_name","_law_letters_here","_law_top","_law_seen_here"] ["_law_name","_law_letters_here","_law_top","_law_seen_here"] (af zY):=by ac_rfl
abbrev Ff:Stmt:=top 129
theorem EZ:aj ["_law_house_here","_law_cabin_here","_law_letter","_law_goals_here"] ["_law_house_here","_law_cabin_here","_law_letter"] (af Ff):=by ac_rfl
abbrev Aa:Stmt:=top 130
theorem vH:aj ["_law_house_here","_law_k","_law_rule","_law_cabin_here","_law_riders","_law_place","_law_light","_law_door","_law_marks","_law_aboard","_law_seen_here","_law_letter","_law_step"] ["_law_house_here","_law_k","_law_rule","_law_cabin_here","_law_riders"] (af Aa):=by ac_rfl
abbrev nq:Stmt:=top 131
theorem zR:aj ["_law_house_here","_law_k","_law_cabin_here","_law_one"] ["_law_house_here","_law_k","_law_cabin_here","_law_one"] (af nq):=by ac_rfl
abbrev vZ:Stmt:=top 132
theorem E3:aj ["_law_lift_here","_law_door","_law_blocked","_law_stepped"] ["_law_lift_here","_law_door","_law_blocked","_law_stepped"] (af vZ):=by ac_rfl
abbrev qK:Stmt:=top 133
theorem mX:aj ["_law_house_here","_law_k","_law_cabin_here","_law_riders","_law_blocked","_law_floor","_law_log","_law_one","_law_light","_law_door"] ["_law_house_here","_law_k","_law_cabin_here","_law_riders","_law_blocked"] (af qK):=by ac_rfl
abbrev ja:Stmt:=top 134
theorem dS:aj ["_law_state_here","_law_deeds_here","_law_cabins","_law_waiting","_law_deed","_law_marks"] ["_law_state_here","_law_deeds_here"] (af ja):=by ac_rfl
abbrev zZ:Stmt:=top 135
theorem gj:aj ["_law_house_here","_law_rule","_law_numbers","_law_state_here","_law_deeds_here","_law_cabins","_law_waiting","_law_log","_law_at_here","_law_one","_law_k","_law_riders","_law_more","_law_ins"] ["_law_house_here","_law_rule","_law_numbers","_law_state_here","_law_deeds_here"] (af zZ):=by ac_rfl
abbrev vY:Stmt:=top 136
theorem E2:aj ["_law_script","_law_at_here","_law_house_here","_law_tag_here","_law_deeds_here","_law_one","_law_way_here","_law_word_here"] ["_law_script","_law_at_here","_law_house_here","_law_tag_here"] (af vY):=by ac_rfl
abbrev v5:Stmt:=top 137
theorem E4:aj ["_law_told","_law_due","_law_cabin_here","_law_number"] ["_law_told","_law_due"] (af v5):=by ac_rfl
abbrev Mz:Stmt:=top 138
theorem uo:aj ["_law_script","_law_house_here","_law_state_here","_law_rule","_law_told_rule","_law_numbers","_law_court","_law_k","_law_deeds_here","_law_due","_law_told"] ["_law_script"] (af Mz):=by ac_rfl
noncomputable abbrev nJ:Stmt:=gm (top 58) 0
theorem zU:aj ["self","turns"] ["self","turns"] (af nJ):=by ac_rfl
noncomputable abbrev nF:Stmt:=gm (top 58) 1
theorem zT:aj ["self","count","blocked","stepped"] ["self","count","blocked","stepped"] (af nF):=by ac_rfl
noncomputable abbrev kB:Stmt:=gm (top 59) 0
theorem xV:aj ["self","count","blocked","stepped"] ["self","count","blocked","stepped"] (af kB):=by ac_rfl
noncomputable abbrev mZ:Stmt:=gm (top 60) 0
theorem zI:aj ["self","count","blocked","stepped"] ["self","count","blocked","stepped"] (af mZ):=by ac_rfl
noncomputable abbrev i8:Stmt:=gm (top 69) 0
theorem vF:aj ["self","house","state"] ["self","house","state"] (af i8):=by ac_rfl
noncomputable abbrev kI:Stmt:=gm (top 91) 0
theorem xW:aj ["self","house","rule","dealer"] ["self","house","rule","dealer"] (af kI):=by ac_rfl
noncomputable abbrev ie:Stmt:=gm (top 91) 2
theorem oM:aj ["self","state","deeds","moment","deed","lift"] ["self","state","deeds"] (af ie):=by ac_rfl
noncomputable abbrev m5:Stmt:=gm (top 100) 0
theorem zK:aj ["self","seen"] ["self","seen"] (af m5):=by ac_rfl
noncomputable abbrev jb:Stmt:=gm (top 101) 0
theorem vI:aj ["self","seen","told"] ["self","seen"] (af jb):=by ac_rfl
noncomputable abbrev hZ:Stmt:=gm (top 102) 0
theorem tH:aj ["self","seen"] ["self","seen"] (af hZ):=by ac_rfl
noncomputable abbrev hU:Stmt:=gm (top 103) 0
theorem tF:aj ["self","top"] ["self","top"] (af hU):=by ac_rfl
noncomputable abbrev hJ:Stmt:=gm (top 103) 1
theorem tE:aj ["self","seen"] ["self","seen"] (af hJ):=by ac_rfl
noncomputable abbrev km:Stmt:=gm (top 104) 0
theorem xO:aj ["self","letters"] ["self","letters"] (af km):=by ac_rfl
noncomputable abbrev kj:Stmt:=gm (top 104) 1
theorem xN:aj ["self","seen"] ["self","seen"] (af kj):=by ac_rfl
section
variable {P:Program}{w:World}{K:Fg}{mg:Str->Option Value}{base:Heap}{f:Addr}{fd:FuncData}
theorem zq {n:Nat}(h:n<1000000):n<sizeLine:=by rw [sizeLine_eq];lia
def xq (K:Fg)(H:Hp)(a:Addr)(ns:List Int):Prop:=SX K H a ns/\∀i∈ns,Builtin.Int.intBits i<=2^20
theorem xq.same {H H':Hp}{a:Addr}{R:List Int}(h:xq K H a R)(s:aq H H'):xq K H' a R:=⟨⟨s.seq h.1.1,h.1.2⟩,h.2⟩
noncomputable def yD (ns:List Int)(k:Int):Int:=if k<(ns.length:Int) then ns.getD k.toNat 0 else 0
noncomputable def SI (ns:List Int)(k p m:Int):Int:=(yD ns k*48271+7919*k*k+11)% p% m
noncomputable def S4 (ns:List Int)(k m:Int):Int:=(yD ns k*48271+7919*k*k+11)*(2305843009213693951^(4:Int).toNat)% (m+1)
inductive qr (K:Fg)(vs:List V)(H:Hp)(Q:VK)(_e:XK):Prop
 |mk (a ns k:_) (_:vs=[.ref a,.int k]) (_:xq K H a ns) (_:0<=k) (_:∀i:Int,i=yD ns k->Builtin.Int.intBits i<=2^20->Q (.int i) H)
abbrev Z0:=λK n s f fd=>bt K n n s f fd
theorem JX (F:Z0 K "_law_cell" Ad f fd)(L:mg "len"=none):ay P w K mg base bd 1 f fd ["_law_script","_law_k"] (qr K):=by
 rwa[F.ok Jg (by symm) (λz A outer s H O Q E J h=> ?_)];obtain ⟨a,R,k,rfl,⟨⟨S,I⟩,j⟩,G,q⟩:=h;rwa[⟨_,(aa @W @bQ),?_⟩];erw[bZ S ?_];rw [length_map];rwa[cB @gC @gC]
 ·ext;rwa[aW S (HK G W) (q _ (by unfold yD;rw [if_pos W]) (j _ ?_))]
  first|exact getElem_mem _|exact List.get_mem _ _|(rw [getD_eq_getElem?_getD,getElem?_eq_getElem @c];exact getElem_mem _)
 ·exact q 0 (by unfold yD;rw [if_neg W]) @b
inductive mT (K:Fg)(vs:List V)(H:Hp)(Q:VK)(_e:XK):Prop
 |mk (a ns k p m:_) (_:vs=[.ref a,.int k,.int p,.int m]) (_:xq K H a ns) (_:0<=k) (_:k<1000) (_:0<p) (_:0<m) (_:∀i:Int,i=SI ns k p m->0<=i->i<m->Q (.int i) H)
theorem kR {H:Hp}{a:Addr}{R:List Int}{k p m:Int}{Q:VK}{E:XK}(h1:xq K H a R)(h2:0<=k)(L:k<1000)(j:0<p)(U:0<m)(g:∀i:Int,0<=i->i<m->Q (.int i) H):mT K [.ref a,.int k,.int p,.int m] H Q E:=⟨a,R,k,p,m,rfl,h1,h2,L,j,U,λi _=>g i⟩
theorem Qr (F:Z0 K "_law_draw" Ac f fd)(O:aV P w K mg base 1 "_law_cell" ["_law_script","_law_k"] (qr K)):ay P w K mg base bd 2 f fd ["_law_script","_law_k","_law_prime","_law_many"] (mT K):=by
 rwa[F.ok Jf (by symm) (λj A outer s H W Q E L h=> ?_)];obtain ⟨a,R,k,p,m,rfl,S,I,U,J,G,q⟩:=h;rwa[⟨_,@j,?_⟩];rwa[qr.mk _ _ _ rfl S I λi z hi=> ?_];rwa[⟨io @b @b,du @b @b,io @c @c,by lia,by lia,?_⟩];exact q _ (by rw [z];rfl) (Int.emod_nonneg _ @c) (Int.emod_lt_of_pos _ G)
inductive Ml (K:Fg)(vs:List V)(H:Hp)(Q:VK)(_e:XK):Prop
 |mk (a ns k m:_) (_:vs=[.ref a,.int k,.int m]) (_:xq K H a ns) (_:0<=k) (_:k<1000) (_:0<=m) (_:∀i:Int,i=S4 ns k m->0<=i->i<=m->Q (.int i) H)
theorem Qp (F:Z0 K "_law_great" vW f fd)(O:aV P w K mg base 1 "_law_cell" ["_law_script","_law_k"] (qr K)):ay P w K mg base bd 2 f fd ["_law_script","_law_k","_law_most"] (Ml K):=by
 rwa[F.ok xS (by symm) @bw];obtain ⟨a,R,k,m,rfl,z,G,L,J,q⟩:=h;rwa[⟨_,(aa (bF (i:=3) xS.nd rfl @l (bR @cu (bR @cu (bR ve (b9 O S @b rfl (ar (wv 0) @bz)) aB) (bR ve (bR ve aB (wv 1)) (wv 1))) aB)) (ac (ai (bR A9 (bR ve (wv 3) (bR K5 aB aB)) (bR @cu (wv 2) aB))))),?_⟩];rwa[qr.mk _ _ _ rfl z G λi I hi=> ?_];rwa[⟨(io @b @b).ok,(du @b @b).ok,(io @c @c).ok,?_⟩];rwa[⟨yA @b @b @b,GH hi G L,?_⟩];rwa[⟨by lia,?_⟩];exact q _ (by rw [I];rfl) (Int.emod_nonneg _ @c) (Int.le_of_lt_add_one (Int.emod_lt_of_pos _ @c))
inductive lz (vs:List V)(H:Hp)(Q:VK)(_e:XK):Prop
 |mk (i:Int) (_:vs=[.int i]) (_:Q (.bl true) H)
theorem FK (F:Z0 K "_law_whole" vR f fd)(j:mg "isinstance"=none)(I:mg "int"=none)(z:mg "bool"=none):ay P w K mg base bd 1 f fd ["_law_thing"] lz:=by
 rwa[F.ok EX (by symm) @bc];obtain ⟨i,rfl,q⟩:=h;rwa[⟨_,(ac (ai (D8 (bb (zh rfl) rfl j boot_isinstance (ar (wv 0) (ar (ii (v:= .ty "int") rfl I boot_int rfl) ao))) (Fz (D6 rfl (bb (zh rfl) rfl j boot_isinstance (ar (wv 0) (ar (ii (v:= .ty "bool") rfl z boot_bool rfl) ao)))))))),?_⟩];rwa[⟨rfl,aP rfl ⟨rfl,q⟩⟩]
noncomputable def QK (ns:List Int):Int:=S4 ns 5 ((10:Int)^(57:Int).toNat)
noncomputable def gC (ns:List Int)(n:Int):Int:=if SI ns 5 50021 3=0 then n else if SI ns 5 50021 3=1 then QK ns*100+n else n*(10:Int)^(58:Int).toNat+QK ns
theorem IH {R:List Int}{m n:Int}(h:gC R m=gC R n):m=n:=by
 unfold gC at h;split at h
 ·exact h
 ·split at h
  ·lia
  ·have e:(10:Int)^(58:Int).toNat=10000000000000000000000000000000000000000000000000000000000:=by decide
   rw [e] at h;lia
inductive qd (K:Fg)(vs:List V)(H:Hp)(Q:VK)(_e:XK):Prop
 |mk (a ns k:_) (_:vs=[.ref a,.int k]) (_:xq K H a ns) (_:0<=k) (_:k<1000) (_:∀i:Int,i=gC ns k->Q (.int i) H)
abbrev Z00:=λP w K mg base=>aV P w K mg base 2 "_law_draw" ["_law_script","_law_k","_law_prime","_law_many"] (mT K)
theorem Nc (F:Z0 K "_law_tag" Fe f fd)(R:Z00 P w K mg base)(O:aV P w K mg base 2 "_law_great" ["_law_script","_law_k","_law_most"] (Ml K)):ay P w K mg base bd 3 f fd ["_law_script","_law_number"] (qd K):=by
 rwa[F.ok Mx (by symm) (λJ A outer s H vs Q E W h=> ?_)];obtain ⟨a,ns,k,rfl,S,k0,k1,q⟩:=h;rwa[⟨_,(aa @a (aa @gg @fs)),?_⟩];rwa[⟨yA @b @b @b,?_⟩];rwa[Ml.mk _ _ _ _ rfl S @b @b @b λx ex x0 Y=> ?_];rwa[mT.mk _ _ _ _ _ rfl S @b @b @b @b λi G L i1=> ?_];rwa[cB @i @i]
 ·have z:i=0:=z;exact q _ (by unfold gC;rw [if_pos (by rw [<-G];exact z)])
 have z: ¬i=0:=z;rwa[mT.mk _ _ _ _ _ rfl S @b @b @b @b λj I Z U=> ?_];rwa[cB @cn @cn]
 ·have y:j=1:=y;exact ⟨io @b @b,q _ (by unfold gC;rw [if_neg (by rw [<-G];exact z),if_pos (by rw [<-I];exact y),ex];rfl)⟩
 ·have y: ¬j=1:=y;rwa[⟨yA @b @b @b,?_⟩];exact ⟨du @c @c,q _ (by unfold gC;rw [if_neg (by rw [<-G];exact z),if_neg (by rw [<-I];exact y),ex];rfl)⟩
noncomputable def vN (ks:List Nat):List V:=ks.map λk:Nat=>V.int (k:Int)
noncomputable def Qd:Option Nat->V
 |none=> .non
 |some n=> .int (n:Int)
theorem Jt (n:Nat):(1:Int)*2^((n:Int)).toNat=((2^n:Nat):Int):=by rw [Int.toNat_natCast,Int.natCast_pow];simp
inductive lJ (vs:List V)(H:Hp)(Q:VK)(_e:XK):Prop
 |mk (n:Nat) (_:vs=[.int (n:Int)]) (_:n<=1000) (_:Q (.int ((2^n:Nat):Int)) H)
theorem Nr (F:Z0 K "bit" MD f fd):ay P w K mg base bd 1 f fd ["k"] lJ:=by
 rwa[F.ok P0 (by symm) @n];obtain ⟨n,rfl,z,q⟩:=h;rwa[⟨_,@j,?_⟩];rwa[⟨yA @c @c @b,?_⟩];rw [<-Jt] at q;exact q
inductive fZ (vs:List V)(H:Hp)(Q:VK)(_e:XK):Prop
 |mk (M n:Nat) (_:vs=[.int (M:Int),.int (n:Int)]) (_:n<=1000) (_:Q (.bl (M.testBit n)) H)
theorem Nn (F:Z0 K "has" MC f fd)(G:aV P w K mg base 1 "bit" ["k"] lJ):ay P w K mg base bd 2 f fd ["mask","k"] fZ:=by
 rwa[F.ok PZ (by symm) @n];obtain ⟨M,n,rfl,z,q⟩:=h;rwa[⟨_,@j,?_⟩];rwa[cZ @c ?_];rwa[lJ.mk _ rfl z ?_];show Q (.bl (!decide (Builtin.bitAnd (M:Int) ((2^n:Nat):Int)=0))) H;rw [KW]
 have e:decide (((M&&&2^n:Nat):Int)=0)= !M.testBit n:=by
  rw [<-testBit_and];exact decide_eq_decide.mpr @c
 rw [e,Bool.not_not];exact q
inductive g8 (vs:List V)(H:Hp)(Q:VK)(_e:XK):Prop
 |mk (M n:Nat) (_:vs=[.int (M:Int),.int (n:Int)]) (_:n<=1000) (_:Q (.int ((M|||2^n:Nat):Int)) H)
theorem FJ (F:Z0 K "with_bit" qC f fd)(G:aV P w K mg base 1 "bit" ["k"] lJ):ay P w K mg base bd 2 f fd ["mask","k"] g8:=by
 rwa[F.ok Co (by symm) @n];obtain ⟨M,n,rfl,z,q⟩:=h;rwa[⟨_,@j,?_⟩];rwa[lJ.mk _ rfl z ?_];rw [<-MV] at q;exact q
inductive lK (vs:List V)(H:Hp)(Q:VK)(_e:XK):Prop
 |mk (M n:Nat) (_:vs=[.int (M:Int),.int (n:Int)]) (_:n<=1000) (_:Q (.int ((M% 2^n:Nat):Int)) H)
theorem Gd (F:Z0 K "below" Ae f fd)(G:aV P w K mg base 1 "bit" ["k"] lJ):ay P w K mg base bd 2 f fd ["mask","k"] lK:=by
 rwa[F.ok Jh (by symm) @n];obtain ⟨M,n,rfl,z,q⟩:=h;rwa[⟨_,(aa @gh @j),?_⟩];rwa[bB @c ?_];rwa[lJ.mk _ rfl z ⟨?_,?_⟩]
 ·have:=Nat.two_pow_pos n;lia
 ·rw [Int.natCast_emod] at q;exact q
inductive vB (vs:List V)(H:Hp)(Q:VK)(_e:XK):Prop
 |mk (M n:Nat) (_:vs=[.int (M:Int),.int (n:Int)]) (_:n<1000) (_:Q (.int ((M - M% 2^(n+1):Nat):Int)) H)
theorem Gf (F:Z0 K "above" Af f fd)(G:aV P w K mg base 2 "below" ["mask","k"] lK):ay P w K mg base bd 3 f fd ["mask","k"] vB:=by
 rwa[F.ok Ji (by symm) @n];obtain ⟨M,n,rfl,z,q⟩:=h;rwa[⟨_,@j,?_⟩];rwa[lK.mk _ (n+1) rfl z ?_]
 have e:((M - M% 2^(n+1):Nat):Int)=(M:Int) - ((M% 2^(n+1):Nat):Int):=by
  have:=Nat.mod_le M (2^(n+1));lia
 rw [e] at q;exact q
inductive lG (K:Fg)(vs:List V)(H:Hp)(Q:VK)(_e:XK):Prop
 |mk (p:Addr) (ks:List Nat) (_:vs=[.ref p]) (_:aC K H p (vN ks)) (_:(∀k∈ks,k<=1000)) (_:Q (.int (oN ks:Int)) H)
theorem LZ {ks:List Nat}{i:Nat}{x:V}(h:(vN ks)[i]? =some x):∃k,ks[i]? =some k/\x=V.int (k:Int):=by
 unfold vN at h;rw [getElem?_map] at h
 cases e:ks[i]? with
 |none=>rw [e] at h;cases h
 |some k=>rw [e] at h;exact ⟨k,rfl,(Option.some.inj h).symm⟩
theorem Ei (ks:List Nat):(vN ks).length=ks.length:=length_map _
theorem CM (F:Z0 K "mask_of" vO f fd)(J:aV P w K mg base 2 "with_bit" ["mask","k"] g8):ay P w K mg base bd 3 f fd ["numbers"] (lG K):=by
 rwa[F.ok EU (by symm) (λG A outer s H L Q E I h=> ?_)];obtain ⟨p,ks,rfl,S,R,q⟩:=h;rwa[⟨_,(aa @a (aa (ce PassesOwn.never rfl @a @a (ac @a)) @cG)),?_⟩];rwa[bL S ?_];rwa[eQ (xs:=vN ks) (λi σ H'=>H'=H/\∃o,σ=[some (.ref p),some (.int (oN (ks.take i):Int)),o]) ⟨rfl,_,by rfl⟩ (λi σ H' _ h=>by rw [h.1];exact S) ?_ ?_]
 ·rintro i x σ H' j ⟨rfl,o,rfl⟩;obtain ⟨k,z,rfl⟩:=LZ j;rwa[g8.mk _ _ rfl (R k (mem_of_getElem? z)) ⟨rfl,some (.int (k:Int)),?_⟩]
  have e:oN (ks.take (i+1))=oN (ks.take i)|||2^k:=by
   unfold oN;rw [take_add_one,z,foldl_append];rfl
  rw [e];rfl
 ·rintro σ H' ⟨rfl,o,rfl⟩;rw [Ei,take_of_length_le @h];exact q
inductive zC (vs:List V)(H:Hp)(Q:VK)(_e:XK):Prop
 |mk (M:Nat) (_:vs=[.int (M:Int)]) (_:M<2^200) (_:∀p,H p=none->Q (.ref p) (upd H p (.lst (vN (jQ M)))))
abbrev Z03:=λP w K mg base=>aV P w K mg base 2 "has" ["mask","k"] fZ
theorem CT (F:Z0 K "listed" vQ f fd)(I:mg "range"=none)(O:Z03 P w K mg base):ay P w K mg base bd 3 f fd ["mask"] zC:=by
 rwa[F.ok EW (by symm) @bw];obtain ⟨M,rfl,z,q⟩:=h;have R:=Q4 z;have J:=sizeLine_eq;rwa[⟨_,(ac (ai (bG rfl (ax (N':=["k","mask"]) (pk:=[none,some 0]) @k) (bS rfl I (ar (D7 rfl PySem.F.plainAttrs_int PySem.F.slot_int_bit_length PySem.F.type_int_bit_length Ef (wv 0)) ao)) @g @x @E))),?_⟩];rwa[⟨rfl,⟨by show -4611686018427387904<=((L M:Nat):Int);lia,by show ((L M:Nat):Int)<4611686018427387904;lia⟩,?_⟩];show wT (Iq 0 (L M)) _ _ _ _ _ _ _
 refine eR (λi ys H'=>H'=H/\ys=vN (j9 M i)) @c (λi ys H' p=>by
  rw [p.2,Ei];unfold j9;exact Nat.le_trans @B @e) ⟨rfl,rfl⟩ ?_ ?_
 ·rintro i ys H' hi ⟨rfl,rfl⟩;erw[⟨PU,?_⟩];show fZ [.int (M:Int),.int (0+(i:Int))] _ _ _;rw [Int.zero_add];rwa[fZ.mk _ _ rfl @c ?_];show if M.testBit i=true then _ else _
  cases h:M.testBit i with
  |true=>
   rw [if_pos rfl];rwa[⟨rfl,?_⟩];rw [kY,h];unfold vN;rw [map_append];rfl
  |false=>
   rw [if_neg Bool.false_ne_true];rwa[⟨rfl,?_⟩];rw [kY,h];simp
 ·rintro ys H' ⟨rfl,rfl⟩ p G;exact q p G
inductive qe (vs:List V)(H:Hp)(Q:VK)(_e:XK):Prop
 |mk (M:Nat) (_:vs=[.int (M:Int)]) (_:M<2^200) (_:∀H',aq H H'->Q (Qd (jQ M)[0]?) H')
theorem Fb {H:Hp}{p:Addr}(h:H p=none)(o:HO):aq H @fP:=λb u q=>by rw [am (bI q h)];exact q
theorem CS (F:Z0 K "lowest" vP f fd)(O:aV P w K mg base 3 "listed" ["mask"] zC):ay P w K mg base bd 4 f fd ["mask"] qe:=by
 rwa[F.ok EV (by symm) (λJ A outer s H R Q E S h=> ?_)];obtain ⟨M,rfl,L,q⟩:=h;rwa[⟨_,@en,?_⟩];erw[zC.mk _ rfl L λp I=> ?_];have z:=q _ (Fb I (.lst (vN (jQ M))));rwa[IW @gn ?_]
 cases G:jQ M with
 |nil=>
  rw [G] at z;exact aG rfl z
 |cons k ks=>
  rw [G] at z;rwa[aP rfl ?_];exact aW @gn (bW (j:=0) (v:=V.int (k:Int)) rfl) z
inductive mR (vs:List V)(H:Hp)(Q:VK)(_e:XK):Prop
 |mk (M:Nat) (_:vs=[.int (M:Int)]) (_:Q (Qd (if M=0 then none else some (L M - 1))) H)
theorem Ax (F:Z0 K "highest" qM f fd):ay P w K mg base bd 1 f fd ["mask"] mR:=by
 rwa[F.ok Cw (by symm) @Q];obtain ⟨M,rfl,q⟩:=h;rwa[⟨_,(ac (ai (A6 @a (bR K4 (D7 rfl PySem.F.plainAttrs_int PySem.F.slot_int_bit_length PySem.F.type_int_bit_length Ef (wv 0)) aB) Al))),?_⟩];rwa[cB @bC @bC]
 ·rwa[⟨rfl,?_⟩]
  have j:M≠0:=by lia
  rw [if_neg j] at q
  have e:((L M - 1:Nat):Int)=((L M:Nat):Int) - 1:=by
   have:=HW M;rw [if_neg j] at this;lia
  show Q (.int (((L M:Nat):Int) - 1)) H;rw [<-e];exact q
 ·have j:M=0:=by lia
  rw [if_pos j] at q;exact q
noncomputable def d5 (p:Int×Int):D:= .tup [.int p.1,.int p.2]
noncomputable def Lr (pl li dr mk:Int)(ps:List (Int×Int)):List D:=[.int pl,.int li,.int dr,.int mk,.tup @dL]
inductive bo (K:Fg)(H:Hp)(t:Addr)(pl li dr mk:Int)(ps:List (Int×Int)):Prop
 |mk (b xs:_) (_:H t=some (.tup [.int pl,.int li,.int dr,.int mk,.ref b])) (_:H b=some (.tup xs)) (_:av K H xs @dL)
theorem bo.same {H H':Hp}{t:Addr}{pl li dr j:Int}{ps:List (Int×Int)}(h:bo K H t pl li dr j ps)(s:aq H H'):bo K H' t pl li dr j ps:=by
 obtain ⟨b,xs,R,O,d⟩:=h;exact ⟨b,xs,s.get R,s.get O,av.same d s⟩
theorem bo.den {H:Hp}{t:Addr}{pl li dr j:Int}{ps:List (Int×Int)}(h:bo K H t pl li dr j ps):bM K H (.ref t) (.tup (Lr pl li dr j ps)):=by
 obtain ⟨b,xs,R,O,d⟩:=h;exact eh (az.of R) (.cons (.int _) (.cons (.int _) (.cons (.int _) (.cons (.int _) (.cons (eh (az.of O) d) .nil)))))
theorem Sc:5<=sizeLine:=by rw [sizeLine_eq];lia
noncomputable def bq (so:Str)(pl li:Int)(ps:List (Int×Int))(wd:Str):Str:=
 if so=s!"free"\/ps=[] then wd else if ps.any (λp=>decide (2*p.2=pl))=true then s!"o" else if wd=s!"x" then s!"o" else
 if (wd=s!"u"/\li<0)\/(wd=s!"d"/\0<li) then s!"s" else wd
noncomputable def cx:List Str:=[s!"o",s!"x",s!"u",s!"d",s!"s"]
theorem N5 {x:Str}(h:x∈cx):x=s!"o"\/x=s!"x"\/x=s!"u"\/x=s!"d"\/x=s!"s":=by
 simpa [cx] using h
theorem iT {so:Str}{pl li:Int}{ps:List (Int×Int)}{j:Str}(h:j∈cx):bq so pl li ps j∈cx:=by
 unfold bq;split
 ·exact h
 split
 ·exact .head _
 split
 ·exact .head _
 split
 ·exact .tail _ (.tail _ (.tail _ (.tail _ (.head _))))
 ·exact h
noncomputable def eF (fl tu pl li dr:Int)(ps:List (Int×Int))(x:Str):Int×Int×Int:=
 if x=s!"o" then (pl,li,tu) else if x=s!"x" then (pl,0,tu) else if x=s!"u"/\pl / 2<fl - 1 then (pl+1,1,dr) else if x=s!"d"/\0<pl then (pl - 1,-1,dr) else (pl,if ps=[] then 0 else li,dr)
section
variable {fl tu pl li dr:Int}{ps:List (Int×Int)}
theorem Lp:eF fl tu pl li dr ps "o"=(pl,li,tu):=if_pos rfl
theorem Ln:eF fl tu pl li dr ps "x"=(pl,0,tu):=by unfold eF;rw [if_neg @b,if_pos rfl]
theorem Hf (h:pl / 2<fl - 1):eF fl tu pl li dr ps "u"=(pl+1,1,dr):=by unfold eF;rw [if_neg @b,if_neg @b,if_pos ⟨rfl,h⟩]
theorem Hg (h: ¬pl / 2<fl - 1):eF fl tu pl li dr ps "u"=(pl,if ps=[] then 0 else li,dr):=by unfold eF;rw [if_neg @b,if_neg @b,if_neg @ex,if_neg @w]
theorem Hh (h:0<pl):eF fl tu pl li dr ps "d"=(pl - 1,-1,dr):=by unfold eF;rw [if_neg @b,if_neg @b,if_neg @w,if_pos ⟨rfl,h⟩]
theorem Hi (h: ¬0<pl):eF fl tu pl li dr ps "d"=(pl,if ps=[] then 0 else li,dr):=by unfold eF;rw [if_neg @b,if_neg @b,if_neg @w,if_neg @ex]
theorem Lo:eF fl tu pl li dr ps "s"=(pl,if ps=[] then 0 else li,dr):=by unfold eF;rw [if_neg @b,if_neg @b,if_neg @w,if_neg @w]
end
def pS (ps:List (Int×Int)):Prop:=ps.length<=100/\∀p∈ps,0<=p.2/\p.2<100
theorem uI (ps:List (Int×Int)):deps @dL<=1:=by
 induction ps with
 |nil=>decide
 |cons p ps ih=>show max (iO (d5 p)) (deps @dL)<=1;exact Nat.max_le.mpr ⟨(by show max 0 (max 0 0)+1<=1;lia),ih⟩
inductive cI (K:Fg)(vs:List V)(H:Hp)(Q:VK)(_e:XK):Prop
 |mk (c pl li dr mk ps:_) (_:vs=[.ref c]) (_:bo K H c pl li dr mk ps) (_:Q (.int (pl / 2)) H)
theorem F8 (F:Z0 K "floor_of" qN f fd):ay P w K mg base bd 1 f fd ["cabin"] (cI K):=by
 rwa[F.ok Cy (by symm) @n];obtain ⟨c,pl,li,dr,z,ps,rfl,I,q⟩:=h;obtain ⟨b,xs,G,U,dx⟩:=id I;rwa[⟨_,@j,?_⟩];left;exact q
noncomputable def eO (ps:List (Int×Int)):List V:=ps.map λp=>V.int p.2
inductive g9 (K:Fg)(vs:List V)(H:Hp)(Q:VK)(_e:XK):Prop
 |mk (c pl li dr mk ps:_) (_:vs=[.ref c]) (_:bo K H c pl li dr mk ps) (_:ps.length<=100) (_:∀p H',aq H H'->H p=none->H' p=some (.lst (eO ps))->Q (.ref p) H')
theorem F7 (F:Z0 K "goals_aboard" ib f fd):ay P w K mg base bd 1 f fd ["cabin"] (g9 K):=by
 rwa[F.ok tJ (by symm) (λL A outer s H vs Q E hr h=> ?_)];obtain ⟨c,pl,li,dr,R,ps,rfl,O,Y,q⟩:=h;obtain ⟨b,xs,ec,U,dx⟩:=id O;have hx:=aE dx;rwa[⟨_,(ac (ai (bG rfl (ax (N':=["tag","goal"]) (pk:=[none,none]) @k) @a @K @s (λC s H ex=>(wv 1))))),?_⟩];left;rwa[d9 @cp ?_];rwa[dD (xs:=xs) (λi ys H'=>H'=H/\ys=(eO ps).take i) @bb (λi ys H' p=>by rw [p.2,length_take];exact Nat.min_le_left _ _) ⟨rfl,rfl⟩ (λi ys H' _ p=>by rw [p.1];exact az.of U) (λi x ys H' j p=> ?_) (λys H' p I W=> ?_)]
 ·obtain ⟨rfl,rfl⟩:=p;obtain ⟨S,z,J⟩:=bi dx j;obtain ⟨u,us,rfl,Z,G⟩:=J.outT
  cases G with|cons q0 t0=>cases t0 with|cons q1 t1=>
  cases t1;cases q0.isInt;cases q1.isInt;left;rwa[⟨ly,?_⟩];left;rwa[⟨rfl,?_⟩];rw [take_succ];congr 1;unfold eO;rw [getElem?_map,z];rfl
 ·obtain ⟨rfl,rfl⟩:=p;rwa[q I _ (.upd W) W ?_];rw [ag,take_of_length_le (by unfold eO;rw [length_map];lia)]
structure aI where
 tag:Int
 start:Int
 goal:Int
 lift:Int
noncomputable def aI.d (r:aI):D:= .tup [.int r.tag,.int r.start,.int r.goal,.int r.lift]
def Ou (rs:List aI):Prop:=rs.length<=64/\∀r∈rs,r.start≠r.goal
theorem cy (rs:List aI):noLs @P=true:=by
 induction rs with
 |nil=>rfl
 |cons r rs ih=>rw [map_cons,noLs,ih];rfl
theorem nM (ps:List (Int×Int)):noLs @dL=true:=by
 induction ps with
 |nil=>rfl
 |cons r rs ih=>rw [map_cons,noLs,ih];rfl
theorem aq.updF {H0 H1:Hp}{o:Addr}{x:HO}(s:aq H0 H1)(h:H0 o=none):aq H0 (upd H1 o x):=λb u z=>by
 rw [am (λe=>by rw [e,h] at z;cases z)];exact s b u z
noncomputable def iL (s g:Int):Int:=if s<g then 1 else -1
inductive qb (vs:List V)(H:Hp)(Q:VK)(_e:XK):Prop
 |mk (s g:Int) (_:vs=[.int s,.int g]) (_:Q (.int (iL s g)) H)
theorem Nb (F:Z0 K "way_of" zW f fd):ay P w K mg base bd 1 f fd ["start","goal"] qb:=by
 rwa[F.ok IZ (by symm) @n];obtain ⟨s,g,rfl,q⟩:=h;rwa[⟨_,@j,?_⟩];unfold iL at q;by_cases h:s<g
 ·rw [if_pos h] at q;left;exact q
 ·rw [if_neg h] at q;left;exact q
noncomputable def tk (room:Int)(ps:List (Int×Int))(rs:List aI)(f:Int):Bool:=ps.any (λp=>decide (p.2=f))||(decide ((ps.length:Int)<room)&&rs.any (λr=>decide (r.start=f)))
def mx (t:Int->Bool)(f u:Int):Prop:=(u=0/\∀j:Int,1<=j->j<=7->t (f+j)=false)\/(1<=u/\u<=7/\t (f+u)=true/\∀j:Int,1<=j->j<u->t (f+j)=false)
def oz (t:Int->Bool)(f d:Int):Prop:=(d=0/\∀j:Int,1<=j->j<=7->j<=f->t (f - j)=false)\/(1<=d/\d<=7/\d<=f/\t (f - d)=true/\∀j:Int,1<=j->j<d->t (f - j)=false)
theorem mx.uniq {t:Int->Bool}{f u v:Int}(h:mx t f u)(k:mx t f v):u=v:=by
 rcases h with ⟨h1,h2⟩|⟨h1,h2,L,z⟩<;>rcases k with ⟨j,J⟩|⟨j,J,Y,S⟩
 ·lia
 ·rw [h2 v j J] at Y;cases Y
 ·rw [J u h1 h2] at L;cases L
 ·rcases Int.lt_trichotomy u v with l|l|l
  ·rw [S u h1 l] at L;cases L
  ·exact l
  ·rw [z v j l] at Y;cases Y
theorem oz.uniq {t:Int->Bool}{f u v:Int}(h:oz t f u)(k:oz t f v):u=v:=by
 rcases h with ⟨h1,h2⟩|⟨h1,h2,U,L,F⟩<;>rcases k with ⟨j,J⟩|⟨j,J,z,Y,S⟩
 ·lia
 ·rw [h2 v j J z] at Y;cases Y
 ·rw [J u h1 h2 U] at L;cases L
 ·rcases Int.lt_trichotomy u v with l|l|l
  ·rw [S u h1 l] at L;cases L
  ·exact l
  ·rw [F v j l] at Y;cases Y
noncomputable def yV (ps:List (Int×Int))(f:Int):Bool:=ps.any λp=>decide (p.2=f)
noncomputable def xo (rs:List aI)(f li:Int):Bool:=rs.any λr=>decide (r.start=f)&&decide (iL r.start r.goal=li)
noncomputable def dL (so:Str)(li:Int)(t0 ab al:Bool):Int:=if t0=false then 0 else if so=s!"free"\/li=0 then 2 else if ab=true\/al=true then 2 else 1
def OE (ps:List (Int×Int))(rs:List aI):Prop:=(∀p∈ps,0<=p.2/\p.2<8)/\(∀r∈rs,0<=r.start/\r.start<8)/\ps.length<=64/\rs.length<=64
theorem nO (ks:List Nat)(i:Nat):(oN ks).testBit i=decide (i∈ks):=by
 unfold oN;rw [qU];simp
theorem x3 {ks:List Nat}(h:∀k∈ks,k<8):oN ks<2^8:=Nat.lt_pow_two_of_testBit _ λi hi=>by
 rw [nO]
 exact decide_eq_false λz=>by have:=h i z;lia
theorem GI {ps:List (Int×Int)}(h:∀p∈ps,0<=p.2/\p.2<8):eO ps=vN @dp:=by
 unfold eO vN;rw [map_map];rwa[map_congr_left λp G=> ?_];show V.int p.2=V.int ((p.2.toNat:Nat):Int);rw [Int.toNat_of_nonneg (h p G).1]
noncomputable def dQ (rs:List aI):List V:=rs.map λr=>V.int r.start
theorem Cj {rs:List aI}(h:∀r∈rs,0<=r.start/\r.start<8):dQ rs=vN (rs.map λr=>r.start.toNat):=by
 unfold dQ vN;rw [map_map];rwa[map_congr_left λp G=> ?_];show V.int p.start=V.int ((p.start.toNat:Nat):Int);rw [Int.toNat_of_nonneg (h p G).1]
theorem uu {ps:List (Int×Int)}(h:∀p∈ps,0<=p.2/\p.2<8)(i:Nat):decide (i∈ps.map λp=>p.2.toNat)=ps.any λp=>decide (p.2=(i:Int)):=by
 rw [Bool.eq_iff_iff,decide_eq_true_eq,mem_map,any_eq_true];constructor
 ·rintro ⟨p,G,e⟩;exact ⟨p,G,decide_eq_true (by have:=h p G;lia)⟩
 ·rintro ⟨p,G,e⟩;exact ⟨p,G,by have:=of_decide_eq_true e;lia⟩
theorem AB {rs:List aI}(h:∀r∈rs,0<=r.start/\r.start<8)(i:Nat):decide (i∈rs.map λr=>r.start.toNat)=rs.any λr=>decide (r.start=(i:Int)):=by
 rw [Bool.eq_iff_iff,decide_eq_true_eq,mem_map,any_eq_true];constructor
 ·rintro ⟨p,G,e⟩;exact ⟨p,G,decide_eq_true (by have:=h p G;lia)⟩
 ·rintro ⟨p,G,e⟩;exact ⟨p,G,by have:=of_decide_eq_true e;lia⟩
theorem og (ps:List (Int×Int)):(eO ps).length=ps.length:=by unfold eO;rw [length_map]
inductive vi (K:Fg)(vs:List V)(H:Hp)(Q:VK)(_e:XK):Prop
 |mk (room c p pl li dr mk ps xs:_) (rs:List aI) (_:vs=[.int room,.ref c,.ref p]) (_:bo K H c pl li dr mk ps) (_:H p=some (.lst xs)) (_:av K H xs @P) (_:OE ps rs) (_:∀(M:Nat) H',aq H H'->(∀i:Nat,M.testBit i=tk room ps rs i)->M<2^8->Q (.int (M:Int)) H')
theorem FN (F:Z0 K "tasks_of" qE f fd)(bp:mg "len"=none)(cF:aV P w K mg base 1 "goals_aboard" ["cabin"] (g9 K))(rW:aV P w K mg base 3 "mask_of" ["numbers"] (lG K)):ay P w K mg base bd 4 f fd ["room","cabin","riders"] (vi K):=by
 rwa[F.ok Cq (by symm) (λae A outer s H vs Q E hr h=> ?_)];obtain ⟨I,c,p,pl,li,dr,mk,ps,xs,z,rfl,hc,ep,dp,j,q⟩:=h;have xl:=aE dp;have ad:=j.2.2.2;have ab:=j.2.2.1;rwa[⟨_,(aa @a (aa @W (ac (ai (b9 rW hr @b rfl (ar (bR @cu (wv 3) (bG rfl (ax (N':=["tag","start","goal","lift"]) (pk:=[none,none,none,none]) @k) @a @T @s (λC s H ex=>(wv 1)))) ao)))))),?_⟩];left;rwa[g9.mk _ _ _ _ _ _ rfl hc @c λg H1 O n1 e1=> ?_];have ev:=GI j.1;left;rw [og];rwa[cB @cM @cM]
 ·left
  refine lG.mk _ @dp rfl (aC.of (by rw [<-ev];exact e1)) (λk R=>by
   obtain ⟨p,G,rfl⟩:=mem_map.mp R
   have:=j.1 p G;lia) ?_
  refine q _ H1 O (λi=> ?_) (x3 λk R=>by
   obtain ⟨p,G,rfl⟩:=mem_map.mp R
   have:=j.1 p G;lia)
  rw [nO,uu j.1];unfold tk;rw [decide_eq_false (show ¬(ps.length:Int)<I by lia),Bool.false_and,Bool.or_false]
 ·left;rwa[bL @cp ?_];rwa[bf (xs:=xs) (λi ys H'=>H'=H1/\ys=(dQ z).take i) @bb (λi ys H' p=>by rw [p.2,length_take];exact Nat.min_le_left _ _) ⟨rfl,rfl⟩ (λi ys H' _ p=>by rw [p.1];exact O.seq (aC.of ep)) (λi x ys H' W p=> ?_) (λys H' p J n2=> ?_)]
  ·obtain ⟨rfl,rfl⟩:=p;obtain ⟨r,U,Y⟩:=bi dp W;obtain ⟨u,us,rfl,hu,L⟩:=Y.outT
   cases L with|cons q0 r0=>cases r0 with|cons q1 r1=>cases r1 with|cons q2 r2=>cases r2 with|cons q3 r3=>
   cases r3;cases q0.isInt;cases q1.isInt;cases q2.isInt;cases q3.isInt;left;rwa[⟨qa,?_⟩];left;rwa[⟨rfl,?_⟩];rw [take_succ];congr 1;unfold dQ;rw [getElem?_map,U];rfl
  ·obtain ⟨rfl,rfl⟩:=p
   have e2:upd H' J (.lst ((dQ z).take xs.length)) J=some (.lst (dQ z)):=by rw [ag,take_of_length_le (by unfold dQ;rw [length_map];lia)]
   have Z:aq H' (upd H' J (.lst ((dQ z).take xs.length))):= .upd n2;generalize upd H' J (.lst ((dQ z).take xs.length))=H2 at e2 Z ⊢
   have sl:(dQ z).length=z.length:=by unfold dQ;rw [length_map]
   erw[Hx (Z.get e1) e2 (be (by rw [og,sl];lia)) λl3 H3 s3 n3 e3=> ?_];have S:=Cj j.2.1
   refine lG.mk _ (@dp++z.map λr=>r.start.toNat) rfl (aC.of (by rw [e3,ev,S];unfold vN;rw [map_append])) (λk R=>by
    rcases mem_append.mp R with R|R
    ·obtain ⟨p,G,rfl⟩:=mem_map.mp R;have:=j.1 p G;lia
    ·obtain ⟨p,G,rfl⟩:=mem_map.mp R
     have:=j.2.1 p G;lia) ?_
   refine q _ H3 ((O.trans Z).trans s3) (λi=> ?_) (x3 λk R=>by
    rcases mem_append.mp R with R|R
    ·obtain ⟨p,G,rfl⟩:=mem_map.mp R;have:=j.1 p G;lia
    ·obtain ⟨p,G,rfl⟩:=mem_map.mp R
     have:=j.2.1 p G;lia)
   rw [nO];unfold tk;rw [decide_eq_true (show (ps.length:Int)<I by lia),Bool.true_and,<-uu j.1,<-AB j.2.1,<-Bool.decide_or];exact decide_eq_decide.mpr mem_append
inductive vA (K:Fg)(vs:List V)(H:Hp)(Q:VK)(_e:XK):Prop
 |mk (f li p xs:_) (rs:List aI) (_:vs=[.int f,.int li,.ref p]) (_:H p=some (.lst xs)) (_:av K H xs @P) (_:rs.length<=64) (_:∀H',aq H H'->Q (.bl (xo rs f li)) H')
noncomputable def iQ (rs:List aI)(f:Int):List V:=(rs.filter λr=>decide (r.start=f)).map λr=>V.int @eM
theorem Kl {rs:List aI}{f li:Int}:za (.int li) (iQ rs f)=xo rs f li:=by
 unfold za iQ xo;rw [any_map,any_filter];rfl
theorem Ge (F:Z0 K "goes_along" kE f fd)(iu:aV P w K mg base 1 "way_of" ["start","goal"] qb):ay P w K mg base bd 2 f fd ["floor","light","riders"] (vA K):=by
 rwa[F.ok oK (by symm) (λW A outer s H vs Q E hr h=> ?_)];obtain ⟨f,li,p,xs,j,rfl,R,O,ad,q⟩:=h;have xl:=aE O;rwa[⟨_,(aa (cu (i:=3) rfl oK.nd rfl @l (ax (N':=["tag","start","goal","lift","floor"]) (pk:=[none,none,none,none,some 0]) @k) @a @T @x @g) @j),?_⟩];rwa[bL @cH ?_]
 refine bf (xs:=xs) (λi ys H'=>H'=H/\ys=iQ (j.take i) f) @bb (λi ys H' p=>by
  rw [p.2];unfold iQ;rw [length_map];have:=length_filter_le (λr:aI=>decide (r.start=f)) (j.take i);rw [length_take] at this;lia) ⟨rfl,rfl⟩ (λi ys H' _ p=>by rw [p.1];exact aC.of R) (λi x ys H' J p=> ?_) (λys H' p I Z=> ?_)
 ·obtain ⟨rfl,rfl⟩:=p;obtain ⟨r,G,Y⟩:=bi O J;obtain ⟨u,us,rfl,hu,L⟩:=Y.outT
  cases L with|cons q0 r0=>cases r0 with|cons q1 r1=>cases r1 with|cons q2 r2=>cases r2 with|cons q3 r3=>
  cases r3;cases q0.isInt;cases q1.isInt;cases q2.isInt;cases q3.isInt;left;rwa[⟨qa,?_⟩];show if decide (r.start=f)=true then _ else _
  have e:iQ (j.take (i+1)) f=iQ (j.take i) f++if decide (r.start=f)=true then [V.int @eM] else []:=by
   unfold iQ;rw [take_succ,G,filter_append,map_append];congr 1;cases z:decide (r.start=f)<;>simp [z]
  by_cases h1:r.start=f
  ·rw [if_pos @eN];rwa[qb.mk _ _ rfl ?_];rw [e,if_pos @eN];exact ⟨rfl,rfl⟩
  ·rw [if_neg (by rw [decide_eq_false h1];decide),e,if_neg (by rw [decide_eq_false h1];decide),append_nil];exact ⟨rfl,rfl⟩
 ·obtain ⟨rfl,rfl⟩:=p
  have U:upd H' I (.lst @dl) I=some (.lst (iQ j f)):=by rw [ag,take_of_length_le @c]
  have S:aq H' (upd H' I (.lst @dl)):= .upd Z;generalize upd H' I (.lst @dl)=H2 at U S ⊢;rwa[iZ (aC.of U) rfl ?_ ?_]
  ·rwa[all_eq_true.mpr λx hx=> ?_];obtain ⟨r,_,rfl⟩:=mem_map.mp hx;rfl
  ·rw [Kl];exact q H2 S
inductive zE (K:Fg)(vs:List V)(H:Hp)(Q:VK)(_e:XK):Prop
 |mk (so c p pl li dr mk ps xs:_) (rs:List aI) (M f0:Nat) (_:vs=[.str so,.ref c,.int (M:Int),.ref p]) (_:bo K H c pl li dr mk ps) (_:H p=some (.lst xs)) (_:av K H xs @P) (_:OE ps rs) (_:pl=2*(f0:Int)) (_:f0<8) (_:∀H',aq H H'->Q (.int (dL so li (M.testBit f0) (yV ps f0) (xo rs f0 li))) H')
theorem GE {f:Int}{ps:List (Int×Int)}:za (.int f) (eO ps)=yV ps f:=by
 unfold za eO yV;rw [any_map];rfl
theorem rB (ps:List (Int×Int)):(eO ps).all dM=true:=by
 rwa[all_eq_true.mpr λx z=> ?_];obtain ⟨p,_,rfl⟩:=mem_map.mp z;rfl
abbrev Z01:=λP w K mg base=>aV P w K mg base 1 "floor_of" ["cabin"] (cI K)
theorem JT (F:Z0 K "here_of" v7 f fd)(bX:Z01 P w K mg base)(pF:Z03 P w K mg base)(cF:aV P w K mg base 1 "goals_aboard" ["cabin"] (g9 K))(pj:aV P w K mg base 2 "goes_along" ["floor","light","riders"] (vA K)):ay P w K mg base bd 3 f fd ["sort","cabin","tasks","riders"] (zE K):=by
 rwa[F.ok E6 (by symm) @M];obtain ⟨L,c,p,pl,li,dr,mk,ps,xs,rs,M,U,rfl,I,ep,Z,G,ad,W,q⟩:=h;obtain ⟨b,bs,ec,eb,db⟩:=id I;have ae:=G.2.2.2;have ab:=G.2.2.1;rwa[⟨_,(aa @a (aa @a (aa (au (dU @a) @bQ ak) (aa @gh @j)))),?_⟩]
 have e0:pl / 2=(U:Int):=by lia
 left;rwa[cI.mk _ _ _ _ _ _ rfl I ?_];rw [e0];left;rwa[fZ.mk _ _ rfl @c ?_];unfold dL at q
 cases J:M.testBit U with
 |false=>rw [J,if_pos rfl] at q;left;exact q H (.refl _)
 |true=>
  rw [J,if_neg @b] at q;left;by_cases h1:L=s!"free"
  ·rw [if_pos (.inl h1)] at q;left;exact q H (.refl _)
  ·by_cases h2:li=0
   ·rw [if_pos (.inr h2)] at q;left;exact q H (.refl _)
   ·rw [if_neg (λz=>z.elim h1 h2)] at q;left;rwa[g9.mk _ _ _ _ _ _ rfl I @c λg H1 O n1 Y=> ?_];rwa[iZ (aC.of Y) rfl (rB ps) ?_];rw [GE]
    cases R:yV ps U with
    |true=>rw [R,if_pos (.inl rfl)] at q;left;exact q H1 O
    |false=>
     rw [R] at q;left;rwa[vA.mk _ _ _ _ _ rfl (O.get ep) (av.same Z O) @c λH2 S=> ?_]
     cases j:xo rs U li with
     |true=>rw [j,if_pos (.inr rfl)] at q;left;exact q H2 (O.trans S)
     |false=>rw [j,if_neg @b] at q;left;exact q H2 (O.trans S)
theorem yT (M:Nat):(jQ M).Pairwise (· < ·):=List.Pairwise.filter _ pairwise_lt_range
theorem oy (M n i:Nat):(M - M% 2^(n+1)).testBit i=(M.testBit i&&decide (n<i)):=by
 have e:M - M% 2^(n+1)=2^(n+1)*(M / 2^(n+1)):=by have:=Nat.div_add_mod M (2^(n+1));lia
 rw [e,Nat.testBit_two_pow_mul,Nat.testBit_div_two_pow];by_cases h:n<i
 ·rw [decide_eq_true h,decide_eq_true (show i≥n+1 from h),Nat.sub_add_cancel h,Bool.true_and,Bool.and_true]
 ·rw [decide_eq_false h,decide_eq_false (show ¬i≥n+1 by lia),Bool.false_and,Bool.and_false]
theorem Pp {M n:Nat}{t:Int->Bool}(J:∀i:Nat,M.testBit i=t i)(R:M<2^8):mx t n (match ((jQ (M - M% 2^(n+1)))[(0:Nat)]? :Option Nat) with|none=>0|some k=>(k:Int) - n):=by
 cases I:jQ (M - M% 2^(n+1)) with
 |nil=>
  rwa[.inl ⟨rfl,λj O Y=> ?_⟩];have W:=HJ.mp I;have:=oy M n (n+j.toNat);rw [W,Nat.zero_testBit,decide_eq_true @c,Bool.and_true,J] at this;rw [<-this.symm];congr 1;lia
 |cons k ks=>
  have hs:=yT (M - M% 2^(n+1));rw [I] at hs
  have S:k∈jQ (M - M% 2^(n+1)):=by rw [I];exact .head _
  have F:=lT.mp S;rw [oy,Bool.and_eq_true] at F;have Z:=of_decide_eq_true F.2;have k8:k<8:=B4 (M:=M) R (lT.mpr F.1);rwa[.inr ⟨by show 1<=(k:Int) - n;lia,by show (k:Int) - n<=7;lia,?_,λj O L=> ?_⟩]
  ·show t ((n:Int)+((k:Int) - n))=true;rw [show (n:Int)+((k:Int) - n)=(k:Int) by lia,<-J];exact F.1
  ·have L:j<(k:Int) - n:=L
   cases z:t ((n:Int)+j) with
   |false=>rfl
   |true=>
    have U:M.testBit (n+j.toNat)=true:=by rw [J,<-z];congr 1;lia
    have G:n+j.toNat∈jQ (M - M% 2^(n+1)):=lT.mpr (by rw [oy,U,decide_eq_true @c];rfl);rw [I] at G
    rcases mem_cons.mp G with e|G
    ·lia
    ·have:=rel_of_pairwise_cons hs G;lia
theorem QP {M n:Nat}{t:Int->Bool}(Y:n<8)(J:∀i:Nat,M.testBit i=t i)(O:M<2^8):oz t n (match (if M% 2^n=0 then none else some (L (M% 2^n) - 1):Option Nat) with|none=>0|some k=>(n:Int) - k):=by
 by_cases F:M% 2^n=0
 ·rw [if_pos F];rwa[.inl ⟨rfl,λj I j7 U=> ?_⟩];have:=Nat.testBit_mod_two_pow M n (n - j.toNat);rw [F,Nat.zero_testBit,decide_eq_true @c,Bool.true_and,J] at this;rw [<-this.symm];congr 1;lia
 ·rw [if_neg F];have R:=Bc F;have W:=Q3 (M% 2^n);rw [Nat.testBit_mod_two_pow,Bool.and_eq_true] at R;have Z:=of_decide_eq_true R.1;have k8:L (M% 2^n) - 1<8:=B4 (M:=M) O (lT.mpr R.2);rwa[.inr ⟨by show 1<=(n:Int) - ((L (M% 2^n) - 1:Nat):Int);lia,?_,by show (n:Int) - ((L (M% 2^n) - 1:Nat):Int)<=n;lia,?_,λj I G=> ?_⟩]
  ·show (n:Int) - ((L (M% 2^n) - 1:Nat):Int)<=7;lia
  ·show t ((n:Int) - ((n:Int) - ((L (M% 2^n) - 1:Nat):Int)))=true;rw [show (n:Int) - ((n:Int) - ((L (M% 2^n) - 1:Nat):Int))=((L (M% 2^n) - 1:Nat):Int) by lia,<-J];exact R.2
  ·have G:j<(n:Int) - ((L (M% 2^n) - 1:Nat):Int):=G
   cases z:t ((n:Int) - j) with
   |false=>rfl
   |true=>
    have S:(M% 2^n).testBit (n - j.toNat)=true:=by rw [Nat.testBit_mod_two_pow,decide_eq_true @c,J,Bool.true_and,<-z];congr 1;lia
    have:=Nat.testBit_lt_two_pow (Nat.lt_of_lt_of_le W (Nat.pow_le_pow_right @b (show L (M% 2^n)<=n - j.toNat by lia)));rw [S] at this;cases this
noncomputable def Lb (room:Int)(so:Str)(li:Int)(ps:List (Int×Int))(rs:List aI)(f0:Nat)(u d:Int):List V:=[.int (f0:Int),.int li,.int (dL so li (tk room ps rs f0) (yV ps f0) (xo rs f0 li)),.int u,.int d]
inductive zv (K:Fg)(vs:List V)(H:Hp)(Q:VK)(_e:XK):Prop
 |mk (so room c p pl li dr mk ps xs:_) (rs:List aI) (f0:Nat) (_:vs=[.str so,.int room,.ref c,.ref p]) (_:bo K H c pl li dr mk ps) (_:H p=some (.lst xs)) (_:av K H xs @P) (_:OE ps rs) (_:pl=2*(f0:Int)) (_:f0<8) (_:∀r u d H',aq H H'->mx (tk room ps rs) f0 u->oz (tk room ps rs) f0 d->H' r=some (.tup (Lb room so li ps rs f0 u d))->Q (.ref r) H')
theorem QB {M n:Nat}(h:M<2^8):M - n<2^200:=Nat.lt_of_le_of_lt (Nat.sub_le _ _) (Nat.lt_trans h @b)
theorem JI (F:Z0 K "view" Fc f fd)(bX:Z01 P w K mg base)(uK:aV P w K mg base 4 "tasks_of" ["room","cabin","riders"] (vi K))(Hz:aV P w K mg base 3 "above" ["mask","k"] vB)(B1:aV P w K mg base 4 "lowest" ["mask"] qe)(w4:aV P w K mg base 2 "below" ["mask","k"] lK)(yM:aV P w K mg base 1 "highest" ["mask"] mR)(yN:aV P w K mg base 3 "here_of" ["sort","cabin","tasks","riders"] (zE K)):ay P w K mg base bd 5 f fd ["sort","room","cabin","riders"] (zv K):=by
 rwa[F.ok Mv (by symm) (λah A outer s H vs Q E hr h=> ?_)];obtain ⟨so,I,c,p,pl,li,dr,mk,ps,xs,Z,j,rfl,J,ep,dp,hf,ad,W,q⟩:=h;obtain ⟨b,bs,ec,eb,db⟩:=id J;rwa[⟨_,(aa @a (aa @a (aa @a (aa @a @gU)))),?_⟩]
 have e0:pl / 2=(j:Int):=by lia
 rwa[cI.mk _ _ _ _ _ _ rfl J ?_];rw [e0];rwa[vi.mk _ _ _ _ _ _ _ _ _ _ rfl J ep dp hf λM H1 s1 hM Y=> ?_];rwa[vB.mk _ _ rfl @c ?_];rwa[qe.mk _ rfl (QB Y) λH2 s2=> ?_];have U:=Pp (n:=j) hM Y;generalize ((jQ (M - M% 2^(j+1)))[(0:Nat)]? :Option Nat)=ou at U ⊢;rwa[lK.mk _ _ rfl @c ?_];rwa[mR.mk _ rfl ?_];have D:=QP (n:=j) W hM Y;generalize (if M% 2^j=0 then none else some (L (M% 2^j) - 1):Option Nat)=od at D ⊢;have O:=s1.trans s2;have G:=J.same O;have af:∀u d:Int,mx (tk I ps Z) j u->oz (tk I ps Z) j d->∀r R z,aq H2 R->aq R z->z r=some (.tup (Lb I so li ps Z j u d))->Q (.ref r) z:=λu d U D r R z s5 S e6=>q r u d z ((O.trans s5).trans S) U D e6;obtain ⟨b2,ag,ab,_⟩:=id G;cases ou<;>cases od
 all_goals
  ext
  first|refine aP rfl ?_|refine aG rfl ?_
  ext
  first|refine aP rfl ?_|refine aG rfl ?_
  rwa[ae (az.of ab) rfl ?_];rwa[zE.mk _ _ _ _ _ _ _ _ _ _ _ _ rfl G (O.get ep) (av.same dp O) hf ad W λR s5=> ?_];rw [hM];exact bD Sc λr z S _ e6=>af _ _ U D r _ _ s5 S e6
theorem Dn {pl:Int}{f0:Int}{ps:List (Int×Int)}(h:pl=2*f0):za (.int (pl / 2)) (eO ps)=ps.any (λp=>decide (2*p.2=pl)):=by
 unfold za eO;rw [any_map];congr 1
 funext p
 show (p.2==pl / 2)=decide (2*p.2=pl);by_cases e:p.2=pl / 2
 ·rw [decide_eq_true @c,beq_iff_eq];exact e
 ·rw [decide_eq_false @c,beq_eq_false_iff_ne];exact e
inductive mM (K:Fg)(vs:List V)(H:Hp)(Q:VK)(_e:XK):Prop
 |mk (so c wd pl li dr mk ps f0:_) (_:vs=[.str so,.ref c,.str wd]) (_:bo K H c pl li dr mk ps) (_:pS ps) (_:pl=2*f0) (_: -1<=li) (_:li<=1) (_:∀H',aq H H'->Q (.str @db) H')
theorem Av (F:Z0 K "turned" vJ f fd)(bp:mg "len"=none)(bX:Z01 P w K mg base)(cF:aV P w K mg base 1 "goals_aboard" ["cabin"] (g9 K)):ay P w K mg base bd 2 f fd ["sort","cabin","word"] (mM K):=by
 rwa[F.ok ER (by symm) @q];obtain ⟨so,c,G,pl,li,dr,mk,ps,f0,rfl,I,hg,j,W,ad,q⟩:=h;obtain ⟨b,xs,ec,eb,dx⟩:=id I;rwa[⟨_,(aa @a (aa @a (aa (au @a @cI ak) (aa @t (aa @t @cI))))),?_⟩];unfold bq at q;left;rwa[g9.mk _ _ _ _ _ _ rfl I hg.1 λp H1 O n1 S=> ?_];left;rwa[cB @cM @cM]
 ·rw [if_pos (.inl h1)] at q;left;exact q H1 O
 left;rw [og];rwa[cB @bX @bX]
 ·rw [if_pos (.inr (length_eq_zero_iff.mp @c))] at q;left;exact q H1 O
 rw [if_neg (λz=>z.elim h1 λz=>h2 (by rw [z];rfl))] at q;left;rwa[cI.mk _ _ _ _ _ _ rfl @cU ?_];left;rwa[iZ @fh rfl (rB ps) ?_];rw [Dn j];rwa[nZ (λL=> ?_) (λL=> ?_)]
 ·rw [if_pos L] at q;left;exact q H1 O
 rw [if_neg (by rw [L];decide)] at q;left;rwa[cB (λJ=> ?_) (λJ=> ?_)]
 ·rw [if_pos J] at q;left;exact q H1 O
 rw [if_neg J] at q;by_cases U:G=s!"u"
 ·have R: ¬G=s!"d":=by rw [U];decide
  by_cases Y:li= -1
  ·rw [if_pos (.inl ⟨U,by lia⟩)] at q;left;exact q H1 O
  ·rw [if_neg (λz=>z.elim (λz=>Y @c) @ey)] at q;left;exact q H1 O
 ·by_cases R:G=s!"d"
  ·by_cases Z:li=1
   ·rw [if_pos (.inr ⟨R,by lia⟩)] at q;left;exact q H1 O
   ·rw [if_neg (λz=>z.elim (λz=>U z.1) (λz=>Z @c))] at q;left;exact q H1 O
  ·rw [if_neg (λz=>z.elim (λz=>U z.1) @ey)] at q;left;exact q H1 O
noncomputable def aN (fl pl:Int)(x:Str):Str:=if x=s!"u"/\pl / 2=fl - 1 then s!"s" else if x=s!"d"/\pl / 2=0 then s!"s" else x
inductive mU (K:Fg)(vs:List V)(H:Hp)(Q:VK)(_e:XK):Prop
 |mk (fl c wd pl li dr mk ps:_) (_:vs=[.int fl,.ref c,.str wd]) (_:bo K H c pl li dr mk ps) (_:Q (.str (aN fl pl wd)) H)
theorem Ay (F:Z0 K "bounded" qP f fd)(J:Z01 P w K mg base):ay P w K mg base bd 2 f fd ["floors","cabin","word"] (mU K):=by
 rwa[F.ok CC (by symm) (λG A outer s H O Q E S h=> ?_)];obtain ⟨fl,c,j,pl,li,dr,L,ps,rfl,I,q⟩:=h;rwa[⟨_,(aa @t (aa @t @cI)),?_⟩];unfold aN at q;by_cases h1:j=s!"u"
 ·have R: ¬j=s!"d":=by rw [h1];decide
  left;rwa[cI.mk _ _ _ _ _ _ rfl I ?_];rwa[cB @bX @bX]
  ·rw [if_pos ⟨h1,h2⟩] at q;left;exact q
  ·rw [if_neg (λz=>h2 z.2),if_neg @ey] at q;left;exact q
 ·by_cases R:j=s!"d"
  ·left;rwa[cI.mk _ _ _ _ _ _ rfl I ?_];rwa[cB @bX @bX]
   ·rw [if_neg @ek,if_pos ⟨R,h2⟩] at q;left;exact q
   ·rw [if_neg @ek,if_neg (λz=>h2 z.2)] at q;left;exact q
  ·rw [if_neg @ek,if_neg @ey] at q;left;exact q
inductive fq (K:Fg)(vs:List V)(H:Hp)(Q:VK)(_e:XK):Prop
 |mk (c p l d pl li dr mk ps:_) (_:vs=[.ref c,.int p,.int l,.int d]) (_:bo K H c pl li dr mk ps) (_:∀r H',aq H H'->bo K H' r p l d mk ps->Q (.ref r) H')
theorem JH (F:Z0 K "with_changes" hI f fd):ay P w K mg base bd 1 f fd ["cabin","place","light","door"] (fq K):=by
 rwa[F.ok tD (by symm) (λj A outer s H J Q E S h=> ?_)];obtain ⟨c,p,l,d,pl,li,dr,z,ps,rfl,I,q⟩:=h;obtain ⟨b,xs,G,U,dx⟩:=id I;rwa[⟨_,@j,?_⟩];left;exact bD Sc λr H1 O _ R=>q r H1 O ⟨b,xs,R,O.get U,av.same dx O⟩
theorem SQ {fl pl:Int}:aN fl pl "o"=s!"o":=by unfold aN;rw [if_neg @w,if_neg @w]
theorem SN {fl pl:Int}:aN fl pl "x"=s!"x":=by unfold aN;rw [if_neg @w,if_neg @w]
theorem SO {fl pl:Int}:aN fl pl "s"=s!"s":=by unfold aN;rw [if_neg @w,if_neg @w]
theorem QS {fl pl:Int}(h:pl / 2=fl - 1):aN fl pl "u"=s!"s":=by unfold aN;rw [if_pos ⟨rfl,h⟩]
theorem QT {fl pl:Int}(h: ¬pl / 2=fl - 1):aN fl pl "u"=s!"u":=by unfold aN;rw [if_neg @ex,if_neg @w]
theorem QU {fl pl:Int}(h:pl / 2=0):aN fl pl "d"=s!"s":=by unfold aN;rw [if_neg @w,if_pos ⟨rfl,h⟩]
theorem QV {fl pl:Int}(h: ¬pl / 2=0):aN fl pl "d"=s!"d":=by unfold aN;rw [if_neg @w,if_neg @ex]
inductive mK (K:Fg)(vs:List V)(H:Hp)(Q:VK)(_e:XK):Prop
 |mk (so fl tu c wd pl li dr mk ps f0:_) (_:vs=[.str so,.int fl,.int tu,.ref c,.str wd]) (_:bo K H c pl li dr mk ps) (_:wd∈cx) (_:pS ps) (_:pl=2*f0) (_:0<=f0) (_:f0<fl) (_: -1<=li) (_:li<=1) (_:∀r H',aq H H'->bo K H' r (eF fl tu pl li dr ps @db).1 (eF fl tu pl li dr ps @db).2.1 (eF fl tu pl li dr ps @db).2.2 mk ps->Q (.ref r) H')
theorem Ey {H:Hp}{so:Str}{fl tu:Int}{c:Addr}{j:Str}{pl li dr z:Int}{ps:List (Int×Int)}{f0:Int}{Q:VK}{E:XK}(h1:bo K H c pl li dr z ps)(h2:j∈cx)(L:pS ps)(F:pl=2*f0)(U:0<=f0)(I:f0<fl)(R: -1<=li)(G:li<=1)
(g:∀r H',aq H H'->bo K H' r (eF fl tu pl li dr ps @fi).1 (eF fl tu pl li dr ps @fi).2.1 (eF fl tu pl li dr ps @fi).2.2 z ps->Q (.ref r) H'):mK K [.str so,.int fl,.int tu,.ref c,.str j] H Q E:=⟨so,fl,tu,c,j,pl,li,dr,z,ps,f0,rfl,h1,h2,L,F,U,I,R,G,g⟩
theorem Hj {fl tu pl li dr:Int}{ps:List (Int×Int)}{F:Str}(j:0<=pl)(h1:pl / 2<fl)(h2:pl% 2=0)(G:F∈cx):eF fl tu pl li dr ps F=if aN fl pl F=s!"o" then (pl,li,tu) else if aN fl pl F=s!"x" then (pl,0,tu) else if aN fl pl F=s!"u" then (pl+1,1,dr) else if aN fl pl F=s!"d" then (pl - 1,-1,dr) else (pl,if ps=[] then 0 else li,dr):=by
 have O: ¬s!"s"=s!"o":=by decide+kernel
 have S: ¬s!"s"=s!"x":=by decide+kernel
 have R: ¬s!"s"=s!"u":=by decide+kernel
 have J: ¬s!"s"=s!"d":=by decide+kernel
 rcases N5 G with rfl|rfl|rfl|rfl|rfl
 ·rw [SQ,Lp,if_pos rfl]
 ·rw [SN,Ln,if_neg @f,if_pos rfl]
 ·by_cases h:pl / 2=fl - 1
  ·rw [QS h,Hg @c,if_neg O,if_neg S,if_neg R,if_neg J]
  ·rw [QT h,Hf @c,if_neg @f,if_neg @f,if_pos rfl]
 ·by_cases h:pl / 2=0
  ·rw [QU h,Hi @c,if_neg O,if_neg S,if_neg R,if_neg J]
  ·rw [QV h,Hh @c,if_neg @f,if_neg @f,if_neg @f,if_pos rfl]
 ·rw [SO,Lo,if_neg O,if_neg S,if_neg R,if_neg J]
abbrev Z02:=λP w K mg base=>aV P w K mg base 1 "with_changes" ["cabin","place","light","door"] (fq K)
theorem Au (F:Z0 K "steered" qG f fd)(bp:mg "len"=none)(B0:aV P w K mg base 2 "turned" ["sort","cabin","word"] (mM K))(yQ:aV P w K mg base 2 "bounded" ["floors","cabin","word"] (mU K))(cE:Z02 P w K mg base):ay P w K mg base bd 3 f fd ["sort","floors","turns","cabin","word"] (mK K):=by
 rwa[F.ok Cr (by symm) @X];obtain ⟨so,fl,tu,c,wd,pl,li,dr,mk,ps,f0,rfl,I,hw,hg,Z,af,ag,U,ab,q⟩:=h;obtain ⟨b,xs,ec,eb,dx⟩:=id I;have hx:=aE dx;rwa[⟨_,(aa @a (aa @a (aa @a (aa @a (aa @W (aa @W (aa @W @fs))))))),?_⟩];left;rwa[mM.mk _ _ _ _ _ _ _ _ _ rfl I hg Z U ab λH1 O=> ?_];rwa[mU.mk _ _ _ _ _ _ _ _ rfl @cU ?_];have R:=iT (so:=so) (pl:=pl) (li:=li) (ps:=ps) hw;generalize bq so pl li ps wd=w' at R q ⊢;have j:=Hj (fl:=fl) (tu:=tu) (li:=li) (dr:=dr) (ps:=ps) (pl:=pl) @c @c @c R
 have L:∀J G Y,eF fl tu pl li dr ps w'=(J,G,Y)->∀r H',aq H1 H'->bo K H' r J G Y mk ps->Q (.ref r) H':=λJ G Y e r H' s2 er=>by
  rwa[q r H' @gI ?_];rw [e];exact er
 generalize aN fl pl w'=x at j ⊢;rwa[cB @i @eb]
 ·ext;exact fq.mk _ _ _ _ _ _ _ _ _ rfl @cU (L _ _ _ (by rw [j,if_pos z]))
 rwa[cB @i @gC]
 ·ext;exact fq.mk _ _ _ _ _ _ _ _ _ rfl @cU (L _ _ _ (by rw [j,if_neg S,if_pos z]))
 rwa[cB @i (λz3=> ?_)]
 ·ext;exact fq.mk _ _ _ _ _ _ _ _ _ rfl @cU (L _ _ _ (by rw [j,if_neg S,if_neg W,if_pos z]))
 rwa[cB @i (λz4=> ?_)]
 ·ext;exact fq.mk _ _ _ _ _ _ _ _ _ rfl @cU (L _ _ _ (by rw [j,if_neg S,if_neg W,if_neg z3,if_pos z]))
 rw [if_neg S,if_neg W,if_neg z3,if_neg z4] at j;rwa[ae (az.of (O _ _ ec)) rfl ?_];rwa[eX (az.of (O _ _ eb)) ?_];rwa[cB @i @i]
 ·ext;exact fq.mk _ _ _ _ _ _ _ _ _ rfl @cU (L _ _ _ (by rw [j,if_neg (λy=>by subst y;rw [hx] at z;exact absurd z @b)]))
 ·ext;exact fq.mk _ _ _ _ _ _ _ _ _ rfl @cU (L _ _ _ (by rw [j,if_pos (length_eq_zero_iff.mp @c)]))
noncomputable def tf (r:aI):Int:=if r.start<r.goal then 1 else -1
structure B7 where
 light:Int
 kept:List (Int×Int)
 ins:List Int
noncomputable def dh (so:Str)(room pl:Int)(s:B7)(r:aI):Bool:=decide (2*r.start=pl)&&decide ((s.kept.length:Int)<room)&&decide (so=s!"free"\/s.light=0\/s.light=tf r)
noncomputable def cG (so:Str)(room pl:Int)(s:B7)(r:aI):B7:=if dh so room pl s r=true then ⟨if so=s!"way" then tf r else s.light,s.kept++[(r.tag,r.goal)],s.ins++[r.tag]⟩ else s
noncomputable def br (so:Str)(room pl:Int)(s:B7)(rs:List aI):B7:=rs.foldl (cG so room pl) s
theorem dg {so:Str}{room pl:Int}{s:B7}{rs:List aI}{i:Nat}{r:aI}(h:rs[i]? =some r):br so room pl s (rs.take (i+1))=cG so room pl (br so room pl s @dM) r:=by
 rw [take_succ,h];unfold br;rw [foldl_append];rfl
theorem Ex {so:Str}{room pl:Int}(s:B7)(r:aI):(cG so room pl s r).kept.length<=s.kept.length+1/\(cG so room pl s r).ins.length<=s.ins.length+1:=by
 unfold cG;split<;>simp
theorem jA {so:Str}{room pl:Int}:∀(rs:List aI) (s:B7),(br so room pl s rs).kept.length<=s.kept.length+rs.length/\(br so room pl s rs).ins.length<=s.ins.length+rs.length
 |[],s=>⟨Nat.le_refl _,Nat.le_refl _⟩
 |r::rs,s=>by
  have h1:=jA (so:=so) (room:=room) (pl:=pl) rs @bv;have h2:=Ex (so:=so) (room:=room) (pl:=pl) s r;show (br so room pl @bv rs).kept.length<=_/\(br so room pl @bv rs).ins.length<=_;rw [length_cons];lia
noncomputable def cf (pl:Int)(ps:List (Int×Int)):List (Int×Int):=ps.filter λp=> !decide (2*p.2=pl)
noncomputable def bO (pl:Int)(ps:List (Int×Int)):List Int:=(ps.filter λp=>decide (2*p.2=pl)).map (·.1)
noncomputable def wM (so:Str)(room pl li:Int)(ps:List (Int×Int))(rs:List aI):B7:=br so room pl ⟨li,cf pl ps,[]⟩ rs
theorem cj {α:Type}(f:α->Bool){xs:List α}{i:Nat}{x:α}(h:xs[i]? =some x):(xs.take (i+1)).filter f=(xs.take i).filter f++if f x=true then [x] else []:=by
 rw [take_succ,h,filter_append];congr 1;cases e:f x<;>simp [e]
def ua (K:Fg)(H0 H:Hp)(n k:Addr)(ins:List Int)(kept:List (Int×Int)):Prop:=aq H0 H/\H0 n=none/\H0 k=none/\n≠k/\H n=some (.lst (ins.map V.int))/\∃ks,H k=some (.lst ks)/\av K H ks (kept.map d5)
theorem ua.pushN {H0 H:Hp}{n k:Addr}{z:List Int}{j:List (Int×Int)}(g:ua K H0 H n k z j)(t:Int):ua K H0 (upd H n (.lst (z.map V.int++[.int t]))) n k (z++[t]) j:=by
 obtain ⟨s,F,R,L,G,ks,J,I⟩:=g;rwa[⟨aq.updF s F,F,R,L,by rw [ag,map_append];rfl,ks,by rw [am (Ne.symm L)];exact J,bC I (nM j) G⟩]
theorem ua.same {H0 H H':Hp}{n k:Addr}{z:List Int}{j:List (Int×Int)}(g:ua K H0 H n k z j)(s':aq H H'):ua K H0 H' n k z j:=by
 obtain ⟨s,G,R,L,F,ks,J,I⟩:=g;exact ⟨s.trans s',G,R,L,s'.get F,ks,s'.get J,av.same I s'⟩
theorem ua.pushK {H0 H:Hp}{n k l:Addr}{z:List Int}{j:List (Int×Int)}{ks:List V}{t g:Int}(G:ua K H0 H n k z j)(L:H k=some (.lst ks))(S:H l=some (.tup [.int t,.int g])):ua K H0 (upd H k (.lst (ks++[.ref l]))) n k z (j++[(t,g)]):=by
 obtain ⟨s,O,R,I,J,W,F,U⟩:=G;rw [L] at F;cases F;rwa[⟨aq.updF s R,O,R,I,by rw [am I];exact J,_,ag,?_⟩];rw [map_append];exact Paired.app (bC U (nM j) L) (.cons (bM.noL (d:=d5 (t,g)) (eh (az.of S) (.cons (.int _) (.cons (.int _) .nil))) rfl L) .nil)
def HR (K:Fg)(H0 H:Hp)(r:Addr)(pl li dr mk:Int)(kept:List (Int×Int))(outs ins:List Int):Prop:=∃c o n,H r=some (.tup [.ref c,.ref o,.ref n])/\bo K H c pl li dr mk kept/\H o=some (.lst (outs.map V.int))/\H n=some (.lst (ins.map V.int))/\H0 o=none/\H0 n=none/\o≠n
inductive ED (vs:List V)(H:Hp)(Q:VK)(_e:XK):Prop
 |mk (so:_) (li s g:Int) (_:vs=[.str so,.int li,.int s,.int g]) (_:Q (.bl (decide (so=s!"free"\/li=0\/li=iL s g))) H)
theorem Nh (F:Z0 K "may_step_in" kz f fd)(G:aV P w K mg base 1 "way_of" ["start","goal"] qb):ay P w K mg base bd 2 f fd ["sort","light","start","goal"] ED:=by
 rwa[F.ok xQ (by symm) @n];obtain ⟨L,li,s,g,rfl,q⟩:=h;rwa[⟨_,@j,?_⟩];by_cases h1:L=s!"free"
 ·rw [decide_eq_true (.inl h1)] at q;left;exact q
 ·by_cases h2:li=0
  ·rw [decide_eq_true (.inr (.inl h2))] at q;left;exact q
  ·left;rwa[qb.mk _ _ rfl ?_];have e:decide (L=s!"free"\/li=0\/li=iL s g)=decide (iL s g=li):=decide_eq_decide.mpr ⟨λz=>by rcases z with z|z|z;exact absurd z h1;exact absurd z h2;exact z.symm,λz=> .inr (.inr z.symm)⟩;rw [e] at q;exact q
inductive zF (K:Fg)(vs:List V)(H:Hp)(Q:VK)(_e:XK):Prop
 |mk (so room c p pl li dr mk ps xs:_) (rs:List aI) (f0:Int) (_:vs=[.str so,.int room,.ref c,.ref p]) (_:bo K H c pl li dr mk ps) (_:ps.length<=64) (_:H p=some (.lst xs)) (_:av K H xs @P) (_:Ou rs) (_:pl=2*f0) (_:∀r H',aq H H'->HR K H H' r pl (wM so room pl li ps rs).light dr mk (wM so room pl li ps rs).kept (bO pl ps) (wM so room pl li ps rs).ins->Q (.ref r) H')
theorem QL {H:Hp}{so:Str}{room:Int}{c p:Addr}{pl li dr j:Int}{ps:List (Int×Int)}{xs:List V}{rs:List aI}{f0:Int}{Q:VK}{E:XK}(h1:bo K H c pl li dr j ps)(h2:ps.length<=64)(L:H p=some (.lst xs))(z:av K H xs @P)(U:Ou rs)(I:pl=2*f0)
(g:∀r H',aq H H'->HR K H H' r pl (wM so room pl li ps rs).light dr j (wM so room pl li ps rs).kept (bO pl ps) (wM so room pl li ps rs).ins->Q (.ref r) H'):zF K [.str so,.int room,.ref c,.ref p] H Q E:=⟨so,room,c,p,pl,li,dr,j,ps,xs,rs,f0,rfl,h1,h2,L,z,U,I,g⟩
theorem JU (F:Z0 K "exchanged" kF f fd)(bp:mg "len"=none)(aZ:mg "tuple"=none)(bX:Z01 P w K mg base)(iu:aV P w K mg base 1 "way_of" ["start","goal"] qb)(iw:aV P w K mg base 2 "may_step_in" ["sort","light","start","goal"] ED):ay P w K mg base bd 3 f fd ["sort","room","cabin","riders"] (zF K):=by
 rwa[F.ok dJ (by symm) (λaK A outer s H vs Q E hr h=> ?_)];obtain ⟨L,I,c,p,pl,li,dr,mk,ps,xs,rs,f0,rfl,hc,aN,ep,dp,aA,hf,q⟩:=h;obtain ⟨b,bs,ec,eb,db⟩:=id hc;have bl:=aE db;have xl:=aE dp;rwa[⟨_,(aa @a (aa @a (aa (cu (i:=6) rfl dJ.nd rfl @l (ax (N':=["tag","goal","floor"]) (pk:=[none,none,some 4]) @k) @a @K @x @E) (aa @a (aa (cu (i:=8) rfl dJ.nd rfl @l (ax (N':=["tag","goal","floor"]) (pk:=[none,none,some 4]) @k) @a @K @x @g) (aa (ce PassesOwn.never rfl @a (gv (K:=K) (n:=4) rfl rfl (aM @a (aM @a (aM (lP (i:=11) dJ.nd rfl @l) (aM (lP (i:=12) dJ.nd rfl @l) eU))))) (ac (au (PW.pt (mG (bw @eO @dN (wv 4) (bx _)) (mG @a (pM (fW rfl (b9 iw hr @b rfl (ar (wv 0) (ar (wv 5) (ar @dN @cR))))))))) (aa @fR (aa (aJ (fY rfl PySem.F.plainAttrs_list PySem.F.slot_list_append PySem.F.type_list_append lr (wv 8) (ar (cO (ar (wv 9) @cR)) ao))) (ac (bF (i:=5) dJ.nd rfl @l (A6 @a (b9 iu hr @b rfl (ar @dN @cR)) (wv 5)))))) ak))) (ac (ai (cO (ar (cO (ar @a (ar (wv 5) (ar @a (ar @a (ar (aL @cA rfl aZ boot_tuple @fS) ao)))))) (ar (wv 6) (ar (wv 7) ao)))))))))))),?_⟩];left;rwa[cI.mk _ _ _ _ _ _ rfl hc ?_];left;rwa[d9 @cp ?_]
 refine dD (xs:=bs) (λi ys H'=>H'=H/\ys=(bO pl @fT).map V.int) @bb (λi ys H' p=>by
  rw [p.2,length_map];unfold bO;rw [length_map];have:=length_filter_le (λp=>decide (2*p.2=pl)) @fT;rw [length_take] at this;lia) ⟨rfl,rfl⟩ (λi ys H' _ p=>by rw [p.1];exact az.of eb) (λi x ys H' ah p=> ?_) (λys H' p o n1=> ?_)
 ·obtain ⟨rfl,rfl⟩:=p;obtain ⟨W,ad,ae⟩:=bi db ah;obtain ⟨u,us,rfl,hu,R⟩:=ae.outT
  cases R with|cons q0 r0=>cases r0 with|cons q1 r1=>
  cases r1;cases q0.isInt;cases q1.isInt;left;rwa[⟨ly,?_⟩];show if decide (W.2=pl / 2)=true then _ else _;unfold bO;rw [cj _ ad];by_cases h1:W.2=pl / 2
  ·rw [if_pos @eN,if_pos (decide_eq_true (show 2*W.2=pl by lia)),map_append,map_append];exact ⟨rfl,rfl⟩
  ·rw [if_neg (by rw [decide_eq_false h1];decide),if_neg (by rw [decide_eq_false (show ¬2*W.2=pl by lia)];decide),append_nil];exact ⟨rfl,rfl⟩
 obtain ⟨rfl,rfl⟩:=p;rw [take_of_length_le (show ps.length<=bs.length by lia)];have e1:upd H' o (.lst ((bO pl ps).map V.int)) o=some (.lst ((bO pl ps).map V.int)):=ag;have s1:aq H' (upd H' o (.lst ((bO pl ps).map V.int))):= .upd n1;generalize upd H' o (.lst ((bO pl ps).map V.int))=H1 at e1 s1 ⊢;left;rwa[gI (be (by first|decide|simp)) λn H2 s2 n2 e2=> ?_]
 have no:n≠o:=λz=>by rw [z,e1] at n2;cases n2
 have nH:H' n=none:=s1.free n2;left;rwa[d9 @cp ?_]
 refine dD (xs:=bs) (λi ys j=>aq H2 j/\av K j ys ((cf pl @fT).map d5)) @bb (λi ys j p=>by
  rw [aE p.2];unfold cf;have:=length_filter_le (λp=> !decide (2*p.2=pl)) @fT;rw [length_take] at this;lia) ⟨.refl _,.nil⟩ (λi ys j _ p=>p.1.seqT (s2.seqT (s1.seqT @cV))) (λi x ys j ah p=> ?_) (λys j p k Y=> ?_)
 ·obtain ⟨U,dy⟩:=p;obtain ⟨W,ad,ae⟩:=bi db ah;obtain ⟨u,us,rfl,hu,R⟩:=ae.outT
  cases R with|cons q0 r0=>cases r0 with|cons q1 r1=>
  cases r1;cases q0.isInt;cases q1.isInt;left;rwa[⟨ly,?_⟩];show if (!decide (W.2=pl / 2))=true then _ else _;unfold cf;rw [cj _ ad];by_cases h1:W.2=pl / 2
  ·rw [if_neg (by rw [decide_eq_true h1];decide),if_neg (by rw [decide_eq_true (show 2*W.2=pl by lia)];decide),append_nil];exact ⟨U,dy⟩
  ·rw [if_pos (by rw [decide_eq_false h1];rfl),if_pos (by rw [decide_eq_false (show ¬2*W.2=pl by lia)];rfl)];rwa[bD (be (by first|decide|simp)) λl HY sy ny ey=> ?_];rwa[⟨U.trans sy,?_⟩];rw [map_append];exact Paired.app (av.same dy sy) (.cons (eh (az.of ey) (.cons (.int _) (.cons (.int _) .nil))) .nil)
 obtain ⟨U,dy⟩:=p;rw [take_of_length_le (show ps.length<=bs.length by lia)] at dy
 have nk:n≠k:=λz=>by rw [<-z,U.get e2] at Y;cases Y
 have ok:o≠k:=λz=>by rw [<-z,U.get (s2.get e1)] at Y;cases Y
 have kH:H' k=none:=s1.free (s2.free (U.free Y));have ab:aq H' (upd j k (.lst ys)):=((s1.trans s2).trans U).trans (.upd Y);have e3:upd j k (.lst ys) n=some (.lst []):=(aq.upd Y).get (U.get e2);have Z:upd j k (.lst ys) o=some (.lst ((bO pl ps).map V.int)):=(aq.upd Y).get (U.get (s2.get e1));have an:upd j k (.lst ys) k=some (.lst ys):=ag;have al:av K (upd j k (.lst ys)) ys ((cf pl ps).map d5):=av.same dy (.upd Y);generalize upd j k (.lst ys)=H3 at ab e3 Z an al ⊢;left;rwa[bL (ab.seq (aC.of ep)) ?_];rwa[eQ (xs:=xs) (λi σ j=>ua K H' j n k (br L I pl ⟨li,cf pl ps,[]⟩ @dM).ins (br L I pl ⟨li,cf pl ps,[]⟩ @dM).kept/\j o=some (.lst ((bO pl ps).map V.int))/\∃t1 t2 t3 t4,σ=[some (.str L),some (.int I),some (.ref c),some (.ref p),some (.int (pl / 2)),some (.int (br L I pl ⟨li,cf pl ps,[]⟩ @dM).light),some (.ref o),some (.ref n),some (.ref k),t1,t2,t3,t4]) ⟨⟨ab,nH,kH,nk,e3,ys,an,al⟩,Z,_,_,_,_,rfl⟩ (λi σ j _ pv=>by obtain ⟨⟨sm,_⟩,_⟩:=pv;exact sm.seq (aC.of ep)) (λi x σ j hx pv=> ?_) (λσ j pv=> ?_)]
 ·obtain ⟨G,Z,t1,t2,t3,t4,rfl⟩:=pv;obtain ⟨r,J,aD⟩:=bi dp hx;obtain ⟨u,us,rfl,hu,R⟩:=aD.outT
  cases R with|cons q0 r0=>cases r0 with|cons q1 r1=>cases r1 with|cons q2 r2=>cases r2 with|cons q3 r3=>
  cases r3;cases q0.isInt;cases q1.isInt;cases q2.isInt;cases q3.isInt;have sm:=G.1
  have lp:i<rs.length:=by have:=(List.getElem?_eq_some_iff.mp J).1;lia
  have ll:=jA (so:=L) (room:=I) (pl:=pl) @dM ⟨li,cf pl ps,[]⟩;rw [length_take] at ll;have aH:=aA.1;have kp:(cf pl ps).length<=ps.length:=length_filter_le _ _;generalize hS:br L I pl ⟨li,cf pl ps,[]⟩ @dM=S at *;simp only [length_nil] at ll
  have O:dh L I pl S r=false->cG L I pl S r=S:=λe=>by unfold cG;rw [e];rfl
  obtain ⟨ks,ek,dk⟩:=G.2.2.2.2.2;have kl:=aE dk;left;rwa[cB @cM @cM]
  ·have aB:2*r.start=pl:=by lia
   left;rw [kl];rwa[cB @bX @bX]
   ·left;rwa[ED.mk _ _ _ _ rfl ?_]
    have ap:(L=s!"free"\/S.light=0\/S.light=iL r.start r.goal)->cG L I pl S r=⟨if L=s!"way" then tf r else S.light,S.kept++[(r.tag,r.goal)],S.ins++[r.tag]⟩:=λz=>by
     unfold cG dh;rw [if_pos (by rw [decide_eq_true aB,decide_eq_true h2,decide_eq_true (show L=s!"free"\/S.light=0\/S.light=tf r from z)];rfl)]
    have aG:=G.2.2.2.2.1;rwa[cB (λh4=> ?_) (λh4=> ?_)]
    ·left;rwa[fQ G.2.2.2.2.1 (Bk (by rw [length_map];lia)) ?_];have GB:=G.pushN r.tag
     have aw:upd j n (.lst (S.ins.map V.int++[.int r.tag])) o=some (.lst ((bO pl ps).map V.int)):=by rw [am (Ne.symm no)];exact Z
     generalize upd j n (.lst (S.ins.map V.int++[.int r.tag]))=HB at GB aw ⊢;obtain ⟨aP,aI,aO⟩:=GB.2.2.2.2.2;left;erw[bD (be (by first|decide|simp)) λlA HA sA nA eA=> ?_];have GA:=GB.same sA;obtain ⟨aj,as,aF⟩:=GA.2.2.2.2.2;rwa[fQ as (Bk (by rw [aE aF];lia)) ?_];have GC:=GA.pushK as eA
     have af:upd HA k (.lst (aj++[.ref lA])) o=some (.lst ((bO pl ps).map V.int)):=by rw [am ok];exact sA.get aw
     generalize upd HA k (.lst (aj++[.ref lA]))=HC at GC af ⊢;ext;by_cases h5:L=s!"way"
     ·left;erw[qb.mk _ _ rfl ?_];rw [dg J,hS,ap h4,if_pos h5];exact ⟨GC,af,_,_,_,_,rfl⟩
     ·left;rw [dg J,hS,ap h4,if_neg h5];exact ⟨GC,af,_,_,_,_,rfl⟩
    ·left;rw [dg J,hS,O (by unfold dh;rw [decide_eq_false (show ¬(L=s!"free"\/S.light=0\/S.light=tf r) from h4),Bool.and_false])];exact ⟨G,Z,_,_,_,_,rfl⟩
   ·left;rw [dg J,hS,O (by unfold dh;rw [decide_eq_false h2,Bool.and_false];rfl)];exact ⟨G,Z,_,_,_,_,rfl⟩
  ·left;rw [dg J,hS,O (by unfold dh;rw [decide_eq_false (show ¬2*r.start=pl by lia)];rfl)];exact ⟨G,Z,_,_,_,_,rfl⟩
 ·obtain ⟨G,Z,t1,t2,t3,t4,rfl⟩:=pv;rw [take_of_length_le (show rs.length<=xs.length by lia)] at G ⊢;obtain ⟨ks,ek,dk⟩:=G.2.2.2.2.2;have sm:=G.1;left;rwa[fm (aC.of ek) λl HA sA nA eA=> ?_];left;rwa[bD Sc λc' HB sB nB eB=> ?_];left;rwa[bD (be (by first|decide|simp)) λr' HC sC nC eC=> ?_];exact q r' HC (((G.1.trans sA).trans sB).trans sC) ⟨c',o,n,eC,⟨l,ks,sC.get eB,sC.get (sB.get eA),by walk_at "l3sq"⟩,by walk_at "l3sq",sC.get (sB.get (sA.get G.2.2.2.2.1)),n1,nH,Ne.symm no⟩
abbrev Im:Str:=s!"plain"
abbrev hst:Str:=s!"hasty"
abbrev DV:Str:=s!"slow"
def jj (k:Str):Prop:=k=Im\/k=hst\/k=DV
noncomputable def kc (kD kH kS:Addr)(k:Str):Addr:=if k=hst then kH else if k=DV then kS else kD
theorem NQ {j F z:Addr}:kc j F z Im=j:=by unfold kc;rw [if_neg @b,if_neg @b]
theorem NR {j F z:Addr}:kc j F z hst=F:=by unfold kc;rw [if_pos rfl]
theorem NP {j F z:Addr}:kc j F z DV=z:=by unfold kc;rw [if_neg @b,if_pos rfl]
noncomputable def fv (k:Str)(t n:Int)(b s:Bool):Int:=if (k=Im/\b=true)\/(k=DV/\(b=true\/s=true)) then t else if k=hst/\b=true then n else n - 1
abbrev Ky (C dx:Addr)(t:Int):HO:= .ins C dx [(s!"turns",.int t)]
inductive kh (K:Fg)(vs:List V)(H:Hp)(Q:VK)(_e:XK):Prop
 |mk (a t C dx:_) (_:vs=[.ref a,.int t]) (_:H a=some (.ins C dx [])) (_:uY K C) (_:aR K C "turns") (_:Q .non (upd H a @gV))
theorem JS (F:bt K "__init__" "Door.__init__" nJ f fd):ay P w K mg base bd 1 f fd ["self","turns"] (kh K):=by
 rwa[F.ok zU (by symm) @Q];obtain ⟨a,t,C,dx,rfl,O,U,j,q⟩:=h;rwa[⟨_,(ac @bJ),?_⟩];exact cU O U j @b q
inductive iW (K:Fg)(k:Str)(vs:List V)(H:Hp)(Q:VK)(_e:XK):Prop
 |mk (a n b s t C dx:_) (_:vs=[.ref a,.int n,.bl b,.bl s]) (_:H a=some @gV) (_:uY K C) (_:aR K C "turns") (_:Q (.int (fv k t n b s)) H)
theorem F5 (F:bt K "left" "Door.left" nF f fd):ay P w K mg base bd 1 f fd ["self","count","blocked","stepped"] (iW K Im):=by
 rwa[F.ok zT (by symm) @Q];obtain ⟨a,n,b,s,t,C,dx,rfl,O,U,j,q⟩:=h;rwa[⟨_,@j,?_⟩];cases b
 ·rw [show fv Im t n false s=n - 1 from by unfold fv;rw [if_neg (by cases s<;>decide),if_neg @b]] at q;left;exact q
 ·rw [show fv Im t n true s=t from by unfold fv;rw [if_pos (.inl ⟨rfl,rfl⟩)]] at q;left;exact fJ O U j rfl q
theorem F4 (F:bt K "left" "Hasty.left" kB f fd):ay P w K mg base bd 1 f fd ["self","count","blocked","stepped"] (iW K hst):=by
 rwa[F.ok xV (by symm) @n];obtain ⟨a,n,b,s,t,C,dx,rfl,O,U,z,q⟩:=h;rwa[⟨_,@j,?_⟩];cases b
 ·rw [show fv hst t n false s=n - 1 from by unfold fv;rw [if_neg (by cases s<;>decide),if_neg @b]] at q;left;exact q
 ·rw [show fv hst t n true s=n from by unfold fv;rw [if_neg (by cases s<;>decide),if_pos ⟨rfl,rfl⟩]] at q;left;exact q
theorem F3 (F:bt K "left" "Slow.left" mZ f fd):ay P w K mg base bd 1 f fd ["self","count","blocked","stepped"] (iW K DV):=by
 rwa[F.ok zI (by symm) @Q];obtain ⟨a,n,b,s,t,C,dx,rfl,O,U,j,q⟩:=h;rwa[⟨_,@j,?_⟩];cases b
 ·cases s
  ·rw [show fv DV t n false false=n - 1 from by unfold fv;rw [if_neg @b,if_neg @b]] at q;left;exact q
  ·rw [show fv DV t n false true=t from by unfold fv;rw [if_pos (.inr ⟨rfl,.inr rfl⟩)]] at q;left;exact fJ O U j rfl q
 ·rw [show fv DV t n true s=t from by unfold fv;rw [if_pos (.inr ⟨rfl,.inl rfl⟩)]] at q;left;exact fJ O U j rfl q
structure LD (K:Fg)(C:Addr):Prop where
 i:gU K C
 n:aR K C "turns"
unseal gH in
theorem Nv {C:Addr}{E:XK}{t:Int}{H:Hp}{Q:VK}(c:LD K C)(g:∀a dx H',aq H H'->H a=none->H' a=some @gV->Q (.ref a) H'):gH C (kh K) E [.int t] H Q:=by
 show ∀a dx,H a=none->H dx=none->dx≠a->kh K (.ref a::([.int t]++[])) @r (λv H2=>v= .non/\Q (.ref a) H2) E;intro a dx h1 h2 L;rwa[kh.mk _ _ _ _ rfl ag c.i.cl c.n ⟨rfl,g a dx _ ?_ h1 ag⟩];intro b u z;rw [am (λe=>by rw [e,h1] at z;cases z)];exact fA h1 h2 b u z
inductive qp (K:Fg)(kD kH kS:Addr)(vs:List V)(H:Hp)(Q:VK)(_e:XK):Prop
 |mk (k t:_) (_:vs=[.str k,.int t]) (_:jj k) (_:∀a dx H',aq H H'->H a=none->H' a=some (Ky @hh dx t)->Q (.ref a) H')
theorem C2 (F:Z0 K "door_of" v8 f fd)(O:LD K tO)(z:LD K lY)(L:LD K wB)(G:iK P w K mg base bd 1 "Door" tO (kh K))(I:iK P w K mg base bd 1 "Hasty" lY (kh K))(J:iK P w K mg base bd 1 "Slow" wB (kh K)):ay P w K mg base bd 3 f fd ["kind","turns"] (qp K tO lY wB):=by
 rwa[F.ok E7 (by symm) @bw];obtain ⟨k,t,rfl,R,q⟩:=h;rwa[⟨_,(aa (au @a (ac (ai (fX I jX S @b rfl @bz))) ak) (aa (au @a (ac (ai (fX J jX S @b rfl @bz))) ak) (ac (ai (fX G jX S @b rfl @bz))))),?_⟩]
 rcases R with rfl|rfl|rfl
 ·rw [NQ] at q;left;exact Nv O q
 ·rw [NR] at q;left;exact Nv z q
 ·rw [NP] at q;left;exact Nv L q
structure Lf where
 st:Int
 rm:Int
 tn:Int
 kd:Str
structure Hs where
 fl:Int
 ls:List Lf
 lo:Nat
 so:Str
structure Hs.ok (h:Hs):Prop where
 f2:2<=h.fl
 f8:h.fl<=8
 l1:1<=h.ls.length
 l3:h.ls.length<=3
 lf:∀l∈h.ls,1<=l.rm/\l.rm<=6/\1<=l.tn/\l.tn<=4/\jj l.kd
 so:h.so=s!"free"\/h.so=s!"way"
def Ow (K:Fg)(H:Hp)(x:V)(l:Lf):Prop:=∃b,x= .ref b/\az K H b [.int l.st,.int l.rm,.int l.tn,.str l.kd]
def iN (K:Fg)(H:Hp)(a:Addr)(h:Hs):Prop:=h.ok/\∃p xs,az K H a [.int h.fl,.ref p,.int (h.lo:Int),.str h.so]/\az K H p xs/\Paired (Ow K H) xs h.ls
theorem iN.keep {H H':Hp}{a:Addr}{h:Hs}(c:iN K H a h)(s:aK H H'):iN K H' a h:=by
 obtain ⟨o,p,xs,h1,h2,L⟩:=c;exact ⟨o,p,xs,s.sqT h1,s.sqT h2,Paired.imp' (λx l ⟨b,e,z⟩=>⟨b,e,s.sqT z⟩) L⟩
theorem iN.same {H H':Hp}{a:Addr}{h:Hs}(c:iN K H a h)(s:aq H H'):iN K H' a h:=c.keep s.st
theorem iN.at {H:Hp}{a:Addr}{h:Hs}(c:iN K H a h){i:Int}{l:Lf}(F:0<=i)(W:h.ls[i.toNat]? =some l):∃p xs b,az K H a [.int h.fl,.ref p,.int (h.lo:Int),.str h.so]/\az K H p xs/\xs.length=h.ls.length/\k7 xs i=some (.ref b)/\az K H b [.int l.st,.int l.rm,.int l.tn,.str l.kd]:=by
 obtain ⟨o,p,xs,h1,h2,L⟩:=c;obtain ⟨j,rfl⟩:=Int.eq_ofNat_of_zero_le F;rw [show ((j:Int)).toNat=j by lia] at W
 have Z:j<xs.length:=by rw [L.len];exact (List.getElem?_eq_some_iff.mp W).1
 obtain ⟨G,I,b,U,z⟩:=L.get1 (getElem?_eq_getElem Z);rw [W] at I;cases I;exact ⟨p,xs,b,h1,h2,L.len,by rw [bW (getElem?_eq_getElem Z),U],z⟩
inductive mP (K:Fg)(g:Lf->V)(vs:List V)(H:Hp)(Q:VK)(_e:XK):Prop
 |mk (a h i l:_) (_:vs=[.ref a,.int i]) (_:iN K H a h) (_:0<=i) (_:h.ls[i.toNat]? =some l) (_:Q (g l) H)
theorem JM (F:Z0 K "room_of" vM f fd):ay P w K mg base bd 1 f fd ["house","lift"] @dx:=by
 rwa[F.ok ET (by symm) @n];obtain ⟨a,h,i,l,rfl,G,L,W,q⟩:=h;obtain ⟨p,xs,b,h1,h2,I,z,U⟩:=G.at L W;rwa[⟨_,@j,?_⟩];rwa[ae h1 rfl ?_];rwa[ae h2 z ?_];exact ae U rfl q
theorem As (F:Z0 K "turns_of" qD f fd):ay P w K mg base bd 1 f fd ["house","lift"] @dy:=by
 rwa[F.ok Cp (by symm) @n];obtain ⟨a,h,i,l,rfl,G,L,W,q⟩:=h;obtain ⟨p,xs,b,h1,h2,I,z,U⟩:=G.at L W;rwa[⟨_,@j,?_⟩];rwa[ae h1 rfl ?_];rwa[ae h2 z ?_];exact ae U rfl q
theorem C1 (F:Z0 K "kind_of" v6 f fd):ay P w K mg base bd 1 f fd ["house","lift"] (mP K λl=> .str l.kd):=by
 rwa[F.ok E5 (by symm) @n];obtain ⟨a,h,i,l,rfl,G,L,W,q⟩:=h;obtain ⟨p,xs,b,h1,h2,I,z,U⟩:=G.at L W;rwa[⟨_,@j,?_⟩];rwa[ae h1 rfl ?_];rwa[ae h2 z ?_];exact ae U rfl q
structure Cb where
 pl:Int
 li:Int
 dr:Int
 mr:Int
 ps:List (Int×Int)
def bv (K:Fg)(H:Hp)(x:V)(c:Cb):Prop:=∃t,x= .ref t/\bo K H t c.pl c.li c.dr c.mr c.ps
theorem bo.keep {H H':Hp}{t:Addr}{pl li dr j:Int}{ps:List (Int×Int)}(h:bo K H t pl li dr j ps)(s:aK H H'):bo K H' t pl li dr j ps:=by
 obtain ⟨b,xs,R,O,d⟩:=h;exact ⟨b,xs,s.tup R,s.tup O,s.dens d (nM ps)⟩
theorem bv.keep {H H':Hp}{x:V}{c:Cb}(h:bv K H x c)(s:aK H H'):bv K H' x c:=let ⟨t,e,z⟩:=h;⟨t,e,z.keep s⟩
structure MS where
 cs:List Cb
 ws:List aI
 last:Int
 fire:Bool
 bl:Nat
 log:List D
abbrev tM (h lc lw:Addr)(last:Int)(fire:Bool)(bl:Nat)(ll:Addr):List (Str×V):=[(s!"house",.ref h),(s!"cabins",.ref lc),(s!"waiting",.ref lw),(s!"last",.int last),(s!"fire",.bl fire),(s!"blocked",.int (bl:Int)),(s!"log",.ref ll)]
structure xi (K:Fg)(C:Addr):Prop where
 i:gU K C
 house:aR K C "house"
 cabins:aR K C "cabins"
 waiting:aR K C "waiting"
 last:aR K C "last"
 fire:aR K C "fire"
 blocked:aR K C "blocked"
 log:aR K C "log"
structure dI (K:Fg)(C:Addr)(H0 H:Hp)(m h dx lc lw ll:Addr)(xs ys zs:List V)(M:MS):Prop where
 s:aq H0 H
 nm:H0 m=none
 nc:H0 lc=none
 nw:H0 lw=none
 nl:H0 ll=none
 cw:lc≠lw
 cl:lc≠ll
 wl:lw≠ll
 em:H m=some (.ins C dx @eU)
 ec:H lc=some (.lst xs)
 ew:H lw=some (.lst ys)
 el:H ll=some (.lst zs)
 dc:Paired (bv K H) xs M.cs
 dw:av K H ys (M.ws.map aI.d)
 dl:av K H zs M.log
 ln:noLs M.log=true
inductive gS (K:Fg)(C:Addr)(H0 H:Hp)(m h:Addr)(M:MS):Prop
 |mk (dx lc lw ll xs ys zs:_) (_:dI K C H0 H m h dx lc lw ll xs ys zs M)
section
variable {C:Addr}{H0 H H':Hp}{m h dx lc lw ll:Addr}{xs ys zs:List V}{M:MS}
theorem dI.same (a:dI K C H0 H m h dx lc lw ll xs ys zs M)(s':aq H H'):dI K C H0 H' m h dx lc lw ll xs ys zs M:=
 ⟨a.s.trans s',a.nm,a.nc,a.nw,a.nl,a.cw,a.cl,a.wl,s' _ _ a.em,s' _ _ a.ec,s' _ _ a.ew,s' _ _ a.el,Paired.imp' (λx c z=>bv.keep z s'.st) a.dc,av.same a.dw s',av.same a.dl s',a.ln⟩
theorem gS.same (a:gS K C H0 H m h M)(s':aq H H'):gS K C H0 H' m h M:=let ⟨dx,lc,lw,ll,xs,ys,zs,z⟩:=a;⟨dx,lc,lw,ll,xs,ys,zs,z.same s'⟩
theorem bv.nt {H H':Hp}(s:bE H H'){v:V}{c:Cb}(h:bv K H v c):bv K H' v c:=by
 obtain ⟨t,e,b,j,h1,h2,L⟩:=h;exact ⟨t,e,b,j,s _ _ (λ_ z=>by cases z) h1,s _ _ (λ_ z=>by cases z) h2,s.dens L⟩
theorem dI.sameN (a:dI K C H0 H m h dx lc lw ll xs ys zs M)(j:NT H0)(s':bE H H'):dI K C H0 H' m h dx lc lw ll xs ys zs M:=
 ⟨bE.onto j a.s s',a.nm,a.nc,a.nw,a.nl,a.cw,a.cl,a.wl,s' _ _ (λ_ z=>by cases z) a.em,s' _ _ (λ_ z=>by cases z) a.ec,s' _ _ (λ_ z=>by cases z) a.ew,s' _ _ (λ_ z=>by cases z) a.el,Paired.imp' (λx c z=>bv.nt s' z) a.dc,s'.dens a.dw,s'.dens a.dl,a.ln⟩
theorem dI.setC (a:dI K C H0 H m h dx lc lw ll xs ys zs M){i:Nat}{v:V}{c:Cb}(Y:bv K H v c):dI K C H0 (upd H lc (.lst @gJ)) m h dx lc lw ll @gJ ys zs {M with cs:=M.cs.set i c}:=by
 have st:aK H (upd H lc (.lst @gJ)):= .updL a.ec;rwa[⟨λb u z=> ?_,a.nm,a.nc,a.nw,a.nl,a.cw,a.cl,a.wl,?_,ag,?_,?_,eL (Paired.imp' @bA a.dc) (Y.keep st),st.dens a.dw (cy _),st.dens a.dl a.ln,a.ln⟩]
 ·rw [am (λe=>by rw [e,a.nc] at z;cases z)];exact a.s b u z
 ·rw [am (λe=>by have:=a.em;rw [e,a.ec] at this;cases this)];exact a.em
 ·rw [am a.cw.symm];exact a.ew
 ·rw [am a.cl.symm];exact a.el
theorem dI.setL (a:dI K C H0 H m h dx lc lw ll xs ys zs M){vs:List V}{ds:List D}(Y:av K H vs ds)(j:noLs ds=true):dI K C H0 (upd H ll (.lst (zs++vs))) m h dx lc lw ll xs ys (zs++vs) {M with log:=M.log++ds}:=by
 have st:aK H (upd H ll (.lst (zs++vs))):= .updL a.el;rwa[⟨λb u z=> ?_,a.nm,a.nc,a.nw,a.nl,a.cw,a.cl,a.wl,?_,?_,?_,ag,Paired.imp' @bA a.dc,st.dens a.dw (cy _),Paired.app (st.dens a.dl a.ln) (st.dens Y j),jg a.ln j⟩]
 ·rw [am (λe=>by rw [e,a.nl] at z;cases z)];exact a.s b u z
 ·rw [am (λe=>by have:=a.em;rw [e,a.el] at this;cases this)];exact a.em
 ·rw [am a.cl];exact a.ec
 ·rw [am a.wl];exact a.ew
theorem dI.setW (a:dI K C H0 H m h dx lc lw ll xs ys zs M){vs:List V}{rs:List aI}(Y:av K H vs @P):dI K C H0 (upd H lw (.lst vs)) m h dx lc lw ll xs vs zs {M with ws:=rs}:=by
 have st:aK H (upd H lw (.lst vs)):= .updL a.ew;rwa[⟨λb u z=> ?_,a.nm,a.nc,a.nw,a.nl,a.cw,a.cl,a.wl,?_,?_,ag,?_,Paired.imp' @bA a.dc,st.dens Y (cy _),st.dens a.dl a.ln,a.ln⟩]
 ·rw [am (λe=>by rw [e,a.nw] at z;cases z)];exact a.s b u z
 ·rw [am (λe=>by have:=a.em;rw [e,a.ew] at this;cases this)];exact a.em
 ·rw [am a.cw];exact a.ec
 ·rw [am a.wl.symm];exact a.el
theorem dI.putW (a:dI K C H0 H m h dx lc lw ll xs ys zs M){l:Addr}{vs:List V}{rs:List aI}(F:H0 l=none)(G:lc≠l)(j:l≠ll)(e:H l=some (.lst vs))(Y:av K H vs @P):dI K C H0 (upd H m (.ins C dx (tM h lc l M.last M.fire M.bl ll))) m h dx lc l ll xs vs zs {M with ws:=rs}:=by
 have st:aK H (upd H m (.ins C dx (tM h lc l M.last M.fire M.bl ll))):= .updI a.em
 have nm:∀ {p:Addr} {I:List V},H p=some (.lst I)->p≠m:=λ{p I} e z=>by rw [z,a.em] at e;cases e
 rwa[⟨λb u z=> ?_,a.nm,a.nc,F,a.nl,G,a.cl,j,ag,?_,?_,?_,Paired.imp' @bA a.dc,st.dens Y (cy _),st.dens a.dl a.ln,a.ln⟩]
 ·rw [am (λe=>by rw [e,a.nm] at z;cases z)];exact a.s b u z
 ·rw [am (nm a.ec)];exact a.ec
 ·rw [am (nm e)];exact e
 ·rw [am (nm a.el)];exact a.el
theorem dI.putF (a:dI K C H0 H m h dx lc lw ll xs ys zs M)(j:Int)(fire:Bool)(F:Nat):dI K C H0 (upd H m (.ins C dx (tM h lc lw j fire F ll))) m h dx lc lw ll xs ys zs {M with last:=j,fire:=fire,bl:=F}:=by
 have st:aK H (upd H m (.ins C dx (tM h lc lw j fire F ll))):= .updI a.em
 have nm:∀ {p:Addr} {G:List V},H p=some (.lst G)->p≠m:=λ{p G} e z=>by rw [z,a.em] at e;cases e
 rwa[⟨λb u z=> ?_,a.nm,a.nc,a.nw,a.nl,a.cw,a.cl,a.wl,ag,?_,?_,?_,Paired.imp' @bA a.dc,st.dens a.dw (cy _),st.dens a.dl a.ln,a.ln⟩]
 ·rw [am (λe=>by rw [e,a.nm] at z;cases z)];exact a.s b u z
 ·rw [am (nm a.ec)];exact a.ec
 ·rw [am (nm a.ew)];exact a.ew
 ·rw [am (nm a.el)];exact a.el
end
inductive Dd where
 |come (t s g:Int) (k:Bool)
 |lf (x:Str) (n:Int)
 |sg (x:Str)
abbrev p9:Str:=s!"come"
noncomputable def Dd.v:Dd->List V
 | .come t s g k=>[.str p9,.int t,.int s,.int g,.bl k]
 | .lf x n=>[.str x,.int n]
 | .sg x=>[.str x]
def Dd.ok:Dd->Prop
 | .come _ _ _ _=>True
 | .lf x _=>x=s!"block"\/x=s!"stick"\/x=s!"free"\/x=s!"goods"\/x=s!"back"
 | .sg x=>x=s!"fire"\/x=s!"calm"
def ub (H:Hp)(a:Addr)(d:Dd):Prop:=H a=some (.tup d.v)/\d.ok
theorem ub.keep {H H':Hp}{a:Addr}{d:Dd}(h:ub H a d)(s:aK H H'):ub H' a d:=⟨s.tup h.1,h.2⟩
theorem ub.same {H H':Hp}{a:Addr}{d:Dd}(h:ub H a d)(s:aq H H'):ub H' a d:=⟨s _ _ h.1,h.2⟩
noncomputable def P2 (t:Int):D:= .tup [.str "barred",.int t]
noncomputable def MH (t:Int):D:= .tup [.str "sent",.int t]
noncomputable def cK (lo:Nat)(M:MS)(t s g:Int)(k:Bool):MS:=if lo.testBit g.toNat=true/\k=false then {M with log:=M.log++[P2 t]} else if M.fire=true then {M with log:=M.log++[MH t]} else {M with ws:=M.ws++[⟨t,s,g,-1⟩]}
theorem cg {C:Addr}{H0 H:Hp}{m h dx lc lw ll:Addr}{xs ys zs:List V}{M:MS}{j:Str}{v:V}{Q:VK}(a:dI K C H0 H m h dx lc lw ll xs ys zs M)(c:uY K C)(n:aR K C j)(e:(tM h lc lw M.last M.fire M.bl ll).lookup j=some v)(g:Q v H):yp K j m H Q:=fJ a.em c n e g
inductive zG (K:Fg)(C:Addr)(vs:List V)(H:Hp)(Q:VK)(_e:XK):Prop
 |mk (m t s g k h hs H0 M:_) (_:vs=[.ref m,.int t,.int s,.int g,.bl k]) (_:iN K H h hs) (_:gS K C H0 H m h M) (_:M.ws.length<=1000) (_:M.log.length<=1000) (_:0<=g) (_:g<1000) (_:∀H',aK H H'->gS K C H0 H' m h (cK hs.lo M t s g k)->Q .non H')
theorem JW {C:Addr}{S:Tok}(F:Z0 K "do_come" wb f fd)(j:xi K C)(b8:mg "NO_LIFT"=some (.int (-1) S))(pF:Z03 P w K mg base):ay P w K mg base bd 3 f fd ["moment","tag","start","goal","key"] (zG K C):=by
 have lM:aF (.int (-1)) (.int (-1) S):=⟨_,rfl⟩;rwa[F.ok E9 (by symm) (λaa A outer s H vs Q E hr h=> ?_)];obtain ⟨m,t,s,g,k,h,hs,H0,M,rfl,hH,W,wl,Z,Y,g1,q⟩:=h;obtain ⟨dx,lc,lw,ll,xs,ys,zs,a⟩:=W;obtain ⟨o,p,ps,h1,h2,h3⟩:=hH;obtain ⟨I,rfl⟩:=Int.eq_ofNat_of_zero_le Y;have yl:=aE a.dw;have zl:zs.length=M.log.length:=a.dl.len;have U:=j.i.cl;rwa[⟨_,(ac (au @a @A (ac (au @a @A @A)))),?_⟩];rwa[cg a U j.house rfl ?_];rwa[ae h1 rfl ?_];rwa[fZ.mk _ _ rfl @c ?_];unfold cK at q;rw [show ((I:Int)).toNat=I by lia] at q;ext;by_cases L:hs.lo.testBit I=true
 ·rwa[aP L ?_]
  cases k with
  |false=>
   rw [if_pos ⟨L,rfl⟩] at q;rwa[aP rfl ?_];rwa[cg a U j.log (v:= .ref ll) rfl ?_];rwa[⟨.inl ⟨rfl,_,aC.of a.el⟩,?_⟩];rwa[bD (be (by show 2<=1000000;decide)) λr H1 O J R=> ?_];rwa[fQ @gK @dz ?_];exact q _ @cq ⟨dx,lc,lw,ll,xs,ys,_,(a.same O).setL (ds:=[P2 t]) (.cons @bl .nil) rfl⟩
  |true=>
   rw [if_neg (λz=>by cases z.2)] at q;rwa[aG rfl ?_];erw[cg a U j.fire (v:= .bl M.fire) rfl ?_]
   cases G:M.fire with
   |true=>
    rw [if_pos G] at q;rwa[aP rfl ?_];rwa[cg a U j.log (v:= .ref ll) rfl ?_];rwa[⟨.inl ⟨rfl,_,aC.of a.el⟩,?_⟩];rwa[bD (be (by show 2<=1000000;decide)) λr H1 O J R=> ?_];rwa[fQ @gK @dz ?_];exact q _ @cq ⟨dx,lc,lw,ll,xs,ys,_,(a.same O).setL (ds:=[MH t]) (.cons @bl .nil) rfl⟩
   |false=>
    rw [if_neg (by rw [G];decide)] at q;rwa[aG rfl ?_];rwa[cg a U j.waiting (v:= .ref lw) rfl ?_];rwa[⟨.inl ⟨rfl,_,aC.of a.ew⟩,?_⟩];rwa[bD (be (by show 4<=1000000;decide)) λr H1 O J R=> ?_];rwa[fQ @fB @dz ?_];rwa[q _ (O.st.trans (.updL @fB)) ⟨dx,lc,lw,ll,xs,_,zs,(a.same O).setW (rs:=M.ws++[⟨t,s,(I:Int),-1⟩]) ?_⟩];rw [map_append];exact Paired.app (av.same a.dw O) (.cons (eh (az.of R) (.cons (.int _) (.cons (.int _) (.cons (.int _) (.cons (.int _) .nil))))) .nil)
 ·rwa[aG (by simpa using L) ?_];rwa[aG rfl ?_];rw [if_neg (λz=>L z.1)] at q;erw[cg a U j.fire (v:= .bl M.fire) rfl ?_]
  cases G:M.fire with
  |true=>
   rw [if_pos G] at q;rwa[aP rfl ?_];rwa[cg a U j.log (v:= .ref ll) rfl ?_];rwa[⟨.inl ⟨rfl,_,aC.of a.el⟩,?_⟩];rwa[bD (be (by show 2<=1000000;decide)) λr H1 O J R=> ?_];rwa[fQ @gK @dz ?_];exact q _ @cq ⟨dx,lc,lw,ll,xs,ys,_,(a.same O).setL (ds:=[MH t]) (.cons @bl .nil) rfl⟩
  |false=>
   rw [if_neg (by rw [G];decide)] at q;rwa[aG rfl ?_];rwa[cg a U j.waiting (v:= .ref lw) rfl ?_];rwa[⟨.inl ⟨rfl,_,aC.of a.ew⟩,?_⟩];rwa[bD (be (by show 4<=1000000;decide)) λr H1 O J R=> ?_];rwa[fQ @fB @dz ?_];rwa[q _ (O.st.trans (.updL @fB)) ⟨dx,lc,lw,ll,xs,_,zs,(a.same O).setW (rs:=M.ws++[⟨t,s,(I:Int),-1⟩]) ?_⟩];rw [map_append];exact Paired.app (av.same a.dw O) (.cons (eh (az.of R) (.cons (.int _) (.cons (.int _) (.cons (.int _) (.cons (.int _) .nil))))) .nil)
theorem bU {H:Hp}{x:V}{r:aI}(h:bM K H x r.d):∃a,x= .ref a/\az K H a [.int r.tag,.int r.start,.int r.goal,.int r.lift]:=by
 obtain ⟨a,xs,rfl,h1,h2⟩:=h.outT
 cases h2 with|cons q0 t0=>cases t0 with|cons q1 t1=>cases t1 with|cons q2 t2=>cases t2 with|cons q3 t3=>
 cases t3;cases q0.isInt;cases q1.isInt;cases q2.isInt;cases q3.isInt;exact ⟨a,rfl,h1⟩
inductive jC (K:Fg)(vs:List V)(H:Hp)(Q:VK)(_e:XK):Prop
 |mk (x r i:_) (_:vs=[x,.int i]) (_:bM K H x @fj) (_:∀v H',aq H H'->bM K H' v (aI.d {r with lift:=i})->Q v H')
theorem F9 (F:Z0 K "dealt_to" qO f fd):ay P w K mg base bd 1 f fd ["rider","lift"] (jC K):=by
 rwa[F.ok CA (by symm) (λj A outer s H R Q E z h=> ?_)];obtain ⟨x,r,i,rfl,J,q⟩:=h;obtain ⟨a,rfl,L⟩:=bU J;rwa[⟨_,@j,?_⟩];rwa[ae L rfl ?_];rwa[ae L rfl ?_];rwa[ae L rfl ?_];exact bD (be (by show 4<=1000000;decide)) λb H2 S W O=>q _ H2 S (eh (az.of O) (.cons (.int _) (.cons (.int _) (.cons (.int _) (.cons (.int _) .nil)))))
inductive xI (K:Fg)(vs:List V)(H:Hp)(Q:VK)(_e:XK):Prop
 |mk (c i pl li dr mk ps:_) (_:vs=[.ref c,.int i]) (_:bo K H c pl li dr mk ps) (_:∀r H',aq H H'->bo K H' r pl li dr i ps->Q (.ref r) H')
theorem Na (F:Z0 K "with_marks" ki f fd):ay P w K mg base bd 1 f fd ["cabin","marks"] (xI K):=by
 rwa[F.ok xL (by symm) (λj A outer s H R Q E z h=> ?_)];obtain ⟨c,i,pl,li,dr,I,ps,rfl,⟨b,xs,G,U,dx⟩,q⟩:=h;rwa[⟨_,@j,?_⟩];have L:=az.of (K:=K) G;rwa[ae L rfl ?_];rwa[ae L rfl ?_];rwa[ae L rfl ?_];rwa[ae L rfl ?_];exact bD (be (by show 5<=1000000;decide)) λr H2 S W O=>q r H2 S ⟨b,xs,O,S _ _ U,av.same dx S⟩
noncomputable def oR (M n:Nat):Nat:=if M.testBit n=true then M - 2^n else M
theorem Oi {M n:Nat}(h:M.testBit n=true):2^n<=M:=Nat.ge_two_pow_of_testBit h
inductive mJ (vs:List V)(H:Hp)(Q:VK)(_e:XK):Prop
 |mk (M n:Nat) (_:vs=[.int (M:Int),.int (n:Int)]) (_:n<=1000) (_:Q (.int ((oR M n:Nat):Int)) H)
theorem Aq (F:Z0 K "without" qB f fd)(I:aV P w K mg base 1 "bit" ["k"] lJ)(O:Z03 P w K mg base):ay P w K mg base bd 3 f fd ["mask","k"] mJ:=by
 rwa[F.ok Cn (by symm) @bc];obtain ⟨M,n,rfl,z,q⟩:=h;rwa[⟨_,(aa @W (ac (ai (wv 0)))),?_⟩];erw[fZ.mk _ _ rfl z ?_];unfold oR at q;by_cases j:M.testBit n=true
 ·rw [if_pos j] at q;rwa[aP j ?_];rwa[lJ.mk _ rfl z ?_];have:=Oi j;rw [show ((M - 2^n:Nat):Int)=(M:Int) - ((2^n:Nat):Int) by lia] at q;exact q
 ·rw [if_neg j] at q;rwa[aG (by simpa using j) ?_];exact q
def atC (M:MS)(i:Int)(c:Cb):Prop:=0<=i/\M.cs[i.toNat]? =some c
theorem dI.atC {C:Addr}{H0 H:Hp}{m h dx lc lw ll:Addr}{xs ys zs:List V}{M:MS}(a:dI K C H0 H m h dx lc lw ll xs ys zs M){i:Int}{c:Cb}(I:atC M i c):∃t,xs[i.toNat]? =some (.ref t)/\k7 xs i=some (.ref t)/\bo K H t c.pl c.li c.dr c.mr c.ps/\i.toNat<xs.length:=by
 obtain ⟨L,I⟩:=I;obtain ⟨j,rfl⟩:=Int.eq_ofNat_of_zero_le L;rw [show ((j:Int)).toNat=j by lia] at I ⊢
 have Z:j<xs.length:=by rw [a.dc.len];exact (List.getElem?_eq_some_iff.mp I).1
 obtain ⟨F,af,t,z,J⟩:=a.dc.get1 (getElem?_eq_getElem Z);rw [I] at af;cases af;exact ⟨t,by rw [getElem?_eq_getElem Z,z],by rw [bW (getElem?_eq_getElem Z),z],J,Z⟩
theorem yi {xs:List V}{i:Int}(F:0<=i)(h1:i.toNat<xs.length):wE xs.length i=some i.toNat:=by
 unfold wE;rw [if_pos @c,if_pos @c]
noncomputable def dB (i:Int)(ws:List aI):List aI:=ws.map λr=>if r.lift=i then {r with lift:= -1} else r
noncomputable def qR (i:Int)(k:Nat)(c:Cb)(M:MS):MS:= {M with cs:=M.cs.set i.toNat {c with mr:=((c.mr.toNat|||2^k:Nat):Int)},ws:=dB i M.ws}
noncomputable def kN (i:Int)(k:Nat)(c:Cb)(M:MS):MS:= {M with cs:=M.cs.set i.toNat {c with mr:=((oR c.mr.toNat k:Nat):Int)}}
inductive vj (K:Fg)(C:Addr)(vs:List V)(H:Hp)(Q:VK)(_e:XK):Prop
 |mk (m i h H0 M c:_) (k:Nat) (_:vs=[.ref m,.int i,.int (k:Int)]) (_:k<=1000) (_:gS K C H0 H m h M) (_:M.ws.length<=1000) (_:atC M i c) (_:0<=c.mr) (_:∀H',aK H H'->gS K C H0 H' m h (qR i k c M)->Q .non H')
abbrev Z08:=λP w K mg base=>aV P w K mg base 1 "dealt_to" ["rider","lift"] (jC K)
theorem JN {C:Addr}{t1:Tok}(F:Z0 K "put_mark" qI f fd)(S:xi K C)(b8:mg "NO_LIFT"=some (.int (-1) t1))(fC:aV P w K mg base 2 "with_bit" ["mask","k"] g8)(gq:aV P w K mg base 1 "with_marks" ["cabin","marks"] (xI K))(fD:Z08 P w K mg base):ay P w K mg base bd 3 f fd ["moment","lift","mark"] (vj K C):=by
 have lM:aF (.int (-1)) (.int (-1) t1):=⟨_,rfl⟩;rwa[F.ok Ct (by symm) (λak A outer s H vs Q E hr h=> ?_)];obtain ⟨m,i,h,H0,M,c,k,rfl,k1,⟨dx,lc,lw,ll,xs,ys,zs,a⟩,wl,hc,m0,q⟩:=h;obtain ⟨t,hx,hi,ht,ai⟩:=a.atC hc;obtain ⟨mn,W⟩:=Int.eq_ofNat_of_zero_le m0;have cl:=S.i.cl;rwa[⟨_,(aa @a (aa @df (ac (cL rfl (wv 0) (bG rfl (ax (N':=["rider","lift"]) (pk:=[none,some 1]) @k) @a @g @s @g))))),?_⟩];rwa[cg a cl S.cabins (v:= .ref lc) rfl ?_];erw[aW @bW hi ?_];obtain ⟨b,bs,et,eb,db⟩:=id ht;rwa[ae (az.of et) rfl ?_];rw [W] at ht ⊢;rwa[g8.mk _ _ rfl k1 ?_];erw[xI.mk _ _ _ _ _ _ _ rfl ht λt2 H1 s1 ab=> ?_];have a1:=a.same s1;rwa[cg a1 cl S.cabins (v:= .ref lc) rfl ?_];rwa[jW (j:=i.toNat) a1.ec (yi hc.1 ai) ?_];have O:=a1.setC (i:=i.toNat) (c:= {c with mr:=((mn|||2^k:Nat):Int)}) ⟨t2,rfl,ab⟩;generalize al:upd H1 lc (.lst (xs.set i.toNat (.ref t2)))=H2 at O
 have ah:aK H H2:=by rw [<-al];exact s1.st.trans (.updL a1.ec)
 clear al;rwa[cg O cl S.waiting (v:= .ref lw) rfl ?_];rwa[bL (aC.of O.ew) ?_];have yl:ys.length=M.ws.length:=aE a.dw;rwa[bf (xs:=ys) (λj G I=>aq H2 I/\G.length=j/\av K I G ((dB i @hl).map aI.d)) @bb (λj G I h=>Nat.le_of_eq h.2.1) ⟨.refl _,rfl,.nil⟩ (λj G I _ h=>h.1.seq (aC.of O.ew)) (λj y G I hy hP=> ?_) (λG I hP l n=> ?_)]
 ·obtain ⟨U,J,Y⟩:=hP;obtain ⟨r,L,dr⟩:=bi (f:=aI.d) O.dw hy;have L:M.ws[j]? =some r:=L;obtain ⟨ra,rfl,hT⟩:=bU @ez
  have nx:dB i (M.ws.take (j+1))=dB i @hl++[if r.lift=i then {r with lift:= -1} else r]:=by
   unfold dB;rw [take_add_one,L,map_append];rfl
  rwa[⟨bc,?_⟩];rwa[ae hT rfl ?_];rwa[cB @i @i]
  ·ext;rwa[jC.mk _ _ _ rfl @ez λv H3 R dv=>⟨U.trans R,by simp [J],?_⟩];rw [nx,if_pos z,map_append];exact Paired.app (av.same Y R) (.cons dv .nil)
  ·ext;rwa[⟨U,by simp [J],?_⟩];rw [nx,if_neg z,map_append];exact Paired.app Y (.cons @ez .nil)
 obtain ⟨U,J,Y⟩:=hP;rw [yl,take_of_length_le @h] at Y;have aX:=O.same U;have R:aq I (upd I l (.lst G)):= .upd n;have Z:=aX.same R;have e3:upd I l (.lst G) l=some (.lst G):=ag;generalize aj:upd I l (.lst G)=H3 at R Z e3 ⊢
 have af:lc≠l:=λz=>by rw [<-z,aX.ec] at n;cases n
 have ad:l≠ll:=λz=>by rw [z,aX.el] at n;cases n
 rwa[cU Z.em cl S.waiting (by show 7<1000;decide) ?_];have a4:=Z.putW (rs:=dB i M.ws) (none_of aX.s n) af ad e3 (av.same Y R);rwa[q _ ((ah.trans (U.trans R).st).trans (.updI Z.em)) ⟨dx,lc,l,ll,xs.set i.toNat (.ref t2),G,zs,?_⟩]
 have ec:qR i k c M= {M with cs:=M.cs.set i.toNat {c with mr:=((mn|||2^k:Nat):Int)},ws:=dB i M.ws}:=by
  unfold qR;rw [W];rfl
 rw [ec];exact a4
inductive pJ (K:Fg)(C:Addr)(vs:List V)(H:Hp)(Q:VK)(_e:XK):Prop
 |mk (m i h H0 M c:_) (k:Nat) (_:vs=[.ref m,.int i,.int (k:Int)]) (_:k<=1000) (_:gS K C H0 H m h M) (_:atC M i c) (_:0<=c.mr) (_:∀H',aK H H'->gS K C H0 H' m h (kN i k c M)->Q .non H')
theorem FY {C:Addr}(F:Z0 K "lose_mark" nh f fd)(G:xi K C)(yH:aV P w K mg base 3 "without" ["mask","k"] mJ)(gq:aV P w K mg base 1 "with_marks" ["cabin","marks"] (xI K)):ay P w K mg base bd 4 f fd ["moment","lift","mark"] (pJ K C):=by
 rwa[F.ok zP (by symm) @X];obtain ⟨m,i,h,H0,M,c,k,rfl,k1,⟨dx,lc,lw,ll,xs,ys,zs,a⟩,R,Z,q⟩:=h;obtain ⟨t,hx,hi,J,I⟩:=a.atC R;obtain ⟨S,W⟩:=Int.eq_ofNat_of_zero_le Z;have U:=G.i.cl;rwa[⟨_,(aa @a (ac @df)),?_⟩];rwa[cg a U G.cabins (v:= .ref lc) rfl ?_];erw[aW @bW hi ?_];obtain ⟨b,bs,Y,eb,db⟩:=id J;rwa[ae (az.of Y) rfl ?_];rw [W] at J ⊢;rwa[mJ.mk _ _ rfl k1 ?_];erw[xI.mk _ _ _ _ _ _ _ rfl J λL H1 O ab=> ?_];have z:=a.same O;rwa[cg z U G.cabins (v:= .ref lc) rfl ?_];rwa[jW (j:=i.toNat) z.ec (yi R.1 I) ?_];have a2:=z.setC (i:=i.toNat) (c:= {c with mr:=((oR S k:Nat):Int)}) ⟨L,rfl,ab⟩;rwa[q _ (O.st.trans (.updL z.ec)) ⟨dx,lc,lw,ll,xs.set i.toNat (.ref L),ys,zs,?_⟩]
 have ec:kN i k c M= {M with cs:=M.cs.set i.toNat {c with mr:=((oR S k:Nat):Int)}}:=by
  unfold kN;rw [W];rfl
 rw [ec];exact a2
noncomputable def jo (M:MS)(i:Int):Cb:=M.cs.getD i.toNat ⟨0,0,0,0,[]⟩
noncomputable def bJ (lo:Nat)(M:MS):Dd->MS
 | .come t s g k=>cK lo M t s g k
 | .lf x i=>if x=s!"block" then {M with bl:=M.bl|||2^i.toNat} else if x=s!"stick" then qR i 0 @eo M else if x=s!"goods" then qR i 1 @eo M else if x=s!"free" then kN i 0 @eo M else kN i 1 @eo M
 | .sg _=>M
section
variable {lo:Nat}{M:MS}{i:Int}
theorem fO:bJ lo M (.lf "block" i)= {M with bl:=M.bl|||2^i.toNat}:=by unfold bJ;dsimp only;rw [if_pos rfl]
theorem fM:bJ lo M (.lf "stick" i)=qR i 0 @eo M:=by unfold bJ;dsimp only;rw [if_neg @f,if_pos rfl]
theorem fN:bJ lo M (.lf "goods" i)=qR i 1 @eo M:=by unfold bJ;dsimp only;rw [if_neg @f,if_neg @f,if_pos rfl]
theorem gK:bJ lo M (.lf "free" i)=kN i 0 @eo M:=by unfold bJ;dsimp only;rw [if_neg @f,if_neg @f,if_neg @f,if_pos rfl]
theorem gL:bJ lo M (.lf "back" i)=kN i 1 @eo M:=by unfold bJ;dsimp only;rw [if_neg @f,if_neg @f,if_neg @f,if_neg @f]
end
def Dd.fit (fl:Int)(n:Nat):Dd->Prop
 | .come _ s g _=>0<=s/\s<fl/\0<=g/\g<fl/\s≠g
 | .lf _ i=>0<=i/\i<(n:Int)
 | .sg _=>False
inductive IR (K:Fg)(C:Addr)(vs:List V)(H:Hp)(Q:VK)(_e:XK):Prop
 |mk (m a d h hs H0 M:_) (_:vs=[.ref m,.ref a]) (_:iN K H h hs) (_:ub H a d) (_:d.fit hs.fl hs.ls.length) (_:gS K C H0 H m h M) (_:M.ws.length<=1000) (_:M.log.length<=1000) (_:M.cs.length=hs.ls.length) (_:(∀c∈M.cs,0<=c.mr)) (_:∀H',aK H H'->gS K C H0 H' m h (bJ hs.lo M d)->Q .non H')
theorem Qs {C:Addr}{t1 t2:Tok}(F:Z0 K "do_deed" wa f fd)(W:xi K C)(wJ:mg "STUCK"=some (.int 0 t1))(GR:mg "TAKEN"=some (.int 1 t2))(yP:aV P w K mg base 3 "do_come" ["moment","tag","start","goal","key"] (zG K C))(fC:aV P w K mg base 2 "with_bit" ["mask","k"] g8)(uM:aV P w K mg base 3 "put_mark" ["moment","lift","mark"] (vj K C))(rX:aV P w K mg base 4 "lose_mark" ["moment","lift","mark"] (pJ K C)):ay P w K mg base bd 5 f fd ["moment","deed"] (IR K C):=by
 have MK:aF (.int 0) (.int 0 t1):=⟨_,rfl⟩;have S:aF (.int 1) (.int 1 t2):=⟨_,rfl⟩;rwa[F.ok E8 (by symm) @X];obtain ⟨m,da,d,h,hs,H0,M,rfl,Y,⟨hd,ok⟩,J,O,Z,gl,cn,ab,q⟩:=h;have f8:=Y.1.f8;have l3:=Y.1.l3;rwa[⟨_,(aa @a (ac (au @a @A (ac (au @a (ac @dg) (ac (au @a @A (ac (au @a @A (ac (au @a @A (ac (au @a @A (ac (au @a @fU @fU))))))))))))))),?_⟩]
 cases d with
 |come t s' g k=>
  have L:az K H da [.str p9,.int t,.int s',.int g,.bl k]:=az.of hd;have f8:=Y.1.f8;obtain ⟨_,_,g0,g1,_⟩:=J;rwa[ae L rfl ?_];rwa[aP rfl ?_];rwa[ae L rfl ?_];rwa[ae L rfl ?_];rwa[ae L rfl ?_];rwa[ae L rfl ?_];exact zG.mk _ _ _ _ _ _ _ _ _ rfl Y O Z gl g0 @c λH' st I=>q H' st I
 |lf x i=>
  obtain ⟨i0,i1⟩:=J;obtain ⟨j,rfl⟩:=Int.eq_ofNat_of_zero_le i0;have L:az K H da [.str x,.int (j:Int)]:=az.of hd
  have hj:j<M.cs.length:=by lia
  have R:atC M (j:Int) (jo M (j:Int)):=⟨i0,by
   show M.cs[((j:Int)).toNat]? =some (M.cs.getD ((j:Int)).toNat _)
   rw [show ((j:Int)).toNat=j by lia,getD_eq_getElem?_getD,getElem?_eq_getElem hj];rfl⟩
  have U:0<=(jo M (j:Int)).mr:=ab _ (mem_of_getElem? R.2);have ne:∀y z:Str,y≠z-> ¬y=z:=λ_ _ h=>h;rwa[ae L rfl ?_]
  rcases ok with G|G|G|G|G
  ·rw [G,fO,show ((j:Int)).toNat=j by lia] at q;rwa[bB (by rw [G];decide+kernel) ?_];rwa[cZ G ?_];obtain ⟨dx,lc,lw,ll,xs,ys,zs,a⟩:=O;rwa[cg a W.i.cl W.blocked (v:= .int (M.bl:Int)) rfl ?_];rwa[ae L rfl ?_];rwa[g8.mk _ _ rfl @c ?_];rwa[cU a.em W.i.cl W.blocked (by show 7<1000;decide) ?_];exact q _ (.updI a.em) ⟨dx,lc,lw,ll,xs,ys,zs,a.putF M.last M.fire (M.bl|||2^j)⟩
  ·ext;rwa[bB (by rw [G];decide+kernel) ?_];rwa[bB (by rw [G];decide+kernel) ?_];rwa[cZ G ?_];erw[ae L rfl ?_];rw [G,fM] at q;exact vj.mk _ _ _ _ _ _ 0 rfl @b O Z R U λH' st I=>q H' st I
  ·ext;rwa[bB (by rw [G];decide+kernel) ?_];rwa[bB (by rw [G];decide+kernel) ?_];rwa[bB (by rw [G];decide+kernel) ?_];rwa[bB (by rw [G];decide+kernel) ?_];rwa[cZ G ?_];erw[ae L rfl ?_];rw [G,gK] at q;exact pJ.mk _ _ _ _ _ _ 0 rfl @b O R U λH' st I=>q H' st I
  ·ext;rwa[bB (by rw [G];decide+kernel) ?_];rwa[bB (by rw [G];decide+kernel) ?_];rwa[bB (by rw [G];decide+kernel) ?_];rwa[cZ G ?_];erw[ae L rfl ?_];rw [G,fN] at q;exact vj.mk _ _ _ _ _ _ 1 rfl @b O Z R U λH' st I=>q H' st I
  ·ext;rwa[bB (by rw [G];decide+kernel) ?_];rwa[bB (by rw [G];decide+kernel) ?_];rwa[bB (by rw [G];decide+kernel) ?_];rwa[bB (by rw [G];decide+kernel) ?_];rwa[bB (by rw [G];decide+kernel) ?_];rwa[cZ G ?_];erw[ae L rfl ?_];rw [G,gL] at q;exact pJ.mk _ _ _ _ _ _ 1 rfl @b O R U λH' st I=>q H' st I
 |sg x=>exact False.elim J
abbrev sR:=List Cb->List aI->aI->Int->Int×Int
inductive xK (K:Fg)(GG LB:Hp->Prop)(pre:List Cb->List aI->aI->Int->Prop)(dl:sR)(vs:List V)(H:Hp)(Q:VK)(_e:XK):Prop
 |mk (tc tw x cs ws r last xs ys:_) (_:vs=[.ref tc,.ref tw,x,.int last]) (_:H tc=some (.tup xs)) (_:Paired (bv K H) xs cs) (_:H tw=some (.tup ys)) (_:av K H ys @dO) (_:bM K H x @fj) (_:GG H) (_:LB H) (_:pre cs ws r last) (_:∀t H',bE H H'->GG H'->H' t=some (.tup [.int (dl cs ws r last).1,.int (dl cs ws r last).2])->Q (.ref t) H')
noncomputable def Fn (t i:Int):D:= .tup [.str "deal",.int t,.int i]
noncomputable def c5 (dl:sR)(M:MS)(p:Nat)(r:aI):MS:=if (dl M.cs M.ws r M.last).1= -1 then {M with last:=(dl M.cs M.ws r M.last).2} else {M with last:=(dl M.cs M.ws r M.last).2,ws:=M.ws.set p {r with lift:=(dl M.cs M.ws r M.last).1},log:=M.log++[Fn r.tag (dl M.cs M.ws r M.last).1]}
inductive qq (P:Program)(w:World)(K:Fg)(mg:Str->Option Value)(base:Heap)(C:Addr)(GG LB:Hp->Prop)(pre:List Cb->List aI->aI->Int->Prop)(dl:sR)(vs:List V)(H:Hp)(Q:VK)(_e:XK):Prop
 |mk (m df x h H0 M r:_) (p:Nat) (_:vs=[.ref m,.ref df,.int (p:Int),x]) (_:sS P w K mg base 5 df @eP) (_:GG H) (_:NT H0) (_:LB H0) (_:gS K C H0 H m h M) (_:bM K H x @fj) (_:p<M.ws.length) (_:M.ws.length<=1000) (_:M.log.length<=1000) (_:M.cs.length<=10) (_:pre M.cs M.ws r M.last) (_:∀H',eI H H'->GG H'->gS K C H0 H' m h @hm->Q .non H')
theorem JV {C:Addr}{GG LB:Hp->Prop}{ah:List Cb->List aI->aI->Int->Prop}{dl:sR}{t1:Tok}(F:Z0 K "deal" Bn f fd)(gT:GT GG)(lN:∀H H',bE H H'->LB H->LB H')(L:xi K C)(aZ:mg "tuple"=none)(b8:mg "NO_LIFT"=some (.int (-1) t1))(fD:Z08 P w K mg base):ay P w K mg base bd 6 f fd ["moment","dealer","place","rider"] (qq P w K mg base C GG LB ah dl):=by
 have lM:aF (.int (-1)) (.int (-1) t1):=⟨_,rfl⟩;rwa[F.ok Fa (by symm) (λai A outer s H vs Q E hr h=> ?_)];obtain ⟨m,df,x,h,H0,M,r,p,rfl,Y,hg,nt,lb,⟨dx,lc,lw,ll,xs,ys,zs,a⟩,hx,pw,wl,gl,am,Z,q⟩:=h;have U:=L.i.cl;have yl:ys.length=M.ws.length:=aE a.dw;have zl:zs.length=M.log.length:=a.dl.len;obtain ⟨ra,rfl,hT⟩:=bU hx;rwa[⟨_,(aa (bF (i:=4) Fa.nd rfl @l (FE 1 hr rfl @l (ar (aL @cA rfl aZ boot_tuple @C) (ar (aL @cA rfl aZ boot_tuple @C) (ar (wv 3) @C))))) (aa @dg (ac (au @a (aa @dh @A) ak)))),?_⟩];rwa[⟨df,5,_,rfl,by decide,Y,?_⟩];rwa[cg a U L.cabins (v:= .ref lc) rfl ?_];rwa[fm @bW λtc H1 s1 n1 e1=> ?_];have a1:=a.same s1;rwa[cg a1 U L.waiting (v:= .ref lw) rfl ?_];rwa[fm (aC.of a1.ew) λtw H2 s2 n2 e2=> ?_];have a2:=a1.same s2;have R:=s1.trans s2;rwa[cg a2 U L.last (v:= .int M.last) rfl ?_];rwa[⟨tc,tw,.ref ra,M.cs,M.ws,r,M.last,xs,ys,rfl,s2 _ _ e1,a2.dc,e2,a2.dw,bM.same hx R,gT _ _ R.st hg,lN _ _ a2.s.nt lb,Z,λt H3 s3 g3 e3=> ?_⟩];have a3:=a2.sameN nt s3;have ad:eI H H3:=R.st.sx.trans s3.sx;unfold c5 at q;generalize al:(dl M.cs M.ws r M.last).1=d1 at *;generalize aj:(dl M.cs M.ws r M.last).2=W at *;rwa[ae (az.of e3) rfl ?_];rwa[cU a3.em U L.last (by show 7<1000;decide) ?_];have a4:=a3.putF W M.fire M.bl;have e0:putF "last" (.int W) @eU=tM h lc lw W M.fire M.bl ll:=rfl;rw [e0];generalize G:upd H3 m (.ins C dx (tM h lc lw W M.fire M.bl ll))=H4 at a4 ⊢
 have J:eI H H4:=by rw [<-G];exact ad.trans (aK.updI a3.em).sx
 have g4:GG H4:=by rw [<-G];exact gT _ _ (aK.updI a3.em) g3
 have S:az K H4 t [.int d1,.int W]:=by rw [<-G];exact (aK.updI a3.em).sqT (az.of e3)
 clear G;erw[ae S rfl ?_];by_cases z:d1= -1
 ·rw [if_pos z] at q;rwa[aG (by simp [z]) ?_];exact q _ J g4 ⟨dx,lc,lw,ll,xs,ys,zs,a4⟩
 ·rw [if_neg z] at q;rwa[aP (by simp [z]) ?_];rwa[ae S rfl ?_];rwa[jC.mk _ _ _ rfl (J.den hx rfl) λv H5 s5 dv=> ?_];have O:=a4.same s5;rwa[cg O U L.waiting (v:= .ref lw) rfl ?_];rwa[jW (j:=p) O.ew (by unfold wE;rw [if_pos @c,if_pos @c];congr 1) ?_]
  have af:av K H5 (ys.set p v) ((M.ws.set p {r with lift:=d1}).map aI.d):=by
   rw [map_set];exact eL O.dw dv
  have a6:=O.setW af;generalize I:upd H5 lw (.lst (ys.set p v))=H6 at a6 ⊢
  have ab:eI H H6:=by rw [<-I];exact (J.trans s5.st.sx).trans (aK.updL O.ew).sx
  have g6:GG H6:=by rw [<-I];exact gT _ _ (s5.st.trans (.updL O.ew)) g4
  have ag:az K H6 t [.int d1,.int W]:=by rw [<-I];exact (aK.updL O.ew).sqT (s5.seqT S)
  clear I;rwa[cg a6 U L.log (v:= .ref ll) rfl ?_];rwa[⟨.inl ⟨rfl,_,aC.of a6.el⟩,?_⟩];rwa[ae (ab.sqT hT) rfl ?_];rwa[ae ag rfl ?_];rwa[bD (be (by show 3<=1000000;decide)) λg7 H7 s7 n7 e7=> ?_];have a7:=a6.same s7;rwa[fQ a7.el @dz ?_];exact q _ ((ab.trans s7.st.sx).trans (aK.updL a7.el).sx) (gT _ _ (s7.st.trans (.updL a7.el)) g6) ⟨dx,lc,lw,ll,xs,_,_,a7.setL (ds:=[Fn r.tag d1]) (.cons (eh (az.of e7) (.cons (.str _) (.cons (.int _) (.cons (.int _) .nil)))) .nil) rfl⟩
noncomputable def aD (dl:sR)(W:List aI):Nat->MS->MS
 |0,M=>M
 |i+1,M=>match W[i]? with
  |some r=>if r.lift= -1 then c5 dl @gt i r else aD dl W i M
  |none=>aD dl W i M
inductive lI (P:Program)(w:World)(K:Fg)(mg:Str->Option Value)(base:Heap)(C:Addr)(GG LB:Hp->Prop)(pre:List Cb->List aI->aI->Int->Prop)(dl:sR)(vs:List V)(H:Hp)(Q:VK)(_e:XK):Prop
 |mk (m df h H0 M:_) (_:vs=[.ref m,.ref df]) (_:sS P w K mg base 5 df @eP) (_:GG H) (_:NT H0) (_:LB H0) (_:gS K C H0 H m h M) (_:M.ws.length<=500) (_:M.log.length<=400) (_:M.cs.length<=10) (_:(∀i r,M.ws[i]? =some r->r.lift= -1->pre (aD dl M.ws i M).cs (aD dl M.ws i M).ws r (aD dl M.ws i M).last)) (_:∀H',eI H H'->GG H'->gS K C H0 H' m h (aD dl M.ws M.ws.length M)->Q .non H')
theorem Dx {dl:sR}{M:MS}{p:Nat}{r:aI}:(c5 dl M p r).ws.length=M.ws.length/\(c5 dl M p r).cs=M.cs/\(c5 dl M p r).log.length<=M.log.length+1:=by
 unfold c5;split
 ·exact ⟨rfl,rfl,Nat.le_succ _⟩
 ·exact ⟨length_set,rfl,by simp⟩
theorem dH {dl:sR}{W:List aI}{M:MS}:∀i,(aD dl W i M).ws.length=M.ws.length/\(aD dl W i M).cs=M.cs/\(aD dl W i M).log.length<=M.log.length+i
 |0=>⟨rfl,rfl,by simp [aD]⟩
 |i+1=>by
  have h:=dH (dl:=dl) (W:=W) (M:=M) i;unfold aD;split
  ·rename_i r _;split
   ·have g:=Dx (dl:=dl) (M:=aD dl W i M) (p:=i) (r:=r);exact ⟨g.1.trans h.1,g.2.1.trans h.2.1,by have:=g.2.2;lia⟩
   ·exact ⟨h.1,h.2.1,by lia⟩
  ·exact ⟨h.1,h.2.1,by lia⟩
theorem oZ {dl:sR}{W:List aI}{M:MS}:∀i,(aD dl W i M).fire=M.fire
 |0=>rfl
 |i+1=>by
  have j:=oZ (dl:=dl) (W:=W) (M:=M) i;unfold aD;split
  ·split
   ·unfold c5;split
    ·exact j
    ·exact j
   ·exact j
  ·exact j
noncomputable def jt (H:Hp)(m lc lw ll:Addr):Hp:=λb=>if b=m\/b=lc\/b=lw\/b=ll then none else H b
theorem DB {H:Hp}{m lc lw ll:Addr}:aq @cx H:=λb u z=>by
 unfold jt at z;split at z
 ·cases z
 ·exact z
theorem jK {H:Hp}{m lc lw ll b:Addr}{u:HO}(h:H b=some u)(h1:b≠m)(h2:b≠lc)(L:b≠lw)(j:b≠ll):jt H m lc lw ll b=some u:=by
 unfold jt;rw [if_neg (λz=>by rcases z with z|z|z|z;exact h1 z;exact h2 z;exact L z;exact j z)];exact h
theorem dI.wide {C:Addr}{H0 H:Hp}{m h dx lc lw ll:Addr}{xs ys zs:List V}{M:MS}(a:dI K C H0 H m h dx lc lw ll xs ys zs M):dI K C @cx H m h dx lc lw ll xs ys zs M/\aq H0 @cx:=by
 rwa[⟨⟨DB,if_pos (.inl rfl),if_pos (.inr (.inl rfl)),if_pos (.inr (.inr (.inl rfl))),if_pos (.inr (.inr (.inr rfl))),a.cw,a.cl,a.wl,a.em,a.ec,a.ew,a.el,a.dc,a.dw,a.dl,a.ln⟩,λb u z=> ?_⟩];exact jK (a.s _ _ z) (λe=>by rw [e,a.nm] at z;cases z) (λe=>by rw [e,a.nc] at z;cases z) (λe=>by rw [e,a.nw] at z;cases z) (λe=>by rw [e,a.nl] at z;cases z)
theorem dI.wideN {C:Addr}{H0 H:Hp}{m h dx lc lw ll:Addr}{xs ys zs:List V}{M:MS}(j:NT H0)(a:dI K C H0 H m h dx lc lw ll xs ys zs M):dI K C (xn @cx) H m h dx lc lw ll xs ys zs M/\aq H0 (xn @cx):=by
 obtain ⟨b,s⟩:=a.wide;rwa[⟨⟨(qV _).trans b.s,lS b.nm,lS b.nc,lS b.nw,lS b.nl,a.cw,a.cl,a.wl,a.em,a.ec,a.ew,a.el,a.dc,a.dw,a.dl,a.ln⟩,λx u z=> ?_⟩];exact qW (s _ _ z) (λps e=>j x ps (by rw [z,e]))
theorem gS.onto {C:Addr}{H0 j H:Hp}{m h:Addr}{M:MS}(s:aq H0 j)(z:gS K C j H m h M):gS K C H0 H m h M:=by
 obtain ⟨dx,lc,lw,ll,xs,ys,zs,a⟩:=z;exact ⟨dx,lc,lw,ll,xs,ys,zs,s.trans a.s,none_of s a.nm,none_of s a.nc,none_of s a.nw,none_of s a.nl,a.cw,a.cl,a.wl,a.em,a.ec,a.ew,a.el,a.dc,a.dw,a.dl,a.ln⟩
theorem gS.s {C:Addr}{H0 H:Hp}{m h:Addr}{M:MS}(z:gS K C H0 H m h M):aq H0 H:=let ⟨_,_,_,_,_,_,_,a⟩:=z;a.s
theorem Gb {C:Addr}{GG U:Hp->Prop}{ah:List Cb->List aI->aI->Int->Prop}{dl:sR}{t1:Tok}(F:Z0 K "deal_all" lL f fd)(gT:GT GG)(lN:∀H H',bE H H'->U H->U H')(cM:xi K C)(d7:mg "list"=none)(fH:mg "enumerate"=none)(b8:mg "NO_LIFT"=some (.int (-1) t1))(B3:aV P w K mg base 6 "deal" ["moment","dealer","place","rider"] (qq P w K mg base C GG U ah dl)):ay P w K mg base bd 7 f fd ["moment","dealer"] (lI P w K mg base C GG U ah dl):=by
 have lM:aF (.int (-1)) (.int (-1) t1):=⟨_,rfl⟩;rwa[F.ok CB (by symm) (λaj A outer s H vs Q E hr h=> ?_)];obtain ⟨m,df,h,H0,M,rfl,Y,hg,nt,lb,⟨dx,lc,lw,ll,xs,ys,zs,a⟩,wl,gl,am,ad,q⟩:=h;have cl:=cM.i.cl;have yl:ys.length=M.ws.length:=aE a.dw;rwa[⟨_,(ac (ce PassesOwn.never rfl (Iz rfl rfl fH @be) @a (ac (au @a @A ak)))),?_⟩];rwa[cg a cl cM.waiting (v:= .ref lw) rfl ?_];rwa[lV (.inl @gL) λlk H1 s1 n1 e1=> ?_];have a1:=a.same s1;have al:H0 lk=none:=none_of a.s n1;erw[.inl ⟨ys,aC.of e1,?_⟩];obtain ⟨aw,sw⟩:=a1.wideN nt;have ab:NT (xn @fk):=Gg _;have O:U (xn @fk):=lN _ _ sw.nt lb;generalize af:xn @fk=Hc at aw sw ab O
 have kk:∀ {p:Addr} {us:List V},H1 p=some (.lst us)->p≠m:=λ{p us} e z=>by rw [z,a1.em] at e;cases e
 have I:∀ {p:Addr} {o:HO},H p=some o->lk≠p:=λ{p o} e z=>by rw [<-z,n1] at e;cases e
 have ek:Hc lk=some (.lst ys):=by rw [<-af];exact qW (jK e1 (kk e1) (I a.ec) (I a.ew) (I a.el)) (λ_ z=>by cases z)
 have dy:∀ {i:Nat} {x:V},ys[i]? =some x->∃r b,M.ws[i]? =some r/\x= .ref b/\bM K H1 (.ref b) r.d:=λ{i x} J=>by
  obtain ⟨r,aa,dr⟩:=bi (f:=aI.d) a1.dw J;obtain ⟨b,rfl,_⟩:=bU dr;exact ⟨r,b,aa,rfl,dr⟩
 rwa[GW (xs:=ys) (λi σ L=>eI H1 L/\gS K C Hc L m h @hf/\GG L/\∃o2 o3,σ=[some (.ref m),some (.ref df),o2,o3]) ⟨.refl _,⟨dx,lc,lw,ll,xs,ys,zs,aw⟩,gT _ _ s1.st hg,_,_,rfl⟩ (λi σ L _ R=>aC.of (R.2.1.s _ _ ek)) (λi x σ L T HY J R sT eT=> ?_) (λσ L R=> ?_)]
 ·obtain ⟨st,hM,gX,o2,o3,rfl⟩:=R;have gY:=gT _ _ sT.st gX;obtain ⟨r,b,aa,rfl,dr⟩:=dy J;have hi:i<M.ws.length:=(List.getElem?_eq_some_iff.mp aa).1;have hl:=dH (dl:=dl) (W:=M.ws) (M:=M) i;have j:=st.trans sT.st.sx;have G:=hM.same sT;have S:bM K HY (.ref b) r.d:=j.den dr rfl;obtain ⟨b',ag,hT⟩:=bU S;cases ag
  have nx:aD dl M.ws (i+1) M=if r.lift= -1 then c5 dl @hf i r else aD dl M.ws i M:=by
   show (match M.ws[i]? with|some r=>_|none=>_)=_;rw [aa]
  rwa[jU (az.of eT) rfl ?_];erw[ae hT rfl ?_];by_cases z:r.lift= -1
  ·rw [if_pos z] at nx;rwa[aP @N ?_];rwa[qq.mk _ _ _ _ _ _ _ _ rfl Y gY ab O G S @c @c @c (by rw [hl.2.1];lia) (ad i r aa z) λHZ ai gZ Z=> ?_];rw [<-nx] at Z;exact ⟨j.trans ai,Z,gZ,_,_,rfl⟩
  ·rw [if_neg z] at nx;rwa[aG (decide_eq_false z) ?_];rw [<-nx] at G;exact ⟨j,G,gY,_,_,rfl⟩
 ·obtain ⟨st,hM,gX,o2,o3,rfl⟩:=R;rw [yl] at hM;exact q _ (s1.st.sx.trans st) gX (hM.onto sw)
noncomputable def tK (wd:Str)(t i fl:Int):D:= .tup [.str wd,.int t,.int i,.int fl]
theorem jd (j:Str)(i fl:Int)(ts:List Int):noLs (ts.map λt=>tK j t i fl)=true:=by
 induction ts with
 |nil=>rfl
 |cons r rs ih=>rw [map_cons,noLs,ih];rfl
noncomputable def wz (M:MS)(wd:Str)(ts:List Int)(i:Int)(c:Cb):MS:= {M with log:=M.log++ts.map λt=>tK wd t i (c.pl / 2)}
inductive zB (K:Fg)(C:Addr)(vs:List V)(H:Hp)(Q:VK)(_e:XK):Prop
 |mk (m wd tg i h H0 M c:_) (ts:List Int) (_:vs=[.ref m,.str wd,.ref tg,.int i]) (_:gS K C H0 H m h M) (_:atC M i c) (_:(∃us,aC K H0 tg us/\us=ts.map V.int)) (_:ts.length<=1000) (_:M.log.length<=3000) (_:∀H',aK H H'->gS K C H0 H' m h (wz M wd ts i c)->Q .non H')
theorem Ll {C:Addr}{H H0:Hp}{m tg h:Addr}{j:Str}{i:Int}{M:MS}{c:Cb}{ts:List Int}{Q:VK}{E:XK}(h1:gS K C H0 H m h M)(h2:atC M i c)(L:aC K H0 tg (ts.map V.int))(z:ts.length<=1000)(U:M.log.length<=3000)(q:∀H',aK H H'->gS K C H0 H' m h (wz M j ts i c)->Q .non H'):zB K C [.ref m,.str j,.ref tg,.int i] H Q E:=⟨m,j,tg,i,h,H0,M,c,ts,rfl,h1,h2,⟨_,L,rfl⟩,z,U,q⟩
theorem JQ {C:Addr}(F:Z0 K "log_steps" nj f fd)(S:xi K C)(bX:Z01 P w K mg base):ay P w K mg base bd 2 f fd ["moment","word","tags","lift"] (zB K C):=by
 rwa[F.ok zQ (by symm) @q];obtain ⟨m,wd,tg,i,h,H0,M,c,W,rfl,⟨dx,lc,lw,ll,xs,ys,zs,a⟩,hc,⟨z,O,rfl⟩,tl,gl,q⟩:=h;obtain ⟨t,hx,hi,ht,ad⟩:=a.atC hc;have cl:=S.i.cl;have zl:zs.length=M.log.length:=a.dl.len;rwa[⟨_,(aa @a (ac (aJ (fY rfl PySem.F.plainAttrs_list PySem.F.slot_list_extend PySem.F.type_list_extend iR @a (ar (bG rfl (ax (N':=["tag","word","lift","floor"]) (pk:=[none,some 1,some 3,some 4]) @k) @a @g @s @g) ao))))),?_⟩];rwa[cg a cl S.cabins (v:= .ref lc) rfl ?_];rwa[aW @bW hi ?_];rwa[cI.mk _ _ _ _ _ _ rfl ht ?_];rwa[cg a cl S.log (v:= .ref ll) rfl ?_];erw[⟨.inl ⟨rfl,_,aC.of a.el⟩,?_⟩];have hL:=a.s.seq O;rwa[bL hL ?_];rwa[bf (xs:=W.map V.int) (λj z G=>aq H G/\z.length=j/\av K G z ((W.take j).map λt=>tK wd t i (c.pl / 2))) (be (by rw [length_map];lia)) (λj z G h=>Nat.le_of_eq h.2.1) ⟨.refl _,rfl,.nil⟩ (λj z G _ h=>h.1.seq hL) (λj y z G hy Y=> ?_) (λz G Y l n=> ?_)]
 ·obtain ⟨U,J,I⟩:=Y;rw [getElem?_map] at hy;obtain ⟨v,hv,rfl⟩:=Option.map_eq_some_iff.mp hy;rwa[⟨bc,?_⟩];rwa[bD (be (by show 4<=1000000;decide)) λb H3 R n3 L=>⟨U.trans R,by simp [J],?_⟩];rw [take_add_one,hv,map_append];exact Paired.app (av.same I R) (.cons (eh (az.of L) (.cons (.str _) (.cons (.int _) (.cons (.int _) (.cons (.int _) .nil))))) .nil)
 obtain ⟨U,J,I⟩:=Y;rw [length_map,take_of_length_le @h] at I;rw [length_map] at J;have aX:=a.same U;have R:aq G (upd G l (.lst z)):= .upd n;have Z:=aX.same R;have L:upd G l (.lst z) l=some (.lst z):=ag;generalize aj:upd G l (.lst z)=H3 at R Z L ⊢;rwa[BO Z.el L @bb ?_];exact q _ ((U.trans R).st.trans (.updL Z.el)) ⟨dx,lc,lw,ll,xs,ys,_,Z.setL (av.same I R) (jd wd i _ W)⟩
noncomputable def gh (M:MS)(i:Int)(c:Cb):MS:= {M with cs:=M.cs.set i.toNat c}
theorem FG {H:Hp}{bs:List V}{ps:List (Int×Int)}(d:av K H bs @dL){j:Nat}{y:V}(O:bs[j]? =some y):∃p t,ps[j]? =some p/\y= .ref t/\az K H t [.int p.1,.int p.2]:=by
 obtain ⟨p,G,J⟩:=bi (f:=d5) d O;obtain ⟨t,xs,rfl,h1,h2⟩:=J.outT
 cases h2 with|cons q0 t0=>cases t0 with|cons q1 t1=>
 cases t1;cases q0.isInt;cases q1.isInt;exact ⟨p,t,G,rfl,h1⟩
theorem jE {a:Int}{bs:List Int}:za (.int a) (bs.map V.int)=decide (a∈bs):=by
 unfold za;rw [any_map,Bool.eq_iff_iff,any_eq_true,decide_eq_true_eq];constructor
 ·rintro ⟨x,j,z⟩;have z:(x==a)=true:=z;rw [<-eq_of_beq z];exact j
 ·intro h;exact ⟨a,h,beq_self_eq_true a⟩
theorem fB (bs:List Int):(bs.map V.int).all dM=true:=by
 rw [all_map,all_eq_true];intro x _;rfl
noncomputable def cq (hs:Hs)(c:Cb)(l:Lf)(rs:List aI):B7:=wM hs.so l.rm c.pl c.li c.ps rs
noncomputable def oX (hs:Hs)(M:MS)(i:Int)(c:Cb)(l:Lf)(rs:List aI):MS:=
 {gh (wz (wz M "out" (bO c.pl c.ps) i c) (s!"in") (cq hs c l rs).ins i c) i ⟨c.pl,(cq hs c l rs).light,fv l.kd l.tn c.dr (M.bl.testBit i.toNat) (decide (((bO c.pl c.ps).length:Int)+((cq hs c l rs).ins.length:Int)>0)),c.mr,(cq hs c l rs).kept⟩ with ws:=M.ws.filter λr=> !decide (r.tag∈(cq hs c l rs).ins)}
structure LC (P:Program)(w:World)(K:Fg)(mg:Str->Option Value)(base:Heap)(kD kH kS:Addr):Prop where
 c:∀k,jj k->LD K @hh
 m:∀k,jj k->jS P w K mg base bd 1 "left" (kc kD kH kS k) (iW K k)
theorem rC {hs:Hs}{c:Cb}{l:Lf}{rs:List aI}:(cq hs c l rs).ins.length<=rs.length:=by
 have:=(jA (so:=hs.so) (room:=l.rm) (pl:=c.pl) rs ⟨c.li,cf c.pl c.ps,[]⟩).2;simpa [cq,wM] using this
theorem jf {pl:Int}{ps:List (Int×Int)}:(bO pl ps).length<=ps.length:=by
 unfold bO;rw [length_map];exact length_filter_le _ _
inductive EJ (K:Fg)(C:Addr)(vs:List V)(H:Hp)(Q:VK)(_e:XK):Prop
 |mk (m i rl h hs l H0 M c xr rs:_) (_:vs=[.ref m,.int i,.ref rl]) (_:iN K H0 h hs) (_:hs.ls[i.toNat]? =some l) (_:gS K C H0 H m h M) (_:atC M i c) (_:i<1000) (_:c.ps.length<=64) (_:M.log.length<=2000) (_:M.ws.length<=1000) (_:(∃f0,c.pl=2*f0)) (_:H0 rl=some (.lst xr)) (_:av K H0 xr @P) (_:Ou rs) (_:∀H',aK H H'->gS K C H0 H' m h (oX hs M i c l rs)->Q .non H')
theorem Np {C kD kH kS:Addr}(F:Z0 K "exchange" nz f fd)(cM:xi K C)(D:LC P w K mg base kD kH kS)(bp:mg "len"=none)(mj:aV P w K mg base 1 "room_of" ["house","lift"] @dx)(jL:aV P w K mg base 1 "turns_of" ["house","lift"] @dy)(yL:aV P w K mg base 1 "kind_of" ["house","lift"] (mP K λl=> .str l.kd))(sJ:aV P w K mg base 3 "exchanged" ["sort","room","cabin","riders"] (zF K))(rY:aV P w K mg base 2 "log_steps" ["moment","word","tags","lift"] (zB K C))(yO:aV P w K mg base 3 "door_of" ["kind","turns"] (qp K kD kH kS))(pF:Z03 P w K mg base)(cE:Z02 P w K mg base):ay P w K mg base bd 4 f fd ["moment","lift","riders"] (EJ K C):=by
 rwa[F.ok qA (by symm) (λba A outer s H vs Q E hr h=> ?_)];obtain ⟨m,i,rl,h,hs,l,H0,M,c,xr,rs,rfl,hH,hl,⟨dx,lc,lw,ll,xs,ys,zs,a⟩,L,i1,Y,gl,wl,⟨f0,aT⟩,er,dr,aA,q⟩:=h;obtain ⟨t,hx,hi,ht,bn⟩:=a.atC L;have cl:=cM.i.cl;obtain ⟨j,hj⟩:=Int.eq_ofNat_of_zero_le L.1;obtain ⟨ph,bj,pb,aU,bb,bv,bq,bh⟩:=(hH.same a.s).at L.1 hl;have S:jj l.kd:=(hH.1.lf l (mem_of_getElem? hl)).2.2.2.2;rwa[⟨_,(aa @a (aa @a (aa @a (aa @a (aa @a (aa @fR (aa @fR (aa @a (aa (bF (i:=9) qA.nd rfl @l (vc (n:=1) jX hr @b (wv 8) (ar @a (ar @a @C)))) (aa @df (ac (cL rfl (wv 0) (bG rfl (ax (N':=["rider","ins"]) (pk:=[none,some 7]) @k) @a @g (λC s H ex=>(cc (bw @gu @a (wv 1) @z))) @E))))))))))))),?_⟩];rwa[cg a cl cM.house (v:= .ref h) rfl ?_];rwa[ae aU rfl ?_];rwa[mP.mk (g:=λl=> .int l.rm) _ _ _ _ rfl @hn L.1 hl ?_];rwa[cg a cl cM.cabins (v:= .ref lc) rfl ?_];rwa[aW @bW hi ?_];rwa[QL ht Y (a.s _ _ er) (av.same dr a.s) aA aT λr H1 s1 aF=> ?_];obtain ⟨cn,co,ci,a0,au,eo,ei,no,ni,bm⟩:=aF;have e1:wM hs.so l.rm c.pl c.li c.ps rs=cq hs c l rs:=rfl;rw [e1] at au ei;generalize hE:cq hs c l rs=Z at *;generalize hO:bO c.pl c.ps=O at *
 have el:Z.ins.length<=rs.length:=by rw [<-hE];exact rC
 have ol:O.length<=64:=by rw [<-hO];exact Nat.le_trans jf Y
 have a7:rs.length<=64:=aA.1;have a1:=a.same s1;obtain ⟨aw,sw⟩:=a1.wide
 have nk:∀ {p q:Addr} {o:HO},H p=none->H q=some o->p≠q:=λ{p q o} h1 h2 z=>by rw [z,h2] at h1;cases h1
 have af:jt H1 m lc lw ll co=some (.lst (O.map V.int)):=jK eo (nk no a.em) (nk no a.ec) (nk no a.ew) (nk no a.el);have R:jt H1 m lc lw ll ci=some (.lst (Z.ins.map V.int)):=jK ei (nk ni a.em) (nk ni a.ec) (nk ni a.ew) (nk ni a.el);generalize br:jt H1 m lc lw ll=Hc at aw sw af R;have I:=az.of (K:=K) a0;rwa[ae I rfl ?_];rwa[ae I rfl ?_];erw[ae I rfl ?_];have aY:gS K C Hc H1 m h M:=⟨dx,lc,lw,ll,xs,ys,zs,aw⟩;rwa[Ll (ts:=O) aY L (aC.of af) @c @c λH2 aP aZ=> ?_];rwa[Ll (ts:=Z.ins) (c:=c) aZ L @cH @c (by show (M.log++_).length<=_;rw [length_append,length_map];lia) λH3 aQ aG=> ?_];have aB:=aP.trans aQ;obtain ⟨aO,U,aN,aD,ak,aj,aM,a3⟩:=aG;have as:=hH.same (sw.trans a3.s);rwa[mP.mk (g:=λl=> .str l.kd) _ _ _ _ rfl as L.1 hl ?_];rwa[mP.mk (g:=λl=> .int l.tn) _ _ _ _ rfl as L.1 hl ?_];rwa[qp.mk _ _ rfl S λda bg H4 s4 n4 e4=> ?_];have a4:=a3.same s4;have ad:=aB.trans s4.st;have ab:bo K H4 cn c.pl Z.light c.dr c.mr Z.kept:=au.keep ad;obtain ⟨nb,bk,aS,bs,bx⟩:=id ab;have ai:=az.of (K:=K) aS;rwa[ww e4 rfl (D.m _ S) ?_];rwa[ae ai rfl ?_];erw[cg a4 cl cM.blocked (v:= .int (M.bl:Int)) rfl ?_];rw [hj];rwa[fZ.mk _ _ rfl @c ?_];rwa[bZ (aC.of (a4.s _ _ af)) ?_];rw [length_map];rwa[bZ (aC.of (a4.s _ _ R)) ?_];rw [length_map];rwa[iW.mk _ _ _ _ _ _ _ rfl e4 (D.c _ S).i.cl (D.c _ S).n ?_];rwa[ae ai rfl ?_];rwa[ae ai rfl ?_];rwa[fq.mk _ _ _ _ _ _ _ _ _ rfl ab λt5 H5 s5 a2=> ?_];have a5:=a4.same s5;obtain ⟨_,_,_,_,al⟩:=a3.atC (c:=c) L;erw[cg a5 cl cM.cabins (v:= .ref U) rfl ?_];rw [<-hj];rwa[jW (j:=i.toNat) a5.ec (yi L.1 al) ?_];have a6:=a5.setC (i:=i.toNat) (c:=⟨c.pl,Z.light,fv l.kd l.tn c.dr (M.bl.testBit j) (decide ((O.length:Int)+(Z.ins.length:Int)>0)),c.mr,Z.kept⟩) ⟨t5,rfl,a2⟩;generalize an:upd H5 U (.lst (ak.set i.toNat (.ref t5)))=H6 at a6 ⊢
 have ap:aK H1 H6:=by rw [<-an];exact (ad.trans s5.st).trans (.updL a5.ec)
 clear an;have yl:aj.length=M.ws.length:=aE a3.dw;rwa[cg a6 cl cM.waiting (v:= .ref aN) rfl ?_];rwa[bL (aC.of a6.ew) ?_];rwa[bf (xs:=aj) (λj G J=>aq H6 J/\G.length<=j/\av K J G (((M.ws.take j).filter λr=> !decide (r.tag∈Z.ins)).map aI.d)) @bb (λj G J h=>h.2.1) ⟨.refl _,Nat.le_refl _,.nil⟩ (λj G J _ h=>h.1.seq (aC.of a6.ew)) (λj y G J hy hP=> ?_) (λG J hP l7 n7=> ?_)]
 ·obtain ⟨W,aH,hd⟩:=hP;obtain ⟨r,ah,am⟩:=bi (f:=aI.d) a6.dw hy;have ah:M.ws[j]? =some r:=ah;obtain ⟨ra,rfl,hT⟩:=bU (bM.same am W);have nx:=cj (λr:aI=> !decide (r.tag∈Z.ins)) ah;rwa[⟨bc,?_⟩];rwa[ae hT rfl ?_];rwa[mW (aC.of (W _ _ (a6.s _ _ R))) rfl (fB _) ?_];rw [jE];show if (!decide (r.tag∈Z.ins))=true then _ else _
  cases hb:(!decide (r.tag∈Z.ins)) with
  |true=>
   rw [if_pos rfl];rwa[⟨W,by rw [length_append];show _+1<=_;lia,?_⟩];rw [nx,hb,if_pos rfl,map_append];exact Paired.app hd (.cons (bM.same am W) .nil)
  |false=>
   rw [if_neg @b];rwa[⟨W,by lia,?_⟩];rw [nx,hb,if_neg @b,append_nil];exact hd
 obtain ⟨W,aH,hd⟩:=hP;rw [yl,take_of_length_le @h] at hd;have aX:=a6.same W;have s8:aq J (upd J l7 (.lst G)):= .upd n7;have a8:=aX.same s8;have e8:upd J l7 (.lst G) l7=some (.lst G):=ag;generalize bu:upd J l7 (.lst G)=H8 at s8 a8 e8 ⊢
 have aR:U≠l7:=λz=>by rw [<-z,aX.ec] at n7;cases n7
 have aL:l7≠aD:=λz=>by rw [z,aX.el] at n7;cases n7
 rwa[cU a8.em cl cM.waiting (by show 7<1000;decide) ?_];have a9:=a8.putW (rs:=M.ws.filter λr=> !decide (r.tag∈Z.ins)) (none_of aX.s n7) aR aL e8 (av.same hd s8);rwa[q _ ((s1.st.trans ap).trans (((W.trans s8).st).trans (.updI a8.em))) (gS.onto sw ⟨aO,U,l7,aD,ak.set i.toNat (.ref t5),G,aM,?_⟩)]
 have ee:oX hs M i c l rs= {gh (wz (wz M "out" O i c) (s!"in") Z.ins i c) i ⟨c.pl,Z.light,fv l.kd l.tn c.dr (M.bl.testBit j) (decide ((O.length:Int)+(Z.ins.length:Int)>0)),c.mr,Z.kept⟩ with ws:=M.ws.filter λr=> !decide (r.tag∈Z.ins)}:=by
  unfold oX;rw [hE,hO,hj,show ((j:Int)).toNat=j by lia]
 rw [ee];exact a9
structure iz (li he up dn:Int):Prop where
 l0: -1<=li
 l1:li<=1
 h0:0<=he
 h1:he<=2
 u0:0<=up
 d0:0<=dn
abbrev Wf:=Int->Int->Int->Int->Int->Str
inductive DW (P:Program)(w:World)(K:Fg)(mg:Str->Option Value)(base:Heap)(H:Hp)(a:Addr)(wf:Wf):Prop
 |mk (C dx fs sp:_) (_:H a=some (.ins C dx fs)) (_:fs.lookup (s!"word")=none) (_:jS P w K mg base bd 2 "word" C sp) (_:(∀fl li he up dn,iz li he up dn->wf fl li he up dn∈cx)) (_:∀(H':Hp) (sa:Addr) (fl li he up dn:Int) (Q:VK) (E:XK),H' a=some (.ins C dx fs)->az K H' sa [.int fl,.int li,.int he,.int up,.int dn]->iz li he up dn->Q (.str (wf fl li he up dn)) H'->sp [.ref a,.ref sa] H' Q E)
theorem DW.same {H H':Hp}{a:Addr}{wf:Wf}(r:DW P w K mg base H a wf)(s:aq H H'):DW P w K mg base H' a wf:=by
 obtain ⟨C,dx,fs,sp,h1,h2,L,j,U⟩:=r;exact ⟨C,dx,fs,sp,s _ _ h1,h2,L,j,U⟩
noncomputable def oE (hs:Hs)(l:Lf)(c:Cb)(wd:Str):Cb:=⟨(eF hs.fl l.tn c.pl c.li c.dr c.ps @cS).1,(eF hs.fl l.tn c.pl c.li c.dr c.ps @cS).2.1,(eF hs.fl l.tn c.pl c.li c.dr c.ps @cS).2.2,c.mr,c.ps⟩
def OH (hs:Hs)(wf:Wf)(M:MS)(i:Int)(c:Cb)(l:Lf)(rs:List aI)(M':MS):Prop:=∃(f0:Nat) (u d:Int),c.pl=2*(f0:Int)/\mx @dD f0 u/\oz @dD f0 d/\M'=gh M i (oE hs l c (wf f0 c.li (dL hs.so c.li (tk l.rm c.ps rs f0) (yV c.ps f0) (xo rs f0 c.li)) u d))
structure iB (fl:Int)(c:Cb):Prop where
 p0:0<=c.pl
 p1:c.pl<=2*(fl - 1)
 l0: -1<=c.li
 l1:c.li<=1
 m0:0<=c.mr
 ev:0<c.dr->c.pl% 2=0
 len:c.ps.length<=64
 gs:∀p∈c.ps,0<=p.2/\p.2<fl
structure fS (fl:Int)(r:aI):Prop where
 s0:0<=r.start
 s1:r.start<fl
 g0:0<=r.goal
 g1:r.goal<fl
 ne:r.start≠r.goal
theorem BI {so:Str}{li:Int}{a b c:Bool}:0<=dL so li a b c/\dL so li a b c<=2:=by
 unfold dL;split
 ·decide
 split
 ·decide
 split
 ·decide
 ·decide
theorem mx.nn {t:Int->Bool}{f u:Int}(h:mx t f u):0<=u:=by rcases h with ⟨h,_⟩|⟨h,_⟩<;>lia
theorem oz.nn {t:Int->Bool}{f u:Int}(h:oz t f u):0<=u:=by rcases h with ⟨h,_⟩|⟨h,_⟩<;>lia
inductive EL (P:Program)(w:World)(K:Fg)(mg:Str->Option Value)(base:Heap)(C:Addr)(vs:List V)(H:Hp)(Q:VK)(_e:XK):Prop
 |mk (m ru i rl h hs l H0 M c xr rs wf:_) (_:vs=[.ref m,.ref ru,.int i,.ref rl]) (_:iN K H0 h hs) (_:hs.ls[i.toNat]? =some l) (_:DW P w K mg base H0 ru wf) (_:gS K C H0 H m h M) (_:atC M i c) (_:iB hs.fl c) (_:c.pl% 2=0) (_:H0 rl=some (.lst xr)) (_:av K H0 xr @P) (_:(∀r∈rs,fS hs.fl r)) (_:rs.length<=64) (_:∀M' H',OH hs wf M i c l rs M'->aK H H'->gS K C H0 H' m h M'->Q .non H')
theorem Nq {C:Addr}(F:Z0 K "go_by_rule" nv f fd)(Y:xi K C)(mj:aV P w K mg base 1 "room_of" ["house","lift"] @dx)(jL:aV P w K mg base 1 "turns_of" ["house","lift"] @dy)(Ls:aV P w K mg base 5 "view" ["sort","room","cabin","riders"] (zv K))(yJ:aV P w K mg base 3 "steered" ["sort","floors","turns","cabin","word"] (mK K)):ay P w K mg base bd 6 f fd ["moment","rule","lift","riders"] (EL P w K mg base C):=by
 rwa[F.ok qz (by symm) (λam A outer s H vs Q E Z h=> ?_)];obtain ⟨m,ru,i,rl,h,hs,l,H0,M,c,xr,J,wf,rfl,hH,hl,ad,⟨dx,lc,lw,ll,xs,ys,zs,a⟩,L,W,ev,er,dr,aA,a7,q⟩:=h;obtain ⟨t,hx,hi,ht,aj⟩:=a.atC L;have cl:=Y.i.cl;have f8:=hH.1.f8;obtain ⟨ph,bj,pb,G,bb,bv,bq,bh⟩:=(hH.same a.s).at L.1 hl;obtain ⟨kC,al,an,ap,kr,ak,kM,kw,ks⟩:=ad;obtain ⟨U,z⟩:∃U:Nat,c.pl=2*(U:Int):=⟨(c.pl / 2).toNat,by have:=W.p0;lia⟩
 have af:(U:Int)<hs.fl:=by have:=W.p1;lia
 have ab:OE c.ps J:=⟨λp R=>⟨(W.gs p R).1,by have:=(W.gs p R).2;lia⟩,λr Z=>⟨(aA r Z).s0,by have:=(aA r Z).s1;lia⟩,W.len,a7⟩;have ai:pS c.ps:=⟨by have:=W.len;lia,λp R=>⟨(W.gs p R).1,by have:=(W.gs p R).2;lia⟩⟩;rwa[⟨_,(aa @a (aa @a (aa (bF (i:=6) qz.nd rfl @l (vc (n:=2) jX Z @b (wv 1) @C)) (ac @dh)))),?_⟩];rwa[cg a cl Y.house (v:= .ref h) rfl ?_];rwa[cg a cl Y.cabins (v:= .ref lc) rfl ?_];rwa[aW @bW hi ?_];rwa[ww (a.s _ _ kr) ak kM ?_];rwa[ae G rfl ?_];rwa[mP.mk (g:=λl=> .int l.rm) _ _ _ _ rfl @hn L.1 hl ?_];rwa[zv.mk _ _ _ _ _ _ _ _ _ _ _ _ rfl ht (a.s _ _ er) (av.same dr a.s) ab z @c λv u d H1 O hu hd ah=> ?_];have a1:=a.same O;have sn:iz c.li (dL hs.so c.li (tk l.rm c.ps J U) @gW (xo J U c.li)) u d:=⟨W.l0,W.l1,BI.1,BI.2,hu.nn,hd.nn⟩;rwa[ks H1 v U c.li _ u d _ _ (a1.s _ _ kr) (az.of ah) sn ?_];have I:=kw U _ _ _ _ sn;generalize S:wf U c.li (dL hs.so c.li (tk l.rm c.ps J U) @gW (xo J U c.li)) u d=wd at I ⊢;rwa[ae (O.seqT G) rfl ?_];rwa[ae (O.seqT G) rfl ?_];rwa[mP.mk (g:=λl=> .int l.tn) _ _ _ _ rfl (hH.same a1.s) L.1 hl ?_];rwa[Ey (f0:=(U:Int)) (ht.same O) I ai z @c af W.l0 W.l1 λr H2 s2 ag=> ?_];have a2:=a1.same s2;rwa[cg a2 cl Y.cabins (v:= .ref lc) rfl ?_];rwa[jW (j:=i.toNat) a2.ec (yi L.1 aj) ?_];rwa[q (gh M i (oE hs l c wd)) _ ⟨U,u,d,z,hu,hd,by rw [S]⟩ ((O.trans s2).st.trans (.updL a2.ec)) ⟨dx,lc,lw,ll,_,ys,zs,a2.setC (i:=i.toNat) (c:=oE hs l c wd) ⟨r,rfl,ag⟩⟩]
noncomputable def bQ (i:Int)(M:MS):List aI:=M.ws.filter λr=>decide (r.lift=i)
def xh (hs:Hs)(wf:Wf)(M:MS)(i:Int)(c:Cb)(l:Lf)(M':MS):Prop:=if 0<c.dr then M'=oX hs M i c l @ep else if c.pl% 2=1 then M'=gh M i ⟨c.pl+c.li,c.li,0,c.mr,c.ps⟩ else OH hs wf M i c l @ep M'
section
variable {hs:Hs}{wf:Wf}{M M':MS}{i:Int}{c:Cb}{l:Lf}
theorem Tu (z:0<c.dr):xh hs wf M i c l (oX hs M i c l @ep):=by unfold xh;rw [if_pos z]
theorem Tt (z: ¬0<c.dr)(U:c.pl% 2=1):xh hs wf M i c l (gh M i ⟨c.pl+c.li,c.li,0,c.mr,c.ps⟩):=by unfold xh;rw [if_neg z,if_pos U]
theorem Ts (z: ¬0<c.dr)(U: ¬c.pl% 2=1)(h:OH hs wf M i c l @ep M'):xh hs wf M i c l M':=by unfold xh;rw [if_neg z,if_neg U];exact h
end
inductive EI (P:Program)(w:World)(K:Fg)(mg:Str->Option Value)(base:Heap)(C:Addr)(vs:List V)(H:Hp)(Q:VK)(_e:XK):Prop
 |mk (m ru i h hs l H0 M c wf:_) (_:vs=[.ref m,.ref ru,.int i]) (_:iN K H0 h hs) (_:hs.ls[i.toNat]? =some l) (_:DW P w K mg base H0 ru wf) (_:gS K C H0 H m h M) (_:atC M i c) (_:iB hs.fl c) (_:i<1000) (_:(∀r∈M.ws,fS hs.fl r)) (_:M.ws.length<=64) (_:M.log.length<=2000) (_:∀M' H',xh hs wf M i c l M'->aK H H'->gS K C H0 H' m h M'->Q .non H')
theorem No {C:Addr}(F:Z0 K "go_without_fire" fG f fd)(cM:xi K C)(uS:aV P w K mg base 4 "exchange" ["moment","lift","riders"] (EJ K C))(cE:Z02 P w K mg base)(pp:aV P w K mg base 6 "go_by_rule" ["moment","rule","lift","riders"] (EL P w K mg base C)):ay P w K mg base bd 7 f fd ["moment","rule","lift"] (EI P w K mg base C):=by
 rwa[F.ok iG (by symm) (λam A outer s H vs Q E hr h=> ?_)];obtain ⟨m,ru,i,h,hs,l,H0,M,c,wf,rfl,hH,hl,ai,⟨dx,lc,lw,ll,xs,ys,zs,a⟩,hc,ok,i1,ak,wl,gl,q⟩:=h;obtain ⟨t,hx,hi,ht,aj⟩:=a.atC hc;obtain ⟨b,bs,et,eb,db⟩:=id ht;have hT:=az.of (K:=K) et;have cl:=cM.i.cl;have yl:ys.length=M.ws.length:=aE a.dw;rwa[⟨_,(aa @a (aa (cu (i:=4) rfl iG.nd rfl @l (ax (N':=["rider","lift"]) (pk:=[none,some 2]) @k) @a @g @x @E) (ac (au @a @A (ac (au @a (ac @dh) @A)))))),?_⟩];rwa[cg a cl cM.cabins (v:= .ref lc) rfl ?_];rwa[aW @bW hi ?_];rwa[cg a cl cM.waiting (v:= .ref lw) rfl ?_];rwa[bL @gL ?_];rwa[bf (xs:=ys) (λj G I=>aq H I/\G.length<=j/\av K I G (((M.ws.take j).filter λr=>decide (r.lift=i)).map aI.d)) @bb (λj G I h=>h.2.1) ⟨.refl _,Nat.le_refl _,.nil⟩ (λj G I _ h=>h.1.seq @gL) (λj y G I hy hP=> ?_) (λG I hP Y n1=> ?_)]
 ·obtain ⟨L,af,hd⟩:=hP;obtain ⟨r,R,ab⟩:=bi (f:=aI.d) a.dw hy;obtain ⟨ra,rfl,ad⟩:=bU (bM.same ab L);have nx:=cj (λr:aI=>decide (r.lift=i)) R;rwa[⟨bc,?_⟩];rwa[ae ad rfl ?_];show if decide (r.lift=i)=true then _ else _
  cases hb:decide (r.lift=i) with
  |true=>
   rw [if_pos rfl];rwa[⟨L,by rw [length_append];show _+1<=_;lia,?_⟩];rw [nx,hb,if_pos rfl,map_append];exact Paired.app hd (.cons (bM.same ab L) .nil)
  |false=>
   rw [if_neg @b];rwa[⟨L,by lia,?_⟩];rw [nx,hb,if_neg @b,append_nil];exact hd
 obtain ⟨L,af,hd⟩:=hP;rw [yl,take_of_length_le @h] at hd;have W:aq I (upd I Y (.lst G)):= .upd n1;have e2:upd I Y (.lst G) Y=some (.lst G):=ag;have d2:=av.same hd W;generalize an:upd I Y (.lst G)=H2 at W e2 d2 ⊢;have S:=L.trans W;have a2:=a.same S;obtain ⟨aw,Z⟩:=a2.wide
 have nk:∀ {p:Addr} {o:HO},H p=some o->Y≠p:=λ{p o} e z=>by rw [<-z] at e;rw [L _ _ e] at n1;cases n1
 have J:jt H2 m lc lw ll Y=some (.lst G):=jK e2 (nk a.em) (nk a.ec) (nk a.ew) (nk a.el)
 have dC:av K (jt H2 m lc lw ll) G ((bQ i M).map aI.d):=by
  rwa[aK.dens (λb o z1 U e=> ?_) d2 (cy _)];exact jK e (λz=>by rw [z,a2.em] at e;cases e;exact U _ _ _ rfl) (λz=>by rw [z,a2.ec] at e;cases e;exact z1 _ rfl) (λz=>by rw [z,a2.ew] at e;cases e;exact z1 _ rfl) (λz=>by rw [z,a2.el] at e;cases e;exact z1 _ rfl)
 generalize al:jt H2 m lc lw ll=Hc at aw Z J dC;have aZ:gS K C Hc H2 m h M:=⟨dx,lc,lw,ll,xs,ys,zs,aw⟩;have aA:∀r∈bQ i M,fS hs.fl r:=λr hr=>ak r ((mem_filter.mp hr).1);have a7:(bQ i M).length<=64:=Nat.le_trans @B wl;rwa[ae @eQ rfl ?_];rwa[cB @i @i]
 ·have z:0<c.dr:=z;exact EJ.mk _ _ _ _ _ _ _ _ _ _ _ rfl (hH.same Z) hl aZ hc i1 ok.len gl @c ⟨c.pl / 2,by have:=ok.ev z;lia⟩ J dC ⟨a7,λr hr=>(aA r hr).ne⟩ λH' st O=>q _ H' (Tu z) (S.st.trans st) (O.onto Z)
 have z: ¬0<c.dr:=z;rwa[ae @eQ rfl ?_];rwa[⟨by decide,?_⟩];rwa[cB (λU=> ?_) (λU=> ?_)]
 ·have U:c.pl% 2=1:=U;rwa[ae @eQ rfl ?_];rwa[ae @eQ rfl ?_];rwa[ae @eQ rfl ?_];rwa[fq.mk _ _ _ _ _ _ _ _ _ rfl (ht.same S) λr H3 s3 R=> ?_];have a3:=a2.same s3;rwa[cg a3 cl cM.cabins (v:= .ref lc) rfl ?_];rwa[jW (j:=i.toNat) a3.ec (yi hc.1 aj) ?_];exact q _ _ (Tt z U) ((S.trans s3).st.trans (.updL a3.ec)) ⟨dx,lc,lw,ll,_,ys,zs,a3.setC (i:=i.toNat) (c:=⟨c.pl+c.li,c.li,0,c.mr,c.ps⟩) ⟨r,rfl,R⟩⟩
 ·have U: ¬c.pl% 2=1:=U;exact EL.mk _ _ _ _ _ _ _ _ _ _ _ _ _ rfl (hH.same Z) hl (ai.same Z) aZ hc ok @c J dC aA a7 λM' H' ah st O=>q M' H' (Ts z U ah) (S.st.trans st) (O.onto Z)
def Ca (hs:Hs)(wf:Wf)(M:MS)(i:Int)(c:Cb)(l:Lf)(M':MS):Prop:=(c.mr.toNat.testBit 0=true/\M'=M)\/(c.mr.toNat.testBit 0=false/\M.fire=true/\M'=M)\/(c.mr.toNat.testBit 0=false/\M.fire=false/\xh hs wf M i c l M')
inductive IQ (P:Program)(w:World)(K:Fg)(mg:Str->Option Value)(base:Heap)(C:Addr)(vs:List V)(H:Hp)(Q:VK)(_e:XK):Prop
 |mk (m ru i h hs l H0 M c wf:_) (_:vs=[.ref m,.ref ru,.int i]) (_:iN K H0 h hs) (_:hs.ls[i.toNat]? =some l) (_:DW P w K mg base H0 ru wf) (_:gS K C H0 H m h M) (_:atC M i c) (_:iB hs.fl c) (_:i<1000) (_:(∀r∈M.ws,fS hs.fl r)) (_:M.ws.length<=64) (_:M.log.length<=2000) (_:M.fire=false) (_:∀M' H',Ca hs wf M i c l M'->aK H H'->gS K C H0 H' m h M'->Q .non H')
theorem Qq {C:Addr}{t1:Tok}(F:Z0 K "go" Sh f fd)(z:xi K C)(wJ:mg "STUCK"=some (.int 0 t1))(pF:Z03 P w K mg base)(gP:aV P w K mg base 7 "go_without_fire" ["moment","rule","lift"] (EI P w K mg base C)):ay P w K mg base bd 8 f fd ["moment","rule","lift"] (IQ P w K mg base C):=by
 have MK:aF (.int 0) (.int 0 t1):=⟨_,rfl⟩;rwa[F.ok Sg (by symm) @q];obtain ⟨m,ru,i,h,hs,l,H0,M,c,wf,rfl,hH,hl,ad,Y,O,Z,i1,J,wl,gl,R,q⟩:=h;have j:=Y;obtain ⟨dx,lc,lw,ll,xs,ys,zs,a⟩:=Y;obtain ⟨t,hx,hi,ht,af⟩:=a.atC O;obtain ⟨b,bs,et,eb,db⟩:=id ht;have U:=z.i.cl;obtain ⟨S,W⟩:=Int.eq_ofNat_of_zero_le Z.m0;rwa[⟨_,(aa (au @a (ac Jr) ak) (ac (au @a @fU @A))),?_⟩];rwa[cg a U z.cabins (v:= .ref lc) rfl ?_];rwa[aW @bW hi ?_];rwa[ae (az.of et) rfl ?_];rw [W]
 have L:c.mr.toNat=S:=by rw [W];rfl
 erw[fZ.mk _ 0 rfl @b ?_];by_cases G:S.testBit 0=true
 ·rwa[aP G ?_];exact q M H (.inl ⟨by rw [L];exact G,rfl⟩) (.refl _) j
 ·have an:S.testBit 0=false:=by simpa using G
  rwa[aG an ?_];rwa[cg a U z.fire (v:= .bl M.fire) rfl ?_];rwa[aG R ?_];exact EI.mk _ _ _ _ _ _ _ _ _ _ rfl hH hl ad j O Z i1 J wl gl λM' H' hg st I=>q M' H' (.inr (.inr ⟨by rw [L];exact an,R,hg⟩)) st I
inductive gR (K:Fg)(H:Hp)(st:Addr)(cs:List Cb)(ws:List aI)(last:Int)(fire:Bool):Prop
 |mk (tc tw xs ys:_) (_:az K H st [.ref tc,.ref tw,.int last,.bl fire]) (_:az K H tc xs) (_:az K H tw ys) (_:Paired (bv K H) xs cs) (_:av K H ys @dO)
theorem gR.keep {H H':Hp}{st:Addr}{cs:List Cb}{ws:List aI}{j:Int}{fire:Bool}(h:gR K H st cs ws j fire)(s:aK H H'):gR K H' st cs ws j fire:=by
 obtain ⟨tc,G,xs,ys,h1,h2,L,F,U⟩:=h;exact ⟨tc,G,xs,ys,s.sqT h1,s.sqT h2,s.sqT L,Paired.imp' (λx c z=>bv.keep z s) F,s.dens U (cy _)⟩
inductive EE (K:Fg)(vs:List V)(H:Hp)(Q:VK)(_e:XK):Prop
 |mk (a h st C dx tc tw xs ys last fire:_) (_:vs=[.ref a,.ref h,.ref st]) (_:H a=some (.ins C dx [])) (_:xi K C) (_:az K H st [.ref tc,.ref tw,.int last,.bl fire]) (_:az K H tc xs) (_:az K H tw ys) (_:∀lc lw ll H',fR a H H'->H lc=none->H lw=none->H ll=none->lc≠lw->lc≠ll->lw≠ll->H' a=some (.ins C dx (tM h lc lw last fire 0 ll))->H' lc=some (.lst xs)->H' lw=some (.lst ys)->H' ll=some (.lst [])->Q .non H')
theorem gD {a:Addr}{H H':Hp}{C dx:Addr}{fs:List (Str×V)}(s:fR a H H')(e:H a=some (.ins C dx fs)){p:Addr}{xs:List V}(h:az K H p xs):az K H' p xs:=by
 rcases h with (h|⟨u,h⟩)|h
 ·exact .inl (.inl (s _ _ (λz=>by rw [z,e] at h;cases h) h))
 ·exact .inl (.inr ⟨u,s _ _ (λz=>by rw [z,e] at h;cases h) h⟩)
 ·exact .inr h
theorem FU (F:bt K "__init__" "Moment.__init__" i8 f fd)(d7:mg "list"=none):ay P w K mg base bd 1 f fd ["self","house","state"] (EE K):=by
 rwa[F.ok vF (by symm) (λaF A outer s H vs Q E hr h=> ?_)];obtain ⟨a,h,st,C,dx,tc,tw,xs,ys,J,O,rfl,Y,S,h1,h2,h3,q⟩:=h;have U:=S.i.cl;rwa[⟨_,(aa @bJ (aa (cL rfl (wv 0) @be) (aa (cL rfl (wv 0) @be) (aa @dg (aa @dg (aa (cL rfl (wv 0) aB) (ac (cL rfl (wv 0) (pW ao))))))))),?_⟩];rwa[cU Y U S.house @b ?_];generalize W:upd H a _=H1
 have p1:fR a H H1:=by rw [<-W];exact λb o n e=>by rw [am n];exact e
 have ad:H1 a=some (.ins C dx [(s!"house",.ref h)]):=by rw [<-W];exact ag
 clear W;rwa[ae (gD p1 Y h1) rfl ?_];rwa[lV (.inr (gD p1 Y h2)) λlc H2 s2 n2 e2=> ?_];have au:=s2 _ _ ad;rwa[cU au U S.cabins (by show 1<1000;decide) ?_];generalize aj:upd H2 a _=H3
 have p3:fR a H H3:=by rw [<-aj];exact λb o n e=>by rw [am n];exact s2 _ _ (p1 b o n e)
 have ai:H3 a=some (.ins C dx [(s!"house",.ref h),(s!"cabins",.ref lc)]):=by rw [<-aj];exact ag
 have af:lc≠a:=λz=>by rw [z,ad] at n2;cases n2
 have e3:H3 lc=some (.lst xs):=by rw [<-aj,am af];exact e2
 have al:H lc=none:=by
  cases y:H lc with
  |none=>rfl
  |some o=>rw [p1 _ _ af y] at n2;cases n2
 clear aj;rwa[ae (gD p3 Y h1) rfl ?_];rwa[lV (.inr (gD p3 Y h3)) λlw H4 s4 Z e4=> ?_];have ap:=s4 _ _ ai;rwa[cU ap U S.waiting (by show 2<1000;decide) ?_];generalize L:upd H4 a _=H5
 have p5:fR a H H5:=by rw [<-L];exact λb o n e=>by rw [am n];exact s4 _ _ (p3 b o n e)
 have an:H5 a=some (.ins C dx [(s!"house",.ref h),(s!"cabins",.ref lc),(s!"waiting",.ref lw)]):=by rw [<-L];exact ag
 have j:lw≠a:=λz=>by rw [z,ai] at Z;cases Z
 have aC:lc≠lw:=λz=>by rw [<-z,e3] at Z;cases Z
 have e5:H5 lw=some (.lst ys):=by rw [<-L,am j];exact e4
 have aq:H5 lc=some (.lst xs):=by rw [<-L,am af];exact s4 _ _ e3
 have aA:H lw=none:=by
  cases y:H lw with
  |none=>rfl
  |some o=>rw [p3 _ _ j y] at Z;cases Z
 clear L;rwa[ae (gD p5 Y h1) rfl ?_];rwa[cU an U S.last (by show 3<1000;decide) ?_];generalize I:upd H5 a _=H6
 have p6:fR a H H6:=by rw [<-I];exact λb o n e=>by rw [am n];exact p5 b o n e
 have az:H6 a=some (.ins C dx [(s!"house",.ref h),(s!"cabins",.ref lc),(s!"waiting",.ref lw),(s!"last",.int J)]):=by rw [<-I];exact ag
 have e6:H6 lw=some (.lst ys):=by rw [<-I,am j];exact e5
 have aE:H6 lc=some (.lst xs):=by rw [<-I,am af];exact aq
 clear I;rwa[ae (gD p6 Y h1) rfl ?_];rwa[cU az U S.fire (by show 4<1000;decide) ?_];generalize G:upd H6 a _=H7
 have p7:fR a H H7:=by rw [<-G];exact λb o n e=>by rw [am n];exact p6 b o n e
 have ax:H7 a=some (.ins C dx [(s!"house",.ref h),(s!"cabins",.ref lc),(s!"waiting",.ref lw),(s!"last",.int J),(s!"fire",.bl O)]):=by rw [<-G];exact ag
 have e7:H7 lw=some (.lst ys):=by rw [<-G,am j];exact e6
 have aD:H7 lc=some (.lst xs):=by rw [<-G,am af];exact aE
 clear G;rwa[cU ax U S.blocked (by show 5<1000;decide) ?_];generalize bu:upd H7 a _=H8
 have p8:fR a H H8:=by rw [<-bu];exact λb o n e=>by rw [am n];exact p7 b o n e
 have ah:H8 a=some (.ins C dx [(s!"house",.ref h),(s!"cabins",.ref lc),(s!"waiting",.ref lw),(s!"last",.int J),(s!"fire",.bl O),(s!"blocked",.int 0)]):=by rw [<-bu];exact ag
 have e8:H8 lw=some (.lst ys):=by rw [<-bu,am j];exact e7
 have ak:H8 lc=some (.lst xs):=by rw [<-bu,am af];exact aD
 clear bu;rwa[gI (be (by show 0<=1000000;decide)) λll H9 s9 R e9=> ?_];have as:=s9 _ _ ah;rwa[cU as U S.log (by show 6<1000;decide) ?_]
 have ab:ll≠a:=λz=>by rw [z,ah] at R;cases R
 have av:lc≠ll:=λz=>by rw [<-z,ak] at R;cases R
 have aw:lw≠ll:=λz=>by rw [<-z,e8] at R;cases R
 rwa[q lc lw ll _ (λb o n e=> ?_) al aA ?_ aC av aw ag ?_ ?_ ?_]
 ·rw [am n];exact s9 _ _ (p8 b o n e)
 ·cases y:H ll with
  |none=>rfl
  |some o=>rw [p8 _ _ ab y] at R;cases R
 ·rw [am af];exact s9 _ _ ak
 ·rw [am j];exact s9 _ _ e8
 ·rw [am ab];exact e9
unseal gH in
theorem Su {C:Addr}{E:XK}{H:Hp}{h st:Addr}{cs:List Cb}{ws:List aI}{j:Int}{fire:Bool}{Q:VK}(cM:xi K C)(hs:gR K H st cs ws j fire)(g:∀m H',gS K C H H' m h ⟨cs,ws,j,fire,0,[]⟩->Q (.ref m) H'):gH C (EE K) E [.ref h,.ref st] H Q:=by
 show ∀a dx,H a=none->H dx=none->dx≠a->EE K (.ref a::([.ref h,.ref st]++[])) @r (λv H2=>v= .non/\Q (.ref a) H2) E;intro a dx h1 h2 h3;have G:aq H @r:=fA h1 h2;obtain ⟨tc,J,xs,ys,O,i2,Y,i4,Z⟩:=hs;rwa[⟨a,h,st,C,dx,tc,J,xs,ys,j,fire,rfl,ag,cM,G.seqT O,G.seqT i2,G.seqT Y,λlc lw ll H' sp nc W L U F wl R ec ew S=>⟨rfl,g a H' ?_⟩⟩];have I:aq H H':=λb o e=>sp b o (λz=>by rw [z,h1] at e;cases e) (G b o e);exact ⟨dx,lc,lw,ll,xs,ys,[],I,h1,none_of G nc,none_of G W,none_of G L,U,F,wl,R,ec,ew,S,Paired.imp' (λx c z=>bv.keep z I.st) i4,av.same Z I,.nil,rfl⟩
inductive Bh (K:Fg)(C:Addr)(vs:List V)(H:Hp)(Q:VK)(_e:XK):Prop
 |mk (m h H0 M:_) (_:vs=[.ref m]) (_:gS K C H0 H m h M) (_:∀st H',aq H H'->gR K H' st M.cs M.ws M.last M.fire->Q (.ref st) H')
theorem Nd {C:Addr}(F:Z0 K "state_of" qH f fd)(j:xi K C)(I:mg "tuple"=none):ay P w K mg base bd 1 f fd ["moment"] (Bh K C):=by
 rwa[F.ok Cs (by symm) (λY A outer s H vs Q E hr h=> ?_)];obtain ⟨m,h,H0,M,rfl,⟨dx,lc,lw,ll,xs,ys,zs,a⟩,q⟩:=h;have U:=j.i.cl;rwa[⟨_,(ac (ai (cO (ar (aL @cA rfl I boot_tuple @C) (ar (aL @cA rfl I boot_tuple @C) (ar @a @C)))))),?_⟩];rwa[cg a U j.cabins (v:= .ref lc) rfl ?_];rwa[fm @bW λtc H1 G n1 L=> ?_];have z:=a.same G;rwa[cg z U j.waiting (v:= .ref lw) rfl ?_];rwa[fm (aC.of z.ew) λW H2 S n2 e2=> ?_];have O:=z.same S;rwa[cg O U j.last (v:= .int M.last) rfl ?_];rwa[cg O U j.fire (v:= .bl M.fire) rfl ?_];rwa[bD (be (by show 4<=1000000;decide)) λst J R n3 e3=> ?_];have Z:=O.same R;exact q st J (G.trans (S.trans R)) ⟨tc,W,xs,ys,az.of e3,az.of (R _ _ (S _ _ L)),az.of (R _ _ e2),Z.dc,Z.dw⟩
structure kZ (hs:Hs)(n:Nat)(M:MS):Prop where
 len:M.cs.length=hs.ls.length
 cs:∀c∈M.cs,iB hs.fl c
 ws:∀r∈M.ws,fS hs.fl r
 sum:M.log.length+M.ws.length<=n
theorem fc {α:Type}{l:List α}{i:Nat}{x y:α}(h:y∈l.set i x):y∈l\/y=x:=mem_or_eq_of_mem_set h
theorem iB.mk' {fl:Int}{c:Cb}(o:iB fl c){k:Int}(h:0<=k):iB fl {c with mr:=k}:=⟨o.p0,o.p1,o.l0,o.l1,h,o.ev,o.len,o.gs⟩
theorem GM {M:MS}{i:Int}(h:i.toNat<M.cs.length):jo M i∈M.cs:=by
 unfold jo;rw [getD_eq_getElem?_getD,getElem?_eq_getElem h];exact getElem_mem h
theorem kZ.setMk {hs:Hs}{n:Nat}{M:MS}(o:kZ hs n M){i:Int}{k:Int}(hi:i.toNat<M.cs.length)(h:0<=k){ws:List aI}(G:∀r∈ws,fS hs.fl r)(W:ws.length<=M.ws.length):kZ hs n {M with cs:=M.cs.set i.toNat {jo M i with mr:=k},ws:=ws}:=by
 rwa[⟨by rw [length_set];exact o.len,λc I=> ?_,G,by have:=o.sum;show M.log.length+ws.length<=n;lia⟩]
 rcases fc I with z|z
 ·exact o.cs c z
 ·rw [z];exact (o.cs _ (GM hi)).mk' h
theorem yo {hs:Hs}{i:Int}{ws:List aI}(h:∀r∈ws,fS hs.fl r):∀r∈dB i ws,fS hs.fl r:=λr S=>by
 obtain ⟨s,F,rfl⟩:=mem_map.mp S;have o:=h s F;split
 ·exact ⟨o.s0,o.s1,o.g0,o.g1,o.ne⟩
 ·exact o
theorem kZ.deed {hs:Hs}{n:Nat}{M:MS}(o:kZ hs n M){d:Dd}(R:d.ok)(F:d.fit hs.fl hs.ls.length):kZ hs (n+1) (bJ hs.lo M d):=by
 have j:∀ {M':MS},kZ hs n M'->kZ hs (n+1) M':=λz=>⟨z.len,z.cs,z.ws,by have:=z.sum;lia⟩
 cases d with
 |come t s g k=>
  obtain ⟨Y,O,I,J,L⟩:=F;show kZ hs (n+1) (cK hs.lo M t s g k);unfold cK;have W:=o.sum;split
  ·exact ⟨o.len,o.cs,o.ws,by show (M.log++_).length+M.ws.length<=_;rw [length_append];simp;lia⟩
  split
  ·exact ⟨o.len,o.cs,o.ws,by show (M.log++_).length+M.ws.length<=_;rw [length_append];simp;lia⟩
  ·rwa[⟨o.len,o.cs,λr S=> ?_,by show M.log.length+(M.ws++_).length<=_;rw [length_append];simp;lia⟩]
   rcases mem_append.mp S with z|z
   ·exact o.ws r z
   ·rw [mem_singleton.mp z];exact ⟨Y,O,I,J,L⟩
 |lf x i=>
  obtain ⟨U,Z⟩:=F
  have hi:i.toNat<M.cs.length:=by rw [o.len];lia
  have G:(dB i M.ws).length<=M.ws.length:=by unfold dB;rw [length_map];exact Nat.le_refl _
  rcases R with rfl|rfl|rfl|rfl|rfl
  ·rw [fO];exact j ⟨o.len,o.cs,o.ws,o.sum⟩
  ·rw [fM];exact j (o.setMk hi @c (yo o.ws) G)
  ·rw [gK];exact j (o.setMk hi @c o.ws @h)
  ·rw [fN];exact j (o.setMk hi @c (yo o.ws) G)
  ·rw [gL];exact j (o.setMk hi @c o.ws @h)
 |sg x=>exact False.elim F
theorem kZ.dealt {hs:Hs}{n:Nat}{M:MS}(o:kZ hs n M){dl:sR}{p:Nat}{r:aI}(S:fS hs.fl r):kZ hs (n+1) @hm:=by
 unfold c5;have G:=o.sum;split
 ·exact ⟨o.len,o.cs,o.ws,by show M.log.length+M.ws.length<=_;lia⟩
 ·rwa[⟨o.len,o.cs,λs F=> ?_,by show (M.log++_).length+(M.ws.set _ _).length<=_;rw [length_append,length_set];simp;lia⟩]
  rcases fc F with z|z
  ·exact o.ws s z
  ·rw [z];exact ⟨S.s0,S.s1,S.g0,S.g1,S.ne⟩
theorem kZ.deals {hs:Hs}{n:Nat}{M:MS}(o:kZ hs n M){dl:sR}{W:List aI}(F:∀r∈W,fS hs.fl r):∀i,kZ hs (n+i) @gt
 |0=>o
 |i+1=>by
  have h:=kZ.deals (dl:=dl) o F i;unfold aD;split
  ·rename_i r S;split
   ·exact h.dealt (F r (mem_of_getElem? S))
   ·exact ⟨h.len,h.cs,h.ws,by have:=h.sum;lia⟩
  ·exact ⟨h.len,h.cs,h.ws,by have:=h.sum;lia⟩
def k6 (hs:Hs)(wf:Wf):Nat->MS->MS->Prop
 |0,M,M'=>M'=M
 |i+1,M,M''=>∃M' c l,k6 hs wf i M M'/\atC M' (i:Int) c/\hs.ls[i]? =some l/\Ca hs wf M' (i:Int) c l M''
structure ka (hs:Hs)(M0:MS)(i:Nat)(M:MS):Prop where
 len:M.cs.length=M0.cs.length
 cs:∀j,i<=j->M.cs[j]? =M0.cs[j]?
 ws:∀r∈M.ws,r∈M0.ws
 wl:M.ws.length<=M0.ws.length
 log:M.log.length<=M0.log.length+128*i
 fire:M.fire=M0.fire
theorem ka.set {hs:Hs}{z M:MS}{i:Nat}(o:ka hs z i M){c:Cb}{lg:List D}{ws:List aI}(G:∀r∈ws,r∈M.ws)(W:ws.length<=M.ws.length)(F:lg.length<=M.log.length+128):ka hs z (i+1) {M with cs:=M.cs.set i c,ws:=ws,log:=lg}:=by
 rwa[⟨by rw [length_set];exact o.len,λj Z=> ?_,λr S=>o.ws r (G r S),Nat.le_trans W o.wl,by have:=o.log;show lg.length<=_;lia,o.fire⟩];rw [getElem?_set_ne @c];exact o.cs j @c
theorem ka.go {hs:Hs}{wf:Wf}{G M M':MS}{i:Nat}{c:Cb}{l:Lf}(o:ka hs G i M)(J:c.ps.length<=64)(L:M.ws.length<=64)(h:Ca hs wf M (i:Int) c l M'):ka hs G (i+1) M':=by
 have z:ka hs G (i+1) M:=⟨o.len,λj Z=>o.cs j @c,o.ws,o.wl,by have:=o.log;lia,o.fire⟩
 have e:((i:Int)).toNat=i:=by lia
 have F:∀I,ka hs G (i+1) (gh M (i:Int) I):=λI=>by
  have:=o.set (c:=I) (lg:=M.log) (ws:=M.ws) (λr h=>h) @h @c;unfold gh;rw [e];exact this
 rcases h with ⟨_,rfl⟩|⟨_,_,rfl⟩|⟨_,_,h⟩
 ·exact z
 ·exact z
 ·unfold xh at h;split at h
  ·rw [h];unfold oX gh wz;rw [e];rwa[o.set (λr h=>(mem_filter.mp h).1) @B ?_];rw [length_append,length_append,length_map,length_map];have h1:=jf (pl:=c.pl) (ps:=c.ps);have h2:=rC (hs:=hs) (c:=c) (l:=l) (rs:=bQ (i:Int) M);have O:(bQ (i:Int) M).length<=M.ws.length:=length_filter_le _ _;lia
  split at h
  ·rw [h];exact F _
  ·obtain ⟨U,u,d,_,_,_,rfl⟩:=h;exact F _
noncomputable def vg:Dd->List Int
 | .come t _ _ _=>[t]
 |_=>[]
def tR (fl:Int)(n:Nat):List Int->List Dd->Prop
 |_,[]=>True
 |ts,d::ds=>d.fit fl n/\(∀t∈vg d,t∉ts)/\tR fl n (ts++vg d) ds
theorem GN {fl:Int}{n:Nat}:∀ {ds:List Dd} {ts:List Int},tR fl n ts ds->∀d∈ds,d.fit fl n
 |[],_,_,d,J=>by cases J
 |e::ds,ts,h,d,J=>by
  rcases mem_cons.mp J with rfl|J
  ·exact h.1
  ·exact GN h.2.2 d J
noncomputable def fF (cs:List Cb)(ws:List aI):List Int:=ws.map (·.tag)++cs.flatMap λc=>c.ps.map (·.1)
def y3 (K:Fg)(H:Hp)(p:Addr)(ds:List Dd):Prop:=∃xs,aC K H p xs/\Paired (λx d=>∃a,x=V.ref a/\ub H a d) xs ds
inductive Bi (K:Fg)(vs:List V)(H:Hp)(Q:VK)(_e:XK):Prop
 |mk (h st dl hs cs ws last fire ds:_) (_:vs=[.ref h,.ref st,.ref dl]) (_:iN K H h hs) (_:gR K H st cs ws last fire) (_:y3 K H dl ds) (_:ws.length<=64) (_:(∀c∈cs,c.ps.length<=64)) (_:cs.length<=10) (_:ds.length<=100) (_:tR (Hs.fl hs) hs.ls.length @hb ds) (_:∀H',aq H H'->Q .non H')
structure OG (K:Fg)(C:Addr):Prop where
 i:gU K C
 house:aR K C "house"
 rule:aR K C "rule"
 dealer:aR K C "dealer"
abbrev wR (h ru df:Addr):List (Str×V):=[(s!"house",.ref h),(s!"rule",.ref ru),(s!"dealer",.ref df)]
noncomputable def aH (lo:Nat)(M:MS)(ds:List Dd):MS:=ds.foldl (bJ lo) M
noncomputable def nQ (dl:sR)(M:MS):MS:=aD dl M.ws M.ws.length M
theorem Kz {lo:Nat}{M:MS}{d:Dd}:(bJ lo M d).fire=M.fire:=by
 cases d with
 |come t s g k=>
  show (cK lo M t s g k).fire=M.fire;unfold cK;split
  ·rfl
  ·split<;>rfl
 |lf x i=>
  unfold bJ;dsimp only;split
  ·rfl
  split
  ·rfl
  split
  ·rfl
  split<;>rfl
 |sg x=>rfl
theorem oY {lo:Nat}:∀ {ds:List Dd} {M:MS},(aH lo M ds).fire=M.fire
 |[],M=>rfl
 |d::ds,M=>(oY (ds:=ds) (M:=bJ lo M d)).trans Kz
inductive zw (P:Program)(w:World)(K:Fg)(mg:Str->Option Value)(base:Heap)(GG LB:Hp->Prop)(pre:List Cb->List aI->aI->Int->Prop)(dl:sR)(vs:List V)(H:Hp)(Q:VK)(_e:XK):Prop
 |mk (a st dp C dx h ru df hs wf cs ws last ds:_) (_:vs=[.ref a,.ref st,.ref dp]) (_:H a=some (.ins C dx @gM)) (_:OG K C) (_:iN K H h hs) (_:DW P w K mg base H ru wf) (_:sS P w K mg base 5 df @eP) (_:GG H) (_:LB H) (_:gR K H st cs ws last false) (_:y3 K H dp ds) (_:kZ hs ws.length ⟨cs,ws,last,false,0,[]⟩) (_:ws.length+ds.length<=64) (_:tR (Hs.fl hs) hs.ls.length @hb ds) (_:(∀i r,(aH hs.lo ⟨cs,ws,last,false,0,[]⟩ ds).ws[i]? =some r->r.lift= -1->pre (aD dl (aH hs.lo ⟨cs,ws,last,false,0,[]⟩ ds).ws i @bf).cs (aD dl (aH hs.lo ⟨cs,ws,last,false,0,[]⟩ ds).ws i @bf).ws r (aD dl (aH hs.lo ⟨cs,ws,last,false,0,[]⟩ ds).ws i @bf).last)) (_:(∀r st' ll zs M' H',bE H H'->GG H'->H' r=some (.tup [.ref st',.ref ll])->gR K H' st' M'.cs M'.ws M'.last M'.fire->H' ll=some (.lst zs)->av K H' zs M'.log->k6 hs wf hs.ls.length (nQ dl @bf) M'->M'.log.length<=2000->Q (.ref r) H'))
theorem rF {lo:Nat}{M:MS}{ds:List Dd}{i:Nat}{d:Dd}(h:ds[i]? =some d):aH lo M (ds.take (i+1))=bJ lo (aH lo M @fV) d:=by
 unfold aH;rw [take_add_one,h,foldl_append];rfl
theorem kZ.deeds {hs:Hs}{n:Nat}{M:MS}(o:kZ hs n M):∀ {ds:List Dd},(∀d∈ds,d.ok/\d.fit hs.fl hs.ls.length)->∀i,kZ hs (n+i) (aH hs.lo M @fV)
 |ds,h,0=>by
  rw [take_zero];exact o
 |ds,h,i+1=>by
  have z:=kZ.deeds o h i
  cases e:ds[i]? with
  |none=>
   rw [take_add_one,e];simp only [Option.toList_none,append_nil];exact ⟨z.len,z.cs,z.ws,by have:=z.sum;lia⟩
  |some d=>
   rw [rF e];have:=h d (mem_of_getElem? e);exact z.deed this.1 this.2
theorem BJ {H H':Hp}(s:bE H H'){a:Addr}{h:Hs}(c:iN K H a h):iN K H' a h:=by
 obtain ⟨o,p,xs,h1,h2,L⟩:=c;exact ⟨o,p,xs,s.sqT h1,s.sqT h2,Paired.imp' (λx l ⟨b,e,z⟩=>⟨b,e,s.sqT z⟩) L⟩
theorem Lg {H H':Hp}(s:bE H H'){a:Addr}{wf:Wf}(r:DW P w K mg base H a wf):DW P w K mg base H' a wf:=by
 obtain ⟨C,dx,fs,sp,h1,h2,L,j,U⟩:=r;exact ⟨C,dx,fs,sp,s _ _ (λ_ z=>by cases z) h1,h2,L,j,U⟩
theorem Bg {H H':Hp}(s:bE H H'){st:Addr}{cs:List Cb}{ws:List aI}{j:Int}{fire:Bool}(h:gR K H st cs ws j fire):gR K H' st cs ws j fire:=by
 obtain ⟨tc,G,xs,ys,h1,h2,L,F,U⟩:=h;exact ⟨tc,G,xs,ys,s.sqT h1,s.sqT h2,s.sqT L,Paired.imp' (λx c z=>bv.nt s z) F,s.dens U⟩
theorem JJ {Z:Addr}{GG LB:Hp->Prop}{a1:List Cb->List aI->aI->Int->Prop}{dl:sR}(gT:GT GG)(lN:∀H H',bE H H'->LB H->LB H')(F:bt K "turn" "Court.turn" ie f fd)(cM:xi K Z)(bp:mg "len"=none)(aQ:mg "range"=none)(gt:aV P w K mg base 7 "need_deeds" ["house","state","deeds"] (Bi K))(lU:iK P w K mg base bd 1 "Moment" Z (EE K))(mq:aV P w K mg base 5 "do_deed" ["moment","deed"] (IR K Z))(jO:aV P w K mg base 7 "deal_all" ["moment","dealer"] (lI P w K mg base Z GG LB a1 dl))(bn:aV P w K mg base 8 "go" ["moment","rule","lift"] (IQ P w K mg base Z))(jM:aV P w K mg base 1 "state_of" ["moment"] (Bh K Z)):ay P w K mg base bd 9 f fd ["self","state","deeds"] (zw P w K mg base GG LB a1 dl):=by
 rwa[F.ok oM (by symm) (λbr A outer s H vs Q E hr h=> ?_)];obtain ⟨a,st,dp,C,dx,h,ru,df,hs,wf,cs,ws,aF,ds,rfl,ea,cC,hH,bf,az,a7,a2,ax,aS,ab,bx,aj,L,q⟩:=h;have R:=cC.i.cl;have cl:=cM.i.cl;have l3:=hH.1.l3
 have aL:cs.length<=10:=by have:=ab.len;have:cs.length=hs.ls.length:=this;lia
 have aN:∀c∈cs,c.ps.length<=64:=λc hc=>(ab.cs c hc).len;rwa[⟨_,(aa @fR (aa (bF (i:=3) oM.nd rfl @l (fX lU jX hr @b rfl (ar @a @bz))) (aa (ce PassesOwn.never rfl @a @a @A) (bV (au (dU @a) @A ak) (aa (ce PassesOwn.never rfl @dA @a @A) @j))))),?_⟩];rwa[fJ ea R cC.house (v:= .ref h) rfl ?_];rwa[Bi.mk _ _ _ _ _ _ _ _ _ rfl hH ax aS @c aN aL @c aj λH1 U=> ?_];have a9:=GN aj;obtain ⟨xd,a3,pd⟩:=aS
 have aO:∀d∈ds,d.ok/\d.fit hs.fl hs.ls.length:=λd hd=>by
  obtain ⟨i,hi⟩:=mem_iff_getElem?.mp hd;obtain ⟨x,hx,ad,_,aq⟩:=pd.get2 hi;exact ⟨aq.2,a9 d hd⟩
 have j:=U _ _ ea;rwa[fJ j R cC.house (v:= .ref h) rfl ?_];rwa[Su cM (ax.keep U.st) λm H2 aZ=> ?_];have a4:=gT _ _ (U.trans aZ.s).st a7;have bj:=aZ.s.st;have aZ:=aZ.onto (qV H1);have aE:=Gg H1;have aA:LB (xn H1):=lN _ _ (U.nt.trans (Bv H1)) a2;have s2:=aZ.s;have j:=qW j (λ_ z=>by cases z);generalize aM:(⟨cs,ws,aF,false,0,[]⟩:MS)=M0 at aZ ab L q
 have bh:M0.fire=false:=by rw [<-aM]
 have bC:M0.ws.length=ws.length:=by rw [<-aM]
 have am:=(Bv H1).sqL (U.seq a3);rwa[bL (s2.seq am) ?_];have xl:xd.length=ds.length:=pd.len;have ap:=BJ (Bv H1) (hH.same U);have ag:=Lg (Bv H1) (bf.same U);have bk:aK (xn H1) H1:=(qV H1).st;generalize a6:xn H1=Hb at aZ aE aA s2 j am ap ag bk;have aY:∀i,kZ hs (ws.length+i) (aH hs.lo M0 @fV):=λi=>ab.deeds aO i;rwa[eQ (xs:=xd) (λi σ O=>gS K Z Hb O m h (aH hs.lo M0 @fV)/\aK H1 O/\GG O/\∃Y W,σ=[some (.ref a),some (.ref st),some (.ref dp),some (.ref m),Y,W]) ⟨by rw [take_zero];exact aZ,bj,a4,_,_,rfl⟩ (λi σ O _ pv=>pv.1.s.seq am) (λi x σ O hx pv=> ?_) (λσ O pv=> ?_)]
 ·obtain ⟨hM,af,gX,Y,W,rfl⟩:=pv;obtain ⟨d,hd,ad,rfl,aq⟩:=pd.get1 hx;have il:i<ds.length:=(List.getElem?_eq_some_iff.mp hd).1;have S:=aY i;have sm:=S.sum;rwa[IR.mk _ _ _ _ _ _ _ rfl ((hH.same U).keep af) ((aq.same U).keep af) (aO d (mem_of_getElem? hd)).2 hM @c @c S.len (λc hc=>(S.cs c hc).m0) λH' G I=> ?_];rw [<-rF hd] at I;exact ⟨I,af.trans G,gT _ _ G gX,_,_,rfl⟩
 obtain ⟨hM,af,gX,Y,W,rfl⟩:=pv;rw [xl,take_of_length_le @h] at hM;have S:=aY ds.length;rw [take_of_length_le @h] at S;have av:(aH hs.lo M0 ds).fire=false:=oY.trans bh;generalize bI:aH hs.lo M0 ds=M1 at hM S L q av;have bu:=S.sum;have aR:=hM;obtain ⟨bB,bG,bJ,bq,bH,bw,bo,ma⟩:=hM;rwa[fz (λσ H3=>gS K Z Hb H3 m h (nQ dl M1)/\GG H3/\∃Y W,σ=[some (.ref a),some (.ref st),some (.ref dp),some (.ref m),Y,W]) ?_ ?_]
 ·ext;rwa[cg ma cl cM.fire (v:= .bl M1.fire) rfl ?_];rwa[aP (by rw [av];rfl) ?_];rwa[fJ (aR.s _ _ j) R cC.dealer (v:= .ref df) rfl ?_];exact lI.mk _ _ _ _ _ rfl az gX aE aA aR @c @c (by rw [S.len];lia) L λH' G gY I=>⟨I,gY,_,_,rfl⟩
 rintro σ' H3 ⟨aG,g3,Y,W,rfl⟩;have J:kZ hs (ws.length+ds.length+M1.ws.length) (nQ dl M1):=S.deals S.ws M1.ws.length;have h1:(nQ dl M1).ws.length=M1.ws.length:=(dH _).1;have aU:(nQ dl M1).fire=false:=(oZ _).trans av;generalize bm:nQ dl M1=M2 at aG J q h1 aU
 have bA:M2.ws.length<=64:=by lia
 have bz:=J.sum;have s3:=aG.s;rwa[fJ (s3 _ _ j) R cC.house (v:= .ref h) rfl ?_];obtain ⟨_,ph,bs,bi,bb,bv⟩:=ap.same s3;rwa[ae bi rfl ?_];rwa[eX bb ?_];rw [bv.len];rwa[⟨⟨by lia,by lia⟩,?_⟩];rwa[c4 (λi σ O=>∃M',gS K Z Hb O m h M'/\k6 hs wf i M2 M'/\ka hs M2 i M'/\GG O/\∃Y W,σ=[some (.ref a),some (.ref st),some (.ref dp),some (.ref m),Y,W]) ⟨M2,aG,rfl,⟨rfl,λ_ _=>rfl,λ_ h=>h,Nat.le_refl _,by lia,rfl⟩,g3,_,_,rfl⟩ (λi σ O hi pv=> ?_) (λσ O pv=> ?_)]
 ·obtain ⟨M',I,hg,ah,aw,Y,W,rfl⟩:=pv
  have i0:(0:Int)+(i:Nat)=((i:Nat):Int):=by lia
  rw [i0]
  have il:i<hs.ls.length:=by lia
  have hl:hs.ls[i]? =some hs.ls[i]:=getElem?_eq_getElem il
  have ic:i<M2.cs.length:=by rw [J.len];exact il
  have hc:M'.cs[i]? =some M2.cs[i]:=by rw [ah.cs i @h];exact getElem?_eq_getElem ic
  have al:iB hs.fl M2.cs[i]:=J.cs _ (getElem_mem ic);have aB:atC M' (i:Int) M2.cs[i]:=⟨by lia,by rw [show ((i:Int)).toNat=i by lia];exact hc⟩
  have a0:M'.ws.length<=64:=by have:=ah.wl;lia
  rwa[fJ (I.s _ _ j) R cC.rule (v:= .ref ru) rfl ?_];rwa[IQ.mk _ _ _ _ _ _ _ _ _ _ rfl ap (by rw [show ((i:Int)).toNat=i by lia];exact hl) ag I aB al @c (λr hr=>J.ws r (ah.ws r hr)) a0 (by have:=ah.log;lia) (ah.fire.trans aU) λM'' H' aC G aT=> ?_];exact ⟨M'',aT,⟨M',_,_,hg,aB,hl,aC⟩,ah.go al.len a0 aC,gT _ _ G aw,_,_,rfl⟩
 obtain ⟨M',I,hg,ah,aw,Y,W,rfl⟩:=pv;rw [show ((hs.ls.length:Int)).toNat=hs.ls.length by lia] at hg;obtain ⟨a5,bg,bc,an,ba,a8,aD,fa⟩:=I;rwa[Bh.mk _ _ _ _ rfl ⟨a5,bg,bc,an,ba,a8,aD,fa⟩ λG H4 s4 aX=> ?_];have aW:=fa.same s4;rwa[cg aW cl cM.log (v:= .ref an) rfl ?_];rwa[bD (be (by show 2<=1000000;decide)) λr H5 s5 n5 e5=> ?_];have as:=aW.same s5;exact q r G an aD M' H5 (U.nt.trans (Nu (by rw [a6];exact as.s))) (gT _ _ (s4.trans s5).st aw) e5 (aX.keep s5.st) as.el as.dl hg (by have:=ah.log;lia)
def yZ (K:Fg)(H:Hp)(a:Addr)(fl:Int)(n:Nat):Prop:=∃p c0 so ls,az K H a [.int fl,.ref p,c0,so]/\az K H p ls/\ls.length=n/\2<=fl/\fl<=8/\1<=n/\n<=3
theorem yZ.same {H H':Hp}{a:Addr}{fl:Int}{n:Nat}(h:yZ K H a fl n)(s:aq H H'):yZ K H' a fl n:=by
 obtain ⟨p,S,L,j,h1,h2,r⟩:=h;exact ⟨p,S,L,j,s.seqT h1,s.seqT h2,r⟩
theorem iN.at' {H:Hp}{h:Addr}{hs:Hs}(c:iN K H h hs):yZ K H h hs.fl hs.ls.length:=by
 obtain ⟨o,p,xs,h1,h2,L⟩:=c;exact ⟨p,_,_,xs,h1,h2,L.len,o.f2,o.f8,o.l1,o.l3⟩
inductive lF (K:Fg)(vs:List V)(H:Hp)(Q:VK)(_e:XK):Prop
 |mk (h fl n i:_) (_:vs=[.ref h,.int i]) (_:yZ K H h fl n) (_:0<=i) (_:i<fl) (_:Q .non H)
theorem CL (F:Z0 K "need_floor" kt f fd):ay P w K mg base bd 1 f fd ["house","floor"] (lF K):=by
 rwa[F.ok xP (by symm) (λj A outer s H vs Q E J h=> ?_)];obtain ⟨h,fl,n,i,rfl,⟨p,S,L,W,O,G,Z,R,z,I,Y⟩,z1,U,q⟩:=h;rwa[⟨_,(ac (au (dU @a) @fU ak)),?_⟩];left;exact q
inductive vo (K:Fg)(vs:List V)(H:Hp)(Q:VK)(_e:XK):Prop
 |mk (h fl:_) (n:Nat) (i:Int) (_:vs=[.ref h,.int i]) (_:yZ K H h fl n) (_:0<=i) (_:i<(n:Int)) (_:Q .non H)
theorem FT (F:Z0 K "need_lift" m8 f fd)(bp:mg "len"=none):ay P w K mg base bd 1 f fd ["house","lift"] (vo K):=by
 rwa[F.ok zN (by symm) (λj A outer s H vs Q E Y h=> ?_)];obtain ⟨h,fl,n,i,rfl,⟨p,S,L,G,I,J,W,Z,O,R,n3⟩,z1,U,q⟩:=h
 have z:(G.length:Int)=n:=by rw [W]
 rwa[⟨_,(ac (au (dU @a) @fU ak)),?_⟩];left;exact q
inductive vn (K:Fg)(vs:List V)(H:Hp)(Q:VK)(_e:XK):Prop
 |mk (h fl n st go:_) (_:vs=[.ref h,.int st,.int go]) (_:yZ K H h fl n) (_:0<=st) (_:st<fl) (_:0<=go) (_:go<fl) (_:st≠go) (_:Q .non H)
theorem FS (F:Z0 K "need_ride" m7 f fd)(R:aV P w K mg base 1 "need_floor" ["house","floor"] (lF K)):ay P w K mg base bd 2 f fd ["house","start","goal"] (vn K):=by
 rwa[F.ok zM (by symm) @bw];obtain ⟨h,fl,n,st,I,rfl,G,Y,O,z,J,L,q⟩:=h;rwa[⟨_,(aa @fR (aa @fR (ac (au @a @fU ak)))),?_⟩];rwa[lF.mk _ _ _ _ rfl G Y O ?_];rwa[lF.mk _ _ _ _ rfl G z J ?_];left;exact q
inductive zA (K:Fg)(vs:List V)(H:Hp)(Q:VK)(_e:XK):Prop
 |mk (h fl n a d:_) (_:vs=[.ref h,.ref a]) (_:yZ K H h fl n) (_:ub H a d) (_:Dd.fit fl n d) (_:∀H',aq H H'->Q .non H')
theorem JO (F:Z0 K "need_deed" m9 f fd)(rS:aV P w K mg base 2 "need_ride" ["house","start","goal"] (vn K))(rT:aV P w K mg base 1 "need_lift" ["house","lift"] (vo K)):ay P w K mg base bd 3 f fd ["house","deed"] (zA K):=by
 rwa[F.ok zO (by symm) (λaa A outer s H vs Q E hr h=> ?_)];obtain ⟨h,fl,n,a,d,rfl,G,⟨Z,W⟩,J,q⟩:=h;have L:=az.of (K:=K) Z;rwa[⟨_,(ac (au @a @A (ac (au (bw @gu @a @a @z) @A ak)))),?_⟩]
 cases d with
 |come t s g k=>
  have L:az K H a [.str p9,.int t,.int s,.int g,.bl k]:=L;obtain ⟨s0,O,Y,g1,R⟩:=J;rwa[ae L rfl ?_];rwa[aP rfl ?_];left;exact vn.mk _ _ _ _ _ rfl G s0 O Y g1 R (q _ (.refl _))
 |lf x i=>
  obtain ⟨I,U⟩:=J;have j:x=s!"block"\/x=s!"stick"\/x=s!"free"\/x=s!"goods"\/x=s!"back":=W;have L:az K H a [.str x,.int i]:=L;rwa[ae L rfl ?_];rwa[bB (by rcases j with z|z|z|z|z<;>rw [z]<;>decide+kernel) ?_];rwa[ae L rfl ?_];rwa[bD (be (by show 2<=1000000;decide)) λl1 H1 O n1 S=> ?_];rwa[Ck (az.of S) rfl rfl ?_];rw [show za (.str x) [.str "fire",.str "calm"]=false by rcases j with z|z|z|z|z<;>rw [z]<;>rfl];rwa[aP rfl ?_];rwa[ae (O.seqT L) rfl ?_];exact vo.mk _ _ _ _ rfl (G.same O) I U (q _ O)
 |sg x=>exact False.elim J
inductive zy (K:Fg)(vs:List V)(H:Hp)(Q:VK)(_e:XK):Prop
 |mk (st cs ws last fire:_) (_:vs=[.ref st]) (_:gR K H st cs ws last fire) (_:ws.length<=64) (_:(∀c∈cs,c.ps.length<=64)) (_:cs.length<=10) (_:∀l H',aq H H'->H' l=some (.lst ((fF cs ws).map V.int))->Q (.ref l) H')
theorem yq {cs:List Cb}(h:∀c∈cs,c.ps.length<=64):(cs.flatMap λc=>c.ps.map (·.1)).length<=64*cs.length:=by
 induction cs with
 |nil=>simp
 |cons c cs ih=>
  rw [flatMap_cons,length_append,length_map,length_cons];have:=h c (.head _);have:=ih λc I=>h c (.tail _ I);lia
theorem JK (F:Z0 K "tags_in" vK f fd):ay P w K mg base bd 1 f fd ["state"] (zy K):=by
 rwa[F.ok xM (by symm) (λam A outer s H vs Q E hr h=> ?_)];obtain ⟨st,Y,J,ak,ah,rfl,⟨tc,tw,xs,ys,h1,h2,h3,h4,h5⟩,wl,Z,cl,q⟩:=h;have yl:ys.length=J.length:=aE h5;have xl:xs.length=Y.length:=h4.len;rwa[⟨_,(aa (cu (i:=1) rfl xM.nd rfl @l (ax (N':=["tag","start","goal","lift"]) (pk:=[none,none,none,none]) @k) @a @T @s @E) (aa (ce PassesOwn.never rfl @a @a (ac (aJ (fY rfl PySem.F.plainAttrs_list PySem.F.slot_list_extend PySem.F.type_list_extend iR (wv 1) (ar (bG rfl (ax (N':=["tag","goal"]) (pk:=[none,none]) @k) @a @K @s @E) ao))))) @cG)),?_⟩];rwa[ae h1 rfl ?_];rwa[d9 h3 ?_];rwa[dD (xs:=ys) (λj G z=>aq H z/\G=((J.take j).map (·.tag)).map V.int) @bb (λj G z h=>by rw [h.2,length_map,length_map,length_take];exact Nat.min_le_left _ _) ⟨.refl _,rfl⟩ (λj G z _ h=>h.1.seqT h3) (λj y G z hy O=> ?_) (λG z O l n=> ?_)]
 ·obtain ⟨U,rfl⟩:=O;obtain ⟨r,ab,dr⟩:=bi (f:=aI.d) h5 hy;obtain ⟨ra,rfl,hT⟩:=bU @ez;rwa[jU hT rfl ?_];rwa[⟨qa,?_⟩];rwa[⟨U,?_⟩];rw [take_add_one,ab,map_append,map_append];rfl
 obtain ⟨U,rfl⟩:=O;rw [yl,take_of_length_le @h];have s2:aq z (upd z l (.lst ((J.map (·.tag)).map V.int))):= .upd n;have e2:upd z l (.lst ((J.map (·.tag)).map V.int)) l=some (.lst ((J.map (·.tag)).map V.int)):=ag;generalize an:upd z l (.lst ((J.map (·.tag)).map V.int))=H2 at s2 e2 ⊢;have n0:H l=none:=none_of U n;have R:=U.trans s2;rwa[ae (R.seqT h1) rfl ?_];rwa[d9 (R.seqT h2) ?_];rwa[me (xs:=xs) (λi σ I=>aq H I/\I l=some (.lst ((J.map (·.tag)++(Y.take i).flatMap λc=>c.ps.map (·.1)).map V.int))/\∃o2 o3 o4 o5 o6,σ=[some (.ref st),some (.ref l),o2,o3,o4,o5,o6]) ⟨R,by rw [take_zero,flatMap_nil,append_nil];exact e2,_,_,_,_,_,rfl⟩ (λi σ I _ W=>W.1.seqT h2) (λi x σ I hx W=> ?_) (λσ I W=> ?_)]
 ·obtain ⟨sY,S,o2,o3,o4,o5,o6,rfl⟩:=W;obtain ⟨c,hc,t,rfl,ad⟩:=h4.get1 hx;obtain ⟨b,bs,et,eb,db⟩:=ad.keep sY.st;have bl:bs.length=c.ps.length:=aE db;have aj:=Z c (mem_of_getElem? hc);rwa[jU (az.of et) rfl ?_];rwa[⟨.inl ⟨rfl,_,aC.of S⟩,?_⟩];rwa[d9 @cV ?_];rwa[dD (xs:=bs) (λj G z=>aq I z/\G=((c.ps.take j).map (·.1)).map V.int) @bb (λj G z h=>by rw [h.2,length_map,length_map,length_take];exact Nat.min_le_left _ _) ⟨.refl _,rfl⟩ (λj G z _ h=>h.1.seqT @cV) (λj y G z hy O=> ?_) (λG HZ O l3 n3=> ?_)]
  ·obtain ⟨U,rfl⟩:=O;obtain ⟨p,pt,hp,rfl,af⟩:=FG db hy;rwa[jU (U.seqT af) rfl ?_];rwa[⟨ly,?_⟩];rwa[⟨U,?_⟩];rw [take_add_one,hp,map_append,map_append];rfl
  obtain ⟨U,rfl⟩:=O;rw [bl,take_of_length_le @h];have s3:aq HZ (upd HZ l3 (.lst ((c.ps.map (·.1)).map V.int))):= .upd n3;have e3:upd HZ l3 (.lst ((c.ps.map (·.1)).map V.int)) l3=some (.lst ((c.ps.map (·.1)).map V.int)):=ag;generalize al:upd HZ l3 (.lst ((c.ps.map (·.1)).map V.int))=H3 at s3 e3 ⊢;have L:=U.trans s3;rwa[BO (L _ _ S) e3 (be ?_) ?_]
  ·have h1:((Y.take i).flatMap λc=>c.ps.map (·.1)).length<=64*(Y.take i).length:=yq λc hc=>Z c (mem_of_mem_take hc)
   have h2:(Y.take i).length<=10:=by rw [length_take];lia
   simp only [length_map,length_append];lia
  ·rwa[⟨aq.updF @gN n0,?_,_,_,_,_,_,rfl⟩];rw [ag,take_add_one,hc];simp only [Option.toList_some,flatMap_append,flatMap_cons,flatMap_nil,append_nil,map_append,append_assoc]
 obtain ⟨sY,S,o2,o3,o4,o5,o6,rfl⟩:=W;rw [xl,take_of_length_le @h] at S;exact q l I sY S
def jV (ts:List Int)(kvs:List (c7×V)):Prop:=∀t:Int,(fk kvs (Sum.inl t)).isSome=decide (t∈ts)
theorem jV.nil:jV [] []:=λt=>by
 show (none:Option V).isSome=_;simp
theorem jV.put {ts:List Int}{j:List (c7×V)}(h:jV ts j)(t:Int)(v:V):jV (ts++[t]) (dO j (Sum.inl t) v):=λu=>by
 rw [fE];by_cases e:u=t
 ·subst e;rw [if_pos rfl];simp
 ·rw [if_neg (λz=>e (by cases z;rfl)),h u];simp [e]
theorem Dt {ts:List Int}:∀ {us:List Int} {kvs:List (c7×V)},jV us kvs->jV (us++ts) (gJ kvs (ts.map λt=>(Sum.inl t,V.bl true))):=by
 induction ts with
 |nil=>intro us kvs h;rw [append_nil];exact h
 |cons t ts ih=>
  intro us kvs h;have:=ih (h.put t (V.bl true));rw [append_assoc] at this;exact this
theorem Ng (F:Z0 K "need_deeds" ky f fd)(Gp:mg "dict"=none)(yI:aV P w K mg base 1 "tags_in" ["state"] (zy K))(rV:aV P w K mg base 3 "need_deed" ["house","deed"] (zA K)):ay P w K mg base bd 7 f fd ["house","state","deeds"] (Bi K):=by
 rwa[F.ok oJ (by symm) (λaF A outer s H vs Q E hr h=> ?_)];obtain ⟨h,st,dl,hs,cs,ws,aE,aD,ds,rfl,hH,al,⟨xd,a3,pd⟩,wl,af,ai,aw,gd,q⟩:=h;have xl:xd.length=ds.length:=pd.len;rwa[⟨_,(aa (bF (i:=3) oJ.nd rfl @l (aL (ID rfl) rfl Gp boot_dict (ar (bG rfl (ax (N':=["tag"]) (pk:=[none]) @k) @a @g @s @g) ao))) (ac (ce PassesOwn.never rfl @a @a (aa @fR (ac (au @a (aa (au (MN (MU (BH hr) @a (wv 3))) @fU ak) (ac (Js (BH hr) (wv 3) @a fg rfl))) ak)))))),?_⟩];rwa[zy.mk _ _ _ _ _ rfl al wl af ai λl H1 s1 e1=> ?_]
 have tl:(fF cs ws).length<=1000:=by
  unfold fF;rw [length_append,length_map];have:=yq af;lia
 generalize aI:fF cs ws=I at e1 gd tl;rwa[bL @cy ?_];rwa[bf (xs:=I.map V.int) (λj L O=>aq H1 O/\Paired (λx (p:c7×V)=>∃b,x=V.ref b/\O b=some (.tup [kV p.1,p.2])) L ((I.take j).map λt=>(Sum.inl t,V.bl true))) (be (by rw [length_map];lia)) (λj L O h=>by have:=h.2.len;rw [length_map,length_take] at this;lia) ⟨.refl _,.nil⟩ (λj L O _ h=>h.1.seq @cy) (λj y L O hy hP=> ?_) (λL O hP l2 n2=> ?_)]
 ·obtain ⟨sx,hp⟩:=hP;rw [getElem?_map] at hy;obtain ⟨v,hv,rfl⟩:=Option.map_eq_some_iff.mp hy;rwa[⟨bc,?_⟩];rwa[bD (be (by show 2<=1000000;decide)) λb H3 s3 n3 e3=>⟨sx.trans s3,?_⟩];rw [take_add_one,hv,map_append];exact Paired.app (Paired.imp' (λx p ⟨c,ec,hc⟩=>⟨c,ec,s3 _ _ hc⟩) hp) (.cons ⟨b,rfl,e3⟩ .nil)
 obtain ⟨sx,hp⟩:=hP;rw [length_map,take_of_length_le @h] at hp;have s2:aq O (upd O l2 (.lst L)):= .upd n2;have e2:upd O l2 (.lst L) l2=some (.lst L):=ag;generalize aH:upd O l2 (.lst L)=H2 at s2 e2 ⊢;have aj:=s1.trans (sx.trans s2);rwa[⟨L,I.map λt=>(Sum.inl t,V.bl true),e2,Paired.imp' (λx p ⟨c,ec,hc⟩=>⟨c,ec,s2 _ _ hc⟩) hp,zq (by rw [length_map];lia),λd nd=> ?_⟩];have s3:aq H2 (upd H2 d (.dK (gJ [] (I.map λt=>(Sum.inl t,V.bl true))))):= .upd nd;have e3:upd H2 d (.dK (gJ [] (I.map λt=>(Sum.inl t,V.bl true)))) d=some (.dK (gJ [] (I.map λt=>(Sum.inl t,V.bl true)))):=ag;generalize aK:upd H2 d (.dK (gJ [] (I.map λt=>(Sum.inl t,V.bl true))))=H3 at s3 e3 ⊢;have ap:H d=none:=none_of aj nd
 have k0:jV I (gJ [] (I.map λt=>(Sum.inl t,V.bl true))):=by
  have:=Dt (ts:=I) jV.nil;rw [nil_append] at this;exact this
 have as:∀(Y:List (c7×V)) (a:List (c7×V)),(gJ a Y).length<=a.length+Y.length:=by
  intro Y
  induction Y with
  |nil=>intro a;exact Nat.le_refl _
  |cons p Y ih=>
   intro a;have h1:=ih (dO a p.1 p.2);have h2:=cX a p.1 p.2;show (gJ (dO a p.1 p.2) Y).length<=_;rw [length_cons];lia
 have l0:=as (I.map λt=>(Sum.inl t,V.bl true)) [];rw [length_map,length_nil] at l0;have Z:=aj.trans s3;generalize aM:gJ [] (I.map λt=>((Sum.inl t:c7),V.bl true))=an at e3 k0 l0;rwa[bL (Z.seq a3) ?_];rwa[eQ (xs:=xd) (λi σ W=>aq H W/\∃z G o4,W d=some (.dK G)/\jV z G/\G.length<=1000+i/\tR hs.fl hs.ls.length z (ds.drop i)/\σ=[some (.ref h),some (.ref st),some (.ref dl),some (.ref d),o4]) ⟨Z,I,an,_,e3,k0,by lia,gd,rfl⟩ (λi σ W _ pv=>pv.1.seq a3) (λi x σ W U pv=> ?_) (λσ W pv=> ?_)]
 ·obtain ⟨sY,z,G,o4,eY,kk,kl,J,rfl⟩:=pv;obtain ⟨dd,S,ad,rfl,aB⟩:=pd.get1 U;have il:i<ds.length:=(List.getElem?_eq_some_iff.mp S).1;have R:=aB.same sY
  have aA:ds.drop i=dd::ds.drop (i+1):=by
   rw [drop_eq_getElem_cons il];rw [getElem?_eq_getElem il] at S;cases S;rfl
  rw [aA] at J;obtain ⟨g1,g2,g3⟩:=J;rwa[zA.mk _ _ _ _ _ rfl ((hH.same sY).at') R g1 λHZ sZ=> ?_];have ah:=sY.trans sZ;have eZ:=sZ _ _ eY;obtain ⟨ab,av⟩:=R.same sZ
  cases dd with
  |come t' s' g' k'=>
   have hT:az K HZ ad [.str p9,.int t',.int s',.int g',.bl k']:=az.of ab;rwa[ae hT rfl ?_];rwa[aP rfl ?_];rwa[ae hT rfl ?_];rwa[⟨d,_,rfl,mz.k (k:=Sum.inl t') eZ,?_⟩];rwa[⟨_,rfl,?_⟩];rwa[aG (by rw [kk t'];exact decide_eq_false (g2 t' (.head _))) ?_];rwa[ae hT rfl ?_];rwa[⟨d,_,rfl,Ih.k (k:=Sum.inl t') eZ @dz,?_⟩];exact ⟨aq.updF ah ap,z++[t'],_,_,ag,kk.put t' (.bl true),by have:=cX G (Sum.inl t') (V.bl true);lia,g3,rfl⟩
  |lf x' i'=>
   have hT:az K HZ ad [.str x',.int i']:=az.of ab;have g3:tR hs.fl hs.ls.length (z++[]) (ds.drop (i+1)):=g3;rw [append_nil] at g3;erw[ae hT rfl ?_];have am:x'=s!"block"\/x'=s!"stick"\/x'=s!"free"\/x'=s!"goods"\/x'=s!"back":=av;rwa[bB (by rcases am with U|U|U|U|U<;>rw [U]<;>decide+kernel) ?_];exact ⟨ah,z,G,_,eZ,kk,by lia,g3,rfl⟩
  |sg x'=>exact False.elim g1
 ·obtain ⟨sY,z,G,o4,eY,kk,kl,J,rfl⟩:=pv;exact q W sY
abbrev wo:Str:=s!"o"
abbrev wx:Str:=s!"x"
abbrev wu:Str:=s!"u"
abbrev wd:Str:=s!"d"
abbrev ws:Str:=s!"s"
noncomputable def cR (li he up dn:Int):Str:=if he=2 then wo else if he=1/\((li=1/\up=0)\/(li= -1/\dn=0)) then wx else if li= -1/\0<dn then wd else if 0<up then wu else if 0<dn then wd else ws
noncomputable def OB (he up dn:Int):Str:=if 0<he then (if he=2 then wo else wx) else if 0<up/\(dn=0\/up<=dn) then wu else if 0<dn then wd else ws
noncomputable def uk (top fl li he:Int):Str:=if he=2 then wo else if he=1/\((fl=top/\li=1)\/(fl=0/\li= -1)) then wx else if li= -1 then (if fl≠0 then wd else wu) else if fl≠top then wu else wd
noncomputable def j3 (fl li he up dn:Int):Str:=if cR li he up dn=ws/\fl≠0 then wd else cR li he up dn
theorem iz.li {li U j z:Int}(s:iz li U j z):li= -1\/li=0\/li=1:=by have:=s.l0;have:=s.l1;lia
theorem iz.he {li U j z:Int}(s:iz li U j z):U=0\/U=1\/U=2:=by have:=s.h0;have:=s.h1;lia
inductive lD (vs:List V)(H:Hp)(Q:VK)(_e:XK):Prop
 |mk (li he up dn:Int) (_:vs=[.int li,.int he,.int up,.int dn]) (_:iz li he up dn) (_:Q (.str (cR li he up dn)) H)
theorem Mf {H:Hp}{Q:VK}{x y:Str}(q:Q (.str x) H)(e:x=y):Q (.str y) H:=e▸q
set_option maxHeartbeats 0 in
theorem FP (F:Z0 K "swept" zX f fd):ay P w K mg base bd 1 f fd ["light","here","up","down"] lD:=by
 rwa[F.ok I9 @eq @bc]
 ·obtain ⟨li,U,O,L,rfl,_⟩:=h;rfl
 obtain ⟨li,U,O,L,rfl,j,q⟩:=h;rwa[⟨_,(aa @t (aa @t (aa @t (aa @t @j)))),?_⟩];have W:=j.u0;have Y:=j.d0;have J:=j.li;have I:=j.he;clear j
 iterate 16 (all_goals (try ((ext);first|refine aP rfl ?_|refine aG rfl ?_|refine cZ @c ?_|refine bB @c ?_|refine cB @i @i)))
 all_goals
  rwa[Mf q ?_];unfold cR
  repeat (first|rw [if_pos @c]|rw [if_neg @c])
inductive mQ (vs:List V)(H:Hp)(Q:VK)(_e:XK):Prop
 |mk (he up dn:Int) (_:vs=[.int he,.int up,.int dn]) (_:0<=he) (_:he<=2) (_:0<=up) (_:0<=dn) (_:Q (.str (OB he up dn)) H)
set_option maxHeartbeats 0 in
theorem Aw (F:Z0 K "nearest" qJ f fd):ay P w K mg base bd 1 f fd ["here","up","down"] mQ:=by
 rwa[F.ok Cu @eq @n]
 ·obtain ⟨U,I,G,rfl,_⟩:=h;rfl
 obtain ⟨U,I,G,rfl,J,h1,W,Y,q⟩:=h;rwa[⟨_,(aa @W (aa @t @j)),?_⟩]
 iterate 16 (all_goals (try ((ext);first|refine aP rfl ?_|refine aG rfl ?_|refine cZ @c ?_|refine bB @c ?_|refine cB @i @i)))
 all_goals
  rwa[Mf q ?_];unfold OB
  repeat (first|rw [if_pos @c]|rw [if_neg @c])
inductive kf (vs:List V)(H:Hp)(Q:VK)(_e:XK):Prop
 |mk (top fl li he:Int) (_:vs=[.int top,.int fl,.int li,.int he]) (_: -1<=li) (_:li<=1) (_:0<=he) (_:he<=2) (_:0<top) (_:Q (.str (uk top fl li he)) H)
set_option maxHeartbeats 0 in
theorem x9 (F:Z0 K "shuttled" m4 f fd):ay P w K mg base bd 1 f fd ["top","floor","light","here"] kf:=by
 rwa[F.ok zJ @eq @bc]
 ·obtain ⟨j,fl,li,U,rfl,_⟩:=h;rfl
 obtain ⟨j,fl,li,U,rfl,J,O,L,h1,I,q⟩:=h;rwa[⟨_,(aa @a (aa @t (aa @t @fs))),?_⟩]
 iterate 16 (all_goals (try ((ext);first|refine aP rfl ?_|refine aG rfl ?_|refine cZ @c ?_|refine bB @c ?_|refine cB @i @i|refine Do @c ?_|refine AK @c ?_|refine SE @i @i)))
 all_goals
  rwa[Mf q ?_];unfold uk
  repeat (first|rw [if_pos @c]|rw [if_neg @c])
noncomputable def nV:List Nat:=[111,120,117,100,115]
theorem Df:(s!"oxuds").cps.toList=nV:=by decide+kernel
unseal iF BM in
theorem Ch (c:Nat):iF ⟨#[c]⟩ @gD=decide (c∈nV):=by
 unfold iF;rw [PySem.StrLaws.found_one,Df]
def JY (s:Str):Prop:=s.length=36/\∀c∈s.cps.toList,c∈nV
noncomputable instance (s:Str):Decidable (JY s):=by unfold JY;infer_instance
inductive jB (K:Fg)(_:Addr)(vs:List V)(H:Hp)(Q:VK)(_e:XK):Prop
 |mk (a s C dx:_) (_:vs=[.ref a,.str s]) (_:H a=some (.ins C dx [])) (_:uY K C) (_:aR K C "letters") (_:JY s) (_:∀H',(∀b o,b≠a->H b=some o->H' b=some o)->H' a=some (.ins C dx [(s!"letters",.str s)])->Q .non H')
theorem FO {S:Addr}{Z Y:Tok}(F:bt K "__init__" "Table.__init__" km f fd)(bp:mg "len"=none)(Dc:mg "any"=none)(oU:mg "TABLE_SIZE"=some (.int 36 Z))(GQ:mg "WORDS"=some (.str "oxuds" Y))(jH:mg "NoRule"=some (.ref S))
(jF:W.excIn K S [.type "ValueError",.type "Exception",.type "BaseException",.type "object"] "ValueError.__new__"=true):ay P w K mg base @ck 1 f fd ["self","letters"] (jB K S):=by
 have j:aF (.int 36) (.int 36 Z):=⟨_,rfl⟩;have G:aF (.str "oxuds") (.str "oxuds" Y):=⟨_,rfl⟩;rwa[F.okX xO (by symm) @q];obtain ⟨a,z,C,dx,rfl,ea,cl,na,J,q⟩:=h;rwa[⟨_,(aa (au (PW.pt (iC @a (ig (fW rfl (bb (K9 rfl rfl) rfl Dc boot_any (ar (bG rfl (ax (N':=["letter"]) (pk:=[none]) @k) @a @g @s (λC s H ex=>(fb @gu (wv 0) @a @z))) ao)))))) (ac (lO im rfl jF PySem.F.excBase_ValueError rfl jH (ar (mI (Aj (wv 1) (Ai Ak))) ao))) ak) (ac @bJ)),?_⟩];have I:z.length<=sizeLine:=be (by rw [J.1];decide);rwa[⟨I,?_⟩];rwa[AK (by rw [J.1];rfl) ?_];rwa[yB (λi ys H'=>H'=H/\ys=(z.cps.toList.take i).map λc=>V.bl (!decide (c∈nV))) (by show z.length<=sizeLine;exact I) (λi ys H' p=>by rw [p.2,length_map,length_take];exact Nat.min_le_left _ _) ⟨rfl,rfl⟩ (λi c ys H' R p=> ?_) (λys H' p l n=> ?_)]
 ·obtain ⟨rfl,rfl⟩:=p;rwa[⟨bc,?_⟩]
  have af:z.cps.toList[i]? =some c:=by rw [Array.getElem?_toList];exact R
  rwa[⟨rfl,?_⟩];show _++[V.bl (!iF ⟨#[c]⟩ @gD)]=_;rw [Ch,take_add_one,af,map_append];rfl
 ·obtain ⟨rfl,rfl⟩:=p
  have U:upd H' l (.lst ((z.cps.toList.take z.cps.size).map λc=>V.bl (!decide (c∈nV)))) l=some (.lst (List.map V.bl (z.cps.toList.map λc=> !decide (c∈nV)))):=by
   rw [ag,take_of_length_le @e,map_map];rfl
  have O:aq H' (upd H' l (.lst ((z.cps.toList.take z.cps.size).map λc=>V.bl (!decide (c∈nV))))):= .upd n;generalize upd H' l (.lst ((z.cps.toList.take z.cps.size).map λc=>V.bl (!decide (c∈nV))))=H1 at U O ⊢;rwa[Lu (aC.of U) ?_];rw [any_map];rwa[aG (any_eq_false.mpr λc R=>by simp [J.2 c R]) ?_];rwa[cU (O.get ea) cl na @b ?_];rwa[q _ (λb o L e=> ?_) ag];rw [am L];exact O b o e
noncomputable def lR (li he up dn:Int):Int:=12*(li+1)+4*he+2*(if 0<up then 1 else 0)+(if 0<dn then 1 else 0)
theorem kK {li U j z:Int}(s:iz li U j z):0<=lR li U j z/\lR li U j z<36:=by
 have:=s.l0;have:=s.l1;have:=s.h0;have:=s.h1;unfold lR;split<;>split<;>lia
inductive vk (vs:List V)(H:Hp)(Q:VK)(_e:XK):Prop
 |mk (li he up dn:Int) (_:vs=[.int li,.int he,.int up,.int dn]) (_:Q (.int (lR li he up dn)) H)
theorem FR (F:Z0 K "place_in_table" gx f fd):ay P w K mg base bd 1 f fd ["light","here","up","down"] vk:=by
 rwa[F.ok qx (by symm) @n];obtain ⟨li,U,I,G,rfl,q⟩:=h;rwa[⟨_,@j,?_⟩];unfold lR at q;by_cases z:0<I<;>by_cases J:0<G
 ·rw [if_pos z,if_pos J] at q;left;exact q
 ·rw [if_pos z,if_neg J] at q;left;exact q
 ·rw [if_neg z,if_pos J] at q;left;exact q
 ·rw [if_neg z,if_neg J] at q;left;exact q
inductive Rk where
 |sw|ho|ne
 |ba (top:Int)
 |ta (s:Str)
noncomputable def Rk.ix:Rk->Nat
 | .sw=>0| .ho=>1| .ne=>2| .ba _=>3| .ta _=>4
noncomputable def QC (s:Str)(k:Int):Str:=⟨#[s.cps.toList.getD k.toNat 0]⟩
noncomputable def Rk.word (r:Rk)(fl li he up dn:Int):Str:=match r with
 | .sw=>cR li he up dn
 | .ho=>j3 fl li he up dn
 | .ne=>OB he up dn
 | .ba top=>uk top fl li he
 | .ta s=>QC s (lR li he up dn)
noncomputable def Rk.fs:Rk->List (Str×V)
 | .ba top=>[(s!"top",.int top)]
 | .ta s=>[(s!"letters",.str s)]
 |_=>[]
def Rk.ok:Rk->Prop
 | .ba top=>0<top
 | .ta s=>JY s
 |_=>True
structure Ks where
 r:Addr
 h:Addr
 n:Addr
 s:Addr
 t:Addr
noncomputable def Rk.cl (k:Ks):Rk->Addr
 | .sw=>k.r| .ho=>k.h| .ne=>k.n| .ba _=>k.s| .ta _=>k.t
structure OF (K:Fg)(C:Addr):Prop where
 i:gU K C
 n:aR K C "top"
 l:aR K C "letters"
inductive eJ (K:Fg)(i:Nat)(vs:List V)(H:Hp)(Q:VK)(_e:XK):Prop
 |mk (rk:Rk) (a s C dx:Addr) (fl li he up dn:Int) (_:vs=[.ref a,.ref s]) (_:rk.ix=i) (_:rk.ok) (_:H a=some (.ins C dx rk.fs)) (_:OF K C) (_:az K H s [.int fl,.int li,.int he,.int up,.int dn]) (_:iz li he up dn) (_:Q (.str (rk.word fl li he up dn)) H)
theorem FL (F:bt K "word" "Rule.word" m5 f fd)(Y:aV P w K mg base 1 "swept" ["light","here","up","down"] lD):ay P w K mg base bd 2 f fd ["self","seen"] (eJ K 0):=by
 rwa[F.ok zK (by symm) (λj A outer s H vs Q E S h=> ?_)];obtain ⟨I,a,z,C,dx,fl,li,O,R,L,rfl,G,W,Z,U,hs,J,q⟩:=h;cases I<;>cases G;rwa[⟨_,@j,?_⟩];left;exact lD.mk _ _ _ _ rfl J q
theorem Ar (F:bt K "word" "Homing.word" jb f fd)(Y:aV P w K mg base 1 "swept" ["light","here","up","down"] lD):ay P w K mg base bd 2 f fd ["self","seen"] (eJ K 1):=by
 rwa[F.ok vI (by symm) (λI A outer s H vs Q E S h=> ?_)];obtain ⟨L,a,z,C,dx,fl,li,U,G,j,rfl,J,W,Z,R,hs,O,q⟩:=h;cases L<;>cases J;rwa[⟨_,@en,?_⟩];have q:Q (.str (j3 fl li U G j)) H:=q;unfold j3 at q;left;rwa[lD.mk _ _ _ _ rfl O ?_];by_cases h1:cR li U G j=ws
 ·by_cases h2:fl=0
  ·rw [if_neg (λz=>z.2 h2)] at q;left;exact q
  ·rw [if_pos ⟨h1,h2⟩] at q;left;exact q
 ·rw [if_neg @ek] at q;left;exact q
theorem x8 (F:bt K "word" "Nearest.word" hZ f fd)(R:aV P w K mg base 1 "nearest" ["here","up","down"] mQ):ay P w K mg base bd 2 f fd ["self","seen"] (eJ K 2):=by
 rwa[F.ok tH (by symm) (λG A outer s H vs Q E S h=> ?_)];obtain ⟨J,a,z,C,dx,fl,li,O,Y,L,rfl,I,W,Z,U,hs,j,q⟩:=h;cases J<;>cases I;rwa[⟨_,@j,?_⟩];left;exact mQ.mk _ _ _ rfl j.h0 j.h1 j.u0 j.d0 q
theorem x5 (F:bt K "word" "Shuttle.word" hJ f fd)(L:aV P w K mg base 1 "shuttled" ["top","floor","light","here"] kf):ay P w K mg base bd 2 f fd ["self","seen"] (eJ K 3):=by
 rwa[F.ok tE (by symm) (λG A outer s H vs Q E S h=> ?_)];obtain ⟨J,a,z,C,dx,fl,li,Y,Z,R,rfl,I,W,O,U,hs,j,q⟩:=h;cases J<;>cases I;rwa[⟨_,@j,?_⟩];left;rwa[fJ O U.i.cl U.n rfl ?_];left;exact kf.mk _ _ _ _ rfl j.l0 j.l1 j.h0 j.h1 W q
theorem CJ (F:bt K "word" "Table.word" kj f fd)(iJ:aV P w K mg base 1 "place_in_table" ["light","here","up","down"] vk):ay P w K mg base bd 2 f fd ["self","seen"] (eJ K 4):=by
 rwa[F.ok xN (by symm) (λJ A outer s H vs Q E hr h=> ?_)];obtain ⟨S,a,z,C,dx,fl,li,G,I,j,rfl,L,W,Z,U,hs,Y,q⟩:=h;cases S<;>cases L;rename_i t;rwa[⟨_,@j,?_⟩];have W:JY t:=W;obtain ⟨O,R⟩:=kK Y;left;rwa[fJ Z U.i.cl U.l rfl ?_];left;erw[vk.mk _ _ _ _ rfl ?_]
 have hl:t.cps.toList.length=36:=by rw [eM];exact W.1
 rwa[pL (be (by rw [W.1];decide)) (c:=t.cps.toList.getD (lR li G I j).toNat 0) ?_ q];unfold k7 wE;rw [if_pos O,if_pos (by rw [hl];exact R)];show t.cps.toList[(lR li G I j).toNat]? =_;rw [getElem?_eq_getElem @c,getD_eq_getElem?_getD,getElem?_eq_getElem @c];rfl
theorem Kq (I:Rk):I.fs.lookup (s!"word")=none:=by cases I<;>rfl
structure SY (K:Fg)(P:Program)(w:World)(mg:Str->Option Value)(base:Heap)(k:Ks):Prop where
 c:∀rk:Rk,OF K (rk.cl k)
 m:∀rk:Rk,jS P w K mg base bd 2 "word" (rk.cl k) (eJ K rk.ix)
unseal gH in
theorem Qw {C j:Addr}{E:XK}{s:Str}{H:Hp}{Q:VK}(c:OF K C)(W:JY s)(g:∀a dx H',aq H H'->H a=none->H' a=some (.ins C dx [(s!"letters",.str s)])->Q (.ref a) H'):gH C (jB K j) E [.str s] H Q:=by
 show ∀a dx,H a=none->H dx=none->dx≠a->jB K j (.ref a::([.str s]++[])) @r (λv H2=>v= .non/\Q (.ref a) H2) E;intro a dx h1 h2 F;rwa[jB.mk _ _ _ _ rfl ag c.i.cl c.l W (λH' G O=>⟨rfl,g a dx H' (λL o e=> ?_) h1 O⟩)];exact G L o (λz=>by rw [z,h1] at e;cases e) (fA h1 h2 L o e)
inductive EA (K:Fg)(vs:List V)(H:Hp)(Q:VK)(_e:XK):Prop
 |mk (a t C dx:_) (_:vs=[.ref a,.int t]) (_:H a=some (.ins C dx [])) (_:uY K C) (_:aR K C "top") (_:Q .non (upd H a (.ins C dx [(s!"top",.int t)])))
theorem FQ (F:bt K "__init__" "Shuttle.__init__" hU f fd):ay P w K mg base bd 1 f fd ["self","top"] (EA K):=by
 rwa[F.ok tF (by symm) @Q];obtain ⟨a,t,C,dx,rfl,O,U,j,q⟩:=h;rwa[⟨_,(ac @bJ),?_⟩];exact cU O U j @b q
unseal gH in
theorem Qx {C:Addr}{E:XK}{t:Int}{H:Hp}{Q:VK}(c:OF K C)(g:∀a dx H',aq H H'->H a=none->H' a=some (.ins C dx [(s!"top",.int t)])->Q (.ref a) H'):gH C (EA K) E [.int t] H Q:=by
 show ∀a dx,H a=none->H dx=none->dx≠a->EA K (.ref a::([.int t]++[])) @r (λv H2=>v= .non/\Q (.ref a) H2) E;intro a dx h1 h2 L;rwa[EA.mk _ _ _ _ rfl ag c.i.cl c.n ⟨rfl,g a dx _ ?_ h1 ag⟩];intro b u z;rw [am (λe=>by rw [e,h1] at z;cases z)];exact fA h1 h2 b u z
theorem MG {lX d8 cJ cz fI:Addr}(ac:jS P w K mg base bd 2 "word" lX (eJ K 0))(U:jS P w K mg base bd 2 "word" d8 (eJ K 1))(L:jS P w K mg base bd 2 "word" cJ (eJ K 2))(z:jS P w K mg base bd 2 "word" cz (eJ K 3))(Y:jS P w K mg base bd 2 "word" fI (eJ K 4))(ad:gU K lX)(af:aR K lX "top")(ae:aR K lX "letters")(W:gU K d8)(R:aR K d8 "top")(S:aR K d8 "letters")(G:gU K cJ)(O:aR K cJ "top")(J:aR K cJ "letters")(j:gU K cz)(F:aR K cz "top")(I:aR K cz "letters")(Z:gU K fI)(ab:aR K fI "top")(aa:aR K fI "letters"):SY K P w mg base ⟨lX,d8,cJ,cz,fI⟩ where
 c:=λrk=>by
  cases rk with
  |sw=>exact ⟨ad,af,ae⟩
  |ho=>exact ⟨W,R,S⟩
  |ne=>exact ⟨G,O,J⟩
  |ba top=>exact ⟨j,F,I⟩
  |ta s=>exact ⟨Z,ab,aa⟩
 m:=λrk=>by
  cases rk with
  |sw=>exact ac
  |ho=>exact U
  |ne=>exact L
  |ba top=>exact z
  |ta s=>exact Y
abbrev Pw:Str:=s!"sweep"
abbrev PM:Str:=s!"homing"
abbrev Mb:Str:=s!"nearest"
abbrev Px:Str:=s!"shuttle"
noncomputable def gk (s:Str)(fl:Int):Option Rk:=if s=Pw then some .sw else if s=PM then some .ho else if s=Mb then some .ne else if s=Px then some (.ba (fl - 1)) else none
theorem Fj {s:Str}{fl:Int}(h:2<=fl){I:Rk}(e:gk s fl=some I):I.ok:=by
 unfold gk at e;split at e
 ·cases e;trivial
 split at e
 ·cases e;trivial
 split at e
 ·cases e;trivial
 split at e
 ·cases e;show 0<fl - 1;lia
 ·cases e
def iV (K:Fg)(k:Ks):Sp:=λvs H Q _=>∃s fl rk,vs=[.str s,.int fl]/\gk s fl=some rk/\∀a dx H',aq H H'->H a=none->H' a=some (.ins (rk.cl k) dx rk.fs)->Q (.ref a) H'
theorem Jk {k:Ks}{H:Hp}{s:Str}{fl:Int}{I:Rk}{Q:VK}{E:XK}(h:gk s fl=some I)(g:∀a dx H',aq H H'->H a=none->H' a=some (.ins (I.cl k) dx I.fs)->Q (.ref a) H'):iV K k [.str s,.int fl] H Q E:=⟨s,fl,I,rfl,h,g⟩
theorem CK {k:Ks}{S:Addr}{L:Tok}(F:Z0 K "rule_of" vL f fd)(bp:mg "len"=none)(cS:OF K k.s)(cT:OF K k.t)(R:mg "Rule"=some (.ref k.r))(U:mg "Homing"=some (.ref k.h))(Z:mg "Nearest"=some (.ref k.n))(O:Lv K k.r)(wr:Lv K k.h)(q8:Lv K k.n)(J:iK P w K mg base bd 1 "Shuttle" k.s (EA K))(nU:iK P w K mg base @ck 1 "Table" k.t (jB K S))(lZ:mg "TABLE_START"=some (.str "table " L))(jH:mg "NoRule"=some (.ref S))
(jF:W.excIn K S [.type "ValueError",.type "Exception",.type "BaseException",.type "object"] "ValueError.__new__"=true):ay P w K mg base @ck 3 f fd ["text","floors"] (iV K k):=by
 have G:aF (.str "table ") (.str "table " L):=⟨_,rfl⟩;rwa[F.okX ES @ec (λY A outer s H vs Q E I h=> ?_)]
 ·obtain ⟨s,fl,rk,rfl,_⟩:=h;rfl
 obtain ⟨z,fl,rk,rfl,j,q⟩:=h;rwa[⟨_,(aa (au @a (ac (ai (Am O rfl R))) ak) (aa (au @a (ac (ai (Am wr rfl U))) ak) (aa (au @a (ac (ai (Am q8 rfl Z))) ak) (aa (au @a (ac (ai (fX J jX I @b rfl @C))) ak) (aa (au (fW rfl (fY rfl PySem.F.plainAttrs_str PySem.F.slot_str_startswith PySem.F.type_str_startswith Ec (wv 0) @C)) (ac (ai (fX nU im.passes I @b rfl @C))) ak) (ac (lO im rfl jF PySem.F.excBase_ValueError rfl jH (ar (mI (Aj (wv 0) (Ai Ak))) ao)))))))),?_⟩];unfold gk at j;rwa[cB @bC @bC]
 ·rw [if_pos h] at j;cases j;exact ND q
 rw [if_neg h] at j;rwa[cB @bC @bC]
 ·rw [if_pos h] at j;cases j;exact ND q
 rw [if_neg h] at j;rwa[cB @bC @bC]
 ·rw [if_pos h] at j;cases j;exact ND q
 rw [if_neg h] at j;rwa[cB @bC @bC]
 ·rw [if_pos h] at j;cases j;exact Qx cS q
 rw [if_neg h] at j;cases j
seal iV
def isL (x:Str):Prop:=x.length=1/\∀c∈x.cps.toList,c∈nV
theorem BE {x:Str}(h:x=wo\/x=wx\/x=wu\/x=wd\/x=ws):isL x:=by
 rcases h with rfl|rfl|rfl|rfl|rfl<;>exact ⟨by decide,by decide⟩
theorem Bf (li U j z:Int):isL (cR li U j z):=BE (by unfold cR;repeat (first|split|simp))
theorem Nx (U j z:Int):isL (OB U j z):=BE (by unfold OB;repeat (first|split|simp))
theorem Mr (j fl li U:Int):isL (uk j fl li U):=BE (by unfold uk;repeat (first|split|simp))
theorem N0 (fl li U j z:Int):isL (j3 fl li U j z):=by
 unfold j3;split
 ·exact BE (.inr (.inr (.inr (.inl rfl))))
 ·exact Bf ..
theorem Rk.isL {F:Rk}(h:F.ok){fl li U j z:Int}(sn:iz li U j z):My.isL (F.word fl li U j z):=by
 cases F with
 |sw=>exact Bf ..
 |ho=>exact N0 ..
 |ne=>exact Nx ..
 |ba top=>exact Mr ..
 |ta s=>
  have h:JY s:=h;obtain ⟨O,G⟩:=kK sn
  have W:s.cps.toList.length=36:=by rw [eM];exact h.1
  rwa[⟨rfl,λc I=> ?_⟩];have I:c∈[s.cps.toList.getD (lR li U j z).toNat 0]:=I;rw [mem_singleton.mp I,getD_eq_getElem?_getD,getElem?_eq_getElem (show (lR li U j z).toNat<s.cps.toList.length by lia)];exact h.2 _ (getElem_mem _)
theorem Kk {x:Str}(h:isL x):x∈cx:=by
 obtain ⟨h1,h2⟩:=h
 have W:x.cps.toList.length=1:=by rw [eM];exact h1
 obtain ⟨⟨l⟩⟩:=x
 match l,W with
 |[c],_=>
  have I:c∈nV:=h2 c @e;unfold nV at I;simp only [mem_cons,not_mem_nil,or_false] at I
  rcases I with rfl|rfl|rfl|rfl|rfl
  ·exact (show (⟨#[111]⟩:Str)=s!"o" by decide+kernel)▸ .head _
  ·exact (show (⟨#[120]⟩:Str)=s!"x" by decide+kernel)▸ .tail _ (.head _)
  ·exact (show (⟨#[117]⟩:Str)=s!"u" by decide+kernel)▸ .tail _ (.tail _ (.head _))
  ·exact (show (⟨#[100]⟩:Str)=s!"d" by decide+kernel)▸ .tail _ (.tail _ (.tail _ (.head _)))
  ·exact (show (⟨#[115]⟩:Str)=s!"s" by decide+kernel)▸ .tail _ (.tail _ (.tail _ (.tail _ (.head _))))
theorem ME {k:Ks}(R:SY K P w mg base k){H:Hp}{a dx:Addr}{I:Rk}(W:I.ok)(e:H a=some (.ins (I.cl k) dx I.fs)):DW P w K mg base H a I.word:=
 ⟨I.cl k,dx,I.fs,eJ K I.ix,e,Kq I,R.m I,λfl li U j F s=>Kk (Rk.isL W s),λH' G fl li U j F Q E h1 h2 L z=>eJ.mk _ _ _ _ _ _ _ _ _ _ rfl rfl W h1 (R.c I) h2 L z⟩
inductive IS (K:Fg)(vs:List V)(H:Hp)(Q:VK)(_e:XK):Prop
 |mk (a h ru df C dx:_) (_:vs=[.ref a,.ref h,.ref ru,.ref df]) (_:H a=some (.ins C dx [])) (_:OG K C) (_:∀H',fR a H H'->H' a=some (.ins C dx @gM)->Q .non H')
theorem Gc (F:bt K "__init__" "Court.__init__" kI f fd):ay P w K mg base bd 1 f fd ["self","house","rule","dealer"] (IS K):=by
 rwa[F.ok xW (by symm) @Q];obtain ⟨a,h,G,I,C,dx,rfl,O,j,q⟩:=h;rwa[⟨_,(aa @bJ (aa (cL rfl (wv 0) (wv 2)) (ac (cL rfl (wv 0) (wv 3))))),?_⟩];rwa[cU O j.i.cl j.house @b ?_];rwa[cU ag j.i.cl j.rule (by show 1<1000;decide) ?_];rwa[cU ag j.i.cl j.dealer (by show 2<1000;decide) ?_];rwa[q _ (λb o n e=> ?_) ag];rw [am n,am n,am n];exact e
unseal gH in
theorem Sv {C:Addr}{E:XK}{H:Hp}{h j I:Addr}{Q:VK}(F:OG K C)(g:∀a dx H',aq H H'->H a=none->H' a=some (.ins C dx (wR h j I))->Q (.ref a) H'):gH C (IS K) E [.ref h,.ref j,.ref I] H Q:=by
 show ∀a dx,H a=none->H dx=none->dx≠a->IS K (.ref a::([.ref h,.ref j,.ref I]++[])) @r (λv H2=>v= .non/\Q (.ref a) H2) E;intro a dx h1 h2 L;have G:aq H @r:=fA h1 h2;exact ⟨a,h,j,I,C,dx,rfl,ag,F,λH' sp e=>⟨rfl,g a dx H' (λb o e=>sp b o (λz=>by rw [z,h1] at e;cases e) (G b o e)) h1 e⟩⟩
seal yk
theorem Kg {i:Int}(F:0<=i)(h1:i<3):∃s:Str,k7 [V.str Im,.str hst,.str DV] i=some (.str s)/\jj s:=by
 rcases (show i=0\/i=1\/i=2 by lia) with rfl|rfl|rfl
 ·exact ⟨_,rfl,.inl rfl⟩
 ·exact ⟨_,rfl,.inr (.inl rfl)⟩
 ·exact ⟨_,rfl,.inr (.inr rfl)⟩
def Q2 (l:Lf):Prop:=1<=l.rm/\l.rm<=6/\1<=l.tn/\l.tn<=4/\jj l.kd
inductive vw (K:Fg)(vs:List V)(H:Hp)(Q:VK)(_e:XK):Prop
 |mk (a ns k fl:_) (_:vs=[.ref a,.int k,.int fl]) (_:xq K H a ns) (_:0<=k) (_:k<1000) (_:0<fl) (_:∀v l H',aq H H'->Ow K H' v l->Q2 l->Q v H')
theorem F0 (F:Z0 K "_law_lift" z7 f fd)(bg:Z00 P w K mg base):ay P w K mg base bd 3 f fd ["_law_script","_law_at_here","_law_floors"] (vw K):=by
 rwa[F.ok Jc (by symm) @q];obtain ⟨a,ns,k,fl,rfl,S,G,L,Z,q⟩:=h;rwa[⟨_,@gU,?_⟩];rwa[gI (be (by show 3<=1000000;decide)) λl1 H1 O n1 R=> ?_];have aG:=S.same O;erw[kR aG G L @b @b λi z J=> ?_];obtain ⟨sk,W,hk⟩:=Kg z J;rwa[aW @cH W ?_];rwa[kR aG G L @b Z λi2 _ _=> ?_];rwa[kR aG G L @b @b λY a0 a1=> ?_];rwa[kR aG G L @b @b λj b0 b1=> ?_];exact bD (be (by show 4<=1000000;decide)) λr H2 U n2 I=>q _ ⟨i2,1+Y,1+j,sk⟩ H2 (O.trans U) ⟨r,rfl,az.of I⟩ ⟨by show 1<=1+Y;lia,by show 1+Y<=6;lia,by show 1<=1+j;lia,by show 1+j<=4;lia,hk⟩
inductive qi (K:Fg)(vs:List V)(H:Hp)(Q:VK)(_e:XK):Prop
 |mk (a ns:_) (_:vs=[.ref a,.int 3]) (_:xq K H a ns) (_:∀r hs H',aq H H'->iN K H' r hs->Q (.ref r) H')
theorem CU (F:Z0 K "_law_house" vV f fd)(aZ:mg "tuple"=none)(aQ:mg "range"=none)(bg:Z00 P w K mg base)(uP:aV P w K mg base 3 "_law_lift" ["_law_script","_law_at_here","_law_floors"] (vw K)):ay P w K mg base bd 4 f fd ["_law_script","_law_most"] (qi K):=by
 rwa[F.ok E1 (by symm) (λah A outer s H vs Q E hr h=> ?_)];obtain ⟨a,ns,rfl,S,q⟩:=h;rwa[⟨_,(aa @a (aa @a (aa @a (bV @bk (aa @a (ac (ai (cO (ar (wv 2) (ar (aL @cA rfl aZ boot_tuple (ar (bG rfl (ax (N':=["_law_k","_law_script","_law_floors"]) (pk:=[none,some 0,some 2]) @k) (bS rfl aQ @fW) @g @s @g) ao)) (ar (wv 4) @er))))))))))),?_⟩];rwa[kR S @b @b @b @b λi i0 i1=> ?_];rwa[kR S @b @b @b @b λn n0 n1=> ?_];rwa[⟨yA @c @c @b,?_⟩];rwa[kR S @b @b @b (by first|exact Int.pow_pos @b|exact Int.mul_pos @b (Int.pow_pos @b)|(show (0:Int)<1*2^_;rw [Int.one_mul];exact Int.pow_pos @b)) λlk al _=> ?_];rwa[⟨rN @b @b,?_⟩];rwa[⟨io @b @b,?_⟩];rwa[fz (λσ H'=>H'=H/\∃lo:Int,0<=lo/\σ=[some (.ref a),some (.int 3),some (.int (2+i)),some (.int (1+n)),some (.int lo),none]) ?_ ?_]
 ·ext;rwa[kR S @b @b @b @b λj _ _=> ?_];rwa[cB @i @i]
  ·exact ⟨rfl,0,by decide,rfl⟩
  ·exact ⟨rfl,lk / 2*2,by lia,rfl⟩
 rintro σ' H' ⟨rfl,lo,ad,rfl⟩;obtain ⟨R,rfl⟩:=Int.eq_ofNat_of_zero_le ad;rwa[gI (be @e) λl1 H1 U aj e1=> ?_];erw[kR (S.same U) @b @b @b @b λj j0 j1=> ?_]
 obtain ⟨so,ab,Z⟩:∃s:Str,k7 [V.str "free",.str "way"] j=some (.str s)/\(s=s!"free"\/s=s!"way"):=by
  rcases (show j=0\/j=1 by lia) with rfl|rfl
  ·exact ⟨_,rfl,.inl rfl⟩
  ·exact ⟨_,rfl,.inr rfl⟩
 rwa[aW @cy ab ?_];rwa[⟨⟨by lia,by lia⟩,?_⟩];rwa[eR (λi ys H'=>aq H1 H'/\ys.length=i/\∃G:List Lf,Paired (Ow K H') ys G/\∀l∈G,Q2 l) @bb (λi ys H' p=>Nat.le_of_eq p.2.1) ⟨.refl _,rfl,[],.nil,λy Y=>nomatch Y⟩ @dE (λys H' p l nl=> ?_)]
 ·obtain ⟨J,rfl,G,O,ae⟩:=p;erw[⟨bc,?_⟩]
  have af:(ys.length:Int)<3:=by lia
  rwa[vw.mk _ _ _ _ rfl ((S.same U).same J) @c @c @c λv l H2 L hv W=>⟨J.trans L,by simp,G++[l],?_,λy Y=> ?_⟩]
  ·exact Paired.app (Paired.imp' (λx l ⟨b,e,z⟩=>⟨b,e,L.seqT z⟩) O) (.cons hv .nil)
  rcases mem_append.mp Y with z|z
  ·exact ae y z
  ·rw [mem_singleton.mp z];exact W
 obtain ⟨J,W,G,O,ae⟩:=p;have L:aq H' (upd H' l (.lst ys)):= .upd nl;rwa[fm @gn λpt H3 s3 n3 e3=> ?_];rwa[bD (be @e) λr H4 s4 n4 e4=> ?_]
 have ll:G.length=(1+n).toNat:=by have:=O.len;lia
 have I:=(L.trans s3).trans s4;rwa[q r ⟨2+i,G,R,so⟩ H4 ((U.trans J).trans I) ⟨⟨by show 2<=2+i;lia,by show 2+i<=8;lia,by show 1<=G.length;lia,by show G.length<=3;lia,λl W=>ae l W,Z⟩,pt,ys,az.of e4,s4.seqT (az.of e3),Paired.imp' (λx l ⟨b,e,z⟩=>⟨b,e,I.seqT z⟩) O⟩]
theorem GJ {fl pl li:Int}(R:2<=fl)(j:0<=pl)(S:pl<2*fl - 1)(W:li= -1\/li=0\/li=1)(G:pl% 2=0\/li≠0):∃f:Nat,(f:Int)<fl/\(2*(f:Int)=pl\/(2*(f:Int) - pl)*li>0):=by
 by_cases e:pl% 2=0
 ·exact ⟨(pl / 2).toNat,by lia,.inl @c⟩
 ·rcases W with rfl|rfl|rfl
  ·exact ⟨((pl - 1) / 2).toNat,by lia,.inr @c⟩
  ·rcases G with z|z
   ·exact absurd z e
   ·exact absurd rfl z
  ·exact ⟨((pl+1) / 2).toNat,by lia,.inr @c⟩
inductive qj (K:Fg)(vs:List V)(H:Hp)(Q:VK)(_e:XK):Prop
 |mk (h hs pl li fi:_) (_:vs=[.ref h,.int pl,.int li,.bl fi]) (_:iN K H h hs) (_:0<=pl) (_:pl<2*hs.fl - 1) (_:(li= -1\/li=0\/li=1)) (_:(fi=true\/(pl% 2=0\/li≠0))) (_:∀(p:Addr) (gs:List Int) H',aq H H'->H' p=some (.lst (gs.map V.int))->gs≠[]->gs.length<=8->(∀x∈gs,0<=x/\x<hs.fl)->Q (.ref p) H')
theorem Fo {fl:Int}(R:2<=fl)(z:fl<=8):Builtin.Range.small 0 fl 1=true/\Builtin.Range.rangeSize 0 fl 1=fl.toNat:=by
 rcases (show fl=2\/fl=3\/fl=4\/fl=5\/fl=6\/fl=7\/fl=8 by lia) with rfl|rfl|rfl|rfl|rfl|rfl|rfl<;>decide
theorem CV (F:Z0 K "_law_goals" vX f fd)(d7:mg "list"=none)(aQ:mg "range"=none):ay P w K mg base bd 1 f fd ["_law_house_here","_law_place","_law_light","_law_fire"] (qj K):=by
 rwa[F.ok xT (by symm) (λal A outer s H vs Q E hr h=> ?_)];obtain ⟨h,hs,pl,li,fi,rfl,⟨ho,p,ls,hh,hp,hl⟩,p0,p1,S,R,q⟩:=h;have f2:=ho.f2;have f8:=ho.f8;generalize ah:hs.fl=fl at *;generalize aj:hs.so=so at *
 have Y:∀x∈(List.range fl.toNat).map (λi:Nat=>(i:Int)),0<=x/\x<fl:=λx hx=>by
  obtain ⟨i,hi,rfl⟩:=mem_map.mp hx;have:=mem_range.mp hi;lia
 rwa[⟨_,(aa (bF (i:=4) xT.nd rfl @l (vd rfl rfl d7 rfl aQ @a)) (aa (au @a @ft ak) (ac (ai (bG rfl (ax (N':=["_law_floor","_law_place","_law_light"]) (pk:=[none,some 1,some 2]) @k) @a @g @x @E))))),?_⟩];rwa[ae hh rfl ?_];rwa[QD (Fo f2 f8).1 (Fo f2 f8).2 @c λl1 H1 s1 am e1=> ?_]
 have ad:H1 l1=some (.lst (((List.range fl.toNat).map λi:Nat=>(i:Int)).map V.int)):=by rw [e1,map_map];rfl
 rwa[ae (s1.seqT hh) rfl ?_];rwa[cB @i @i]
 ·ext;rwa[aP rfl ?_];rwa[q l1 _ H1 s1 ad @i (by rw [length_map,length_range];lia) Y];have:=congrArg List.length z;rw [length_map,length_range] at this;simp at this;lia
 cases fi with
 |true=>
  rwa[aP rfl ?_];rwa[q l1 _ H1 s1 ad @i (by rw [length_map,length_range];lia) Y];have:=congrArg List.length z;rw [length_map,length_range] at this;simp at this;lia
 |false=>
 have R:pl% 2=0\/li≠0:=R.elim (λz=>by cases z) id;rwa[aG rfl ?_];rwa[bL @cy ?_]
 have L:((List.range fl.toNat).map λi:Nat=>V.int (i:Int)).length=fl.toNat:=by rw [length_map,length_range]
 rwa[bf (xs:=(List.range fl.toNat).map λi:Nat=>V.int (i:Int)) (λi zs W=>W=H1/\∃j:List Int,zs=j.map V.int/\j.length<=i/\(∀x∈j,0<=x/\x<fl)/\∀f:Nat,f<i->(2*(f:Int)=pl\/(2*(f:Int) - pl)*li>0)->j≠[]) (be (by rw [L];lia)) (λi zs W O=>by obtain ⟨_,j,rfl,e,_⟩:=O;rw [length_map];exact e) ⟨rfl,[],rfl,Nat.le_refl _,(λx hx=>nomatch hx),λf hf=>absurd hf @c⟩ (λi zs W _ O=>by rw [O.1];exact aC.of e1) (λi x zs W ab O=> ?_) (λzs W O l2 n2=> ?_)]
 ·obtain ⟨rfl,j,rfl,U,G,I⟩:=O;rw [getElem?_map] at ab;obtain ⟨k,hk,rfl⟩:=Option.map_eq_some_iff.mp ab;obtain ⟨hi,hk⟩:=List.getElem?_eq_some_iff.mp hk;rw [List.getElem_range] at hk;subst hk
  have Z:∀x∈j++[(i:Int)],0<=x/\x<fl:=λx hx=>by
   rcases mem_append.mp hx with z|z
   ·exact G x z
   ·rw [mem_singleton.mp z];rw [length_range] at hi;lia
  rwa[⟨bc,?_⟩];rwa[⟨du @b @b,?_⟩];by_cases z1:2*(i:Int)=pl
  ·show oa (decide (2*(i:Int)=pl)) _ _;rwa[cZ z1 ?_];show if true=true then _ else _;rw [if_pos rfl];exact ⟨rfl,j++[(i:Int)],by rw [map_append];rfl,by rw [length_append];show _+1<=_;lia,Z,λf hf J z=>by simp at z⟩
  ·show oa (decide (2*(i:Int)=pl)) _ _;rwa[bB z1 ?_];rwa[⟨du @b @b,?_⟩]
   refine ⟨by
    rcases S with rfl|rfl|rfl
    ·exact io @b @b
    ·exact io @b @b
    ·exact io @b @b,?_⟩
   show if decide ((2*(i:Int) - pl)*li>0)=true then _ else _;by_cases z2:(2*(i:Int) - pl)*li>0
   ·rw [if_pos (decide_eq_true z2)];exact ⟨rfl,j++[(i:Int)],by rw [map_append];rfl,by rw [length_append];show _+1<=_;lia,Z,λf hf J z=>by simp at z⟩
   ·rw [if_neg (by rw [decide_eq_false z2];decide)];rwa[⟨rfl,j,rfl,by lia,G,λf hf J=> ?_⟩];by_cases y:f=i
    ·subst y
     rcases J with J|J
     ·exact absurd J z1
     ·exact absurd J z2
    ·exact I f @c J
 obtain ⟨rfl,j,rfl,U,G,I⟩:=O;rw [L] at U I;obtain ⟨f0,an,af⟩:=GJ f2 p0 p1 S R;exact q l2 j _ (s1.trans (.upd n2)) ag (I f0 @c af) @c G
def Rq (ns:List Int)(m:Nat)(c:Cb):Prop:=0<=c.dr/\∃n:Nat,n<=6/\c.ps.map (·.1)=(List.range n).map λj:Nat=>gC ns (6*(m:Int)+(j:Int))
inductive qm (K:Fg)(vs:List V)(H:Hp)(Q:VK)(_e:XK):Prop
 |mk (a ns k h hs m fi:_) (_:vs=[.ref a,.int k,.ref h,.int m,.bl fi]) (_:xq K H a ns) (_:0<=k) (_:k<900) (_:iN K H h hs) (_:0<=m) (_:m<(hs.ls.length:Int)) (_:∀v c H',aq H H'->bv K H' v c->iB hs.fl c->c.mr<=3->Rq ns m.toNat c->Q v H')
abbrev Z05:=λP w K mg base=>aV P w K mg base 3 "_law_tag" ["_law_script","_law_number"] (qd K)
theorem CZ (F:Z0 K "_law_cabin" v4 f fd)(bp:mg "len"=none)(aQ:mg "range"=none)(aZ:mg "tuple"=none)(bg:Z00 P w K mg base)(fP:Z05 P w K mg base)(sq:aV P w K mg base 1 "_law_goals" ["_law_house_here","_law_place","_law_light","_law_fire"] (qj K)):ay P w K mg base bd 4 f fd ["_law_script","_law_at_here","_law_house_here","_law_number","_law_fire"] (qm K):=by
 rwa[F.ok i7 (by symm) (λaY A outer s H vs Q E hr h=> ?_)];obtain ⟨a,ns,k,h,hs,m,fi,rfl,I,L,k9,hH,m0,m1,q⟩:=h;obtain ⟨S,rfl⟩:=Int.eq_ofNat_of_zero_le m0
 have af:S<hs.ls.length:=by lia
 obtain ⟨p,ls,W,hh,hp,hl,aI,an⟩:=hH.at m0 (l:=hs.ls[S]) (by rw [show ((S:Int)).toNat=S by lia];exact getElem?_eq_getElem af);obtain ⟨r1,r6,t1,t4,_⟩:=hH.1.lf _ (getElem_mem af);generalize a2:hs.ls[S].rm=rm at *;generalize a5:hs.ls[S].tn=tn at *;have f2:=hH.1.f2;have l3:=hH.1.l3;have aR:=hH;generalize ad:hs.fl=fl at *;rwa[⟨_,(aa @a (aa @a (aa @a (aa @a (bV @bk (aa @a (bV @bk (aa @a (aa (bF (i:=11) i7.nd rfl @l @a) (aa (bF (i:=12) i7.nd rfl @l (pW ao)) (aa (ce PassesOwn.never rfl (bS rfl aQ @fS) (lP (i:=13) i7.nd rfl @l) (aa (bF (i:=14) i7.nd rfl @l (bT @O (wv 11) (b9 bg hr @b rfl (ar (wv 0) (ar (bR @cu @a (wv 13)) (ar aB (ar (bb @fL rfl bp PySem.boot_len @cR) ao))))) @p)) (ac (aJ (fY rfl PySem.F.plainAttrs_list PySem.F.slot_list_append PySem.F.type_list_append lr @gw (ar (cO (ar (b9 fP hr @b rfl (ar (wv 0) (ar (bR @cu @a (wv 13)) ao))) (ar (wv 14) ao))) ao)))))) (ac (ai (cO (ar (wv 6) (ar (wv 7) (ar (wv 9) (ar @dN (ar (aL @cA rfl aZ boot_tuple (ar @gw ao)) ao))))))))))))))))))),?_⟩];rwa[ae hh rfl ?_];rwa[ae hp aI ?_];rwa[ae hh rfl ?_];rwa[⟨du @b @b,?_⟩];rwa[kR I L @c @b (by show (0:Int)<2*fl - 1;lia) λpl p0 p1=> ?_];have p1:pl<2*fl - 1:=p1;rwa[kR I L @c @b @b λG l0 l3=> ?_];rwa[ae an rfl ?_];rwa[kR I L @c @b (by show (0:Int)<rm+1;lia) λct a1 aj=> ?_];have aj:ct<rm+1:=aj;rwa[fz (λσ H'=>H'=H/\∃li:Int,(li= -1\/li=0\/li=1)/\(pl% 2=0\/li≠0)/\σ=[some (.ref a),some (.int k),some (.ref h),some (.int (S:Nat)),some (.bl fi),some (.ref W),some (.int pl),some (.int li),some (.int ct),none,none,none,none,none,none]) ?_ ?_]
 ·have aD:∀(Pr:Prop),(∀d:Int,0<=d->d<2->Pr)->Pr:=λPr z=>z 0 @b @b;rwa[cB @i @i]
  ·have z:G - 1=0:=z;rwa[⟨by decide,?_⟩];rwa[cB @cn @cn]
   ·have y:pl% 2=1:=y;rwa[aP rfl ?_];rwa[kR I L @c @b @b λd d0 d1=> ?_];rwa[⟨du @b @b,?_⟩];exact ⟨rfl,1 - 2*d,by lia,.inr @c,rfl⟩
   ·have y: ¬pl% 2=1:=y;rwa[ae hh rfl ?_];rwa[cB @fu @fu]
    ·ext;rwa[cB @fv @fv]
     ·ext
      cases fi with
      |false=>
       rwa[aP rfl ?_];rwa[kR I L @c @b @b λd d0 d1=> ?_];rwa[⟨du @b @b,?_⟩];exact ⟨rfl,1 - 2*d,by lia,.inr @c,rfl⟩
      |true=>
       rwa[aG rfl ?_];exact ⟨rfl,G - 1,by lia,.inl @c,rfl⟩
     ·ext;rwa[aG rfl ?_];exact ⟨rfl,G - 1,by lia,.inl @c,rfl⟩
    ·ext;rwa[aG rfl ?_];exact ⟨rfl,G - 1,by lia,.inl @c,rfl⟩
  ·have z: ¬G - 1=0:=z;rwa[aG rfl ?_];exact ⟨rfl,G - 1,by lia,.inr z,rfl⟩
 rintro σ' H' ⟨rfl,li,ax,aH,rfl⟩;rwa[fz (λσ H2=>H2=H'/\∃dr:Int,0<=dr/\(0<dr->pl% 2=0)/\σ=[some (.ref a),some (.int k),some (.ref h),some (.int (S:Nat)),some (.bl fi),some (.ref W),some (.int pl),some (.int li),some (.int ct),some (.int dr),none,none,none,none,none]) ?_ ?_]
 ·ext;rwa[⟨by decide,?_⟩];rwa[cB @i @i]
  ·ext;rwa[ae an rfl ?_];rwa[kR I L @c @b (by show (0:Int)<tn+1;lia) λd d0 d1=> ?_];exact ⟨rfl,d,d0,λ_=>z,rfl⟩
  ·exact ⟨rfl,0,by decide,λw=>absurd w @b,rfl⟩
 rintro σ' H2 ⟨rfl,dr,aE,al,rfl⟩;rwa[gI (be (by show 6<=1000000;decide)) λl1 H1 s1 a3 e1=> ?_];erw[kR (I.same s1) L @c @b @b λR a0 a4=> ?_]
 obtain ⟨Z,aN,aA,aT⟩:∃Z:Int,k7 [V.int 0,.int 0,.int 0,.int 1,.int 2,.int 3] R=some (.int Z)/\0<=Z/\Z<=3:=by
  rcases (show R=0\/R=1\/R=2\/R=3\/R=4\/R=5 by lia) with rfl|rfl|rfl|rfl|rfl|rfl<;>exact ⟨_,rfl,by decide⟩
 rwa[aW @cy aN ?_];rwa[qj.mk _ _ _ _ _ rfl (aR.same s1) p0 (by rw [ad];exact p1) ax (.inr aH) λgp J H3 s3 e3 aF gl gb=> ?_];rwa[gI (be (by show 0<=1000000;decide)) λl4 H4 s4 n4 e4=> ?_];rwa[⟨⟨by lia,by lia⟩,?_⟩];have aM:aq H2 H4:=s1.trans @ho;have aU:H4 gp=some (.lst @hp):=s4 _ _ e3
 have aS:gp≠l4:=λz=>by rw [z] at e3;rw [n4] at e3;cases e3
 have aO:H2 l4=none:=by
  cases y:H2 l4 with
  |none=>rfl
  |some o=>rw [(s1.trans s3) _ _ y] at n4;cases n4
 have aX:0<J.length:=length_pos_iff.mpr aF;rwa[c4 (λi σ HX=>aq H2 HX/\HX gp=some (.lst @hp)/\∃(Y:List (Int×Int)) (xs:List V) (o1 o2:Option V),HX l4=some (.lst xs)/\Y.length=i/\Y.map (·.1)=(List.range i).map (λj:Nat=>gC ns (6*(S:Int)+(j:Int)))/\(∀q∈Y,0<=q.2/\q.2<fl)/\Paired (λx (q:Int×Int)=>∃b,x=V.ref b/\HX b=some (.tup [.int q.1,.int q.2])) xs Y/\σ=[some (.ref a),some (.int k),some (.ref h),some (.int (S:Nat)),some (.bl fi),some (.ref W),some (.int pl),some (.int li),some (.int ct),some (.int dr),some (.int Z),some (.ref gp),some (.ref l4),o1,o2]) ⟨aM,aU,[],[],_,_,e4,rfl,rfl,(λq hq=>nomatch hq),.nil,rfl⟩ (λi σ HX hi pv=> ?_) (λσ HX pv=> ?_)]
 ·obtain ⟨sx,eg,Y,xs,o1,o2,el,aw,U,O,hp,rfl⟩:=pv
  have i6:i<6:=by lia
  have i0:(0:Int)+(i:Nat)=((i:Nat):Int):=by lia
  rw [i0];rwa[bZ (aC.of eg) ?_];rwa[kR (I.same sx) @c @c @b (by rw [length_map];lia) λgi g0 g1=> ?_];have g1:gi<((J.map V.int).length:Int):=g1;rw [length_map] at g1;obtain ⟨gn,rfl⟩:=Int.eq_ofNat_of_zero_le g0
  have as:gn<J.length:=by lia
  rwa[aW (aC.of eg) (v:= .int J[gn]) (bW (by rw [getElem?_map,getElem?_eq_getElem as];rfl)) ?_];rwa[⟨.inl ⟨rfl,_,aC.of el⟩,?_⟩];rwa[⟨du @b @b,?_⟩];rwa[qd.mk _ _ _ rfl (I.same sx) @c @c λtg aK=> ?_];erw[bD (be (by show 2<=1000000;decide)) λb H5 s5 n5 e5=> ?_];have xl:=hp.len;rwa[fQ (s5 _ _ el) @dz ?_]
  have ap:∀ {y:Addr} {zs:List V},H5 y=some (.tup zs)->y≠l4:=λ{y zs} e z=>by rw [z,s5 _ _ el] at e;cases e
  refine ⟨aq.updF (sx.trans s5) aO,by rw [am aS];exact s5 _ _ eg,Y++[(tg,J[gn])],xs++[.ref b],_,_,ag,by simp [aw],(by rw [map_append,U,range_succ,map_append,aK];rfl),(λq hq=>by
   rcases mem_append.mp hq with z|z
   ·exact O q z
   ·rw [mem_singleton.mp z];have:=gb J[gn] (getElem_mem as);rw [ad] at this;exact this),Paired.app (Paired.imp' (λx q ⟨y,ey,hy⟩=>⟨y,ey,by rw [am (ap (s5 _ _ hy))];exact s5 _ _ hy⟩) hp) (.cons ⟨b,rfl,by rw [am (ap e5)];exact e5⟩ .nil),rfl⟩
 obtain ⟨sx,eg,Y,xs,o1,o2,el,aw,U,O,hp,rfl⟩:=pv;rwa[fm (aC.of el) λtb H6 s6 n6 e6=> ?_];rwa[bD (be (by show 5<=1000000;decide)) λr H7 s7 n7 e7=> ?_]
 have ab:av K H7 xs (Y.map d5):=by
  have h7:Paired (λx (q:Int×Int)=>bM K H7 x (d5 q)) xs Y:=Paired.imp' (λx q ⟨y,ey,hy⟩=>by rw [ey];exact eh (az.of (s7 _ _ (s6 _ _ hy))) (.cons (.int _) (.cons (.int _) .nil))) hp;rwa[PySem.Paired.of (by rw [length_map];exact h7.len) λi x d e1 e2=> ?_];rw [getElem?_map] at e2;obtain ⟨q,hq,rfl⟩:=Option.map_eq_some_iff.mp e2;obtain ⟨q',ah,z⟩:=h7.get1 e1;rw [hq] at ah;cases ah;exact z
 rwa[q _ ⟨pl,li,dr,Z,Y⟩ H7 (sx.trans (s6.trans s7)) ⟨r,rfl,tb,xs,e7,s7 _ _ e6,ab⟩ ⟨p0,by show pl<=2*(fl - 1);lia,by show -1<=li;lia,by show li<=1;lia,aA,al,by show Y.length<=64;lia,O⟩ aT ⟨aE,_,@c,U⟩]
inductive iX (K:Fg)(vs:List V)(H:Hp)(Q:VK)(_e:XK):Prop
 |mk (a ns k h hs tg l ls:_) (_:vs=[.ref a,.int k,.ref h,.int tg,.ref l]) (_:xq K H a ns) (_:0<=k) (_:k<1000) (_:iN K H h hs) (_:aC K H l (List.map V.int ls)) (_:ls≠[]) (_:ls.length<=100) (_:∀v r H',aq H H'->bM K H' v @fj->fS hs.fl r->r.tag=tg->r.lift∈ls->Q v H')
theorem CQ (F:Z0 K "_law_rider" vU f fd)(bp:mg "len"=none)(bg:Z00 P w K mg base):ay P w K mg base bd 3 f fd ["_law_script","_law_at_here","_law_house_here","_law_tag_here","_law_lifts"] (iX K):=by
 rwa[F.ok EY (by symm) @X];obtain ⟨a,ns,k,h,hs,tg,l,G,rfl,S,R,L,⟨ho,p,ls,I,hp,hl⟩,Y,O,il,q⟩:=h;have f2:=ho.f2;generalize ab:hs.fl=fl at *;rwa[⟨_,@gU,?_⟩];rwa[ae I rfl ?_];rwa[kR S R L @b @c λs s0 s1=> ?_];rwa[ae I rfl ?_];rwa[kR S R L @b (by show (0:Int)<fl - 1;lia) λj j0 W=> ?_];rwa[ae I rfl ?_];rwa[⟨by lia,?_⟩];erw[bZ Y ?_];have ip:0<G.length:=length_pos_iff.mpr O;rwa[kR S R L @b (by rw [length_map];lia) λi Z J=> ?_];have J:i<((G.map V.int).length:Int):=J;rw [length_map] at J;obtain ⟨m,rfl⟩:=Int.eq_ofNat_of_zero_le Z
 have U:m<G.length:=by lia
 erw[aW Y (v:= .int G[m]) (bW (by rw [getElem?_map,getElem?_eq_getElem U];rfl)) ?_];have W:j<fl - 1:=W;rwa[bD (be (by show 4<=1000000;decide)) λr H2 s2 n2 e2=>q _ ⟨tg,s,(s+1+j)% fl,G[m]⟩ H2 s2 (eh (az.of e2) (.cons (.int _) (.cons (.int _) (.cons (.int _) (.cons (.int _) .nil))))) ⟨s0,s1,Int.emod_nonneg _ @c,Int.emod_lt_of_pos _ @c,λz=> ?_⟩ rfl (getElem_mem U)];have z:s=(s+1+j)% fl:=z;by_cases w:s+1+j<fl
 ·rw [Int.emod_eq_of_lt @c w] at z;lia
 ·have e:(s+1+j)% fl=s+1+j - fl:=by
   rw [show s+1+j=(s+1+j - fl)+fl by lia,Int.add_emod_right,Int.emod_eq_of_lt @c @c];lia
  lia
def Ro (cs:List Cb)(l:Int):Prop:=l= -1\/∃(j:Nat) (c:Cb),l=(j:Int)/\cs[j]? =some c/\c.mr=0
inductive qh (K:Fg)(vs:List V)(H:Hp)(Q:VK)(_e:XK):Prop
 |mk (a ns h hs fi:_) (_:vs=[.ref a,.ref h,.bl fi]) (_:xq K H a ns) (_:iN K H h hs) (_:∀st cs ws last H',aq H H'->gR K H' st cs ws last fi->kZ hs ws.length ⟨cs,ws,last,fi,0,[]⟩->ws.length<=10->0<=last->(∀c∈cs,c.mr<=3)->(fi=true->ws=[])->(∀j c,cs[j]? =some c->Rq ns j c)->ws.map (·.tag)=(List.range ws.length).map (λj:Nat=>gC ns (20+(j:Int)))->(∀r∈ws,Ro cs r.lift)->Q (.ref st) H')
theorem Oh {H:Hp}{x:V}{c:Cb}(h:bv K H x c):∃a b,x= .ref a/\az K H a [.int c.pl,.int c.li,.int c.dr,.int c.mr,.ref b]:=by
 obtain ⟨t,rfl,b,j,z,_⟩:=h;exact ⟨t,b,rfl,az.of z⟩
abbrev Z04:=λP w K mg base=>aV P w K mg base 3 "_law_rider" ["_law_script","_law_at_here","_law_house_here","_law_tag_here","_law_lifts"] (iX K)
theorem CP (F:Z0 K "_law_state" vT f fd)(aQ:mg "range"=none)(bp:mg "len"=none)(aZ:mg "tuple"=none)(bg:Z00 P w K mg base)(fP:Z05 P w K mg base)(sI:aV P w K mg base 4 "_law_cabin" ["_law_script","_law_at_here","_law_house_here","_law_number","_law_fire"] (qm K))(iy:Z04 P w K mg base):ay P w K mg base bd 5 f fd ["_law_script","_law_house_here","_law_fire"] (qh K):=by
 rwa[F.ok qy (by symm) (λbz A outer s H vs Q E hr h=> ?_)];obtain ⟨a,ns,h,hs,fi,rfl,hS,hH,q⟩:=h;have aR:=hH;obtain ⟨ho,p,ls,hh,hp,hl⟩:=hH;have l1:=ho.l1;have l3:=ho.l3;have ll:ls.length=hs.ls.length:=hl.len;rwa[⟨_,(aa (bF (i:=3) qy.nd rfl @gF (bG rfl (ax (N':=["_law_k","_law_script","_law_house_here","_law_fire"]) (pk:=[none,some 0,some 1,some 2]) @k) @dA @g @s @g)) (aa (bF (i:=4) qy.nd rfl @l (bR @cu @a (bG rfl (ax (N':=["_law_k","_law_cabins"]) (pk:=[none,some 3]) @k) @dA @g @x @E))) (aa @a (aa (ce PassesOwn.never rfl @dA @a @A) (bV @bk (ac (ai (cO (ar (aL @cA rfl aZ boot_tuple @fW) (ar (aL @cA rfl aZ boot_tuple @er) (ar @a @es))))))))))),?_⟩];rwa[ae hh rfl ?_];rwa[eX hp ?_];rw [ll];rwa[⟨⟨by lia,by lia⟩,?_⟩]
 have a1:((hs.ls.length:Int)).toNat=hs.ls.length:=by lia
 rwa[eR (λi ys H'=>aq H H'/\ys.length=i/\∃J:List Cb,Paired (bv K H') ys J/\(∀c∈J,iB hs.fl c)/\(∀j c,J[j]? =some c->Rq ns j c)/\∀c∈J,c.mr<=3) @bb (λi ys H' p=>Nat.le_of_eq p.2.1) ⟨.refl _,rfl,[],.nil,(λc W=>nomatch W),(λj c W=>nomatch W),λc W=>nomatch W⟩ @dE (λys H' p lc a4=> ?_)]
 ·obtain ⟨sm,rfl,J,hd,a6,aw,aH⟩:=p;rwa[⟨bc,?_⟩];rwa[⟨du @b @b,?_⟩]
  refine qm.mk _ _ _ _ _ _ _ rfl (hS.same sm) @c @c (aR.same sm) @c @c λv c H3 S hv W al aB=>⟨sm.trans S,by simp,J++[c],?_,λd I=> ?_,(λj d I=>by
   have bx:=hd.len;by_cases z:j<J.length
   ·rw [getElem?_append_left z] at I;exact aw j d I
   ·rw [getElem?_append_right @c] at I;have:=(List.getElem?_eq_some_iff.mp I).1;rw [length_singleton] at this
    obtain rfl:j=ys.length:=by lia
    rw [show ys.length - J.length=0 by lia] at I;cases I;rw [show ((0:Int)+(ys.length:Nat)).toNat=ys.length by lia] at aB
    exact aB),λd I=> ?_⟩
  ·exact Paired.app (Paired.imp' @dc hd) (.cons hv .nil)
  ·rcases mem_append.mp I with z|z
   ·exact a6 d z
   ·rw [mem_singleton.mp z];exact W
  ·rcases mem_append.mp I with z|z
   ·exact aH d z
   ·rw [mem_singleton.mp z];exact al
 obtain ⟨sm,am,J,hd,aU,aF,al⟩:=p;rw [a1] at am
 have bn:J.length=hs.ls.length:=by have:=hd.len;lia
 have an:aq H' (upd H' lc (.lst ys)):= .upd a4;have ec:upd H' lc (.lst ys) lc=some (.lst ys):=ag;have aj:=Paired.imp' (λx c z=>bv.keep z an.st) hd;generalize bo:upd H' lc (.lst ys)=H2 at an ec aj ⊢;have s2:=sm.trans an;rwa[gI (be (by show 1<=1000000;decide)) λlm H3 S n3 e3=> ?_];rwa[bZ (aC.of (S _ _ ec)) ?_];rw [am];rwa[⟨⟨by lia,by lia⟩,?_⟩];rwa[eR (λi zs HX=>HX=H3/\∃is:List Int,zs=is.map V.int/\is.length<=i/\∀x∈is,Ro J x) @bb (λi zs HX p=>by obtain ⟨_,is,rfl,e,_⟩:=p;rw [length_map];exact e) ⟨rfl,[],rfl,Nat.le_refl _,(λx hx=>nomatch hx)⟩ (λi zs HX hi p=> ?_) (λzs HX p ab aM=> ?_)]
 ·obtain ⟨rfl,is,rfl,bA,aT⟩:=p
  have hi:i<ys.length:=by lia
  obtain ⟨c,W,z⟩:=aj.get1 (getElem?_eq_getElem hi);obtain ⟨ca,cb,ea,a7⟩:=Oh (z.keep S.st);rwa[⟨bc,?_⟩];rwa[aW (aC.of (S _ _ ec)) (v:= .ref ca) (by rw [show (0:Int)+(i:Nat)=((i:Nat):Int) by lia,bW (getElem?_eq_getElem hi),ea]) ?_];rwa[ae a7 rfl ?_];show if decide (c.mr=0)=true then _ else _;by_cases z:c.mr=0
  ·rw [if_pos @N]
   exact ⟨rfl,is++[0+(i:Int)],by rw [map_append];rfl,by rw [length_append];show _+1<=_;lia,λx hx=>by
    rcases mem_append.mp hx with y|y
    ·exact aT x y
    ·rw [mem_singleton.mp y];exact .inr ⟨i,c,by lia,W,z⟩⟩
  ·rw [if_neg (by rw [decide_eq_false z];decide)];exact ⟨rfl,is,rfl,by lia,aT⟩
 obtain ⟨rfl,sv,rfl,bs,ba⟩:=p;have L:aq HX (upd HX ab (.lst @eB)):= .upd aM;have aD:upd HX ab (.lst @eB) ab=some (.lst @eB):=ag;generalize bq:upd HX ab (.lst @eB)=H4 at L aD ⊢;rwa[Hx (L _ _ e3) aD (be (by rw [length_map];show 1+_<=_;lia)) λlf H5 s5 n5 e5=> ?_];have e5:H5 lf=some (.lst ((-1::sv).map V.int)):=e5;rwa[gI (be (by show 0<=1000000;decide)) λwl H6 s6 aS bh=> ?_];have a3:aq H H6:=s2.trans (S.trans (L.trans @gx));have as:aq H H5:=s2.trans (S.trans (L.trans s5));have n0:H wl=none:=none_of as aS;have a2:H5 wl=none:=aS;rwa[kR (hS.same a3) @b @b @b @b λwc bw bu=> ?_];rwa[⟨⟨by lia,by lia⟩,?_⟩];rwa[c4 (λi σ HY=>aq H5 HY/\∃(xs:List V) (U:List aI) (o6:Option V),HY wl=some (.lst xs)/\av K HY xs (U.map aI.d)/\xs.length=i/\(U.map (·.tag)=(List.range i).map (λj:Nat=>gC ns (20+(j:Int)))/\∀r∈U,Ro J r.lift)/\(∀r∈U,fS hs.fl r)/\σ=[some (.ref a),some (.ref h),some (.bl fi),some (.ref lc),some (.ref lf),some (.ref wl),o6]) ⟨s6,[],[],_,bh,.nil,rfl,⟨rfl,(λr hr=>nomatch hr)⟩,(λr hr=>nomatch hr),rfl⟩ (λi σ HY hi pv=> ?_) @cl]
 ·obtain ⟨sx,xs,U,o5,el,Y,ad,R,aA,rfl⟩:=pv
  have i0:(0:Int)+(i:Nat)=((i:Nat):Int):=by lia
  rw [i0];have O:=as.trans sx;rwa[⟨.inl ⟨rfl,_,aC.of el⟩,?_⟩];rwa[qd.mk _ _ _ rfl (hS.same O) @c @c λtg bj=> ?_];rwa[iX.mk _ _ _ _ _ _ _ _ rfl (hS.same O) @c @c (aR.same O) (aC.of (sx _ _ e5)) @e (by show (-1::sv).length<=100;rw [length_cons];lia) λv r H7 s7 hv a5 aY bb=> ?_];rwa[fQ @gX @dz ?_]
  refine ⟨aq.updF (sx.trans s7) a2,xs++[v],U++[r],_,ag,?_,by simp [ad],⟨(by rw [map_append,R.1,range_succ,map_append,map_cons,aY,bj];rfl),(λr' ap=>by
   rcases mem_append.mp ap with z|z
   ·exact R.2 r' z
   ·rw [mem_singleton.mp z]
    rcases mem_cons.mp bb with y|y
    ·exact .inl y
    ·exact ba _ y)⟩,λr' ap=> ?_,rfl⟩
  ·rw [map_append];exact Paired.app (bC (av.same Y s7) (cy U) @gX) (.cons (bM.noL (d:=aI.d r) hv rfl @gX) .nil)
  ·rcases mem_append.mp ap with z|z
   ·exact aA r' z
   ·rw [mem_singleton.mp z];exact a5
 obtain ⟨sx,xs,U,o6,el,Y,ad,R,aA,rfl⟩:=pv;have O:=as.trans sx;have ad:xs.length=wc.toNat:=ad;rwa[fz (λσ HZ=>aq HY HZ/\∃(a0:Addr) (Z:List V) (G:List aI),HZ a0=some (.lst Z)/\av K HZ Z (G.map aI.d)/\(G.map (·.tag)=(List.range G.length).map (λj:Nat=>gC ns (20+(j:Int)))/\∀r∈G,Ro J r.lift)/\(∀r∈G,fS hs.fl r)/\G.length<=10/\(fi=true->G=[])/\σ=[some (.ref a),some (.ref h),some (.bl fi),some (.ref lc),some (.ref lf),some (.ref a0),o6]) ?_ ?_]
 ·ext
  cases fi with
  |true=>
   rwa[aP rfl ?_];exact gI (be (by show 0<=1000000;decide)) λl9 H9 s9 n9 e9=>⟨s9,l9,[],[],e9,.nil,⟨rfl,(λr hr=>nomatch hr)⟩,(λr hr=>nomatch hr),by decide,@fC,rfl⟩
  |false=>
   rwa[aG rfl ?_];have:=aE (f:=aI.d) Y
   have a8:U.length=wc.toNat:=by lia
   exact ⟨.refl _,wl,xs,U,el,Y,⟨by rw [a8];exact R.1,R.2⟩,aA,by lia,(λz=>by cases z),rfl⟩
 rintro σ' HZ ⟨sZ,a0,Z,G,a9,aK,af,aX,bm,bf,rfl⟩;have aN:=O.trans sZ;have aO:HZ lc=some (.lst ys):=sZ _ _ (sx _ _ (s5 _ _ (L _ _ (S _ _ ec))));have bk:Paired (bv K HZ) ys J:=Paired.imp' (λx c z=>bv.keep z (S.trans (L.trans (s5.trans (sx.trans sZ)))).st) aj;rwa[fm (aC.of aO) λtc HA sA nA eA=> ?_];rwa[fm (aC.of (sA _ _ a9)) λtw HB sB nB eB=> ?_];rwa[bZ (aC.of (sB _ _ (sA _ _ aO))) ?_];rw [am];rwa[kR (hS.same (aN.trans (sA.trans sB))) @b @b @b @c λla bi br=> ?_];rwa[bD (be (by show 4<=1000000;decide)) λst HC sC nC eC=> ?_];have ah:=sA.trans (sB.trans sC);exact q st J G la HC (aN.trans ah) ⟨tc,tw,ys,Z,az.of eC,az.of (sC _ _ (sB _ _ eA)),az.of (sC _ _ eB),Paired.imp' (λx c z=>bv.keep z ah.st) bk,av.same aK ah⟩ ⟨bn,aU,aX,by show 0+G.length<=_;lia⟩ bm bi al bf aF af.1 af.2
theorem NK {i:Int}(F:0<=i)(h1:i<5):∃c,k7 (s!"oxuds").cps.toList i=some c/\c∈nV:=by
 rcases (show i=0\/i=1\/i=2\/i=3\/i=4 by lia) with rfl|rfl|rfl|rfl|rfl<;>exact ⟨_,rfl,by decide⟩
theorem ym:∀(ts:List Str),(Builtin.Str.glued "" ts).cps.toList=ts.flatMap λt=>t.cps.toList:=by
 have F:(s!"").cps= #[]:=by decide+kernel
 have z:∀(l:List Str) (j:Array Nat),(l.foldl (λj p=>j++(s!"").cps++p.cps) j).toList=j.toList++l.flatMap λt=>t.cps.toList:=by
  intro l
  induction l with
  |nil=>intro j;simp
  |cons p l ih=>
   intro j;rw [foldl_cons,ih,F,flatMap_cons];simp
 intro ts
 cases ts with
 |nil=>rfl
 |cons p l=>
  show (l.foldl (λj p=>j++(s!"").cps++p.cps) p.cps).toList=_;rw [z,flatMap_cons]
theorem uD:∀(cs:List Nat),((cs.map λc=>(⟨#[c]⟩:Str)).flatMap λt=>t.cps.toList)=cs
 |[]=>rfl
 |c::cs=>by rw [map_cons,flatMap_cons,uD cs];rfl
theorem xE:∀(cs:List Nat),((cs.map λc=>(⟨#[c]⟩:Str)).map (·.length)).sum=cs.length
 |[]=>rfl
 |c::cs=>by rw [map_cons,map_cons,sum_cons,xE cs,length_cons];show 1+_=_;lia
inductive zD (K:Fg)(vs:List V)(H:Hp)(Q:VK)(_e:XK):Prop
 |mk (a ns k:_) (_:vs=[.ref a,.int k]) (_:xq K H a ns) (_:0<=k) (_:k<1000) (_:∀t H',aq H H'->JY t->Q (.str t) H')
theorem JR (F:Z0 K "_law_letters" nu f fd)(aQ:mg "range"=none)(bg:Z00 P w K mg base):ay P w K mg base bd 3 f fd ["_law_script","_law_at_here"] (zD K):=by
 rwa[F.ok zS (by symm) @q];obtain ⟨a,ns,k,rfl,W,k0,k1,q⟩:=h;rwa[⟨_,(ac (ai (fY rfl PySem.F.plainAttrs_str PySem.F.slot_str_join PySem.F.type_str_join (zg rfl) aT (ar (bG rfl (ax (N':=["_law_k","_law_script","_law_at_here"]) (pk:=[none,some 0,some 1]) @k) (bS rfl aQ (ar aB ao)) @g @s @g) ao)))),?_⟩];rwa[⟨rfl,?_⟩];rwa[⟨⟨by decide,by decide⟩,?_⟩];rwa[eR (λi ys H'=>H'=H/\∃z:List Nat,ys=(z.map λc=>(⟨#[c]⟩:Str)).map V.str/\z.length=i/\∀c∈z,c∈nV) (be @b) (λi ys H' p=>by obtain ⟨_,z,rfl,l,_⟩:=p;rw [length_map,length_map,l];exact Nat.le_refl _) ⟨rfl,[],rfl,rfl,λx G=>nomatch G⟩ @dE (λys H' p l n=> ?_)]
 ·obtain ⟨rfl,z,rfl,I,J⟩:=p;have aa:i<36:=hi;rwa[⟨bc,?_⟩];rwa[⟨du @b @b,?_⟩];erw[kR W k0 k1 (by show (0:Int)<60013+16*(0+(i:Int));lia) @b λj Z j1=> ?_];obtain ⟨c,ec,hL⟩:=NK Z j1;rwa[pL (be @b) ec ?_];rwa[⟨rfl,z++[c],by rw [map_append,map_append];rfl,by rw [length_append,I];rfl,λx G=> ?_⟩]
  rcases mem_append.mp G with G|G
  ·exact J x G
  ·rw [mem_singleton.mp G];exact hL
 obtain ⟨rfl,z,rfl,I,J⟩:=p;have I:z.length=36:=I;have S:upd H' l (.lst ((z.map λc=>(⟨#[c]⟩:Str)).map V.str)) l=some (.lst ((z.map λc=>(⟨#[c]⟩:Str)).map V.str)):=ag;have O:aq H' (upd H' l (.lst ((z.map λc=>(⟨#[c]⟩:Str)).map V.str))):= .upd n;generalize upd H' l (.lst ((z.map λc=>(⟨#[c]⟩:Str)).map V.str))=H1 at S O ⊢
 have R:(Builtin.Str.glued "" (z.map λc=>(⟨#[c]⟩:Str))).cps.toList=z:=by
  rw [ym,uD]
 have L:(Builtin.Str.glued "" (z.map λc=>(⟨#[c]⟩:Str))).length=36:=by rw [<-eM,R,I]
 have gf:(z.map λc=>(⟨#[c]⟩:Str)).toArray.foldl (· + ·.length+(s!"").length) 0<=sizeLine:=be (by
  rw [PySem.StrLaws.joinTotal]
  have Y:(s!"").length=0:=by decide+kernel
  rw [xE,Y,I];lia)
 rwa[Gw (ts:=z.map λc=>(⟨#[c]⟩:Str)) @fh gf (be (by rw [L];decide)) ?_];exact q _ H1 O ⟨L,λc U=>J c (by rw [R] at U;exact U)⟩
def ez (d:D):Prop:=∃(wd:Str) (i:Int) (is:List Int),d= .tup (.str wd:: .int i::is.map D.int)/\is.length<=10
inductive zz (K:Fg)(vs:List V)(H:Hp)(Q:VK)(_e:XK):Prop
 |mk (l zs ds:_) (_:vs=[.ref l]) (_:H l=some (.lst zs)) (_:av K H zs ds) (_:(∀d∈ds,ez d)) (_:ds.length<=4000) (_:∀H',aq H H'->Q (.bl true) H')
theorem rE {H:Hp}{xs:List V}{d:D}{ds:List D}(h:av K H xs (d::ds)):∃y ys,xs=y::ys/\bM K H y d/\av K H ys ds:=by
 cases h with|cons a b=>exact ⟨_,_,rfl,a,b⟩
theorem Dw {H:Hp}:∀ {is:List Int} {ys:List V},av K H ys (is.map D.int)->ys=is.map V.int:=by
 intro is
 induction is with
 |nil=>intro ys h;cases h;rfl
 |cons j is ih=>
  intro ys h;obtain ⟨y,zs,rfl,a,b⟩:=rE h;rw [a.isInt,ih b];rfl
theorem Jl {H:Hp}{x:V}{d:D}(h:bM K H x d)(S:ez d):∃(a:Addr) (wd:Str) (i:Int) (is:List Int),x= .ref a/\az K H a (.str wd:: .int i::is.map V.int)/\is.length<=10/\d= .tup (.str wd:: .int i::is.map D.int):=by
 obtain ⟨wd,i,is,rfl,W⟩:=S;obtain ⟨a,xs,rfl,h1,h2⟩:=h.outT;obtain ⟨J,G,rfl,z,I⟩:=rE h2;obtain ⟨O,j,rfl,F,L⟩:=rE I;rw [z.isStr,F.isInt,Dw L] at h1;exact ⟨a,wd,i,is,rfl,h1,W,rfl⟩
theorem JL (F:Z0 K "_law_rows" z6 f fd)(bu:mg "isinstance"=none)(d7:mg "list"=none)(aZ:mg "tuple"=none)(Db:mg "str"=none)(bp:mg "len"=none)(eS:aV P w K mg base 1 "_law_whole" ["_law_thing"] lz):ay P w K mg base bd 2 f fd ["_law_log"] (zz K):=by
 rwa[F.ok Jb (by symm) @X];obtain ⟨l,zs,ds,rfl,Z,hd,J,dl,q⟩:=h;have zl:zs.length=ds.length:=hd.len;rwa[⟨_,(aa (au (dU (fW rfl (bb @gy rfl bu boot_isinstance (ar (wv 0) (ar (ii (v:= .ty "list") rfl d7 boot_list rfl) ao))))) @ba ak) (aa (ce PassesOwn.never rfl (iP rfl (wv 0)) @a (aa (au (PW.pt (iC (dU (fW rfl (bb @gy rfl bu boot_isinstance (ar (wv 1) (ar (ii (v:= .ty "tuple") rfl aZ boot_tuple rfl) ao))))) (iC (bw w_lt (bb @fL rfl bp PySem.boot_len @bz) aB (bx _)) (ig (dU (fW rfl (bb @gy rfl bu boot_isinstance (ar (bT @O (wv 1) aB @p) (ar (ii (v:= .ty "str") rfl Db boot_str rfl) ao))))))))) @ba ak) (ac (ce PassesOwn.never rfl (iP rfl (lQ (A7 rfl) (wv 1) (pI aB) pN)) @a (ac (au (dU (fW rfl (b9 eS hr @b rfl @es))) @ba ak)))))) @ba)),?_⟩];rwa[Gy rfl (.lst Z) rfl ?_];rwa[aG rfl ?_];rwa[bL (aC.of Z) ?_];rwa[eQ (xs:=zs) (λi σ I=>aq H I/\∃o1 G,σ=[some (.ref l),o1,G]) ⟨.refl _,_,_,rfl⟩ (λi σ I _ R=>R.1.seq (aC.of Z)) (λi x σ I hx R=> ?_) @fm]
 ·obtain ⟨U,o1,G,rfl⟩:=R;obtain ⟨d,ab,dx⟩:=hd.get1 hx;obtain ⟨a,wd,j,L,rfl,W,il,_⟩:=Jl (bM.same dx U) (J d (mem_of_getElem? ab));rwa[NX W rfl rfl ?_];rwa[aG rfl ?_];rwa[eX W ?_];rwa[bB (by show ¬(((V.str wd::V.int j::L.map V.int).length:Nat):Int)<2;rw [length_cons,length_cons];lia) ?_];rwa[ae W (v:= .str wd) @fX ?_];rwa[⟨rfl,?_⟩];rwa[aG rfl ?_]
  refine eV W (by
   rintro ⟨z,_⟩;revert z;show ¬HT.sIx (L.map V.int).length.succ.succ 0 (some 1)=0
   simp [HT.sIx]) λsl H2 s2 n2 e2=> ?_
  rw [uJ] at e2;rwa[d9 (az.of e2) ?_]
  have O:∀y∈(V.int j::L.map V.int),∃i:Int,y=V.int i:=λy Y=>by
   rcases mem_cons.mp Y with rfl|Y
   ·exact ⟨_,rfl⟩
   ·obtain ⟨i,_,rfl⟩:=mem_map.mp Y;exact ⟨_,rfl⟩
  rwa[me (xs:=V.int j::L.map V.int) (λi σ S=>S=H2/\∃G,σ=[some (.ref l),some (.ref a),G]) ⟨rfl,_,rfl⟩ (λi σ S _ R=>by rw [R.1];exact az.of e2) (λi x σ S hx R=> ?_) (λσ S R=> ?_)]
  ·obtain ⟨rfl,G,rfl⟩:=R;obtain ⟨i,rfl⟩:=O x (mem_of_getElem? hx);rwa[lz.mk _ rfl ?_];rwa[aG rfl ?_];exact ⟨rfl,_,rfl⟩
  ·obtain ⟨rfl,G,rfl⟩:=R;exact ⟨U.trans s2,_,_,rfl⟩
 ·obtain ⟨U,o1,G,rfl⟩:=R;exact q I U
def gA (K:Fg)(H:Hp)(p:Addr)(cs:List A4):Prop:=∃xs,(aC K H p xs\/az K H p xs)/\av K H xs (cs.map A4.d)
theorem KN {H:Hp}{x:V}{c:A4}(h:bM K H x c.d):∃a b,x= .ref a/\az K H a [.int c.pl,.int c.li,.int c.dr,.int c.mr,.ref b]:=by
 obtain ⟨a,xs,rfl,h1,h2⟩:=h.outT
 cases h2 with|cons q0 t0=>cases t0 with|cons q1 t1=>cases t1 with|cons q2 t2=>cases t2 with|cons q3 t3=>cases t3 with|cons q4 t4=>
 cases t4;cases q0.isInt;cases q1.isInt;cases q2.isInt;cases q3.isInt;obtain ⟨b,ys,rfl,_⟩:=q4.outT;exact ⟨a,b,rfl,h1⟩
theorem MI {H:Hp}{x:V}{r:Rd}(h:bM K H x r.d):∃a,x= .ref a/\az K H a [.int r.t,.int r.s,.int r.g,.int r.l]:=by
 obtain ⟨a,xs,rfl,h1,h2⟩:=h.outT
 cases h2 with|cons q0 t0=>cases t0 with|cons q1 t1=>cases t1 with|cons q2 t2=>cases t2 with|cons q3 t3=>
 cases t3;cases q0.isInt;cases q1.isInt;cases q2.isInt;cases q3.isInt;exact ⟨a,rfl,h1⟩
theorem gA.at {H:Hp}{p:Addr}{cs:List A4}(h:gA K H p cs){i:Int}(L:0<=i)(h1:i<cs.length){Q:VK}(g:∀c a b,cs[i.toNat]? =some c->az K H a [.int c.pl,.int c.li,.int c.dr,.int c.mr,.ref b]->Q (.ref a) H):oG K p i H Q:=by
 obtain ⟨xs,G,J⟩:=h;have W:=aE J;obtain ⟨j,rfl⟩:=Int.eq_ofNat_of_zero_le L
 have Z:j<xs.length:=by lia
 obtain ⟨c,I,z⟩:=bi J (getElem?_eq_getElem Z);obtain ⟨a,b,O,F⟩:=KN z;rwa[Mt G (v:= .ref a) (bW (by rw [getElem?_eq_getElem Z,O])) (g c a b ?_ F)];rw [show ((j:Int)).toNat=j by lia];exact I
theorem gA.len {H:Hp}{p:Addr}{cs:List A4}(h:gA K H p cs){Q:VK}(g:Q (.int cs.length) H):iY K p H Q:=by
 obtain ⟨xs,z,J⟩:=h;rwa[IX z ?_];rw [aE J];exact g
inductive EH (K:Fg)(vs:List V)(H:Hp)(Q:VK)(_e:XK):Prop
 |mk (a x0 x1 x2 m x4:_) (_:vs=[.ref a]) (_:az K H a [x0,x1,x2,.int m,x4]) (_:Q (.bl (decide (m=0))) H)
theorem Nm (F:Z0 K "is_serving" kA f fd):ay P w K mg base bd 1 f fd ["cabin"] (EH K):=by
 rwa[F.ok xU (by symm) (λj A outer s H J Q E S h=> ?_)];obtain ⟨a,I,z,R,m,G,rfl,L,q⟩:=h;rwa[⟨_,@j,?_⟩];rwa[ae L rfl ?_];exact q
noncomputable abbrev eu (cs:List A4):List Bool:=cs.map A4.srv
theorem zt {cs:List A4}{i:Nat}{c:A4}(h:cs[i]? =some c):(eu cs).getD i false=decide (c.mr=0):=by
 rw [getD_eq_getElem?_getD,getElem?_map,h];rfl
inductive EB (K:Fg)(vs:List V)(H:Hp)(Q:VK)(_e:XK):Prop
 |mk (p cs first:_) (_:vs=[.ref p,.int first]) (_:gA K H p cs) (_:1<=cs.length) (_:cs.length<=3) (_:0<=first) (_:Q (.int (sf @gY first)) H)
theorem Qn (F:Z0 K "serving_from" hV f fd)(bp:mg "len"=none)(aQ:mg "range"=none){U:Tok}(b8:mg "NO_LIFT"=some (.int (-1) U))(pi:aV P w K mg base 1 "is_serving" ["cabin"] (EH K)):ay P w K mg base bd 2 f fd ["cabins","first"] (EB K):=by
 have lM:aF (.int (-1)) (.int (-1) U):=⟨_,rfl⟩;rwa[F.ok tG (by symm) @q];obtain ⟨p,G,first,rfl,Y,c1,c3,f0,q⟩:=h;have W:(eu G).length=G.length:=length_map _;rwa[⟨_,(aa @a (aa (ce PassesOwn.never rfl (bS rfl aQ @es) @a (aa @a (ac (au @a @ft ak)))) @j)),?_⟩];rwa[Y.len ?_];rwa[⟨⟨by lia,by lia⟩,?_⟩];rwa[c4 (λi σ I=>I=H/\sf (eu G) first=IU (eu G) first i (G.length - i)/\∃O L,σ=[some (.ref p),some (.int first),some (.int G.length),O,L]) ⟨rfl,by unfold sf;rw [W];rfl,_,_,rfl⟩ (λi σ I hi R=> ?_) @fm]
 ·obtain ⟨rfl,j,O,L,rfl⟩:=R
  have hi:i<G.length:=by lia
  have Z:(0:Int)+(i:Nat)=((i:Nat):Int):=by lia
  rw [Z];have S:0<=(first+(i:Int))% (G.length:Int):=Int.emod_nonneg _ @c;have J:(first+(i:Int))% (G.length:Int)<(G.length:Int):=Int.emod_lt_of_pos _ @c;rw [show G.length - i=(G.length - (i+1))+1 by lia] at j
  have j:sf (eu G) first=if (eu G).getD ((first+(i:Int))% (eu G).length).toNat false=true then (first+(i:Int))% (eu G).length else IU (eu G) first (i+1) (G.length - (i+1)):=j
  rw [W] at j;rwa[⟨by lia,?_⟩];rwa[Y.at S J λc a b hc hT=> ?_];rwa[EH.mk _ _ _ _ _ _ rfl hT ?_];rw [zt hc] at j;rwa[cB @i @i]
  ·rw [if_pos @N] at j;rw [j] at q;exact q
  ·rw [if_neg (by rw [decide_eq_false z];decide)] at j;exact ⟨rfl,j,_,_,rfl⟩
 obtain ⟨rfl,j,O,L,rfl⟩:=R;rw [show ((G.length:Int)).toNat=G.length by lia,Nat.sub_self] at j
 have j:sf (eu G) first= -1:=j
 rw [j] at q;exact q
noncomputable def Gv (s:Stmt):Expr:=match dF s with
 |[.Return (some e) _]=>e
 |_=> .Constant .none 0 ⟨0,0,0,0⟩
noncomputable def Bz (s:Stmt):Arguments:=match Gv s with
 | .Lambda a _ _ _=>a
 |_=>fe s
noncomputable def By (s:Stmt):Expr:=match Gv s with
 | .Lambda _ b _ _=>b
 |e=>e
noncomputable def rf (s:Stmt):Scope:=match Gv s with
 | .Lambda _ _ sc _=>sc
 |_=>af s
abbrev qF:Str:="fixed_of"++".<locals>."++"<lambda>"
noncomputable abbrev NB (mg:Str->Option Value):List (Str×Addr)->Addr->Value->Obj:=λcl c' ctv=>W.kla_obj "<lambda>" qF (Bz cA) (By cA) (rf cA) cl ((mg "__name__").getD .none) c' ctv
theorem Tr:sO ["cabins","waiting","rider","last"] ["lifts"] (rf cA):=⟨rfl,rfl,rfl,by decide+kernel,by decide+kernel,by decide+kernel,by decide+kernel,by decide+kernel⟩
def Mm (K:Fg)(zl:Addr)(zs:List Int)(pt:Rd->Int):List V->Hp->VK->Prop:=λvs H Q=>∃p cs x1 rv r last,vs=[.ref p,x1,rv,.int last]/\aC K H zl @ch/\gA K H p cs/\1<=cs.length/\cs.length<=3/\bM K H rv (Rd.d r)/\0<=pt r/\pt r<(zs.length:Int)/\(∀z∈zs,0<=z/\z<(cs.length:Int))/\∀b H',aq H H'->H' b=some (.tup [.int (sf @gY (zs.getD (pt r).toNat 0)),.int last])->Q (.ref b) H'
theorem aC.hid {H:Hp}{cs:List Addr}(I:∀c∈cs,∃φ,H c=some (.ext φ)){a:Addr}{xs:List V}(h:aC K H a xs):aC K @dP a xs:=by
 rcases h with (h|⟨o,h⟩)|h
 ·exact .inl (.inl (wG I (λφ z=>by cases z) h))
 ·exact .inl (.inr ⟨o,wG I (λφ z=>by cases z) h⟩)
 ·exact .inr h
theorem az.hid {H:Hp}{cs:List Addr}(I:∀c∈cs,∃φ,H c=some (.ext φ)){a:Addr}{xs:List V}(h:az K H a xs):az K @dP a xs:=by
 rcases h with (h|⟨o,h⟩)|h
 ·exact .inl (.inl (wG I (λφ z=>by cases z) h))
 ·exact .inl (.inr ⟨o,wG I (λφ z=>by cases z) h⟩)
 ·exact .inr h
theorem bM.hid {H:Hp}{cs:List Addr}(I:∀c∈cs,∃φ,H c=some (.ext φ)){x:V}{d:D}(h:bM K H x d):bM K @dP x d:=by
 induction h with
 |non=>exact .non
 |bl a=>exact .bl a
 |int a=>exact .int a
 |str a=>exact .str a
 |lst h hl hi ih=>exact .lst (aC.hid I h) hl λi x d R O=>ih i x d R O
 |tup h hl hi ih=>exact .tup (az.hid I h) hl λi x d R O=>ih i x d R O
theorem av.hid {H:Hp}{cs:List Addr}(I:∀c∈cs,∃φ,H c=some (.ext φ)){xs:List V}{ds:List D}(h:av K H xs ds):av K @dP xs ds:=Paired.imp' (λ_ _ z=>bM.hid I z) h
theorem KP {zl:Addr}{zs:List Int}{F:Rd->Int}(cs:List Addr)(vs:List V)(H:Hp)(Q:VK)(I:∀c∈cs,∃φ,H c=some (.ext φ))(h:Mm K zl zs F vs H Q):Mm K zl zs F vs @dP (λv H2=>(∀c∈cs,H2 c=none)->Q v @da):=by
 obtain ⟨p,G,Y,rv,r,j,e,h1,⟨xs,h2,L⟩,S,c3,Z,O,W,hz,q⟩:=h;rwa[⟨p,G,Y,rv,r,j,e,aC.hid I h1,⟨xs,h2.imp (aC.hid I) (az.hid I),av.hid I L⟩,S,c3,bM.hid I Z,O,W,hz,λb H' J U R=>q b _ (zm J) ?_⟩];unfold unhid;rw [if_neg λz=> ?_]
 ·exact U
 ·rw [R b z] at U;cases U
theorem wn {c:Addr}:∀x d,[(("lifts":Str),c)].lookup x=some d->x∈(["lifts"]:List Str):=λx d e=>by
 rw [lookup_cons] at e
 cases h:x==("lifts":Str) with
 |true=>rw [eq_of_beq h];exact .head _
 |false=>rw [h] at e;cases e
theorem JF {c:Addr}:∀x y d,[(("lifts":Str),c)].lookup x=some d->[(("lifts":Str),c)].lookup y=some d->x=y:=λx y d R O=>by
 rw [mem_singleton.mp (wn x d R),mem_singleton.mp (wn y d O)]
theorem Kn {zs:List Int}{i:Nat}(h:i<zs.length):(zs.map V.int)[i]? =some (.int (zs.getD i 0)):=by
 rw [getElem?_map,getD_eq_getElem?_getD,getElem?_eq_getElem h];rfl
theorem GL {zs:List Int}{i:Nat}(h:i<zs.length):zs.getD i 0∈zs:=by
 rw [getD_eq_getElem?_getD,getElem?_eq_getElem h];exact getElem_mem h
abbrev Z06:=λP w K mg base=>aV P w K mg base 2 "serving_from" ["cabins","first"] (EB K)
theorem Du {f c' c zl:Addr}{ctv:Value}{zs:List Int}(J:0<zs.length)(bp:mg "len"=none)(ff:Z06 P w K mg base):sS P w K mg base 4 f (Ld P w f c' (NB mg [("lifts",c)] c' ctv) qF [("lifts",c)] ["lifts"] [.ref zl] 4 (Mm K zl zs λr=>r.t% (zs.length:Int))):=by
 rwa[Ke (k:=3) Tr (λZ W=>match Z,W with|[_,_,_,_],_=>rfl) rfl wn JF KP (λA outer s H vs Q hr h=> ?_)];obtain ⟨p,L,x1,rv,r,j,rfl,I,Y,c1,R,ab,G,S,z,q⟩:=h;obtain ⟨ra,rfl,F⟩:=MI ab;have G:0<=r.t% (zs.length:Int):=G;have S:r.t% (zs.length:Int)<(zs.length:Int):=S;rwa[⟨_,@a,?_⟩];obtain ⟨i,hi⟩:=Int.eq_ofNat_of_zero_le G
 have bA:i<zs.length:=by lia
 have q:∀b H',aq H H'->H' b=some (.tup [.int (sf (eu L) (zs.getD (r.t% (zs.length:Int)).toNat 0)),.int j])->Q (.ref b) H':=q;rw [hi] at q;rwa[ae F rfl ?_];rwa[bZ I ?_];rw [length_map];rwa[⟨by lia,?_⟩];rwa[aW I (v:= .int (zs.getD i 0)) (by rw [hi];exact bW (Kn bA)) ?_];rwa[EB.mk _ _ _ rfl Y c1 R (z _ (GL bA)).1 ?_];exact bD (be (by show 2<=1000000;decide)) λb H2 U n2 O=>q b H2 U O
theorem AS:(s!"0123456789").cps.toList=yr:=by decide+kernel
theorem J6 (c:Nat):c∈yr↔48<=c/\c<=57:=by
 unfold yr;simp only [mem_cons,not_mem_nil,or_false];omega
unseal iF BM in
theorem Ci (c:Nat):iF ⟨#[c]⟩ @fY=decide (c∈yr):=by
 unfold iF;rw [PySem.StrLaws.found_one,AS]
noncomputable def Ss:Option Int->V
 |none=> .non
 |some n=> .int n
theorem Ql (c:Nat):((⟨#[c]⟩:Str)=s!"0")↔c=48:=by
 constructor
 ·intro e;have z:[c]=[48]:=(congrArg (λs:Str=>s.cps.toList) e).trans @f;exact (List.cons.inj z).1
 ·rintro rfl;decide+kernel
inductive Mh (vs:List V)(H:Hp)(Q:VK)(_e:XK):Prop
 |mk (x:Str) (_:vs=[.str x]) (_:x.length<=640) (_:∀H',aq H H'->Q (.bl (D5 x)) H')
theorem Qm (F:Z0 K "writes_number" gw f fd)(bp:mg "len"=none)(NH:mg "all"=none){Z Y:Tok}(j4:mg "MOST_FIGURES"=some (.int 9 Z))(yn:mg "FIGURES"=some (.str "0123456789" Y)):
 ay P w K mg base bd 1 f fd ["text"] Mh:=by
 have I:aF (.int 9) (.int 9 Z):=⟨_,rfl⟩;have J:aF (.str "0123456789") (.str "0123456789" Y):=⟨_,rfl⟩;rwa[F.ok qw @ec @q]
 ·obtain ⟨x,rfl,_⟩:=h;rfl
 obtain ⟨x,rfl,hx,q⟩:=h;have O:x.length<=sizeLine:=EN hx;have ad:=eM x;unfold D5 at q;rwa[⟨_,(aa @eC (aa @eC (ac (ai (bb (OZ rfl rfl) rfl NH boot_all (ar (bG rfl (ax (N':=["sign"]) (pk:=[none]) @k) @a @g @s @g) ao)))))),?_⟩];rwa[⟨O,cB (λh0=> ?_) (λh0=> ?_)⟩]
 ·rw [if_pos (.inl @c)] at q;exact aP rfl (q H (.refl _))
 rwa[⟨O,cB (λh9=> ?_) (λh9=> ?_)⟩]
 ·rw [if_pos (.inr @c)] at q;exact q H (.refl _)
 rw [if_neg @c] at q;obtain ⟨c,R⟩:∃c,x.cps.toList[0]? =some c:=⟨x.cps.toList[0],by simp [getElem?_eq_getElem (show 0<x.cps.toList.length by lia)]⟩;rw [R] at q;rwa[pL O (bW (j:=0) R) ?_]
 have eK:(∀H',aq H H'->Q (.bl (x.cps.toList.all λc=>decide (c∈yr))) H')->∀H0:Hp,aq H H0->wT (Q8 x) [none] (oW 0) Pu (Pz (RS K false) (LU 0) (tC (V.str "0123456789"))) [some (V.str x)] H0 λv H1=>PB [some (V.str x)] H1 λxs H2=>Pm K (v::xs) H2 Q:=by
  intro hq H0 W;rwa[yB (λi ys HX=>aq H HX/\ys=(x.cps.toList.take i).map λc=>V.bl (decide (c∈yr))) (by show x.length<=sizeLine;exact O) (λi ys H p=>by rw [p.2,length_map,length_take];lia) ⟨W,rfl⟩ ?_ ?_]
  ·intro i c ys H R p;rwa[⟨PU,?_⟩]
   have af:x.cps.toList[i]? =some c:=by rw [Array.getElem?_toList];exact R
   rwa[⟨p.1,?_⟩];show ys++[V.bl (iF ⟨#[c]⟩ @fY)]=_;rw [Ci,p.2,take_add_one,af,map_append];rfl
  ·intro ys H p q U;rwa[QW (bs:=x.cps.toList.map λc=>decide (c∈yr)) ?_ ?_]
   ·rwa[aC.of ?_];rw [ag,p.2];have e:x.cps.toList.take x.cps.size=x.cps.toList:=take_of_length_le @e;rw [e,map_map];rfl
   ·rw [all_map];exact hq _ (p.1.trans (.upd U))
 by_cases G:c=48
 ·rwa[cZ ((Ql c).mpr G) (nZ @eb @eb)]
  ·have L:x≠s!"0":=by simpa using S
   rw [if_pos ⟨by rw [G],L⟩] at q;exact q H (.refl _)
  ·have L:x=s!"0":=by simpa using S
   rw [if_neg (by intro z;exact z.2 L)] at q;exact eK q H (.refl _)
 ·rwa[bB (λz=>G ((Ql c).mp z)) (aG rfl ?_)];rw [if_neg (by intro z;exact G (Option.some.inj z.1))] at q;exact eK q H (.refl _)
theorem oC {x:Str}(h:D5 x=true):PySem.NumText.AllDigits x.cps.toList/\x.cps.toList≠[]/\x.length<=9:=by
 have aa:=eM x;unfold D5 at h;by_cases F:x.length=0\/9<x.length
 ·rw [if_pos F] at h;cases h
 rw [if_neg F] at h;by_cases h1:x.cps.toList[0]? =some 48/\x≠s!"0"
 ·rw [if_pos h1] at h;cases h
 rw [if_neg h1] at h;rwa[⟨λc I=>(J6 c).mp (of_decide_eq_true (all_eq_true.mp h c I)),λz=> ?_,by lia⟩];rw [z] at aa;simp at aa;lia
inductive EC (vs:List V)(H:Hp)(Q:VK)(_e:XK):Prop
 |mk (x:Str) (_:vs=[.str x]) (_:x.length<=640) (_:∀H',aq H H'->Q (Ss (Bu x)) H')
theorem Nf (F:Z0 K "number_of" m6 f fd)(J:mg "int"=none)(O:aV P w K mg base 1 "writes_number" ["text"] Mh):ay P w K mg base bd 2 f fd ["text"] EC:=by
 rwa[F.ok zL (by symm) (λI A outer s H R Q E S h=> ?_)];obtain ⟨x,rfl,j,q⟩:=h;rwa[⟨_,(ac (ai (A6 @a (aL Ee rfl J boot_int @fZ) Al))),?_⟩];rwa[Mh.mk _ rfl j λH' L=> ?_];have z:=q H' L;unfold Bu Gi at z;rwa[nZ (λG=> ?_) (λG=> ?_)]
 ·rw [if_pos G] at z;exact NY (PySem.intText_digits (oC G).1 (oC G).2.1 @c) j z
 ·rw [if_neg (by rw [G];decide)] at z;exact z
theorem ya {w:Str}{j:List Int}(G:w.length<=10)(h:∀i∈j,0<=i/\i<=9)(W:j.length<=100):(oO w j).length<=2000:=by
 have h1:=PySem.StrLaws.join_length_le Mi (w::j.map pE);have L:(w::j.map pE).length*Mi.length<=(w::j.map pE).length*1:=Nat.mul_le_mul_left _ @b
 have h2:∀z:List Int,(∀i∈z,0<=i/\i<=9)->((z.map pE).map (·.length)).sum<=z.length:=by
  intro z Z
  induction z with
  |nil=>exact Nat.le_refl _
  |cons i z ih=>
   have:=ih λx F=>Z x (.tail _ F);have:=(rD (Z i (.head _)).1 (Z i (.head _)).2).2.1;simp only [map_cons,sum_cons,length_cons] at *;lia
 have:=h2 j h;unfold oO;simp only [map_cons,sum_cons,length_cons,length_map] at *;lia
structure Dq where
 G:Hp->Prop
 L:Hp->Prop
 p:List Cb->List aI->aI->Int->Prop
 d:sR
 gT:GT G
 lN:∀H H',bE H H'->L H->L H'
noncomputable def yG (c:Cb):A4:=⟨c.pl,c.li,c.dr,c.mr,c.ps⟩
noncomputable def Tl (r:aI):Rd:=⟨r.tag,r.start,r.goal,r.lift⟩
noncomputable def Rj (zs:List Int)(cs:List Cb)(t:Int):Int:=sf (eu (cs.map yG)) (zs.getD (t% (zs.length:Int)).toNat 0)
noncomputable def j5 (zs:List Int):sR:=λcs _ r last=>(Rj zs cs r.tag,last)
def Sq (zs:List Int):List Cb->List aI->aI->Int->Prop:=λcs _ _ _=>1<=cs.length/\cs.length<=3/\0<zs.length/\∀z∈zs,0<=z/\z<(cs.length:Int)
structure Lx where
 f:Addr
 c':Addr
 c:Addr
 zl:Addr
 ctv:Value
def tY (mg:Str->Option Value)(x:Lx)(H:Hp):Prop:=H x.f=some (tZ x.f (NB mg [("lifts",x.c)] x.c' x.ctv))/\H x.c'=some (uc x.c' qF)/\H x.c=some (A3 x.c (.ref x.zl))
theorem tY.st {x:Lx}{H H':Hp}(s:aK H H')(h:tY mg x H):tY mg x H':=⟨s _ _ (λ_ z=>by cases z) (λ_ _ _ z=>by cases z) h.1,s _ _ (λ_ z=>by cases z) (λ_ _ _ z=>by cases z) h.2.1,s _ _ (λ_ z=>by cases z) (λ_ _ _ z=>by cases z) h.2.2⟩
noncomputable def dq (mg:Str->Option Value)(zs:List Int)(x:Lx):Dq:=⟨λH=>tY mg x H,λH=>H x.zl=some (.lst @ch),Sq zs,j5 zs,λ_ _ s h=>tY.st s h,λ_ _ s h=>s _ _ (λ_ z=>by cases z) h⟩
theorem BZ {H:Hp}{tc:Addr}{xs:List V}{cs:List Cb}(h1:aC K H tc xs\/az K H tc xs)(h2:Paired (bv K H) xs cs):gA K H tc (cs.map yG):=by
 rwa[⟨xs,h1,?_⟩];rw [map_map];rwa[PySem.Paired.of (by rw [length_map];exact h2.len) λi x d R O=> ?_];rw [getElem?_map] at O;obtain ⟨c,I,t,rfl,z⟩:=h2.get1 R;rw [I] at O;cases O;exact z.den
theorem Oc (bp:mg "len"=none)(I:Z06 P w K mg base){zs:List Int}(Z:0<zs.length)(j:Lx):sS P w K mg base 5 j.f (xK K (dq mg zs j).G (dq mg zs j).L (dq mg zs j).p (dq mg zs j).d):=by
 rwa[(Du (f:=j.f) (c:=j.c) (c':=j.c') (zl:=j.zl) (ctv:=j.ctv) Z bp I).imp @b λvs H Q E h=> ?_];obtain ⟨tc,O,x,R,ws,r,z,xs,ys,rfl,h1,h2,h3,h4,U,hx,W,⟨c1,S,_,Y⟩,q⟩:=h;have af:tY mg j H:=hx;rwa[⟨af.1,af.2.1,λi y v F J=> ?_,rfl,tc,R.map yG,.ref O,x,Tl r,z,rfl,aC.of W,BZ (.inr (az.of h1)) h2,by rw [length_map];exact c1,by rw [length_map];exact S,U,Int.emod_nonneg _ @c,Int.emod_lt_of_pos _ @c,by rw [length_map];exact Y,λb H' s e=>q b H' s.nt (tY.st s.st af) e⟩]
 match i,F,J with
 |0,F,J=>cases F;cases J;exact ⟨j.c,rfl,af.2.2⟩
inductive Mj (K:Fg)(vs:List V)(H:Hp)(Q:VK)(_e:XK):Prop
 |mk (l h hs is:_) (_:vs=[.ref l,.ref h]) (_:aC K H l ((List.map pE is).map V.str)) (_:iN K H h hs) (_:(∀i∈is,0<=i/\i<(hs.ls.length:Int))) (_:is.length<=100) (_:∀l' H',aq H H'->H' l'=some (.lst (is.map V.int))->Q (.ref l') H')
theorem Qo {jm:Addr}(F:Z0 K "read_lifts" kq f fd)(bp:mg "len"=none)(Dc:mg "any"=none)(jI:mg "NoDeal"=some (.ref jm))(jG:W.excIn K jm [.type "ValueError",.type "Exception",.type "BaseException",.type "object"] "ValueError.__new__"=true)(rR:aV P w K mg base 2 "number_of" ["text"] EC):ay P w K mg base @ck 3 f fd ["words","house"] (Mj K):=by
 rwa[F.okX oH (by symm) @q];obtain ⟨l,h,hs,z,rfl,hL,hH,S,bA,q⟩:=h;obtain ⟨ho,p,ls,hh,hp,hl⟩:=hH;have n3:=ho.l3;have hl:=hl.len;rwa[⟨_,(aa (cu (i:=2) rfl oH.nd rfl @l (ax (N':=["word"]) (pk:=[none]) @k) @a @g @s @g) (aa (au (fW rfl (bb (K9 rfl rfl) rfl Dc boot_any (ar (bG rfl (ax (N':=["lift","house"]) (pk:=[none,some 1]) @k) @a @g @s @g) ao))) (ac (lO im rfl jG PySem.F.excBase_ValueError rfl jI (ar aT ao))) ak) @cI)),?_⟩];rwa[bL hL ?_]
 have G:((z.map pE).map V.str).length=z.length:=by rw [length_map,length_map]
 rwa[bf (xs:=(z.map pE).map V.str) (λi zs I=>aq H I/\zs=(z.take i).map V.int) (be (by rw [G];lia)) (λi zs I O=>by rw [O.2,length_map,length_take];exact Nat.min_le_left _ _) ⟨.refl _,rfl⟩ (λi zs I _ O=>O.1.seq hL) (λi x zs I j O=> ?_) (λzs I O U n2=> ?_)]
 ·obtain ⟨Z,rfl⟩:=O;rw [map_map,getElem?_map] at j;obtain ⟨v,Y,rfl⟩:=Option.map_eq_some_iff.mp j;obtain ⟨v0,v1⟩:=S v (mem_of_getElem? Y);rwa[⟨bc,?_⟩];rwa[EC.mk (pE v) rfl (by rw [(rD v0 @c).2.1];decide) λH2 s2=> ?_];rw [J0 v0 @c];rwa[⟨Z.trans s2,?_⟩];rw [take_add_one,Y,map_append];rfl
 obtain ⟨Z,rfl⟩:=O;rw [G,take_of_length_le @h];generalize al:upd I U _=H2
 have s2:aq I H2:=by rw [<-al];exact .upd n2
 have e2:H2 U=some (.lst (z.map V.int)):=by rw [<-al];exact ag
 clear al;rwa[bL @fw ?_];have R:=Z.trans s2;rwa[bf (xs:=z.map V.int) (λi zs J=>J=H2/\zs=List.replicate i (V.bl false)) (be (by rw [length_map];lia)) (λi zs J O=>by rw [O.2,length_replicate];exact Nat.le_refl _) ⟨rfl,rfl⟩ (λi zs J _ O=>by rw [O.1];exact aC.of e2) (λi x zs J j O=> ?_) (λzs J O l3 L=> ?_)]
 ·obtain ⟨rfl,rfl⟩:=O;rw [getElem?_map] at j;obtain ⟨v,Y,rfl⟩:=Option.map_eq_some_iff.mp j;obtain ⟨v0,v1⟩:=S v (mem_of_getElem? Y);rwa[⟨bc,?_⟩];rwa[aG rfl ?_];rwa[ae (R.seqT hh) rfl ?_];rwa[eX (R.seqT hp) ?_];rwa[⟨rfl,?_⟩];rw [List.replicate_succ'];congr 1;show [V.bl (decide (v≥(ls.length:Int)))]=[V.bl false];rw [decide_eq_false @c]
 obtain ⟨rfl,rfl⟩:=O;erw[Lu (bs:=List.replicate (z.map V.int).length false) (aC.of (by rw [ag,List.map_replicate])) ?_]
 have ef:(List.replicate (z.map V.int).length false).any id=false:=by
  rw [any_eq_false];intro b hb;rw [(List.mem_replicate.mp hb).2];decide
 rwa[aG ef ?_];exact q U _ (R.trans (.upd L)) ((aq.upd L) _ _ e2)
def vm:Sp:=λ_ _ _ _=>False
theorem JG (F:Z0 K "zone_of" Bm f fd):ay P w K mg base bd 1 f fd ["lifts"] vm:=QI
def HU (n:Nat)(zs:List Int):Prop:=1<=zs.length/\zs.length<=9/\∀z∈zs,0<=z/\z<(n:Int)
def EK (K:Fg)(mg:Str->Option Value)(Pf:Addr):Sp:=λvs H Q _=>∃zs h hs,vs=[.str (oO fo zs),.ref h]/\iN K H h hs/\HU hs.ls.length zs/\gQ H Pf qF/\∀x H',bE H H'->tY mg x H'->H' x.zl=some (.lst @ch)->Q (.ref x.f) H'
theorem Tv {Pf:Addr}{zs:List Int}{h:Addr}{hs:Hs}{H:Hp}{Q:VK}{E:XK}(h1:iN K H h hs)(h2:HU hs.ls.length zs)(L:gQ H Pf qF)(g:∀x H',bE H H'->tY mg x H'->H' x.zl=some (.lst @ch)->Q (.ref x.f) H'):EK K mg Pf [.str (oO fo zs),.ref h] H Q E:=⟨zs,h,hs,rfl,h1,h2,L,g⟩
theorem Qt {jm O J G Pf:Addr}{t1:Tok}(F:Z0 K "dealer_of" nK f fd)(bp:mg "len"=none)(oV:mg "MOST_FIXED"=some (.int 9 t1))(jI:mg "NoDeal"=some (.ref jm))(jG:W.excIn K jm [.type "ValueError",.type "Exception",.type "BaseException",.type "object"] "ValueError.__new__"=true)(GP:mg "near"=some (.ref O))(AN:mg "least"=some (.ref J))(oh:mg "by_turns"=some (.ref G))(fV:DS P w K mg base 3 "read_lifts" ["words","house"] (Mj K))(rP:aV P w K mg base 1 "zone_of" ["lifts"] vm)(ow:aV P w K mg base 1 "fixed_of" ["lifts"] (PV Pf qF "lifts" (NB mg))):ay P w K mg base @ck 4 f fd ["text","house"] (EK K mg Pf):=by
 have I:aF (.int 9) (.int 9 t1):=⟨_,rfl⟩;rwa[F.okX zV @ec @M]
 ·obtain ⟨zs,h,hs,rfl,_⟩:=h;rfl
 obtain ⟨zs,h,hs,rfl,hH,⟨i1,i9,S⟩,hT,q⟩:=h;rwa[⟨_,(aa (au @a (ac (ai (pO rfl GP))) ak) (aa (au @a (ac (ai (pO rfl AN))) ak) (aa (au @a (ac (ai (pO rfl oh))) ak) (aa @a (aa @a (aa (au @a (ac (ai (b9 rP hr @b rfl (ar (FC im fV hr @b rfl (ar (wv 3) @bz)) ao)))) ak) (aa (au @a (ac (ai (b9 ow hr @b rfl (ar (FC im fV hr @b rfl (ar (wv 3) @bz)) ao)))) ak) (ac (lO im rfl jG PySem.F.excBase_ValueError rfl jI (ar (mI (Aj (wv 0) (Ai Ak))) ao)))))))))),?_⟩];have aR:=hH;obtain ⟨ho,p,ls,hh,hp,hl⟩:=hH;have l3:=ho.l3;have h9:∀i∈zs,0<=i/\i<=9:=λi hi=>⟨(S i hi).1,by have:=(S i hi).2;lia⟩;have hw:=D9 (w:=fo) @f h9;have Z:=ya (w:=fo) @b h9 @c;obtain ⟨x,hx⟩:∃x,x=oO fo zs:=⟨_,rfl⟩;rw [<-hx] at hw Z ⊢
 have no:∀ {y:Str},Rb y=[y]->y≠fo-> ¬x=y:=λ{y} hy hn e=>by
  rw [e,hy] at hw;exact hn (List.cons.inj hw).1
 rwa[bB (no @f @f) ?_];rwa[bB (no @f @f) ?_];rwa[bB (no @f @f) ?_];rwa[⟨rfl,?_⟩];rwa[⟨⟨rfl,be @c⟩,λl1 aj=> ?_⟩];generalize L:upd H l1 _=H1
 have s1:aq H H1:=by rw [<-L];exact .upd aj
 have e1:H1 l1=some (.lst (V.str fo::(zs.map pE).map V.str)):=by rw [<-L,ag];show some (HO.lst ((Rb _).map V.str))=_;rw [hw];rfl
 clear L;rwa[Bl @cy λl2 H2 s2 n2 e2=> ?_];rw [uJ] at e2;have Y:aC K H2 l1 (V.str fo::(zs.map pE).map V.str):=aC.of (s2 _ _ e1);have R:=s1.trans s2;rwa[aW Y (v:= .str fo) @fX ?_];rwa[bB @f ?_];rwa[aG rfl ?_];rwa[aW Y (v:= .str fo) @fX ?_];rwa[aP rfl ?_];rwa[bZ @fw ?_];rw [length_map,length_map];rwa[cZ @c ?_];rwa[cZ @c ?_];rwa[Mj.mk _ _ _ _ rfl @fw (aR.same R) S @c λl3 H3 s3 e3=> ?_];have tz:=hT.same (R.trans s3);rwa[⟨_,rfl,tz,λf c' ab c H' sp hf ef ec U ae=> ?_⟩];obtain ⟨ps,ad,_⟩:=id tz;have sN:=sp.nt ad;exact q ⟨f,c',c,l3,ab⟩ H' ((R.trans s3).nt.trans sN) ⟨ef,ec,U⟩ (sN _ _ (λ_ z=>by cases z) e3)
seal EK vm
theorem qZ {H H':Hp}{l:Addr}(s:aq H H')(n:H' l=none):H l=none:=by
 cases z:H l with
 |none=>rfl
 |some o=>rw [s _ _ z] at n;cases n
abbrev Ov (K:Fg)(H:Hp)(b:Addr)(l:Lf):Prop:=az K H b [.int l.st,.int l.rm,.int l.tn,.str l.kd]
inductive kg (K:Fg)(vs:List V)(H:Hp)(Q:VK)(_e:XK):Prop
 |mk (x r:_) (_:vs=[x]) (_:bM K H x @fj) (_:Q (.int @eM) H)
theorem JP (F:Z0 K "_law_way" Fd f fd):ay P w K mg base bd 1 f fd ["_law_rider_here"] (kg K):=by
 rwa[F.ok Mw (by symm) @bc];obtain ⟨x,r,rfl,j,q⟩:=h;obtain ⟨a,rfl,L⟩:=bU j;rwa[⟨_,(aa @gh (ac (ai @fx))),?_⟩];rwa[ae L rfl ?_];rwa[ae L rfl ?_];unfold iL at q;rwa[cB @i @i]
 ·rw [if_pos z] at q;exact q
 ·rw [if_neg z] at q;exact q
noncomputable def Cf (rm:Int)(ps:List (Int×Int))(rs:List aI):List Int:=ps.map (·.2)++if (ps.length:Int)<rm then rs.map (·.start) else []
theorem Bd {rm:Int}{ps:List (Int×Int)}{rs:List aI}{x:Int}:tk rm ps rs x=decide (x∈Cf rm ps rs):=by
 unfold tk Cf;rw [Bool.eq_iff_iff,decide_eq_true_eq,Bool.or_eq_true,Bool.and_eq_true,mem_append,decide_eq_true_eq,any_eq_true,any_eq_true];constructor
 ·rintro (⟨p,G,e⟩|⟨W,r,S,e⟩)
  ·exact .inl (mem_map.mpr ⟨p,G,of_decide_eq_true e⟩)
  ·exact .inr (by rw [if_pos W];exact mem_map.mpr ⟨r,S,of_decide_eq_true e⟩)
 ·rintro (h|h)
  ·obtain ⟨p,G,e⟩:=mem_map.mp h;exact .inl ⟨p,G,decide_eq_true e⟩
  ·split at h
   ·rename_i W;obtain ⟨r,S,e⟩:=mem_map.mp h;exact .inr ⟨W,r,S,decide_eq_true e⟩
   ·cases h
theorem je {H:Hp}{x:V}{p:Int×Int}(h:bM K H x (d5 p)):∃a,x= .ref a/\az K H a [.int p.1,.int p.2]:=by
 obtain ⟨a,xs,rfl,h1,h2⟩:=bM.outT h
 cases h2 with|cons q0 t0=>cases t0 with|cons q1 t1=>
 cases t1;cases q0.isInt;cases q1.isInt;exact ⟨a,rfl,h1⟩
inductive qf (K:Fg)(vs:List V)(H:Hp)(Q:VK)(_e:XK):Prop
 |mk (lp c rl l pl li dr mr ps xs:_) (rs:List aI) (_:vs=[.ref lp,.ref c,.ref rl]) (_:Ov K H lp l) (_:bo K H c pl li dr mr ps) (_:H rl=some (.lst xs)) (_:av K H xs @P) (_:ps.length<=64) (_:rs.length<=64) (_:∀t H',aq H H'->H' t=some (.lst ((Cf l.rm ps rs).map V.int))->Q (.ref t) H')
theorem CN (F:Z0 K "_law_tasks" vS f fd)(bp:mg "len"=none):ay P w K mg base bd 1 f fd ["_law_lift_here","_law_cabin_here","_law_riders"] (qf K):=by
 rwa[F.ok xR (by symm) @M];obtain ⟨lp,c,rl,l,pl,li,dr,mr,ps,xs,L,rfl,hl,hc,I,hd,al,ah,q⟩:=h;obtain ⟨ab,bs,ad,eb,db⟩:=hc;have bl:bs.length=ps.length:=aE db;have xl:xs.length=L.length:=aE hd;rwa[⟨_,(aa (cu (i:=3) rfl xR.nd rfl @l @bR @a @g @s @g) (bV (au @a (ac (aJ (fY rfl PySem.F.plainAttrs_list PySem.F.slot_list_extend PySem.F.type_list_extend iR (wv 3) (ar (bG rfl (ax (N':=["_law_one"]) (pk:=[none]) @k) @a @g @s @g) ao)))) ak) (ac (ai (wv 3))))),?_⟩];rwa[ae @cz rfl ?_];rwa[d9 @cV ?_];rwa[dD (xs:=bs) (λi G j=>j=H/\G=((ps.take i).map (·.2)).map V.int) @bb (λi G j h=>by rw [h.2,length_map,length_map,length_take];exact Nat.min_le_left _ _) ⟨rfl,rfl⟩ (λi G j _ h=>by rw [h.1];exact az.of eb) @cv (λG j h J n1=> ?_)]
 ·obtain ⟨rfl,rfl⟩:=h;obtain ⟨p,hp,dp⟩:=bi db S;obtain ⟨a,rfl,Z⟩:=je dp;rwa[⟨bc,?_⟩];rwa[ae Z rfl ?_];exact ⟨rfl,by rw [take_add_one,hp,map_append,map_append];rfl⟩
 obtain ⟨rfl,rfl⟩:=h;rw [bl,take_length];generalize W:upd j J _=H1
 have O:aq j H1:=by rw [<-W];exact .upd n1
 have R:H1 J=some (.lst ((ps.map (·.2)).map V.int)):=by rw [<-W];exact ag
 clear W;rwa[fz (λσ H2=>aq j H2/\H2 J=some (.lst ((Cf l.rm ps L).map V.int))/\σ=[some (.ref lp),some (.ref c),some (.ref rl),some (.ref J)]) ?_ ?_]
 ·rwa[bZ @cH ?_];rw [length_map,length_map];rwa[ae (O.seqT hl) rfl ?_];unfold Cf;rwa[cB @i @i]
  ·rw [if_pos z];rwa[⟨.inl ⟨rfl,_,aC.of R⟩,?_⟩];rwa[bL (aC.of (O _ _ I)) ?_];rwa[bf (xs:=xs) (λi G j=>j=H1/\G=((L.take i).map (·.start)).map V.int) @bb (λi G j h=>by rw [h.2,length_map,length_map,length_take];exact Nat.min_le_left _ _) ⟨rfl,rfl⟩ (λi G j _ h=>by rw [h.1];exact aC.of (O _ _ I)) @cv (λG j h l2 n2=> ?_)]
   ·obtain ⟨rfl,rfl⟩:=h;obtain ⟨r,U,Y⟩:=bi hd S;obtain ⟨a,rfl,Z⟩:=bU (bM.same Y O);rwa[⟨bc,?_⟩];rwa[ae Z rfl ?_];exact ⟨rfl,by rw [take_add_one,U,map_append,map_append];rfl⟩
   obtain ⟨rfl,rfl⟩:=h;rw [xl,take_length];generalize aj:upd j l2 _=H3
   have s3:aq j H3:=by rw [<-aj];exact .upd n2
   have e3:H3 l2=some (.lst ((L.map (·.start)).map V.int)):=by rw [<-aj];exact ag
   clear aj;rwa[BO (s3 _ _ R) e3 (be (by rw [length_map,length_map,length_map,length_map];lia)) ?_];exact ⟨aq.updF (O.trans s3) n1,by rw [ag,map_append],rfl⟩
  ·rw [if_neg z,append_nil];exact ⟨O,R,rfl⟩
 rintro σ' H2 ⟨s2,e2,rfl⟩;exact q J H2 s2 e2
inductive vx (K:Fg)(vs:List V)(H:Hp)(Q:VK)(_e:XK):Prop
 |mk (so c rl tl pl li dr mr ps xs rm:_) (rs:List aI) (_:vs=[.str so,.ref c,.ref rl,.ref tl]) (_:bo K H c pl li dr mr ps) (_:H rl=some (.lst xs)) (_:av K H xs @P) (_:H tl=some (.lst ((Cf rm ps rs).map V.int))) (_:ps.length<=64) (_:rs.length<=64) (_:∀H',aq H H'->Q (.int (dL so li (tk rm ps rs (pl / 2)) (yV ps (pl / 2)) (xo rs (pl / 2) li))) H')
theorem Oo {ps:List (Int×Int)}{x:Int}:yV ps x=decide (x∈ps.map (·.2)):=by
 unfold yV;rw [Bool.eq_iff_iff,any_eq_true,decide_eq_true_eq,mem_map];exact ⟨λ⟨p,G,e⟩=>⟨p,G,of_decide_eq_true e⟩,λ⟨p,G,e⟩=>⟨p,G,decide_eq_true e⟩⟩
noncomputable def K0 (rs:List aI)(x:Int):List Int:=(rs.filter λr=>decide (r.start=x)).map λr=>iL r.start r.goal
theorem On {rs:List aI}{x li:Int}:xo rs x li=decide (li∈K0 rs x):=by
 unfold xo K0;rw [Bool.eq_iff_iff,any_eq_true,decide_eq_true_eq,mem_map];constructor
 ·rintro ⟨r,S,e⟩;rw [Bool.and_eq_true,decide_eq_true_eq,decide_eq_true_eq] at e;exact ⟨r,mem_filter.mpr ⟨S,decide_eq_true e.1⟩,e.2⟩
 ·rintro ⟨r,S,e⟩;obtain ⟨h1,h2⟩:=mem_filter.mp S;exact ⟨r,h1,by rw [Bool.and_eq_true];exact ⟨h2,decide_eq_true e⟩⟩
abbrev Z07:=λP w K mg base=>aV P w K mg base 1 "_law_way" ["_law_rider_here"] (kg K)
theorem F1 (F:Z0 K "_law_here" z8 f fd)(gM:Z07 P w K mg base):ay P w K mg base bd 2 f fd ["_law_sort","_law_cabin_here","_law_riders","_law_tasks_here"] (vx K):=by
 rwa[F.ok Jd (by symm) @M];obtain ⟨so,c,rl,tl,pl,li,dr,mr,ps,xs,rm,I,rfl,hc,J,hd,ht,aj,ah,q⟩:=h;obtain ⟨ab,bs,ad,eb,db⟩:=hc;have bl:bs.length=ps.length:=aE db;have xl:xs.length=I.length:=aE hd;rw [Bd,Oo,On] at q;unfold dL at q;rwa[⟨_,(aa @a (aa (au (bw @gu (wv 4) (wv 3) @z) @bQ ak) (aa (au (PW.pt (iC @a (iC @a (ig (bw (IB rfl) (wv 4) (bG rfl @bR @a @g @s @g) @z))))) @bQ ak) (aa (au (bw (IB rfl) @a (bG rfl (ax (N':=["_law_one","_law_floor"]) (pk:=[none,some 4]) @k) @a @g @x @g) @z) @bQ ak) @bQ)))),?_⟩];rwa[ae @cz rfl ?_];rwa[⟨rN @b @b,?_⟩];rwa[mW (aC.of ht) rfl (fB _) ?_];rw [jE];by_cases z:pl / 2∈Cf rm ps I
 ·rwa[aG (by rw [decide_eq_true z];rfl) ?_];rw [decide_eq_true z,if_neg @b] at q;by_cases L:so=s!"free"
  ·rwa[cZ L ?_];rwa[aP rfl ?_];rw [if_pos (.inl L)] at q;exact q H (.refl _)
  rwa[bB L ?_];rwa[ae @cz rfl ?_];by_cases R:li=0
  ·rwa[cZ R ?_];rwa[aP rfl ?_];rw [if_pos (.inr R)] at q;exact q H (.refl _)
  rwa[bB R ?_];rw [if_neg (λy=>y.elim L R)] at q;rwa[ae @cz rfl ?_];rwa[d9 @cV ?_];rwa[dD (xs:=bs) (λi G j=>j=H/\G=((ps.take i).map (·.2)).map V.int) @bb (λi G j h=>by rw [h.2,length_map,length_map,length_take];exact Nat.min_le_left _ _) ⟨rfl,rfl⟩ (λi G j _ h=>by rw [h.1];exact az.of eb) @cv (λG j h l1 n1=> ?_)]
  ·obtain ⟨rfl,rfl⟩:=h;obtain ⟨p,hp,dp⟩:=bi db S;obtain ⟨a,rfl,Z⟩:=je dp;rwa[⟨bc,?_⟩];rwa[ae Z rfl ?_];exact ⟨rfl,by rw [take_add_one,hp,map_append,map_append];rfl⟩
  obtain ⟨rfl,rfl⟩:=h;rw [bl,take_length];generalize W:upd j l1 _=H1
  have O:aq j H1:=by rw [<-W];exact .upd n1
  have e1:H1 l1=some (.lst ((ps.map (·.2)).map V.int)):=by rw [<-W];exact ag
  clear W;rwa[iZ @cy rfl (fB _) ?_];rw [jE];by_cases u:pl / 2∈ps.map (·.2)
  ·rwa[aP (decide_eq_true u) ?_];rw [if_pos (.inl (decide_eq_true u))] at q;exact q H1 O
  rwa[aG (decide_eq_false u) ?_];rwa[ae @bP rfl ?_];rwa[bL (aC.of (O _ _ J)) ?_];rwa[bf (xs:=xs) (λi G j=>j=H1/\G=(K0 (I.take i) (pl / 2)).map V.int) @bb (λi G j h=>by rw [h.2,length_map];unfold K0;rw [length_map];exact Nat.le_trans @B (by rw [length_take];exact Nat.min_le_left _ _)) ⟨rfl,rfl⟩ (λi G j _ h=>by rw [h.1];exact aC.of (O _ _ J)) @cv (λG j h l2 n2=> ?_)]
  ·obtain ⟨rfl,rfl⟩:=h;obtain ⟨r,U,Y⟩:=bi hd S;have Y:=bM.same Y O;obtain ⟨a,rfl,Z⟩:=bU Y
   have nx:K0 (I.take (i+1)) (pl / 2)=K0 (I.take i) (pl / 2)++if r.start=pl / 2 then [iL r.start r.goal] else []:=by
    unfold K0;rw [take_add_one,U,filter_append,map_append];congr 1;by_cases z:r.start=pl / 2
    ·simp [filter_cons,z]
    ·simp [filter_cons,z]
   rwa[⟨bc,?_⟩];rwa[ae Z rfl ?_];show if decide (r.start=pl / 2)=true then _ else _;by_cases z:r.start=pl / 2
   ·rw [if_pos @N];rwa[kg.mk _ _ rfl Y ?_];exact ⟨rfl,by rw [nx,if_pos z,map_append];rfl⟩
   ·rw [if_neg (by rw [decide_eq_false z];decide)];exact ⟨rfl,by rw [nx,if_neg z,append_nil]⟩
  obtain ⟨rfl,rfl⟩:=h;rw [xl,take_length];have s2:aq j (upd j l2 (.lst ((K0 I (pl / 2)).map V.int))):= .upd n2;rwa[iZ @gn rfl (fB _) ?_];rw [jE];by_cases v:li∈K0 I (pl / 2)
  ·rwa[aP (decide_eq_true v) ?_];rw [if_pos (.inr (decide_eq_true v))] at q;exact q _ @gI
  ·rwa[aG (decide_eq_false v) ?_];rw [if_neg (λy=>y.elim (λy=>u (of_decide_eq_true y)) (λy=>v (of_decide_eq_true y)))] at q;exact q _ @gI
 ·rwa[aP (by rw [decide_eq_false z];rfl) ?_];rw [decide_eq_false z,if_pos rfl] at q;exact q H (.refl _)
noncomputable def Ij (ts:List Int)(x:Int):List Int:=(ts.filter λt=>decide (x<t)).map λt=>t - x
noncomputable def Io (ts:List Int)(x:Int):List Int:=(ts.filter λt=>decide (t<x)).map λt=>x - t
theorem xz {ts:List Int}{i:Nat}{t x:Int}(h:ts[i]? =some t):Ij (ts.take (i+1)) x=Ij (ts.take i) x++if x<t then [t - x] else []:=by
 unfold Ij;rw [take_add_one,h,filter_append,map_append];congr 1;by_cases z:x<t
 ·simp [filter_cons,z]
 ·simp [filter_cons,z]
theorem yu {ts:List Int}{i:Nat}{t x:Int}(h:ts[i]? =some t):Io (ts.take (i+1)) x=Io (ts.take i) x++if t<x then [x - t] else []:=by
 unfold Io;rw [take_add_one,h,filter_append,map_append];congr 1;by_cases z:t<x
 ·simp [filter_cons,z]
 ·simp [filter_cons,z]
theorem BD {ts:List Int}{x u:Int}{t:Int->Bool}(J:∀y,t y=decide (y∈ts))(S:0<=x)(R:∀y∈ts,0<=y/\y<8)(h:(Ij ts x=[]/\u=0)\/(u∈Ij ts x/\∀m∈Ij ts x,u<=m)):mx t x u:=by
 have F:∀j:Int,1<=j->x+j∈ts->j∈Ij ts x:=λj h1 G=>mem_map.mpr ⟨x+j,mem_filter.mpr ⟨G,decide_eq_true @c⟩,by lia⟩
 rcases h with ⟨e,rfl⟩|⟨I,G⟩
 ·rwa[.inl ⟨rfl,λj h1 _=> ?_⟩];rw [J];rwa[decide_eq_false λz=> ?_];have:=F j h1 z;rw [e] at this;cases this
 ·obtain ⟨y,L,rfl⟩:=mem_map.mp I;obtain ⟨O,Z⟩:=mem_filter.mp L;have Z:=of_decide_eq_true Z;have:=R y O;rwa[.inr ⟨by lia,by lia,?_,λj h1 h2=> ?_⟩]
  ·rw [J,show x+(y - x)=y by lia];exact decide_eq_true O
  ·rw [J];rwa[decide_eq_false λz=> ?_];have:=G j (F j h1 z);lia
theorem BF {ts:List Int}{x u:Int}{t:Int->Bool}(J:∀y,t y=decide (y∈ts))(S:x<8)(R:∀y∈ts,0<=y/\y<8)(h:(Io ts x=[]/\u=0)\/(u∈Io ts x/\∀m∈Io ts x,u<=m)):oz t x u:=by
 have F:∀j:Int,1<=j->x - j∈ts->j∈Io ts x:=λj h1 G=>mem_map.mpr ⟨x - j,mem_filter.mpr ⟨G,decide_eq_true @c⟩,by lia⟩
 rcases h with ⟨e,rfl⟩|⟨I,G⟩
 ·rwa[.inl ⟨rfl,λj h1 _ _=> ?_⟩];rw [J];rwa[decide_eq_false λz=> ?_];have:=F j h1 z;rw [e] at this;cases this
 ·obtain ⟨y,L,rfl⟩:=mem_map.mp I;obtain ⟨O,Z⟩:=mem_filter.mp L;have Z:=of_decide_eq_true Z;have:=R y O;rwa[.inr ⟨by lia,by lia,by lia,?_,λj h1 h2=> ?_⟩]
  ·rw [J,show x - (x - y)=y by lia];exact decide_eq_true O
  ·rw [J];rwa[decide_eq_false λz=> ?_];have:=G j (F j h1 z);lia
inductive vt (K:Fg)(vs:List V)(H:Hp)(Q:VK)(_e:XK):Prop
 |mk (so lp c rl l pl li dr mr ps xs:_) (rs:List aI) (_:vs=[.str so,.ref lp,.ref c,.ref rl]) (_:Ov K H lp l) (_:bo K H c pl li dr mr ps) (_:H rl=some (.lst xs)) (_:av K H xs @P) (_:0<=pl) (_:pl<=14) (_:OE ps rs) (_:∀t up dn H',aq H H'->mx (tk l.rm ps rs) (pl / 2) up->oz (tk l.rm ps rs) (pl / 2) dn->H' t=some (.tup [.int (pl / 2),.int li,.int (dL so li (tk l.rm ps rs (pl / 2)) (yV ps (pl / 2)) (xo rs (pl / 2) li)),.int up,.int dn])->Q (.ref t) H')
theorem FX (F:Z0 K "_law_seen" z5 f fd)(ye:mg "min"=none)(rZ:aV P w K mg base 1 "_law_tasks" ["_law_lift_here","_law_cabin_here","_law_riders"] (qf K))(uQ:aV P w K mg base 2 "_law_here" ["_law_sort","_law_cabin_here","_law_riders","_law_tasks_here"] (vx K)):ay P w K mg base bd 3 f fd ["_law_sort","_law_lift_here","_law_cabin_here","_law_riders"] (vt K):=by
 rwa[F.ok vG (by symm) (λaA A outer s H vs Q E hr h=> ?_)];obtain ⟨so,lp,c,rl,l,pl,li,dr,mr,ps,xs,G,rfl,hl,hc,am,hd,p0,aD,⟨ap,au,an,ak⟩,q⟩:=h;have af:=hc;obtain ⟨ab,bs,Z,eb,db⟩:=hc;rwa[⟨_,(aa @a (aa @a (aa (cu (i:=6) rfl vG.nd rfl @l (ax (N':=["_law_task","_law_floor"]) (pk:=[none,some 4]) @k) @a @g @x @g) (aa (cu (i:=7) rfl vG.nd rfl @l (ax (N':=["_law_task","_law_floor"]) (pk:=[none,some 4]) @k) @a @g @x @g) (aa @a (ac (ai (cO (ar (wv 4) (ar @a (ar (wv 8) (ar (Bp rfl rfl rfl ye hr (wv 6) aB) (ar (Bp rfl rfl rfl ye hr (wv 7) aB) ao))))))))))))),?_⟩];rwa[ae (az.of Z) rfl ?_];rwa[⟨rN @b @b,?_⟩];rwa[qf.mk _ _ _ _ _ _ _ _ _ _ _ rfl hl af am hd an ak λtl H1 s1 S=> ?_]
 have tb:∀y∈Cf l.rm ps G,0<=y/\y<8:=λy O=>by
  unfold Cf at O
  rcases mem_append.mp O with z|z
  ·obtain ⟨p,hp,rfl⟩:=mem_map.mp z;exact ap p hp
  ·split at z
   ·obtain ⟨r,aw,rfl⟩:=mem_map.mp z;exact au r aw
   ·cases z
 have R:(Cf l.rm ps G).length<=128:=by
  unfold Cf;rw [length_append,length_map];split
  ·rw [length_map];lia
  ·simp;lia
 have hx:∀y,tk l.rm ps G y=decide (y∈Cf l.rm ps G):=λy=>Bd;generalize as:Cf l.rm ps G=U at S tb R hx;rwa[bL @fh ?_];rwa[bf (xs:=U.map V.int) (λi J j=>j=H1/\J=(Ij (U.take i) (pl / 2)).map V.int) (be (by rw [length_map];lia)) (λi J j h=>by rw [h.2,length_map];unfold Ij;rw [length_map];exact Nat.le_trans @B (by rw [length_take];exact Nat.min_le_left _ _)) ⟨rfl,rfl⟩ (λi J j _ h=>by rw [h.1];exact aC.of S) (λi y J j O h=> ?_) (λJ j h l2 n2=> ?_)]
 ·obtain ⟨rfl,rfl⟩:=h;rw [getElem?_map] at O;obtain ⟨t,ht,rfl⟩:=Option.map_eq_some_iff.mp O;rwa[⟨bc,?_⟩];show if decide (pl / 2<t)=true then _ else _;by_cases z:pl / 2<t
  ·rw [if_pos @N];exact ⟨rfl,by rw [xz ht,if_pos z,map_append];rfl⟩
  ·rw [if_neg (by rw [decide_eq_false z];decide)];exact ⟨rfl,by rw [xz ht,if_neg z,append_nil]⟩
 obtain ⟨rfl,rfl⟩:=h;rw [length_map,take_length];generalize al:upd j l2 _=H2
 have s2:aq j H2:=by rw [<-al];exact .upd n2
 have e2:H2 l2=some (.lst ((Ij U (pl / 2)).map V.int)):=by rw [<-al];exact ag
 clear al;rwa[bL (aC.of (s2 _ _ S)) ?_];rwa[bf (xs:=U.map V.int) (λi J j=>j=H2/\J=(Io (U.take i) (pl / 2)).map V.int) (be (by rw [length_map];lia)) (λi J j h=>by rw [h.2,length_map];unfold Io;rw [length_map];exact Nat.le_trans @B (by rw [length_take];exact Nat.min_le_left _ _)) ⟨rfl,rfl⟩ (λi J j _ h=>by rw [h.1];exact aC.of (s2 _ _ S)) (λi y J j O h=> ?_) (λJ j h l3 n3=> ?_)]
 ·obtain ⟨rfl,rfl⟩:=h;rw [getElem?_map] at O;obtain ⟨t,ht,rfl⟩:=Option.map_eq_some_iff.mp O;rwa[⟨bc,?_⟩];show if decide (t<pl / 2)=true then _ else _;by_cases z:t<pl / 2
  ·rw [if_pos @N];exact ⟨rfl,by rw [yu ht,if_pos z,map_append];rfl⟩
  ·rw [if_neg (by rw [decide_eq_false z];decide)];exact ⟨rfl,by rw [yu ht,if_neg z,append_nil]⟩
 obtain ⟨rfl,rfl⟩:=h;rw [length_map,take_length];generalize aj:upd j l3 _=H3
 have s3:aq j H3:=by rw [<-aj];exact .upd n3
 have e3:H3 l3=some (.lst ((Io U (pl / 2)).map V.int)):=by rw [<-aj];exact ag
 clear aj;have ad:=s1.trans (s2.trans s3);rwa[vx.mk _ _ _ _ _ _ _ _ _ _ (l.rm) _ rfl (af.same ad) (ad _ _ am) (av.same hd ad) (by rw [as];exact (s2.trans s3) _ _ S) an ak λH4 s4=> ?_];have W:=ad.trans s4;rwa[ae (az.of (W _ _ Z)) rfl ?_];have Y:∀I dn,mx @gi (pl / 2) I->oz @gi (pl / 2) dn->NA [.int (pl / 2),.int li,.int (dL so li (tk l.rm ps G (pl / 2)) (yV ps (pl / 2)) (xo G (pl / 2) li)),.int I,.int dn] H4 Q:=λI dn hu hn=>bD (be (by show 5<=1000000;decide)) λt H5 s5 n5 e5=>q t I dn H5 (W.trans s5) hu hn e5
 have ah:∀I,mx @gi (pl / 2) I->∃l' L,V.ref l3= .ref l'/\H4 l'=some (.lst (List.map V.int L))/\(L=[]->NA [.int (pl / 2),.int li,.int (dL so li (tk l.rm ps G (pl / 2)) (yV ps (pl / 2)) (xo G (pl / 2) li)),.int I,.int 0] H4 Q)/\∀n∈L,(∀m∈L,n<=m)->NA [.int (pl / 2),.int li,.int (dL so li (tk l.rm ps G (pl / 2)) (yV ps (pl / 2)) (xo G (pl / 2) li)),.int I,.int n] H4 Q:=λI hu=>
  ⟨l3,_,rfl,s4 _ _ e3,λz=>Y I 0 hu (BF hx @c tb (.inl ⟨z,rfl⟩)),λn hn hm=>Y I n hu (BF hx @c tb (.inr ⟨hn,hm⟩))⟩
 exact ⟨l2,_,rfl,(s3.trans s4) _ _ e2,λz=>ah 0 (BD hx @c tb (.inl ⟨z,rfl⟩)),λn hn hm=>ah n (BD hx @c tb (.inr ⟨hn,hm⟩))⟩
noncomputable def Rk.nm:Rk->Str
 | .sw=>s!"sweep"| .ho=>s!"homing"| .ne=>s!"nearest"| .ba _=>s!"shuttle"| .ta _=>s!"table"
noncomputable def Rk.lt:Rk->Str
 | .ta s=>s|_=>s!""
def Rk.fit (top:Int):Rk->Prop
 | .ba t=>t=top|_=>True
def Rk.tab:Rk->Prop
 | .ta _=>True|_=>False
def Ik (rk:Rk)(top fl li up dn:Int):Prop:=match rk with
 | .ne=>True
 | .ba _=>(fl=top/\li=1)\/(fl=0/\li= -1)
 |_=>(li=1/\up=0)\/(li= -1/\dn=0)
instance {rk:Rk} {top fl li up dn:Int}:Decidable (Ik rk top fl li up dn):=by cases rk<;>unfold Ik<;>infer_instance
abbrev SW (K:Fg)(H:Hp)(s:Addr)(fl li he up dn:Int):Prop:=az K H s [.int fl,.int li,.int he,.int up,.int dn]
inductive EF (K:Fg)(vs:List V)(H:Hp)(Q:VK)(_e:XK):Prop
 |mk (rk:Rk) (s:Addr) (top fl li he up dn:Int) (_:vs=[.str rk.nm,.int top,.ref s]) (_: ¬rk.tab) (_:SW K H s fl li he up dn) (_:Q (.bl (decide (Ik rk top fl li up dn))) H)
theorem Op {A B C D:Prop}[Decidable A][Decidable B][Decidable C][Decidable D]{Q:Bool->Prop}(q:∀b:Bool,(b=true↔(A/\B)\/(C/\D))->Q b):oa (decide A) (oa (decide B) (Q true) (oa (decide C) @gc (Q false))) (oa false (Q true) (oa (decide C) @gc (Q false))):=by
 have r: ¬(A/\B)->oa (decide C) @gc (Q false):=λn=>cB (λc=>q _ (by rw [decide_eq_true_eq];exact ⟨λd=> .inr ⟨c,d⟩,λz=>z.elim (λz=>absurd z n) (·.2)⟩)) (λc=>q _ ⟨λz=>Bool.noConfusion z,λz=>z.elim (λz=>absurd z n) (λz=>absurd z.1 c)⟩);exact cB (λa=>cB (λb=>q _ ⟨λ_=> .inl ⟨a,b⟩,λ_=>rfl⟩) (λb=>r λz=>b z.2)) (λa=>aG rfl (r λz=>a z.1))
theorem Ni (F:Z0 K "_law_turns_round" ia f fd):ay P w K mg base bd 1 f fd ["_law_name","_law_top","_law_seen_here"] (EF K):=by
 rwa[F.ok tI (by symm) (λO A outer s H W Q E S h=> ?_)];obtain ⟨I,s,G,fl,li,U,L,J,rfl,R,hs,q⟩:=h;rwa[⟨_,(aa (dZ (wv 2) @a) (aa @eC @fs)),?_⟩]
 have z:∀b:Bool,(b=true↔Ik I G fl li L J)->Q (.bl b) H:=λb e=>by
  rw [show b=decide (Ik I G fl li L J) by rw [Bool.eq_iff_iff,decide_eq_true_eq];exact e];exact q
 rwa[jU hs rfl ?_];obtain ⟨x,j⟩:∃x,x=I.nm:=⟨_,rfl⟩;rw [<-j]
 cases I with
 |ne=>
  rwa[cZ j ?_];exact z true ⟨λ_=>trivial,λ_=>rfl⟩
 |ba t=>
  rwa[bB (by rw [j];exact (by decide+kernel: ¬s!"shuttle"=s!"nearest")) ?_];rwa[cZ j ?_];exact Op (Q:=λb=>Q (.bl b) H) z
 |sw=>
  rwa[bB (by rw [j];decide+kernel) ?_];rwa[bB (by rw [j];decide+kernel) ?_];exact Op (Q:=λb=>Q (.bl b) H) z
 |ho=>
  rwa[bB (by rw [j];decide+kernel) ?_];rwa[bB (by rw [j];decide+kernel) ?_];exact Op (Q:=λb=>Q (.bl b) H) z
 |ta s=>exact absurd trivial R
noncomputable def BL (rk:Rk)(top fl li up dn:Int):Str:=match rk with
 | .ba _=>if li= -1 then (if 0<fl then wd else wu) else if fl<top then wu else wd
 | .ne=>if 0<up/\0<dn/\dn<up then wd else if 0<up then wu else if 0<dn then wd else ws
 | .ho=>if li= -1/\0<dn then wd else if 0<up then wu else if 0<dn\/0<fl then wd else ws
 |_=>if li= -1/\0<dn then wd else if 0<up then wu else if 0<dn then wd else ws
inductive Bj (K:Fg)(vs:List V)(H:Hp)(Q:VK)(_e:XK):Prop
 |mk (rk:Rk) (s:Addr) (top fl li he up dn:Int) (_:vs=[.str rk.nm,.int top,.ref s]) (_: ¬rk.tab) (_:SW K H s fl li he up dn) (_:∀H',aq H H'->Q (.str (BL rk top fl li up dn)) H')
theorem Nj (F:Z0 K "_law_goes" Ab f fd)(U:mg "int"=none):ay P w K mg base bd 1 f fd ["_law_name","_law_top","_law_seen_here"] (Bj K):=by
 rwa[F.ok Je (by symm) @q];obtain ⟨J,s,I,fl,li,he,W,dn,rfl,nt,hs,q⟩:=h;rwa[⟨_,(aa (dZ (wv 2) @a) (aa (au @a (ac (ai (bT @O @a (aL Ee rfl U boot_int @C) @p))) ak) (aa (au @a (ac (ai (bT @O @a (aL Ee rfl U boot_int @C) @p))) ak) (aa (au (PW.pt (mG @a (mG @a (pM (pT w_lt w_lt aB (wv 7) (wv 6)))))) (ac (ai aT)) ak) (aa @t (aa @t (aa @t (ac (ai aT))))))))),?_⟩];have G:∀x:Str,BL J I fl li W dn=x->∀H',aq H H'->Q (.str x) H':=λx e H' s'=>e▸q H' s';rwa[jU hs rfl ?_];obtain ⟨x,j⟩:∃x,x=J.nm:=⟨_,rfl⟩;rw [<-j]
 cases J with
 |ba t=>
  rwa[cZ j ?_];rwa[cB @i @i]
  ·rwa[gI (be (by show 2<=1000000;decide)) λZ H1 O n1 R=> ?_];by_cases g:0<fl
   ·rwa[aW @cH (v:= .str wd) (by rw [decide_eq_true g];rfl) ?_];exact G _ (by unfold BL;rw [if_pos z,if_pos g]) H1 O
   ·rwa[aW @cH (v:= .str wu) (by rw [decide_eq_false g];rfl) ?_];exact G _ (by unfold BL;rw [if_pos z,if_neg g]) H1 O
  ·rwa[cZ j ?_];rwa[gI (be (by show 2<=1000000;decide)) λZ H1 O n1 R=> ?_];by_cases g:fl<I
   ·rwa[aW @cH (v:= .str wu) (by rw [decide_eq_true g];rfl) ?_];exact G _ (by unfold BL;rw [if_neg z,if_pos g]) H1 O
   ·rwa[aW @cH (v:= .str wd) (by rw [decide_eq_false g];rfl) ?_];exact G _ (by unfold BL;rw [if_neg z,if_neg g]) H1 O
 |ne=>
  have S:x=s!"nearest":=j
  have L: ¬x=s!"shuttle":=by rw [j];decide+kernel
  have Y: ¬x=s!"homing":=by rw [j];decide+kernel
  clear j
  repeat' (first|refine aP rfl ?_|refine aG rfl ?_|refine cZ (by first|assumption|lia) ?_|refine bB (by first|assumption|lia) ?_|refine Do @bY ?_|refine AK @bY ?_|refine cB @i @i)
  all_goals exact G _ (by unfold BL;dsimp only;repeat (first|rw [if_pos @c]|rw [if_neg @c])) H (.refl _)
 |sw=>
  have S: ¬x=s!"nearest":=by rw [j];decide+kernel
  have L: ¬x=s!"shuttle":=by rw [j];decide+kernel
  have Y: ¬x=s!"homing":=by rw [j];decide+kernel
  clear j
  repeat' (first|refine aP rfl ?_|refine aG rfl ?_|refine cZ (by first|assumption|lia) ?_|refine bB (by first|assumption|lia) ?_|refine Do @bY ?_|refine AK @bY ?_|refine cB @i @i)
  all_goals exact G _ (by unfold BL;dsimp only;repeat (first|rw [if_pos @c]|rw [if_neg @c])) H (.refl _)
 |ho=>
  have S: ¬x=s!"nearest":=by rw [j];decide+kernel
  have L: ¬x=s!"shuttle":=by rw [j];decide+kernel
  have Y:x=s!"homing":=j;clear j
  repeat' (first|refine aP rfl ?_|refine aG rfl ?_|refine cZ (by first|assumption|lia) ?_|refine bB (by first|assumption|lia) ?_|refine Do @bY ?_|refine AK @bY ?_|refine cB @i @i)
  all_goals exact G _ (by unfold BL;dsimp only;repeat (first|rw [if_pos @c]|rw [if_neg @c])) H (.refl _)
 |ta s=>exact absurd trivial nt
theorem Iy {I:Rk}{F fl li U G j:Int}(O: ¬I.tab)(L:I.fit F)(sn:iz li U G j)(f0:0<=fl)(S:fl<=F):I.word fl li U G j=if U=2 then wo else if U=1/\Ik I F fl li G j then wx else BL I F fl li G j:=by
 have Y:=sn.h0;have h1:=sn.h1;have W:=sn.u0;have Z:=sn.d0
 cases I with
 |sw=>
  unfold Rk.word cR Ik BL;dsimp only
 |ho=>
  have J:∀x,cR li U G j=x->x≠ws->j3 fl li U G j=x:=λx e n=>by unfold j3;rw [e,if_neg (λz=>n z.1)]
  have R:cR li U G j=ws->j3 fl li U G j=if fl≠0 then wd else ws:=λe=>by
   unfold j3;rw [e];by_cases z:fl≠0
   ·rw [if_pos ⟨rfl,z⟩,if_pos z]
   ·rw [if_neg (λy=>z y.2),if_neg z]
  show j3 fl li U G j=_;unfold Ik BL;dsimp only;by_cases a:U=2
  ·rw [if_pos a,J wo (by unfold cR;rw [if_pos a]) @f]
  rw [if_neg a];by_cases b:U=1/\(li=1/\G=0\/li= -1/\j=0)
  ·rw [if_pos b,J wx (by unfold cR;rw [if_neg a,if_pos b]) @f]
  rw [if_neg b];by_cases c:li= -1/\0<j
  ·rw [if_pos c,J wd (by unfold cR;rw [if_neg a,if_neg b,if_pos c]) @f]
  rw [if_neg c];by_cases d:0<G
  ·rw [if_pos d,J wu (by unfold cR;rw [if_neg a,if_neg b,if_neg c,if_pos d]) @f]
  rw [if_neg d];by_cases e:0<j
  ·rw [if_pos (.inl e),J wd (by unfold cR;rw [if_neg a,if_neg b,if_neg c,if_neg d,if_pos e]) @f]
  rw [R (by unfold cR;rw [if_neg a,if_neg b,if_neg c,if_neg d,if_neg e])];by_cases g:0<fl
  ·rw [if_pos (show fl≠0 by lia),if_pos (.inr g)]
  ·rw [if_neg (show ¬fl≠0 by lia),if_neg (λy=>y.elim e g)]
 |ne=>
  unfold Rk.word OB Ik BL;dsimp only;simp only [and_true]
  repeat' split
  all_goals first|rfl|(exfalso;lia)
 |ba t=>
  obtain rfl:t=F:=L;unfold Rk.word uk Ik BL;dsimp only
  repeat' split
  all_goals first|rfl|(exfalso;lia)
 |ta s=>exact absurd trivial O
inductive vp (K:Fg)(vs:List V)(H:Hp)(Q:VK)(_e:XK):Prop
 |mk (rk:Rk) (s:Addr) (top fl li he up dn:Int) (_:vs=[.str rk.nm,.str rk.lt,.int top,.ref s]) (_:rk.ok) (_:rk.fit top) (_:SW K H s fl li he up dn) (_:iz li he up dn) (_:0<=fl) (_:fl<=top) (_:∀H',aq H H'->Q (.str (rk.word fl li he up dn)) H')
theorem FV (F:Z0 K "_law_word" zY f fd)(R:mg "min"=none)(gN:aV P w K mg base 1 "_law_turns_round" ["_law_name","_law_top","_law_seen_here"] (EF K))(uR:aV P w K mg base 1 "_law_goes" ["_law_name","_law_top","_law_seen_here"] (Bj K)):ay P w K mg base bd 2 f fd ["_law_name","_law_letters_here","_law_top","_law_seen_here"] (vp K):=by
 rwa[F.ok Ja (by symm) @q];obtain ⟨L,s,S,fl,li,U,G,I,rfl,W,ft,hs,O,f0,Y,q⟩:=h;rwa[⟨_,(aa (au @a (ac (ai (bT @O (wv 1) (bR @cu (bR @cu @a (bR K6 aB (bb (K7 rfl) rfl R boot_min (ar @a (ar aB ao))))) (bb (K7 rfl) rfl R boot_min (ar @a (ar aB ao)))) @p))) ak) (aa @t (aa @t @j))),?_⟩];have j:∀x:Str,L.word fl li U G I=x->∀H',aq H H'->Q (.str x) H':=λx e H' s'=>e▸q H' s';by_cases J:L.tab
 ·cases L with
  |ta t=>
   rwa[cZ rfl ?_];have W:JY t:=W;obtain ⟨n0,n1⟩:=kK O
   have e:12*(li+1)+4*U+2*(if 1<G then 1 else G)+(if 1<I then 1 else I)=lR li U G I:=by
    have:=O.u0;have:=O.d0;unfold lR;split<;>split<;>split<;>split<;>lia
   have Z:t.cps.toList.length=36:=by rw [eM];exact W.1
   rwa[ae hs rfl ?_];rwa[⟨du @b @b,?_⟩];rwa[ae hs rfl ?_];rwa[⟨du @b @b,?_⟩];rwa[ae hs rfl ?_];rwa[⟨du @b @b,?_⟩];rwa[ae hs rfl ?_];rwa[pL (be (by rw [show (Rk.ta t).lt=t from rfl,W.1];decide)) (c:=t.cps.toList.getD (lR li U G I).toNat 0) ?_ (q H (.refl _))];show k7 t.cps.toList (12*(li+1)+4*U+2*(if 1<G then 1 else G)+(if 1<I then 1 else I))=_;rw [e];unfold k7 wE;rw [if_pos n0,if_pos (by rw [Z];exact n1)];show t.cps.toList[(lR li U G I).toNat]? =_;rw [getElem?_eq_getElem @c,getD_eq_getElem?_getD,getElem?_eq_getElem @c];rfl
  |_=>exact False.elim J
 have wi:=Iy J ft O f0 Y
 have hx: ¬L.nm=s!"table":=by
  cases L with
  |ta t=>exact absurd trivial J
  |ba t=>exact (by decide+kernel: ¬s!"shuttle"=s!"table")
  |_=>exact @f
 rwa[bB hx ?_];rwa[ae hs rfl ?_];rwa[cB @i @i]
 ·rw [if_pos z] at wi;exact j _ wi H (.refl _)
 rw [if_neg z] at wi;rwa[ae hs rfl ?_];rwa[cB @cn @cn]
 ·rwa[EF.mk _ _ _ _ _ _ _ _ rfl J hs ?_];rwa[nZ @fu @fu]
  ·rw [if_pos ⟨y,of_decide_eq_true x⟩] at wi;exact j _ wi H (.refl _)
  ·rw [if_neg (λu=>of_decide_eq_false x u.2)] at wi;exact Bj.mk _ _ _ _ _ _ _ _ rfl J hs (j _ wi)
 ·rwa[aG rfl ?_];rw [if_neg (λu=>y u.1)] at wi;exact Bj.mk _ _ _ _ _ _ _ _ rfl J hs (j _ wi)
inductive EG (K:Fg)(vs:List V)(H:Hp)(Q:VK)(_e:XK):Prop
 |mk (h hs c pl li dr mr ps x:_) (_:vs=[.ref h,.ref c,.str x]) (_:iN K H h hs) (_:bo K H c pl li dr mr ps) (_:x∈cx) (_:pl% 2=0) (_: -1<=li) (_:li<=1) (_:ps.length<=64) (_:∀H',aq H H'->Q (.str (aN hs.fl pl (bq hs.so pl li ps x))) H')
theorem Tg {so:Str}{pl li:Int}{ps:List (Int×Int)}{x:Str}(I: ¬so=s!"free")(G:ps≠[])(p2:pl% 2=0)(J: -1<=li)(O:li<=1):bq so pl li ps x=if ((if pl / 2∈ps.map (·.2)\/x=s!"x" then s!"o" else x)=s!"u"/\li= -1)\/((if pl / 2∈ps.map (·.2)\/x=s!"x" then s!"o" else x)=s!"d"/\li=1) then s!"s" else (if pl / 2∈ps.map (·.2)\/x=s!"x" then s!"o" else x):=by
 have j: ¬((s!"o"=s!"u"/\li= -1)\/(s!"o"=s!"d"/\li=1)):=λz=>z.elim (λz=>absurd z.1 @f) (λz=>absurd z.1 @f)
 have F:ps.any (λp=>decide (2*p.2=pl))=true↔pl / 2∈ps.map (·.2):=by
  rw [any_eq_true,mem_map];exact ⟨λ⟨p,h1,h2⟩=>⟨p,h1,by have:=of_decide_eq_true h2;lia⟩,λ⟨p,h1,h2⟩=>⟨p,h1,decide_eq_true @c⟩⟩
 unfold bq;rw [if_neg (λz=>z.elim I G)];by_cases a:pl / 2∈ps.map (·.2)
 ·have e:(if pl / 2∈ps.map (·.2)\/x=s!"x" then s!"o" else x)=s!"o":=if_pos (.inl a);rw [e,if_pos (F.mpr a),if_neg j]
 rw [if_neg (λz=>a (F.mp z))];by_cases b:x=s!"x"
 ·have e:(if pl / 2∈ps.map (·.2)\/x=s!"x" then s!"o" else x)=s!"o":=if_pos (.inr b);rw [e,if_pos b,if_neg j]
 have e:(if pl / 2∈ps.map (·.2)\/x=s!"x" then s!"o" else x)=x:=if_neg (λz=>z.elim a b);rw [e,if_neg b];by_cases c:(x=s!"u"/\li= -1)\/(x=s!"d"/\li=1)
 ·rw [if_pos c,if_pos (c.imp (λz=>⟨z.1,by lia⟩) (λz=>⟨z.1,by lia⟩))]
 ·rw [if_neg c,if_neg (λk=>c (k.imp (λz=>⟨z.1,by lia⟩) (λz=>⟨z.1,by lia⟩)))]
theorem Tw {fl pl:Int}{y:Str}(p2:pl% 2=0):aN fl pl y=if (y=s!"u"/\pl=2*(fl - 1))\/(y=s!"d"/\pl=0) then s!"s" else y:=by
 unfold aN;by_cases a:y=s!"u"/\pl / 2=fl - 1
 ·rw [if_pos a,if_pos (.inl ⟨a.1,by lia⟩)]
 rw [if_neg a];by_cases b:y=s!"d"/\pl / 2=0
 ·rw [if_pos b,if_pos (.inr ⟨b.1,by lia⟩)]
 ·rw [if_neg b,if_neg (λk=>k.elim (λz=>a ⟨z.1,by lia⟩) (λz=>b ⟨z.1,by lia⟩))]
theorem Nl (F:Z0 K "_law_let" Ff f fd)(bp:mg "len"=none):ay P w K mg base bd 1 f fd ["_law_house_here","_law_cabin_here","_law_letter"] (EG K):=by
 rwa[F.ok EZ (by symm) @M];obtain ⟨h,hs,c,pl,li,dr,mr,ps,x,rfl,hh,hc,hx,p2,l0,U,ah,q⟩:=h;obtain ⟨ho,p,ls,L,hp,hl⟩:=hh;obtain ⟨ab,bs,ad,eb,Y⟩:=hc;have bl:bs.length=ps.length:=aE Y;rwa[⟨_,(aa (cu (i:=3) rfl EZ.nd rfl @l @bR @a @g @s @g) (bV (au @a (bV @bk (ac @bk)) ak) (bV @bk @cI))),?_⟩];rwa[ae @cz rfl ?_];rwa[d9 @cV ?_];rwa[dD (xs:=bs) (λi I G=>G=H/\I=((ps.take i).map (·.2)).map V.int) @bb (λi I G h=>by rw [h.2,length_map,length_map,length_take];exact Nat.min_le_left _ _) ⟨rfl,rfl⟩ (λi I G _ h=>by rw [h.1];exact az.of eb) (λi y I G j h=> ?_) (λI G h J n1=> ?_)]
 ·obtain ⟨rfl,rfl⟩:=h;obtain ⟨p,hp,dp⟩:=bi Y j;obtain ⟨a,rfl,L⟩:=je dp;rwa[⟨bc,?_⟩];rwa[ae L rfl ?_];exact ⟨rfl,by rw [take_add_one,hp,map_append,map_append];all_goals rfl⟩
 obtain ⟨rfl,rfl⟩:=h;rw [bl,take_length];generalize W:upd G J _=H1
 have O:aq G H1:=by rw [<-W];exact .upd n1
 have e1:H1 J=some (.lst ((ps.map (·.2)).map V.int)):=by rw [<-W];exact ag
 clear W;rwa[fz (λσ H2=>H2=H1/\σ=[some (.ref h),some (.ref c),some (.str (bq hs.so pl li ps x)),some (.ref J)]) ?_ ?_]
 ·rwa[ae (O.seqT L) rfl ?_];rwa[cB (λR=> ?_) (λR=> ?_)]
  ·rwa[bZ @cy ?_];rw [length_map,length_map];rwa[cB @i @i]
   ·rw [Tg (x:=x) (by rw [R];decide+kernel) (λy=>by subst y;exact absurd z @b) p2 l0 U];generalize j:(if pl / 2∈ps.map (·.2)\/x=s!"x" then s!"o" else x)=y;rwa[fz (λσ H2=>H2=H1/\σ=[some (.ref h),some (.ref c),some (.str y),some (.ref J)]) ?_ ?_]
    ·rwa[ae @bP rfl ?_];rwa[⟨rN @b @b,?_⟩];rwa[iZ @cy rfl (fB _) ?_];rw [jE];rwa[cB @fv @fv]
     ·rwa[aP rfl ?_];rw [if_pos (.inl u)] at j;exact ⟨rfl,by rw [<-j];all_goals rfl⟩
     ·rwa[cB (λv=> ?_) (λv=> ?_)]
      ·rw [if_pos (.inr v)] at j;exact ⟨rfl,by rw [<-j];all_goals rfl⟩
      ·rw [if_neg (λk=>k.elim u v)] at j;exact ⟨rfl,by rw [<-j];all_goals rfl⟩
    rintro Z H2 ⟨rfl,rfl⟩;by_cases a:y=s!"u"
    ·have b: ¬y=s!"d":=by rw [a];decide+kernel
     rwa[cZ a ?_];rwa[ae @bP rfl ?_];rwa[cB @i @i]
     ·rwa[aP rfl ?_];exact ⟨rfl,by rw [if_pos (.inl ⟨a,z⟩)];all_goals rfl⟩
     ·rwa[bB b ?_];rwa[aG rfl ?_];exact ⟨rfl,by rw [if_neg (λk=>k.elim @eD @eE)];all_goals rfl⟩
    ·rwa[bB a ?_];rwa[aG rfl ?_];rwa[cB @fy @fy]
     ·rwa[ae @bP rfl ?_];rwa[cB @i @i]
      ·exact ⟨rfl,by rw [if_pos (.inr ⟨b,z⟩)];all_goals rfl⟩
      ·exact ⟨rfl,by rw [if_neg (λk=>k.elim @eF @eD)];all_goals rfl⟩
     ·rwa[aG rfl ?_];exact ⟨rfl,by rw [if_neg (λk=>k.elim @eF @eE)];all_goals rfl⟩
   ·have e0:ps=[]:=length_eq_zero_iff.mp @c;exact ⟨rfl,by unfold bq;rw [if_pos (.inr e0)];all_goals rfl⟩
  ·rwa[aG rfl ?_];exact ⟨rfl,by unfold bq;rw [if_pos (.inl (ho.so.resolve_right R))];all_goals rfl⟩
 rintro Z H2 ⟨rfl,rfl⟩;rw [Tw p2] at q;generalize bq hs.so pl li ps x=y at q;rwa[fz (λσ S=>S=H2/\σ=[some (.ref h),some (.ref c),some (.str (if (y=s!"u"/\pl=2*(hs.fl - 1))\/(y=s!"d"/\pl=0) then s!"s" else y)),some (.ref J)]) ?_ ?_]
 ·by_cases a:y=s!"u"
  ·have b: ¬y=s!"d":=by rw [a];decide+kernel
   rwa[cZ a ?_];rwa[ae @bP rfl ?_];rwa[ae (O.seqT L) rfl ?_];rwa[⟨du @b @b,?_⟩];rwa[cB @i @i]
   ·rwa[aP rfl ?_];exact ⟨rfl,by rw [if_pos (.inl ⟨a,z⟩)];all_goals rfl⟩
   ·rwa[bB b ?_];rwa[aG rfl ?_];exact ⟨rfl,by rw [if_neg (λk=>k.elim @eD @eE)];all_goals rfl⟩
  ·rwa[bB a ?_];rwa[aG rfl ?_];rwa[cB @fy @fy]
   ·rwa[ae @bP rfl ?_];rwa[cB @i @i]
    ·exact ⟨rfl,by rw [if_pos (.inr ⟨b,z⟩)];all_goals rfl⟩
    ·exact ⟨rfl,by rw [if_neg (λk=>k.elim @eF @eD)];all_goals rfl⟩
   ·rwa[aG rfl ?_];exact ⟨rfl,by rw [if_neg (λk=>k.elim @eF @eE)];all_goals rfl⟩
 rintro Z S ⟨rfl,rfl⟩;exact q S O
theorem OH.uniq {hs:Hs}{wf:Wf}{M:MS}{i:Int}{c:Cb}{l:Lf}{rs:List aI}{A B:MS}(h:OH hs wf M i c l rs A)(k:OH hs wf M i c l rs B):A=B:=by
 obtain ⟨f,u,d,e,z,G,rfl⟩:=h;obtain ⟨F,O,L,I,J,j,rfl⟩:=k
 obtain rfl:f=F:=by lia
 rw [z.uniq J,G.uniq j]
theorem xh.uniq {hs:Hs}{wf:Wf}{M:MS}{i:Int}{c:Cb}{l:Lf}{A B:MS}(h:xh hs wf M i c l A)(k:xh hs wf M i c l B):A=B:=by
 unfold xh at h k;split at h
 ·rename_i z;rw [if_pos z] at k;rw [h,k]
 ·rename_i z;rw [if_neg z] at k;split at h
  ·rename_i y;rw [if_pos y] at k;rw [h,k]
  ·rename_i y;rw [if_neg y] at k;exact h.uniq k
theorem Ca.uniq {hs:Hs}{wf:Wf}{M:MS}{i:Int}{c:Cb}{l:Lf}{A B:MS}(h:Ca hs wf M i c l A)(k:Ca hs wf M i c l B):A=B:=by
 rcases h with ⟨h1,h2⟩|⟨h1,h2,j⟩|⟨h1,h2,j⟩<;>rcases k with ⟨L,J⟩|⟨L,J,Y⟩|⟨L,J,Y⟩
 ·rw [h2,J]
 ·rw [h1] at L;cases L
 ·rw [h1] at L;cases L
 ·rw [h1] at L;cases L
 ·rw [j,Y]
 ·rw [h2] at J;cases J
 ·rw [h1] at L;cases L
 ·rw [h2] at J;cases J
 ·exact j.uniq Y
theorem k6.uniq {hs:Hs}{wf:Wf}{M:MS}:∀ {n:Nat} {A B:MS},k6 hs wf n M A->k6 hs wf n M B->A=B
 |0,A,B,h,k=>by rw [show A=M from h,show B=M from k]
 |n+1,A,B,⟨M1,c1,l1,h1,h2,h3,h4⟩,⟨M2,c2,l2,k1,k2,k3,k4⟩=>by
  obtain rfl:=k6.uniq h1 k1
  have I:c1=c2:=by have:=h2.2.symm.trans k2.2;exact Option.some.inj this
  have W:l1=l2:=by have:=h3.symm.trans k3;exact Option.some.inj this
  subst I;subst W;exact h4.uniq k4
theorem IN {so:Str}{room pl fl:Int}{s:B7}{r:aI}(I:room<=64)(W: -1<=s.light/\s.light<=1)(R:s.kept.length<=64)(j:∀p∈s.kept,0<=p.2/\p.2<fl)(S:fS fl r):(-1<=(cG so room pl s r).light/\(cG so room pl s r).light<=1)/\(cG so room pl s r).kept.length<=64/\∀p∈(cG so room pl s r).kept,0<=p.2/\p.2<fl:=by
 unfold cG;split
 ·rename_i e;unfold dh at e
  have O:(s.kept.length:Int)<room:=by
   rw [Bool.and_eq_true,Bool.and_eq_true] at e;exact of_decide_eq_true e.1.2
  rwa[⟨?_,by show (s.kept++_).length<=64;rw [length_append];simp;lia,λp G=> ?_⟩]
  ·show -1<=(if so=s!"way" then tf r else s.light)/\(if so=s!"way" then tf r else s.light)<=1;split
   ·unfold tf;split<;>lia
   ·exact W
  ·rcases mem_append.mp G with z|z
   ·exact j p z
   ·rw [mem_singleton.mp z];exact ⟨S.g0,S.g1⟩
 ·exact ⟨W,R,j⟩
theorem xG {so:Str}{room pl fl:Int}(I:room<=64):∀(rs:List aI) (s:B7),(-1<=s.light/\s.light<=1)->s.kept.length<=64->(∀p∈s.kept,0<=p.2/\p.2<fl)->(∀r∈rs,fS fl r)->(-1<=(br so room pl s rs).light/\(br so room pl s rs).light<=1)/\(br so room pl s rs).kept.length<=64/\∀p∈(br so room pl s rs).kept,0<=p.2/\p.2<fl
 |[],s,hl,hk,hg,_=>⟨hl,hk,hg⟩
 |r::rs,s,hl,hk,hg,hr=>by
  have h:=IN (so:=so) (room:=room) (pl:=pl) (fl:=fl) I hl hk hg (hr r (.head _));exact xG I rs @bv h.1 h.2.1 h.2.2 λq F=>hr q (.tail _ F)
theorem qu {α:Type}{xs:List α}{i:Nat}{x:α}(h:xs[i]? =some x):xs.set i x=xs:=by
 obtain ⟨h1,h2⟩:=List.getElem?_eq_some_iff.mp h;rw [<-h2];exact set_getElem_self h1
theorem Ez {hs:Hs}{l:Lf}{c:Cb}{j:Str}{f0:Nat}(W:iB hs.fl c)(e:c.pl=2*(f0:Int))(J: ¬0<c.dr)(F:j∈cx):iB hs.fl (oE hs l c j):=by
 have U:=N5 (iT (so:=hs.so) (pl:=c.pl) (li:=c.li) (ps:=c.ps) F);have G:=W.p0;have S:=W.p1;have L:=W.l0;have O:=W.l1
 have I: -1<=(if c.ps=[] then (0:Int) else c.li)/\(if c.ps=[] then (0:Int) else c.li)<=1:=by split<;>lia
 unfold oE;generalize bq hs.so c.pl c.li c.ps j=x at U
 rcases U with rfl|rfl|rfl|rfl|rfl
 ·rw [Lp];exact ⟨G,S,L,O,W.m0,λ_=>by show c.pl% 2=0;lia,W.len,W.gs⟩
 ·rw [Ln];exact ⟨G,S,by show (-1:Int)<=0;decide,by show (0:Int)<=1;decide,W.m0,λ_=>by show c.pl% 2=0;lia,W.len,W.gs⟩
 ·by_cases z:c.pl / 2<hs.fl - 1
  ·rw [Hf z];exact ⟨by show 0<=c.pl+1;lia,by show c.pl+1<=_;lia,by show (-1:Int)<=1;decide,by show (1:Int)<=1;decide,W.m0,λy=>absurd y J,W.len,W.gs⟩
  ·rw [Hg z];exact ⟨G,S,I.1,I.2,W.m0,λy=>absurd y J,W.len,W.gs⟩
 ·by_cases z:0<c.pl
  ·rw [Hh z];exact ⟨by show 0<=c.pl - 1;lia,by show c.pl - 1<=_;lia,by show (-1:Int)<= -1;decide,by show (-1:Int)<=1;decide,W.m0,λy=>absurd y J,W.len,W.gs⟩
  ·rw [Hi z];exact ⟨G,S,I.1,I.2,W.m0,λy=>absurd y J,W.len,W.gs⟩
 ·rw [Lo];exact ⟨G,S,I.1,I.2,W.m0,λy=>absurd y J,W.len,W.gs⟩
theorem wH {so:Str}{li:Int}{a b c:Bool}:0<=dL so li a b c/\dL so li a b c<=2:=by
 unfold dL;split
 ·lia
 ·split
  ·lia
  ·split<;>lia
theorem Ca.ok {hs:Hs}{wf:Wf}{M M':MS}{i:Int}{c:Cb}{l:Lf}(h:Ca hs wf M i c l M')(W:iB hs.fl c)(I:atC M i c)(Z:l.rm<=6)(F:M.fire=false)(U:∀fl li he up dn,iz li he up dn->wf fl li he up dn∈cx)(S:∀r∈M.ws,fS hs.fl r):M'.fire=false/\M'.last=M.last/\∃c',iB hs.fl c'/\M'.cs=M.cs.set i.toNat c':=by
 rcases h with ⟨_,rfl⟩|⟨_,h2,_⟩|⟨_,_,L⟩
 ·exact ⟨F,rfl,c,W,(qu I.2).symm⟩
 ·rw [F] at h2;cases h2
 ·unfold xh at L;split at L
  ·rename_i z;subst L;rwa[⟨F,rfl,_,?_,rfl⟩];have aA:∀r∈bQ i M,fS hs.fl r:=λr aa=>S r (by unfold bQ at aa;exact (mem_filter.mp aa).1);have J:∀p∈cf c.pl c.ps,0<=p.2/\p.2<hs.fl:=λp G=>W.gs p (mem_filter.mp G).1;have st:=xG (so:=hs.so) (pl:=c.pl) (fl:=hs.fl) (show l.rm<=64 by lia) @ep ⟨c.li,cf c.pl c.ps,[]⟩ ⟨W.l0,W.l1⟩ (Nat.le_trans @B W.len) J aA;exact ⟨W.p0,W.p1,st.1.1,st.1.2,W.m0,λ_=>W.ev z,st.2.1,st.2.2⟩
  ·rename_i z;split at L
   ·rename_i y;subst L;have p0:=W.p0;have p1:=W.p1;have Y:=W.l0;have O:=W.l1;exact ⟨F,rfl,⟨c.pl+c.li,c.li,0,c.mr,c.ps⟩,⟨by show 0<=c.pl+c.li;lia,by show c.pl+c.li<=_;lia,Y,O,W.m0,λy=>absurd y (by show ¬(0:Int)<0;decide),W.len,W.gs⟩,rfl⟩
   ·obtain ⟨f0,u,d,e,j,R,rfl⟩:=L;rwa[⟨F,rfl,_,Ez W e z (U _ _ _ _ _ ?_),rfl⟩];exact ⟨W.l0,W.l1,wH.1,wH.2,by rcases j with ⟨h,_⟩|⟨h,_⟩<;>lia,by rcases R with ⟨h,_⟩|⟨h,_⟩<;>lia⟩
theorem k6.ok {hs:Hs}{wf:Wf}{M:MS}(R:hs.ok)(J:∀fl li he up dn,iz li he up dn->wf fl li he up dn∈cx)(U:M.fire=false)(I:∀c∈M.cs,iB hs.fl c)(G:∀r∈M.ws,fS hs.fl r)(L:M.ws.length<=64):∀ {n:Nat} {M':MS},k6 hs wf n M M'->M'.fire=false/\M'.last=M.last/\(∀c∈M'.cs,iB hs.fl c)/\ka hs M n M'
 |0,M',h=>by
  obtain rfl:M'=M:=h;exact ⟨U,rfl,I,⟨rfl,λ_ _=>rfl,λ_ h=>h,Nat.le_refl _,by lia,rfl⟩⟩
 |n+1,M',⟨M1,c,l,h1,h2,h3,h4⟩=>by
  obtain ⟨Y,l1,S,F⟩:=k6.ok R J U I G L h1;have j:c∈M1.cs:=mem_of_getElem? h2.2;have W:M1.ws.length<=64:=Nat.le_trans F.wl L;obtain ⟨g1,g2,c',Z,g4⟩:=h4.ok (S c j) h2 (R.lf l (mem_of_getElem? h3)).2.1 Y J λr aa=>G r (F.ws r aa);rwa[⟨g1,g2.trans l1,λx O=> ?_,F.go (S c j).len W h4⟩];rw [g4] at O
  rcases fc O with z|z
  ·exact S x z
  ·rw [z];exact Z
def Rp (hs:Hs)(wf:Wf)(l:Lf)(c:Cb)(rs:List aI)(c':Cb):Prop:=if c.pl% 2=1 then c'=⟨c.pl+c.li,c.li,0,c.mr,c.ps⟩ else ∃(f0:Nat) (u d:Int),c.pl=2*(f0:Int)/\mx @dD f0 u/\oz @dD f0 d/\c'=oE hs l c (wf f0 c.li (dL hs.so c.li (tk l.rm c.ps rs f0) (yV c.ps f0) (xo rs f0 c.li)) u d)
abbrev Rm (K:Fg)(H:Hp)(a:Addr)(rk:Rk):Prop:=az K H a [.str rk.nm,.str rk.lt]
theorem w6 {fl pl:Int}{x:Str}(h:x∈cx):aN fl pl x∈cx:=by
 unfold aN;split
 ·exact .tail _ (.tail _ (.tail _ (.tail _ (.head _))))
 split
 ·exact .tail _ (.tail _ (.tail _ (.tail _ (.head _))))
 ·exact h
theorem Qz {a b x:Str}{u v:V}:fk (cW [] [(Sum.inr a,u),(Sum.inr b,v)]) (Sum.inr x:c7)=if x=b then some v else if x=a then some u else none:=by
 show fk (dO (dO [] (Sum.inr a) u) (Sum.inr b) v) (Sum.inr x)=_;rw [fE,fE];simp only [Sum.inr.injEq];rfl
inductive vy (K:Fg)(vs:List V)(H:Hp)(Q:VK)(_e:XK):Prop
 |mk (h:Addr) (i:Int) (rp ct rl:Addr) (hs:Hs) (l:Lf) (rk:Rk) (c:Cb) (xs:List V) (rs:List aI) (_:vs=[.ref h,.int i,.ref rp,.ref ct,.ref rl]) (_:iN K H h hs) (_:0<=i) (_:hs.ls[i.toNat]? =some l) (_:Rm K H rp rk) (_:rk.ok) (_:rk.fit (hs.fl - 1)) (_:bo K H ct c.pl c.li c.dr c.mr c.ps) (_:iB hs.fl c) (_:c.dr=0) (_:H rl=some (.lst xs)) (_:av K H xs @P) (_:(∀r∈rs,fS hs.fl r)) (_:rs.length<=64) (_:∀t c' H',aq H H'->bo K H' t c'.pl c'.li c'.dr c'.mr c'.ps->Rp hs rk.word l c rs c'->Q (.ref t) H')
theorem F2 (F:Z0 K "_law_gone" Aa f fd)(uO:aV P w K mg base 3 "_law_seen" ["_law_sort","_law_lift_here","_law_cabin_here","_law_riders"] (vt K))(on:aV P w K mg base 2 "_law_word" ["_law_name","_law_letters_here","_law_top","_law_seen_here"] (vp K))(sd:aV P w K mg base 1 "_law_let" ["_law_house_here","_law_cabin_here","_law_letter"] (EG K)):ay P w K mg base bd 4 f fd ["_law_house_here","_law_k","_law_rule","_law_cabin_here","_law_riders"] (vy K):=by
 rwa[F.ok vH (by symm) (λaQ A outer s H vs Q E S h=> ?_)];obtain ⟨h,i,rp,ct,rl,hs,l,rk,c,xs,rs,rfl,hh,i0,hl,aE,aw,aH,hc,W,d0,er,aI,aF,aL,q⟩:=h;have ho:=hh.1;have f8:=ho.f8;have f2:=ho.f2;obtain ⟨p,ls,lb,hT,hp,_,al,aA⟩:=hh.at i0 hl;have ap:=hc;obtain ⟨Z,bs,aJ,eb,db⟩:=hc;rwa[⟨_,(aa (dZ (wv 3) @a) (aa @W (aa @a (aa (bF (i:=11) vH.nd rfl @l (b9 sd S @b rfl (ar (wv 0) (ar (wv 3) (ar (b9 on S @b rfl (ar @a (ar @a (ar @a (ar @dN ao))))) ao))))) (aa (au (PW.pt (iC @R (ig @R))) (aa (bF (i:=12) vH.nd rfl @l (Bs (BH S) (Br (gE aT aB (gE aT @fx Bo)) rfl rfl @b @b) (wv 11) @p)) (ac (ai (cO (ar (bR @cu (wv 5) @gw) (ar @gw (ar aB (ar (wv 8) (ar (wv 9) ao))))))))) ak) (bV (au (PW.pt (iC @R (ig (PW.pt (mG @R (pM @a)))))) (ac @a) ak) (bV (au (PW.pt (iC @R (ig @R))) (ac @a) ak) @j))))))),?_⟩];rwa[jU (az.of aJ) rfl ?_];rwa[⟨by decide,?_⟩];have aR:=W.p0;have aS:=W.p1;rwa[cB @eV @eV]
 ·rwa[bD (be (by show 5<=1000000;decide)) λt H1 s1 _ e1=> ?_];exact q t ⟨c.pl+c.li,c.li,0,c.mr,c.ps⟩ H1 s1 ⟨Z,bs,e1,s1 _ _ eb,av.same db s1⟩ (by unfold Rp;rw [if_pos od])
 rwa[ae hT rfl ?_];rwa[ae hT rfl ?_];rwa[ae hp (v:= .ref lb) al ?_];have aK:OE c.ps rs:=⟨λx hx=>⟨(W.gs x hx).1,by have:=(W.gs x hx).2;lia⟩,λr S=>⟨(aF r S).s0,by have:=(aF r S).s1;lia⟩,W.len,aL⟩;rwa[vt.mk _ _ _ _ l _ _ _ _ _ _ _ rfl aA ap er aI W.p0 @c aK λst up dn H1 s1 hu hd es=> ?_];obtain ⟨U,ef⟩:∃U:Nat,c.pl / 2=(U:Int):=Int.eq_ofNat_of_zero_le @c;rw [ef] at hu hd es
 have e2:c.pl=2*(U:Int):=by lia
 generalize ax:dL hs.so c.li (tk l.rm c.ps rs U) @gW (xo rs U c.li)=he at es
 have sn:iz c.li he up dn:=by
  rw [<-ax];exact ⟨W.l0,W.l1,wH.1,wH.2,by rcases hu with ⟨h,_⟩|⟨h,_⟩<;>lia,by rcases hd with ⟨h,_⟩|⟨h,_⟩<;>lia⟩
 rwa[ae (s1.seqT aE) rfl ?_];rwa[ae (s1.seqT aE) rfl ?_];rwa[ae (s1.seqT hT) rfl ?_];rwa[vp.mk _ _ _ _ _ _ _ _ rfl aw aH (az.of es) sn @c @c λH2 s2=> ?_];have an:=s1.trans s2;have w5:rk.word U c.li he up dn∈cx:=Kk (Rk.isL aw sn);rwa[EG.mk _ _ _ _ _ _ _ _ _ rfl (hh.same an) (ap.same an) w5 @c W.l0 W.l1 W.len λI s3=> ?_];have ad:=an.trans s3;have aD:=iT (so:=hs.so) (pl:=c.pl) (li:=c.li) (ps:=c.ps) w5;have j:=Hj (fl:=hs.fl) (tu:=l.tn) (li:=c.li) (dr:=c.dr) (ps:=c.ps) (pl:=c.pl) @c @c @c aD;have y5:=N5 (w6 (fl:=hs.fl) (pl:=c.pl) aD)
 have en:∀ah am aj,eF hs.fl l.tn c.pl c.li c.dr c.ps @bt=(ah,am,aj)->∀t R,aq I R->R t=some (.tup [.int ah,.int am,.int aj,.int c.mr,.ref Z])->Q (.ref t) R:=λah am aj e t R J e5=>by
  have as:=ad.trans J;rwa[q t (oE hs l c (rk.word U c.li he up dn)) R as ?_ ?_]
  ·unfold oE;rw [e];exact ⟨Z,bs,e5,as _ _ eb,av.same db as⟩
  ·unfold Rp;rw [if_neg od];exact ⟨U,up,dn,e2,hu,hd,by rw [ax]⟩
 rw [d0] at en j;generalize aO:eF hs.fl l.tn c.pl c.li 0 c.ps @bt=D at en j;generalize aN hs.fl c.pl @bt=y at j y5 ⊢;by_cases L:y=s!"u"
 ·rwa[cZ L ?_];rwa[aP rfl ?_];intro G np;rwa[⟨ag,[(Sum.inr "u",.int 1),(Sum.inr "d",.int (-1))],rfl,by decide,?_⟩];have sP:aq I (upd @bL G (.dK (cW [] [(Sum.inr "u",.int 1),(Sum.inr "d",.int (-1))]))):=aq.updF (.upd np) np;have eP:upd @bL G (.dK (cW [] [(Sum.inr "u",.int 1),(Sum.inr "d",.int (-1))])) G=some (.dK (cW [] [(Sum.inr "u",.int 1),(Sum.inr "d",.int (-1))])):=ag;generalize upd @bL G (.dK (cW [] [(Sum.inr "u",.int 1),(Sum.inr "d",.int (-1))]))=H4 at sP eP ⊢
  have hg:mz H4 G (.str y) (some (.int 1)):=by
   have z:=mz.k (k:=Sum.inr y) eP;rw [Qz,if_neg (by rw [L];decide+kernel),if_pos L] at z;exact z
  rwa[⟨G,_,rfl,hg,?_⟩];rw [if_neg (by rw [L];decide+kernel),if_neg (by rw [L];decide+kernel),if_pos L] at j;exact bD (be (by show 5<=1000000;decide)) λt R J _ e5=>en _ _ _ j t R (sP.trans J) e5
 by_cases kd:y=s!"d"
 ·rwa[bB L ?_];rwa[cZ kd ?_];intro G np;rwa[⟨ag,[(Sum.inr "u",.int 1),(Sum.inr "d",.int (-1))],rfl,by decide,?_⟩];have sP:aq I (upd @bL G (.dK (cW [] [(Sum.inr "u",.int 1),(Sum.inr "d",.int (-1))]))):=aq.updF (.upd np) np;have eP:upd @bL G (.dK (cW [] [(Sum.inr "u",.int 1),(Sum.inr "d",.int (-1))])) G=some (.dK (cW [] [(Sum.inr "u",.int 1),(Sum.inr "d",.int (-1))])):=ag;generalize upd @bL G (.dK (cW [] [(Sum.inr "u",.int 1),(Sum.inr "d",.int (-1))]))=H4 at sP eP ⊢
  have hg:mz H4 G (.str y) (some (.int (-1))):=by
   have z:=mz.k (k:=Sum.inr y) eP;rw [Qz,if_pos kd] at z;exact z
  rwa[⟨G,_,rfl,hg,?_⟩];rw [if_neg (by rw [kd];decide+kernel),if_neg (by rw [kd];decide+kernel),if_neg L,if_pos kd] at j;exact bD (be (by show 5<=1000000;decide)) λt R J _ e5=>en _ _ _ j t R (sP.trans J) e5
 rwa[bB L ?_];rwa[bB kd ?_];rw [if_neg L,if_neg kd] at j;have af:=ad.seqT aA;by_cases Y:y=s!"x"
 ·rw [if_neg (by rw [Y];decide+kernel),if_pos Y] at j;rwa[fz (λσ R=>R=I/\σ=[some (.ref h),some (.int i),some (.ref rp),some (.ref ct),some (.ref rl),some (.int c.pl),some (.int 0),some (.int c.dr),some (.int c.mr),some (.ref Z),some (.ref st),some (.str y),none]) (by refine cZ Y ?_;refine aP rfl ?_;exact ⟨rfl,rfl⟩) ?_];rintro σ' R ⟨rfl,rfl⟩;rwa[fz (λσ O=>O=R/\σ=[some (.ref h),some (.int i),some (.ref rp),some (.ref ct),some (.ref rl),some (.int c.pl),some (.int 0),some (.int l.tn),some (.int c.mr),some (.ref Z),some (.ref st),some (.str y),none]) (by refine cZ Y ?_;refine aP rfl ?_;refine ae @gO rfl ?_;refine ae @gP (v:= .ref lb) al ?_;refine ae af rfl ?_;exact ⟨rfl,rfl⟩) ?_];rintro σ' O ⟨rfl,rfl⟩;exact bD (be (by show 5<=1000000;decide)) λt R J _ e5=>en _ _ _ j t R J e5
 by_cases ko:y=s!"o"
 ·rw [if_pos ko] at j
  have ks: ¬y=s!"s":=by rw [ko];decide+kernel
  rwa[fz (λσ R=>R=I/\σ=[some (.ref h),some (.int i),some (.ref rp),some (.ref ct),some (.ref rl),some (.int c.pl),some (.int c.li),some (.int c.dr),some (.int c.mr),some (.ref Z),some (.ref st),some (.str y),none]) (by refine bB Y ?_;refine bB ks ?_;refine aG rfl ?_;exact ⟨rfl,rfl⟩) ?_];rintro σ' R ⟨rfl,rfl⟩;rwa[fz (λσ O=>O=R/\σ=[some (.ref h),some (.int i),some (.ref rp),some (.ref ct),some (.ref rl),some (.int c.pl),some (.int c.li),some (.int l.tn),some (.int c.mr),some (.ref Z),some (.ref st),some (.str y),none]) (by refine bB Y ?_;refine cZ ko ?_;refine ae @gO rfl ?_;refine ae @gP (v:= .ref lb) al ?_;refine ae af rfl ?_;exact ⟨rfl,rfl⟩) ?_];rintro σ' O ⟨rfl,rfl⟩;exact bD (be (by show 5<=1000000;decide)) λt R J _ e5=>en _ _ _ j t R J e5
 have ks:y=s!"s":=by rcases y5 with z|z|z|z|z<;>first|exact absurd z ko|exact absurd z Y|exact absurd z L|exact absurd z kd|exact z
 rw [if_neg ko,if_neg Y] at j;rwa[fz (λσ R=>aq I R/\σ=[some (.ref h),some (.int i),some (.ref rp),some (.ref ct),some (.ref rl),some (.int c.pl),some (.int (if c.ps=[] then 0 else c.li)),some (.int c.dr),some (.int c.mr),some (.ref Z),some (.ref st),some (.str y),none]) ?_ ?_]
 ·rwa[bB Y ?_];rwa[cZ ks ?_];rwa[bD (be (by show 0<=1000000;decide)) λt H4 s4 _ e4=> ?_];have aC:=ad.trans s4;rwa[N9 (d:= .tup @gz) (e:= .tup []) (eh (az.of (aC _ _ eb)) (av.same db aC)) (eh (az.of e4) .nil) (by have:=uI c.ps;show deps @gz+1<=60;lia) ?_]
  cases aM:c.ps with
  |nil=>
   rwa[aP rfl ?_];exact ⟨s4,by rw [if_pos rfl];all_goals rfl⟩
  |cons a b=>
   rwa[aG rfl ?_];exact ⟨s4,by rw [if_neg (by intro z;cases z)];all_goals rfl⟩
 rintro σ' R ⟨J,rfl⟩;rwa[fz (λσ O=>O=R/\σ=[some (.ref h),some (.int i),some (.ref rp),some (.ref ct),some (.ref rl),some (.int c.pl),some (.int (if c.ps=[] then 0 else c.li)),some (.int c.dr),some (.int c.mr),some (.ref Z),some (.ref st),some (.str y),none]) (by refine bB Y ?_;refine bB ko ?_;exact ⟨rfl,rfl⟩) ?_];rintro σ' O ⟨rfl,rfl⟩;exact bD (be (by show 5<=1000000;decide)) λt O s6 _ e6=>en _ _ _ j t O (J.trans s6) (by rw [e6,d0])
inductive qg (K:Fg)(vs:List V)(H:Hp)(Q:VK)(_e:XK):Prop
 |mk (h:Addr) (i:Int) (ct:Addr) (x:V) (hs:Hs) (l:Lf) (pl li dr mr:Int) (ps:List (Int×Int)) (r:aI) (_:vs=[.ref h,.int i,.ref ct,x]) (_:iN K H h hs) (_:0<=i) (_:hs.ls[i.toNat]? =some l) (_:bo K H ct pl li dr mr ps) (_:bM K H x @fj) (_:pl% 2=0) (_:Q (.bl (dh hs.so l.rm pl ⟨li,ps,[]⟩ r)) H)
theorem CO (F:Z0 K "_law_steps_in" nq f fd)(bp:mg "len"=none)(gM:Z07 P w K mg base):ay P w K mg base bd 2 f fd ["_law_house_here","_law_k","_law_cabin_here","_law_one"] (qg K):=by
 rwa[F.ok zR (by symm) @M];obtain ⟨h,i,ct,x,hs,l,pl,li,dr,mr,ps,r,rfl,R,O,W,hc,J,p2,q⟩:=h;obtain ⟨p,ls,lb,L,hp,_,al,aA⟩:=R.at O W;obtain ⟨ab,bs,ad,eb,Y⟩:=hc;have U:bs.length=ps.length:=aE Y;have G:=J;obtain ⟨a,rfl,hR⟩:=bU J;have e:dh hs.so l.rm pl ⟨li,ps,[]⟩ r=(decide (2*r.start=pl)&&decide ((ps.length:Int)<l.rm)&&decide (hs.so=s!"free"\/li=0\/li=iL r.start r.goal)):=rfl;rw [e] at q;rwa[⟨_,(aa @eC @j),?_⟩];rwa[ae hR rfl ?_];rwa[ae @cz rfl ?_];rwa[⟨rN @b @b,?_⟩];by_cases I:r.start=pl / 2
 ·rwa[AK I ?_];rwa[ae @cz rfl ?_];rwa[eX @cV ?_];rwa[ae L rfl ?_];rwa[ae hp (v:= .ref lb) al ?_];rwa[ae aA rfl ?_];rw [U];rw [decide_eq_true (show 2*r.start=pl by lia)] at q;rwa[cB @eb @eb]
  ·rw [decide_eq_false (show ¬(ps.length:Int)<l.rm by lia)] at q;exact q
  rw [decide_eq_true (show (ps.length:Int)<l.rm by lia)] at q;rwa[ae L rfl ?_];rwa[cB (λZ=> ?_) (λZ=> ?_)]
  ·rw [decide_eq_true (show hs.so=s!"free"\/li=0\/li=iL r.start r.goal from .inl Z)] at q;exact q
  rwa[ae @cz rfl ?_];rwa[cB (λj=> ?_) (λj=> ?_)]
  ·rw [decide_eq_true (show hs.so=s!"free"\/li=0\/li=iL r.start r.goal from .inr (.inl j))] at q;exact q
  rwa[ae @cz rfl ?_];rwa[kg.mk _ _ rfl G ?_];rw [show decide (hs.so=s!"free"\/li=0\/li=iL r.start r.goal)=decide (li=iL r.start r.goal) by rw [decide_eq_decide];exact ⟨λz=>(z.resolve_left Z).resolve_left j,λz=> .inr (.inr z)⟩] at q;exact q
 ·rwa[Do I ?_];rwa[aP rfl ?_];rw [decide_eq_false (show ¬2*r.start=pl by lia)] at q;exact q
inductive ql (K:Fg)(vs:List V)(H:Hp)(Q:VK)(_e:XK):Prop
 |mk (lp:Addr) (l:Lf) (n:Int) (b s:Bool) (_:vs=[.ref lp,.int n,.bl b,.bl s]) (_:Ov K H lp l) (_:jj l.kd) (_:Q (.int (fv l.kd l.tn n b s)) H)
theorem CY (F:Z0 K "_law_count" vZ f fd):ay P w K mg base bd 1 f fd ["_law_lift_here","_law_door","_law_blocked","_law_stepped"] (ql K):=by
 rwa[F.ok E3 (by symm) (λI A outer s H O Q E S h=> ?_)];obtain ⟨J,l,n,b,st,rfl,W,R,q⟩:=h
 have Z: ¬Im=DV:=by decide+kernel
 have G: ¬Im=hst:=by decide+kernel
 have j: ¬hst=DV:=by decide+kernel
 unfold fv at q;rwa[⟨_,(aa @gg @fs),?_⟩];obtain ⟨k,L⟩:∃k,k=l.kd:=⟨_,rfl⟩;rw [<-L] at q R
 have W:az K H J [.int l.st,.int l.rm,.int l.tn,.str k]:=by rw [L];exact W
 clear L
 cases b with
 |true=>
  rwa[aP rfl ?_];rwa[ae W rfl ?_];rwa[cB @i @i]
  ·rw [if_neg (λy=>y.elim (λy=>G (y.1.symm.trans z)) (λy=>j (z.symm.trans y.1))),if_pos ⟨z,rfl⟩] at q;exact q
  rwa[aP rfl ?_];rwa[aP rfl ?_];rwa[ae W rfl ?_];rw [if_pos (by rcases R with y|y|y;exact .inl ⟨y,rfl⟩;exact absurd y z;exact .inr ⟨y,.inl rfl⟩)] at q;exact q
 |false=>
  rwa[aG rfl ?_];rwa[aG rfl ?_];rwa[aG rfl ?_]
  cases st with
  |true=>
   rwa[aP rfl ?_];rwa[ae W rfl ?_];rwa[cB @i @i]
   ·rwa[ae W rfl ?_];rw [if_pos (.inr ⟨z,.inr rfl⟩)] at q;exact q
   ·rw [if_neg (λy=>y.elim @bK (λy=>z y.1)),if_neg @bK] at q;exact q
  |false=>
   rwa[aG rfl ?_];rwa[aG rfl ?_];rw [if_neg (λy=>y.elim @bK (λy=>y.2.elim Bool.noConfusion Bool.noConfusion)),if_neg @bK] at q;exact q
noncomputable def wm (i pl:Int)(os is:List Int):List D:=(os.map λt=>tK "out" t i (pl / 2))++is.map λt=>tK "in" t i (pl / 2)
theorem ut {pl:Int}{ps:List (Int×Int)}{j:Nat}{p:Int×Int}(h:ps[j]? =some p):bO pl (ps.take (j+1))=bO pl (ps.take j)++if 2*p.2=pl then [p.1] else []:=by
 unfold bO;rw [cj _ h,map_append];congr 1;by_cases z:2*p.2=pl
 ·rw [if_pos z,if_pos @N];rfl
 ·rw [if_neg z,if_neg (by rw [decide_eq_false z];decide)];rfl
theorem Ep {α:Type}(rs:List α)(j:Nat):(rs.take j).length<=rs.length:=by rw [length_take];exact Nat.min_le_right _ _
theorem pP (i pl:Int)(os j:List Int):noLs (wm i pl os j)=true:=by
 unfold wm;exact jg @fD @fD
theorem yt {so:Str}{room pl:Int}{s:B7}{r:aI}(e:dh so room pl s r=true):(s.kept.length:Int)<room:=by
 unfold dh at e;rw [Bool.and_eq_true,Bool.and_eq_true] at e;exact of_decide_eq_true e.1.2
theorem BS {H:Hp}{t:Addr}{j:Str}{a b c:Int}(e:H t=some (.tup [.str j,.int a,.int b,.int c])):bM K H (.ref t) (tK j a b c):=eh (az.of e) (.cons (.str _) (.cons (.int _) (.cons (.int _) (.cons (.int _) .nil))))
inductive vv (K:Fg)(vs:List V)(H:Hp)(Q:VK)(_e:XK):Prop
 |mk (h:Addr) (i:Int) (ct rl:Addr) (b:Bool) (hs:Hs) (l:Lf) (c:Cb) (xs:List V) (rs:List aI) (_:vs=[.ref h,.int i,.ref ct,.ref rl,.bl b]) (_:iN K H h hs) (_:0<=i) (_:hs.ls[i.toNat]? =some l) (_:bo K H ct c.pl c.li c.dr c.mr c.ps) (_:c.pl% 2=0) (_:c.ps.length<=64) (_:H rl=some (.lst xs)) (_:av K H xs @P) (_:rs.length<=64) (_:∀t ct' lg zs H',aq H H'->H lg=none->H' t=some (.tup [.ref ct',.ref lg])->bo K H' ct' c.pl (cq hs c l rs).light (fv l.kd l.tn c.dr b (decide (((bO c.pl c.ps).length:Int)+((cq hs c l rs).ins.length:Int)>0))) c.mr (cq hs c l rs).kept->H' lg=some (.lst zs)->av K H' zs (wm i c.pl @eA (cq hs c l rs).ins)->Q (.ref t) H')
theorem FZ (F:Z0 K "_law_opened" qK f fd)(bp:mg "len"=none)(aZ:mg "tuple"=none)(gM:Z07 P w K mg base)(j8:aV P w K mg base 2 "_law_steps_in" ["_law_house_here","_law_k","_law_cabin_here","_law_one"] (qg K))(su:aV P w K mg base 1 "_law_count" ["_law_lift_here","_law_door","_law_blocked","_law_stepped"] (ql K)):ay P w K mg base bd 3 f fd ["_law_house_here","_law_k","_law_cabin_here","_law_riders","_law_blocked"] (vv K):=by
 rwa[F.ok mX (by symm) (λaT A outer s H vs Q E hr h=> ?_)];obtain ⟨h,i,ct,rl,b,hs,l,c,xs,O,rfl,hh,i0,hl,hc,p2,aX,er,aG,aW,q⟩:=h;obtain ⟨p,ls,lb,hT,hp,_,aR,aQ⟩:=hh.at i0 hl;have aS:=hc;obtain ⟨ab,bs,am,eb,db⟩:=hc;have bl:bs.length=c.ps.length:=aE db;have xl:xs.length=O.length:=aE aG;have aO:=(hh.1.lf l (mem_of_getElem? hl)).2.1;rwa[⟨_,(aa @a (aa (cu (i:=6) rfl mX.nd rfl @l (ax (N':=["_law_pair","_law_k","_law_floor"]) (pk:=[none,some 1,some 5]) @k) @a @g @x @g) (aa (bF (i:=2) mX.nd rfl @l (bR @cu @a (cO (ar (aL @cA rfl aZ boot_tuple (ar (bG rfl (ax (N':=["_law_pair","_law_floor"]) (pk:=[none,some 5]) @k) @a @g @x @E) ao)) ao)))) (aa (ce PassesOwn.never rfl @a @a (ac (au @a (aa @a (bV @bk (aa @a @A))) ak))) @en)))),?_⟩];rwa[ae (az.of am) rfl ?_];rwa[⟨rN @b @b,?_⟩];rwa[ae (az.of am) rfl ?_];rwa[d9 @cV ?_];rwa[dD (xs:=bs) (λj R J=>aq H J/\av K J R ((bO c.pl @gv).map λt=>tK "out" t i (c.pl / 2))) @bb (λj R J h=>by rw [h.2.len,length_map];exact Nat.le_trans jf (by rw [length_take];exact Nat.min_le_left _ _)) ⟨.refl _,.nil⟩ (λj R J _ h=>az.of (h.1 _ _ eb)) (λj y R J hy h=> ?_) (λR J h lg ng=> ?_)]
 ·obtain ⟨sX,dX⟩:=h;obtain ⟨p,ah,dp⟩:=bi db hy;obtain ⟨a,rfl,al⟩:=je (bM.same dp sX);rwa[⟨bc,?_⟩];rwa[ae al rfl ?_];show if decide (p.2=c.pl / 2)=true then _ else _;by_cases z:p.2=c.pl / 2
  ·rw [if_pos @N];rwa[ae al rfl ?_];rwa[bD (be (by show 4<=1000000;decide)) λt H2 s2 _ e2=> ?_];exact ⟨sX.trans s2,by rw [ut ah,if_pos @c,map_append];exact (av.same dX s2).app (.cons (BS e2) .nil)⟩
  ·rw [if_neg (by rw [decide_eq_false z];decide)];exact ⟨sX,by rw [ut ah,if_neg @c,append_nil];exact dX⟩
 obtain ⟨sX,dX⟩:=h;rw [bl,take_length] at dX
 have ul:R.length=(bO c.pl c.ps).length:=by rw [dX.len,length_map]
 generalize ap:upd J lg _=H1
 have aA:aq J H1:=by rw [<-ap];exact .upd ng
 have e1:H1 lg=some (.lst R):=by rw [<-ap];exact ag
 clear ap;have n0:=qZ sX ng;have s1:=sX.trans aA;have d1:=av.same dX aA;clear dX aA sX ng;rwa[eV (az.of (s1 _ _ am)) (by show ¬(HT.sIx 5 0 none=0/\HT.sIx 5 5 (some 4)=5);decide) λl2 H2 s2 n2 e2=> ?_];have e2:H2 l2=some (.tup [.int c.pl,.int c.li,.int c.dr,.int c.mr]):=e2;have Y:=s1.trans s2;rwa[ae (az.of (Y _ _ am)) rfl ?_];rwa[d9 (az.of (Y _ _ eb)) ?_];rwa[dD (xs:=bs) (λj R J=>J=H2/\av K J R ((cf c.pl @gv).map d5)) @bb (λj R J h=>by rw [h.2.len,length_map];exact Nat.le_trans @B (by rw [length_take];exact Nat.min_le_left _ _)) ⟨rfl,.nil⟩ (λj R J _ h=>by rw [h.1];exact az.of (Y _ _ eb)) (λj y R J hy h=> ?_) (λks J h l3 n3=> ?_)]
 ·obtain ⟨rfl,dX⟩:=h;obtain ⟨p,ah,dp⟩:=bi db hy;have dp:=bM.same dp Y;obtain ⟨a,rfl,al⟩:=je dp
  have nx:cf c.pl (c.ps.take (j+1))=cf c.pl @gv++if 2*p.2=c.pl then [] else [p]:=by
   unfold cf;rw [cj _ ah];by_cases z:2*p.2=c.pl
   ·rw [if_pos z,if_neg (by rw [decide_eq_true z];decide)]
   ·rw [if_neg z,if_pos (by rw [decide_eq_false z];rfl)]
  rwa[⟨bc,?_⟩];rwa[ae al rfl ?_];show if (!decide (p.2=c.pl / 2))=true then _ else _;by_cases z:p.2=c.pl / 2
  ·rw [if_neg (by rw [decide_eq_true z];decide)];exact ⟨rfl,by rw [nx,if_pos @c,append_nil];exact dX⟩
  ·rw [if_pos (by rw [decide_eq_false z];rfl)];exact ⟨rfl,by rw [nx,if_neg @c,map_append];exact dX.app (.cons dp .nil)⟩
 obtain ⟨rfl,dk⟩:=h;rw [bl,take_length] at dk;generalize aw:upd J l3 _=H3
 have s3:aq J H3:=by rw [<-aw];exact .upd n3
 have e3:H3 l3=some (.lst ks):=by rw [<-aw];exact ag
 clear aw;rwa[fm (aC.of e3) λl4 H4 s4 n4 e4=> ?_];rwa[bD (be (by show 1<=1000000;decide)) λl5 H5 s5 n5 e5=> ?_];have aH:=s3.trans (s4.trans s5);rwa[ju (az.of (aH _ _ e2)) e5 @e (be (by show 4+1<=1000000;decide)) λl6 H6 s6 e6=> ?_];have af:=aH.trans s6;have a3:=Y.trans af;have c6:bo K H6 l6 c.pl c.li c.dr c.mr (cf c.pl c.ps):=⟨l4,ks,e6,(s5.trans s6) _ _ e4,av.same dk af⟩;have g6:=(s2.trans af) _ _ e1;have d6:=av.same d1 (s2.trans af);clear e6 e5 e4 dk e2 n2 n3 n4 n5;rwa[bL (aC.of (a3 _ _ er)) ?_];rwa[eQ (xs:=xs) (λj σ HY=>aq H HY/\∃(aF:Addr) (zs:List V) (o7 o8:Option V),bo K HY aF c.pl (br hs.so l.rm c.pl ⟨c.li,cf c.pl c.ps,[]⟩ @et).light c.dr c.mr (br hs.so l.rm c.pl ⟨c.li,cf c.pl c.ps,[]⟩ @et).kept/\HY lg=some (.lst zs)/\av K HY zs (wm i c.pl @eA (br hs.so l.rm c.pl ⟨c.li,cf c.pl c.ps,[]⟩ @et).ins)/\σ=[some (.ref h),some (.int i),some (.ref aF),some (.ref rl),some (.bl b),some (.int (c.pl / 2)),some (.ref lg),o7,o8,none]) ⟨a3,l6,R,_,_,c6,g6,by unfold wm;rw [take_zero];show av K H6 R (_++[]);rw [append_nil];exact d6,rfl⟩ (λj σ HY _ pv=>aC.of (pv.1 _ _ er)) (λj x σ HY hx pv=> ?_) @cl]
 ·obtain ⟨sY,cY,zs,o7,o8,I,eY,W,rfl⟩:=pv;obtain ⟨r,aI,aj⟩:=bi aG hx;have aj:=bM.same aj sY;rw [dg aI]
  have zl:zs.length=(bO c.pl c.ps).length+(br hs.so l.rm c.pl ⟨c.li,cf c.pl c.ps,[]⟩ @et).ins.length:=by rw [W.len];unfold wm;rw [length_append,length_map,length_map]
  have il:=(jA (so:=hs.so) (room:=l.rm) (pl:=c.pl) @et ⟨c.li,cf c.pl c.ps,[]⟩).2;have ol:=jf (pl:=c.pl) (ps:=c.ps);generalize br hs.so l.rm c.pl ⟨c.li,cf c.pl c.ps,[]⟩ @et=S at I W zl il ⊢;have an:=I;obtain ⟨aY,bY,G,aB,ad⟩:=I;obtain ⟨ra,rfl,hR⟩:=bU aj;rwa[qg.mk _ _ _ _ _ _ _ _ _ _ _ _ rfl (hh.same sY) i0 hl an aj p2 ?_];rwa[nZ (λe=> ?_) (λe=> ?_)]
  ·have e:dh hs.so l.rm c.pl S r=true:=e;unfold cG;rw [if_pos e];rwa[ae @dd rfl ?_];rwa[fz (λσ H'=>H'=HY/\σ=[some (.ref h),some (.int i),some (.ref cY),some (.ref rl),some (.bl b),some (.int (c.pl / 2)),some (.ref lg),some (.ref ra),some (.int (if hs.so=s!"way" then tf r else S.light)),none]) ?_ ?_]
   ·rwa[ae (sY.seqT hT) rfl ?_];rwa[cB @i @i]
    ·rwa[kg.mk _ _ rfl aj ?_];exact ⟨rfl,by rw [if_pos z];all_goals rfl⟩
    ·exact ⟨rfl,by rw [if_neg z];all_goals rfl⟩
   rintro σ' H' ⟨rfl,rfl⟩;generalize (if hs.so=s!"way" then tf r else S.light)=L;rwa[ae @dd rfl ?_];rwa[bD (be (by show 2<=1000000;decide)) λt1 G1 u1 _ f1=> ?_];rwa[eV (az.of (u1 _ _ G)) (by show ¬(HT.sIx 5 0 (some 2)=0/\HT.sIx 5 5 (some 4)=5);decide) λt2 G2 u2 _ f2=> ?_];have f2:G2 t2=some (.tup [.int c.dr,.int c.mr]):=f2;rwa[ju @eG f2 @e (be (by show 2+2<=1000000;decide)) λt3 G3 u3 f3=> ?_];have Z:=u1.trans @gA;rwa[ae (az.of (Z _ _ G)) rfl ?_];rwa[ae (Z.seqT hR) rfl ?_];rwa[ae (Z.seqT hR) rfl ?_];rwa[bD (be (by show 2<=1000000;decide)) λt4 G4 u4 _ f4=> ?_];rwa[bD (be (by show 1<=1000000;decide)) λt5 G5 u5 _ f5=> ?_];have aM:=Z.trans (u4.trans u5);have kl:bY.length=S.kept.length:=aE ad;rwa[ju (az.of (aM _ _ aB)) f5 @e (be (by have:=yt e;have:=aO;rw [kl];show S.kept.length+1<=_;lia)) λt6 G6 u6 f6=> ?_];rwa[bD (be (by show 1<=1000000;decide)) λt7 G7 u7 _ f7=> ?_];have aD:=u4.trans (u5.trans (u6.trans u7));rwa[ju (az.of (aD _ _ f3)) f7 @e (be (by show 4+1<=1000000;decide)) λt8 G8 u8 f8=> ?_];have as:=Z.trans (aD.trans u8);rwa[⟨.inl ⟨rfl,_,aC.of (as _ _ eY)⟩,?_⟩];rwa[ae (as.seqT hR) rfl ?_];rwa[bD (be (by show 4<=1000000;decide)) λt9 G9 u9 _ f9=> ?_];have U:=as.trans u9;rwa[fQ (U _ _ eY) (zq (by have:=Ep O j;have il:S.ins.length<=0+(O.take j).length:=il;lia)) ?_];have st:aK G9 (upd G9 lg (.lst (zs++[.ref t9]))):= .updL (U _ _ eY)
   have cN:bo K G9 t8 c.pl L c.dr c.mr (S.kept++[(r.tag,r.goal)]):=⟨t6,bY++[.ref t4],u9 _ _ f8,(u7.trans (u8.trans u9)) _ _ f6,by
    rw [map_append]
    exact (av.same ad U).app (.cons (eh (az.of ((u5.trans (u6.trans (u7.trans (u8.trans u9)))) _ _ f4)) (.cons (.int _) (.cons (.int _) .nil))) .nil)⟩
   have aP:bv K G9 (.ref t8) ⟨c.pl,L,c.dr,c.mr,S.kept++[(r.tag,r.goal)]⟩:=⟨t8,rfl,cN⟩;obtain ⟨aU,e8,aN⟩:=bv.keep aP st;cases e8
   have dN:av K G9 (zs++[.ref t9]) (wm i c.pl @eA (S.ins++[r.tag])):=by
    unfold wm at W ⊢;rw [map_append,<-append_assoc];exact (av.same W U).app (.cons (BS f9) .nil)
   exact ⟨aq.updF (sY.trans U) n0,t8,_,_,_,aN,ag,bC dN @fE (U _ _ eY),rfl⟩
  ·have e:dh hs.so l.rm c.pl S r=false:=e;unfold cG;rw [if_neg (by rw [e];decide)];exact ⟨sY,cY,zs,_,_,an,eY,W,rfl⟩
 ·obtain ⟨sY,cY,zs,o7,o8,I,eY,W,rfl⟩:=pv;rw [xl,take_length] at I W
  have zl:zs.length=(bO c.pl c.ps).length+(cq hs c l O).ins.length:=by rw [W.len];unfold wm;rw [length_append,length_map,length_map];rfl
  have I:bo K HY cY c.pl (cq hs c l O).light c.dr c.mr (cq hs c l O).kept:=I;have W:av K HY zs (wm i c.pl @eA (cq hs c l O).ins):=W;generalize cq hs c l O=S at I W zl q;obtain ⟨aY,bY,G,aB,ad⟩:=I;rwa[ae (sY.seqT hT) rfl ?_];rwa[ae (sY.seqT hp) (v:= .ref lb) aR ?_];rwa[ae @dd rfl ?_];rwa[bZ (aC.of eY) ?_];rwa[ql.mk _ _ _ _ _ rfl (sY.seqT aQ) (hh.1.lf l (mem_of_getElem? hl)).2.2.2.2 ?_];rw [show decide (0<(zs.length:Int))=decide (((bO c.pl c.ps).length:Int)+(S.ins.length:Int)>0) by rw [decide_eq_decide,zl];lia];rwa[ae @dd rfl ?_];rwa[ae @dd rfl ?_];rwa[ae @dd rfl ?_];rwa[ae @dd rfl ?_];rwa[bD (be (by show 5<=1000000;decide)) λt1 G1 u1 _ f1=> ?_];rwa[bD (be (by show 2<=1000000;decide)) λt2 G2 u2 _ f2=> ?_];exact q t2 t1 lg zs G2 (sY.trans @gB) n0 f2 ⟨aY,bY,u2 _ _ f1,(u1.trans u2) _ _ aB,av.same ad @gB⟩ ((u1.trans u2) _ _ eY) (av.same W @gB)
theorem FH {m:Int}{k:Nat}(F:0<=m)(L:m<=3)(R:k=0\/k=1):Builtin.bitOr m ((2^k:Nat):Int)=((m.toNat|||2^k:Nat):Int):=by
 rcases R with rfl|rfl<;>rcases (show m=0\/m=1\/m=2\/m=3 by lia) with rfl|rfl|rfl|rfl<;>decide
theorem HM {m:Int}(F:0<=m)(L:m<=3):Builtin.bitAnd m 2=((oR m.toNat 0:Nat):Int):=by
 rcases (show m=0\/m=1\/m=2\/m=3 by lia) with rfl|rfl|rfl|rfl<;>decide
theorem HL {m:Int}(F:0<=m)(L:m<=3):Builtin.bitAnd m 1=((oR m.toNat 1:Nat):Int):=by
 rcases (show m=0\/m=1\/m=2\/m=3 by lia) with rfl|rfl|rfl|rfl<;>decide
theorem Rh {m:Int}{k:Nat}(F:0<=m)(L:m<=3)(R:k=0\/k=1):((m.toNat|||2^k:Nat):Int)<=3/\((oR m.toNat k:Nat):Int)<=3:=by
 rcases R with rfl|rfl<;>rcases (show m=0\/m=1\/m=2\/m=3 by lia) with rfl|rfl|rfl|rfl<;>decide
theorem Sw {a b c d x:Str}{u v y z:V}:fk (cW [] [(Sum.inr a,u),(Sum.inr b,v),(Sum.inr c,y),(Sum.inr d,z)]) (Sum.inr x:c7)=if x=d then some z else if x=c then some y else if x=b then some v else if x=a then some u else none:=by
 show fk (dO (dO (dO (dO [] (Sum.inr a) u) (Sum.inr b) v) (Sum.inr c) y) (Sum.inr d) z) (Sum.inr x)=_;rw [fE,fE,fE,fE];simp only [Sum.inr.injEq];rfl
noncomputable def y9 (cs:List Cb)(d:Dd):List Cb:=(bJ 0 ⟨cs,[],0,true,0,[]⟩ d).cs
theorem KA {lo:Nat}{M:MS}{d:Dd}:(bJ lo M d).cs=y9 M.cs d:=by
 unfold y9
 cases d with
 |come t s g k=>
  show (cK lo M t s g k).cs=(cK 0 _ t s g k).cs;unfold cK;split<;>split<;>(try split)<;>rfl
 |lf x i=>
  unfold bJ;dsimp only;split
  ·rfl
  split
  ·rfl
  split
  ·rfl
  split<;>rfl
 |sg x=>rfl
def B8 (cs:List Cb):Prop:=∀c∈cs,0<=c.mr/\c.mr<=3
def oP (x:Str):Prop:=x=s!"stick"\/x=s!"free"\/x=s!"goods"\/x=s!"back"
abbrev KO:Cb:=⟨0,0,0,0,[]⟩
theorem AA {cs:List Cb}{x:Str}{i:Int}(z:B8 cs)(hi:i.toNat<cs.length)(G:oP x):
 ∃v:Int,0<=v/\v<=3/\y9 cs (.lf x i)=cs.set i.toNat {cs.getD i.toNat KO with mr:=v}/\(if x=s!"back" then some (V.int (Builtin.bitAnd (cs.getD i.toNat KO).mr 1)) else if x=s!"free" then some (.int (Builtin.bitAnd (cs.getD i.toNat KO).mr 2)) else if x=s!"goods" then some (.int (Builtin.bitOr (cs.getD i.toNat KO).mr 2)) else if x=s!"stick" then some (.int (Builtin.bitOr (cs.getD i.toNat KO).mr 1)) else none)=some (.int v):=by
 have j:cs.getD i.toNat KO∈cs:=by
  rw [getD_eq_getElem?_getD,getElem?_eq_getElem hi];exact getElem_mem hi
 obtain ⟨F,L⟩:=z _ j;unfold y9
 rcases G with rfl|rfl|rfl|rfl
 ·rw [fM,if_neg @f,if_neg @f,if_neg @f,if_pos rfl];exact ⟨_,by lia,(Rh F L (.inl rfl)).1,rfl,by rw [<-FH F L (.inl rfl)];try rfl⟩
 ·rw [gK,if_neg @f,if_pos rfl];exact ⟨_,by lia,(Rh F L (.inl rfl)).2,rfl,by rw [HM F L];try rfl⟩
 ·rw [fN,if_neg @f,if_neg @f,if_pos rfl];exact ⟨_,by lia,(Rh F L (.inr rfl)).1,rfl,by rw [<-FH F L (.inr rfl)];try rfl⟩
 ·rw [gL,if_pos rfl];exact ⟨_,by lia,(Rh F L (.inr rfl)).2,rfl,by rw [HL F L];try rfl⟩
theorem wt {cs:List Cb}{d:Dd}(h:d.ok)(j:∀x i,d= .lf x i-> ¬oP x):y9 cs d=cs:=by
 unfold y9
 cases d with
 |come t s g k=>show (cK _ _ _ _ _ _).cs=_;unfold cK;split<;>(try split)<;>rfl
 |lf x i=>
  have h':x=s!"block"\/oP x:=h
  rcases h' with rfl|z
  ·rw [fO]
  ·exact absurd z (j x i rfl)
 |sg x=>rfl
theorem Bw {cs:List Cb}{d:Dd}:(y9 cs d).length=cs.length:=by
 unfold y9
 cases d with
 |come t s g k=>show (cK _ _ _ _ _ _).cs.length=_;unfold cK;split<;>(try split)<;>rfl
 |lf x i=>
  unfold bJ;dsimp only;split
  ·rfl
  split
  ·exact length_set
  split
  ·exact length_set
  split<;>exact length_set
 |sg x=>rfl
theorem NC {cs:List Cb}{d:Dd}(F:B8 cs)(h:d.ok)(hi:∀x i,d= .lf x i->i.toNat<cs.length):B8 @hi:=by
 by_cases z:∃x i,d= .lf x i/\oP x
 ·obtain ⟨x,i,rfl,G⟩:=z;obtain ⟨v,J,j,e,_⟩:=AA F (hi x i rfl) G;rw [e];intro c I
  rcases fc I with y|y
  ·exact F c y
  ·rw [y];exact ⟨J,j⟩
 ·rw [wt h λx i e y=>z ⟨x,i,e,y⟩];exact F
noncomputable def fh (cs:List Cb)(ds:List Dd):List Cb:=ds.foldl y9 cs
theorem uw {ds:List Dd}:∀ {cs:List Cb},(fh cs ds).length=cs.length:=by
 unfold fh
 induction ds with
 |nil=>intro cs;rfl
 |cons d ds ih=>intro cs;rw [foldl_cons,ih,Bw]
noncomputable def va (ws:List aI):Dd->List aI
 | .come t s g _=>ws++[⟨t,s,g,-1⟩]
 | .lf x i=>if x=s!"stick"\/x=s!"goods" then dB i ws else ws
 | .sg _=>ws
theorem pV {ws:List aI}{x:Str}{i:Int}(h:x=s!"stick"\/x=s!"goods"):va ws (.lf x i)=dB i ws:=if_pos h
theorem lh {ws:List aI}{x:Str}{i:Int}(h: ¬(x=s!"stick"\/x=s!"goods")):va ws (.lf x i)=ws:=if_neg h
theorem Of {M:MS}{d:Dd}(F:M.fire=false)(J:(∃x i,d= .lf x i/\Dd.ok (.lf x i))\/∃t s g k,d= .come t s g k):(bJ 0 M d).ws=va M.ws d/\(bJ 0 M d).fire=false/\(bJ 0 M d).log=M.log/\(bJ 0 M d).last=M.last:=by
 rcases J with ⟨x,i,rfl,W⟩|⟨t,s,g,k,rfl⟩
 ·rcases W with rfl|rfl|rfl|rfl|rfl
  ·rw [fO];exact ⟨(lh @f).symm,F,rfl,rfl⟩
  ·rw [fM];exact ⟨(pV (.inl rfl)).symm,F,rfl,rfl⟩
  ·rw [gK];exact ⟨(lh @f).symm,F,rfl,rfl⟩
  ·rw [fN];exact ⟨(pV (.inr rfl)).symm,F,rfl,rfl⟩
  ·rw [gL];exact ⟨(lh @f).symm,F,rfl,rfl⟩
 ·have e:cK 0 M t s g k= {M with ws:=M.ws++[⟨t,s,g,-1⟩]}:=by
   unfold cK;rw [if_neg @e,if_neg (by rw [F];decide)]
  show (cK 0 M t s g k).ws=_/\(cK 0 M t s g k).fire=_/\(cK 0 M t s g k).log=_/\(cK 0 M t s g k).last=_;rw [e];exact ⟨rfl,F,rfl,rfl⟩
theorem wQ:∀ {ds:List Dd} {M:MS},M.fire=false->(∀d∈ds,(∃x i,d= .lf x i/\Dd.ok (.lf x i))\/∃t s g k,d= .come t s g k)->(aH 0 M ds).ws=ds.foldl va M.ws/\(aH 0 M ds).fire=false/\(aH 0 M ds).log=M.log/\(aH 0 M ds).last=M.last/\(aH 0 M ds).cs=fh M.cs ds
 |[],M,hf,_=>⟨rfl,hf,rfl,rfl,rfl⟩
 |d::ds,M,hf,hd=>by
  obtain ⟨F,O,Z,I⟩:=Of hf (hd d (.head _));obtain ⟨J,G,L,z,j⟩:=wQ (ds:=ds) O λe U=>hd e (.tail _ U);show (aH 0 @eu ds).ws=_/\(aH 0 @eu ds).fire=_/\(aH 0 @eu ds).log=_/\(aH 0 @eu ds).last=_/\(aH 0 @eu ds).cs=_;rw [J,L,z,j,F,Z,I,KA];exact ⟨rfl,G,rfl,rfl,rfl⟩
theorem rA {i:Int}{ws:List aI}{j:Nat}{r:aI}(h:ws[j]? =some r):dB i (ws.take (j+1))=dB i (ws.take j)++[if r.lift=i then {r with lift:= -1} else r]:=by
 unfold dB;rw [take_add_one,h,map_append];rfl
theorem we {H:Hp}{t:Addr}{r:aI}(e:H t=some (.tup [.int r.tag,.int r.start,.int r.goal,.int r.lift])):bM K H (.ref t) @fj:=eh (az.of e) (.cons (.int _) (.cons (.int _) (.cons (.int _) (.cons (.int _) .nil))))
def DQ (n:Nat)(d:Dd):Prop:=(∃x i,d= .lf x i/\Dd.ok (.lf x i)/\0<=i/\i<(n:Int))\/∃t s g k,d= .come t s g k
inductive vz (K:Fg)(vs:List V)(H:Hp)(Q:VK)(_e:XK):Prop
 |mk (st dp:Addr) (cs:List Cb) (ws:List aI) (last:Int) (fire:Bool) (ds:List Dd) (_:vs=[.ref st,.ref dp]) (_:gR K H st cs ws last fire) (_:y3 K H dp ds) (_:B8 cs) (_:cs.length<=10) (_:ws.length+ds.length<=100) (_:(∀d∈ds,DQ cs.length d)) (_:∀t lc lw ys zs H',aq H H'->H lc=none->H lw=none->lc≠lw->H' t=some (.tup [.ref lc,.ref lw])->H' lc=some (.lst ys)->Paired (bv K H') ys @hc->H' lw=some (.lst zs)->av K H' zs ((ds.foldl va ws).map aI.d)->B8 @hc->Q (.ref t) H')
theorem Ix {ws:List aI}{d:Dd}:(va ws d).length<=ws.length+1:=by
 cases d with
 |come t s g k=>show (ws++[_]).length<=_;simp
 |lf x i=>
  show (if _ then dB i ws else ws).length<=_;split
  ·unfold dB;rw [length_map];lia
  ·lia
 |sg x=>show ws.length<=_;lia
theorem pU:∀ {ds:List Dd} {ws:List aI},(ds.foldl va ws).length<=ws.length+ds.length
 |[],ws=>Nat.le_refl _
 |d::ds,ws=>by
  have h:=pU (ds:=ds) (ws:=va ws d);have:=Ix (ws:=ws) (d:=d);rw [foldl_cons];simp only [length_cons];lia
theorem F6 (F:Z0 K "_law_deeds_done" ja f fd)(d7:mg "list"=none):ay P w K mg base bd 1 f fd ["_law_state_here","_law_deeds_here"] (vz K):=by
 rwa[F.ok dS (by symm) (λbo A outer s H W Q E hr h=> ?_)];obtain ⟨st,dp,cs,ws,bj,bk,ds,rfl,⟨tc,tw,xs,ys,hS,hC,hW,pC,dW⟩,⟨zs,hD,pD⟩,hm,bn,bm,a3,q⟩:=h;have xl:xs.length=cs.length:=pC.len;have yl:ys.length=ws.length:=aE dW;have zl:zs.length=ds.length:=pD.len;rwa[⟨_,(aa (bF (i:=2) dS.nd rfl @l @be) (aa (bF (i:=3) dS.nd rfl @l @be) (aa (ce PassesOwn.never rfl @a @a (bV (au @a @A ak) (bV (au @a (aa @a (aa (bF (i:=5) dS.nd rfl @l (Bs (BH hr) (Br (gE aT @a (gE aT @a (gE aT @a (gE aT @a Bo)))) rfl rfl @b @b) @a @p)) (ac (dZ @a (gy (wv 2) @a jT))))) ak) (ac (au @a (ac (cu (i:=3) rfl dS.nd rfl @l (ax (N':=["_law_one","_law_deed"]) (pk:=[none,some 4]) @k) @a @g @s @g)) ak))))) @j))),?_⟩];rwa[ae hS rfl ?_];rwa[lV (.inr hC) λlc H1 s1 n1 e1=> ?_];rwa[ae (s1.seqT hS) rfl ?_];rwa[lV (.inr (s1.seqT hW)) λaS H2 S n2 e2=> ?_];have aF:=s1.trans S;have nw:H aS=none:=qZ s1 n2
 have bb:lc≠aS:=λe=>by rw [<-e,e1] at n2;cases n2
 have bg:=S _ _ e1;rwa[bL (aF.seq hD) ?_];rwa[eQ (xs:=zs) (λj σ Y=>aq H Y/\∃(lw:Addr) (G W:List V) (o4 o5:Option V),H lw=none/\lc≠lw/\Y lc=some (.lst G)/\Paired (bv K Y) G @gZ/\Y lw=some (.lst W)/\av K Y W (((ds.take j).foldl va ws).map aI.d)/\B8 @gZ/\σ=[some (.ref st),some (.ref dp),some (.ref lc),some (.ref lw),o4,o5]) ⟨aF,aS,xs,ys,_,_,nw,bb,bg,Paired.imp' (λx c z=>bv.keep z aF.st) pC,e2,av.same dW aF,hm,rfl⟩ (λj σ Y _ pv=>pv.1.seq hD) (λj x σ Y hx pv=> ?_) (λσ Y pv=> ?_)]
 ·obtain ⟨sY,lw,G,W,o4,o5,al,af,eC,pY,eW,dY,mY,rfl⟩:=pv;obtain ⟨d,hd,a,rfl,aH⟩:=pD.get1 hx;have aH:=aH.same sY;have dm:d∈ds:=mem_of_getElem? hd;have jl:j<ds.length:=(List.getElem?_eq_some_iff.mp hd).1
  have et:fh cs (ds.take (j+1))=y9 @gZ d:=by
   unfold fh;rw [take_add_one,hd,foldl_append];rfl
  have ew:(ds.take (j+1)).foldl va ws=va ((ds.take j).foldl va ws) d:=by
   rw [take_add_one,hd,foldl_append];rfl
  have wl:((ds.take j).foldl va ws).length<=100:=Nat.le_trans pU (by have:=Ep ds j;lia);rw [et,ew];have ul:G.length=(fh cs @dQ).length:=pY.len;rw [uw] at ul;have a8:(fh cs @dQ).length=cs.length:=uw;generalize fh cs @dQ=I at pY mY a8 ⊢;generalize (ds.take j).foldl va ws=R at dY wl ⊢;have vl:W.length=R.length:=aE dY;clear et ew
  rcases a3 d dm with ⟨x,i,rfl,ok,i0,i1⟩|⟨t,s,g,k,rfl⟩
  ·have hT:az K Y a [.str x,.int i]:=az.of aH.1
   have nc: ¬x=p9:=by rcases ok with h|h|h|h|h<;>rw [h]<;>decide+kernel
   rwa[fz (λσ H3=>H3=Y/\σ=[some (.ref st),some (.ref dp),some (.ref lc),some (.ref lw),some (.ref a),o5]) (by refine ae hT rfl ?_;refine bB nc ?_;exact ⟨rfl,rfl⟩) ?_];rintro σ' H3 ⟨rfl,rfl⟩;rwa[fz (λσ H4=>aq H H4/\aK H3 H4/\∃(Z:List V) (o5:Option V),H4 lc=some (.lst Z)/\Paired (bv K H4) Z (y9 I (.lf x i))/\B8 (y9 I (.lf x i))/\H4 lw=some (.lst W)/\av K H4 W (R.map aI.d)/\σ=[some (.ref st),some (.ref dp),some (.ref lc),some (.ref lw),some (.ref a),o5]) ?_ ?_]
   ·rwa[ae hT rfl ?_];rwa[gI (be (by show 4<=1000000;decide)) λl2 H2 S n2 e2=> ?_];rwa[iZ @fw rfl rfl ?_];have a9:x=s!"block"\/oP x:=ok
    rcases a9 with aj|aj
    ·rwa[aG (by rw [aj];decide+kernel) ?_]
     have nm:∀x' i',Dd.lf x i= .lf x' i'-> ¬oP x':=λx' i' e=>by
      cases e;rw [aj];unfold oP;decide+kernel
     rw [wt ok nm];exact ⟨sY.trans S,S.st,G,_,S _ _ eC,Paired.imp' @dc pY,mY,S _ _ eW,av.same dY S,rfl⟩
    ·rwa[aP (by rcases aj with hx|hx|hx|hx<;>rw [hx]<;>decide+kernel) ?_]
     have hi:i.toNat<I.length:=by lia
     obtain ⟨v,v0,v3,ev,hv⟩:=AA mY hi aj
     have aN:I[i.toNat]? =some (I.getD i.toNat KO):=by rw [getD_eq_getElem?_getD,getElem?_eq_getElem hi];rfl
     generalize I.getD i.toNat KO=c at ev hv aN
     have a5:i.toNat<G.length:=by lia
     obtain ⟨c',a2,y,ey,a7⟩:=(Paired.imp' @dc pY).get1 (getElem?_eq_getElem a5);rw [aN] at a2;cases a2;obtain ⟨ab,bs,aX,eb,db⟩:=a7
     have aV:k7 G i=some (.ref y):=by
      have z:G[i.toNat]? =some (.ref y):=by rw [getElem?_eq_getElem a5,ey]
      have z2:=bW z;rw [show ((i.toNat:Nat):Int)=i by lia] at z2;exact z2
     have bh:wE G.length i=some i.toNat:=by
      unfold wE;rw [if_pos i0,if_pos @c]
     have a0:=S _ _ eC;have aY:=S.seqT hT;rwa[ae aY rfl ?_];rwa[aW (aC.of a0) aV ?_];rwa[ae (az.of aX) rfl ?_];intro p np;rwa[⟨ag,[(Sum.inr "stick",.int @dZ),(Sum.inr "goods",.int @ea),(Sum.inr "free",.int @dR),(Sum.inr "back",.int @dS)],rfl,by show 4<=15;decide,?_⟩];obtain ⟨H5,aD⟩:∃H5,H5=upd (upd H2 p (.dK [])) p (.dK (cW [] [(Sum.inr "stick",.int @dZ),(Sum.inr "goods",.int @ea),(Sum.inr "free",.int @dR),(Sum.inr "back",.int @dS)])):=⟨_,rfl⟩;rw [<-aD]
     have s3:aq H2 H5:=by rw [aD];exact aq.updF (.upd np) np
     have e3:H5 p=some (.dK (cW [] [(Sum.inr "stick",.int @dZ),(Sum.inr "goods",.int @ea),(Sum.inr "free",.int @dR),(Sum.inr "back",.int @dS)])):=by rw [aD];exact ag
     clear aD;rwa[ae (s3.seqT aY) rfl ?_]
     have hg:mz H5 p (.str x) (some (.int v)):=by
      have z:=mz.k (k:=Sum.inr x) e3;rw [Sw,hv] at z;exact z
     rwa[⟨p,_,rfl,hg,?_⟩];have aR:=s3.seqT aY;have ap:=s3 _ _ a0;rwa[ae aR rfl ?_];rwa[aW (aC.of ap) aV ?_];rwa[eV (az.of (s3 _ _ aX)) (by show ¬(HT.sIx 5 0 none=0/\HT.sIx 5 5 (some 3)=5);decide) λl4 H6 s4 n4 e4=> ?_];have e4:H6 l4=some (.tup [.int c.pl,.int c.li,.int c.dr]):=e4;rwa[bD (be (by show 1<=1000000;decide)) λl5 H7 U n5 e5=> ?_];rwa[ju (az.of (U _ _ e4)) e5 @e (be (by show 3+1<=1000000;decide)) λl6 H8 s6 e6=> ?_];have e6:H8 l6=some (.tup [.int c.pl,.int c.li,.int c.dr,.int v]):=e6;have aA:=s4.trans (U.trans s6);rwa[ae (aA.seqT aR) rfl ?_];rwa[aW (aC.of (aA _ _ ap)) aV ?_];rwa[eV (az.of (aA _ _ (s3 _ _ aX))) (by show ¬(HT.sIx 5 0 (some 4)=0/\HT.sIx 5 5 none=5);decide) λl7 H9 s7 n7 e7=> ?_];have e7:H9 l7=some (.tup [.ref ab]):=e7;rwa[ju (az.of (s7 _ _ e6)) e7 @e (be (by show 4+1<=1000000;decide)) λl8 Ha s8 e8=> ?_];have e8:Ha l8=some (.tup [.int c.pl,.int c.li,.int c.dr,.int v,.ref ab]):=e8;have O:=aA.trans (s7.trans s8);have an:=S.trans @hu;rwa[ae (O.seqT aR) rfl ?_];rwa[jW (O _ _ ap) bh ?_];have aU:aK Ha (upd Ha lc (.lst (G.set i.toNat (.ref l8)))):= .updL (O _ _ ap);have a6:aq H (upd Ha lc (.lst (G.set i.toNat (.ref l8)))):=aq.updF (sY.trans an) n1;rwa[⟨a6,an.st.trans aU,G.set i.toNat (.ref l8),_,ag,?_,?_,?_,?_,rfl⟩]
     ·rw [ev];have p8:Paired (bv K Ha) G I:=Paired.imp' (λx c z=>bv.keep z an.st) pY;have c8:bv K Ha (.ref l8) {c with mr:=v}:=⟨l8,rfl,ab,bs,e8,(s3.trans O) _ _ eb,av.same db @hu⟩;exact eL (Paired.imp' (λx c z=>bv.keep z aU) p8) (c8.keep aU)
     ·rw [ev];intro c1 ba
      rcases fc ba with z|z
      ·exact mY c1 z
      ·rw [z];exact ⟨v0,v3⟩
     ·rw [am (λz=>af z.symm)];exact an _ _ eW
     ·exact bC (av.same dY an) (cy _) (O _ _ ap)
   rintro σ' H4 ⟨sH,sT,Z,bp,as,aZ,a4,ad,aM,rfl⟩;have J:az K H4 a [.str x,.int i]:=sT.sqT hT;by_cases gs:x=s!"stick"\/x=s!"goods"
   ·rw [pV gs]
    rcases gs with z|z
    all_goals
     rwa[ae J rfl ?_]
     first
      |(refine cZ z ?_;refine aP rfl ?_)
      |(refine bB (by rw [z];decide+kernel) ?_;refine ae J rfl ?_;refine cZ z ?_)
     rwa[bL (aC.of ad) ?_];rwa[bf (xs:=W) (λj G HX=>aq H4 HX/\G.length=j/\av K HX G ((dB i (R.take j)).map aI.d)) @bb (λj G HX h=>Nat.le_of_eq h.2.1) ⟨.refl _,rfl,.nil⟩ (λj G HX _ h=>h.1.seq (aC.of ad)) (λj y G HX hy hP=> ?_) (λG HX hP l n=> ?_)]
     ·obtain ⟨sx,aO,aw⟩:=hP;obtain ⟨r,a1,dr⟩:=bi aM hy;obtain ⟨ra,rfl,hR⟩:=bU (bM.same dr sx);rwa[⟨bc,?_⟩];rwa[eV hR (by show ¬(HT.sIx 4 0 none=0/\HT.sIx 4 4 (some 3)=4);decide) λt1 G1 L _ f1=> ?_];have f1:G1 t1=some (.tup [.int r.tag,.int r.start,.int r.goal]):=f1;rwa[ae (L.seqT hR) rfl ?_];rwa[ae ((sx.trans L).seqT J) rfl ?_];rwa[cB @i @i]
      ·rwa[bD (be (by show 1<=1000000;decide)) λt2 G2 u2 _ f2=> ?_];rwa[ju @eG f2 @e (be (by show 3+1<=1000000;decide)) λt3 G3 u3 f3=> ?_];have ah:=L.trans @gA;rwa[⟨sx.trans ah,by simp [aO],?_⟩];rw [rA a1,if_pos z,map_append];exact Paired.app (av.same aw ah) (.cons (we (r:= {r with lift:= -1}) f3) .nil)
      ·rwa[ae (L.seqT hR) rfl ?_];rwa[bD (be (by show 1<=1000000;decide)) λt2 G2 u2 _ f2=> ?_];rwa[ju @eG f2 @e (be (by show 3+1<=1000000;decide)) λt3 G3 u3 f3=> ?_];have ah:=L.trans @gA;rwa[⟨sx.trans ah,by simp [aO],?_⟩];rw [rA a1,if_neg z,map_append];exact Paired.app (av.same aw ah) (.cons (we f3) .nil)
     obtain ⟨sx,aO,aw⟩:=hP;rw [vl,take_length] at aw;have U:aq HX (upd HX l (.lst G)):= .upd n;have aQ:=sx.trans U;exact ⟨sH.trans aQ,l,Z,G,_,_,qZ (sH.trans sx) n,(λe=>by rw [<-e,sx _ _ as] at n;cases n),aQ _ _ as,Paired.imp' (λx c z=>bv.keep z aQ.st) aZ,ag,av.same aw U,a4,rfl⟩
   ·rw [lh gs];rwa[ae J rfl ?_];rwa[bB (λz=>gs (.inr z)) ?_];rwa[ae J rfl ?_];rwa[bB (λz=>gs (.inl z)) ?_];exact ⟨sH,lw,Z,W,_,_,al,af,as,aZ,ad,aM,a4,rfl⟩
  ·have hT:az K Y a [.str p9,.int t,.int s,.int g,.bl k]:=az.of aH.1;have em:y9 I (.come t s g k)=I:=wt trivial (λx i e=>by cases e);rw [em];rwa[fz (λσ H3=>aq H H3/\aK Y H3/\∃aB:List V,H3 lc=some (.lst G)/\H3 lw=some (.lst aB)/\av K H3 aB ((va R (.come t s g k)).map aI.d)/\σ=[some (.ref st),some (.ref dp),some (.ref lc),some (.ref lw),some (.ref a),o5]) ?_ ?_]
   ·rwa[ae hT rfl ?_];rwa[cZ rfl ?_];rwa[⟨.inl ⟨rfl,_,aC.of eW⟩,?_⟩];rwa[ae hT rfl ?_];rwa[ae hT rfl ?_];rwa[ae hT rfl ?_];rwa[bD (be (by show 4<=1000000;decide)) λt1 G1 L _ f1=> ?_];rwa[fQ @go @dz ?_]
    have dN:av K G1 (W++[.ref t1]) ((va R (.come t s g k)).map aI.d):=by
     show av K G1 _ ((R++[(⟨t,s,g,-1⟩:aI)]).map aI.d);rw [map_append];exact (av.same dY L).app (.cons (we (r:=⟨t,s,g,-1⟩) f1) .nil)
    rwa[⟨aq.updF @gN al,L.st.trans (.updL @go),_,?_,ag,bC dN (cy _) @go,rfl⟩];rw [am af];exact L _ _ eC
   rintro σ' H4 ⟨sH,sT,aB,as,ad,aM,rfl⟩;have J:=sT.sqT hT;rwa[fz (λσ H5=>aq H4 H5/\σ=[some (.ref st),some (.ref dp),some (.ref lc),some (.ref lw),some (.ref a),o5]) ?_ ?_]
   ·rwa[ae J rfl ?_];rwa[gI (be (by show 4<=1000000;decide)) λl2 H2 S n2 e2=> ?_];rwa[iZ @fw rfl rfl ?_];rwa[aG rfl ?_];exact ⟨S,rfl⟩
   rintro σ' H5 ⟨U,rfl⟩;rwa[ae (U.seqT J) rfl ?_];rwa[bB @f ?_];rwa[ae (U.seqT J) rfl ?_];rwa[bB @f ?_];exact ⟨sH.trans U,lw,G,aB,_,_,al,af,U _ _ as,Paired.imp' (λx c z=>bv.keep z (sT.trans U.st)) pY,U _ _ ad,av.same aM U,mY,rfl⟩
 ·obtain ⟨sY,lw,G,W,o4,o5,al,af,eC,pY,eW,dY,mY,rfl⟩:=pv;rw [zl,take_length] at pY dY mY;rwa[bD (be (by show 2<=1000000;decide)) λt1 G1 L _ f1=> ?_];exact q t1 lc lw G W G1 @gN n1 al af f1 (L _ _ eC) (Paired.imp' (λx c z=>bv.keep z L.st) pY) @go (av.same dY L) mY
inductive EM (K:Fg)(vs:List V)(H:Hp)(Q:VK)(_e:XK):Prop
 |mk (p cs i:_) (_:vs=[.ref p,.int i]) (_:gA K H p cs) (_:1<=cs.length) (_:cs.length<=3) (_:0<=i) (_:Q (.int (sf @gY (i+1))) H)
theorem Nt (F:Z0 K "_law_behind" qL f fd)(bp:mg "len"=none)(aQ:mg "range"=none):ay P w K mg base bd 1 f fd ["_law_cabins","_law_lift_here"] (EM K):=by
 rwa[F.ok Cv (by symm) (λZ A outer s H vs Q E hr h=> ?_)];obtain ⟨p,G,first,rfl,U,c1,c3,f0,q⟩:=h;have O:(eu G).length=G.length:=length_map _;rwa[⟨_,(aa @a (aa (ce PassesOwn.never rfl (Cd rfl aQ (ar aB @C)) @a (ac @W)) (ac (ai @fx)))),?_⟩];rwa[U.len ?_];rwa[⟨⟨by lia,by lia,by lia,by lia⟩,?_⟩]
 have W:((G.length:Int)+1 - 1).toNat=G.length:=by lia
 rwa[c4 (λi σ I=>I=H/\sf (eu G) (first+1)=IU (eu G) (first+1) i (G.length - i)/\∃L,σ=[some (.ref p),some (.int first),some (.int G.length),L]) ⟨rfl,by unfold sf;rw [O];rfl,_,rfl⟩ (λi σ I hi R=> ?_) @fm]
 ·obtain ⟨rfl,j,L,rfl⟩:=R
  have hi:i<G.length:=by lia
  have Y:first+(1+(i:Int))=first+1+(i:Int):=by lia
  have S:0<=(first+(1+(i:Int)))% (G.length:Int):=Int.emod_nonneg _ @c;have J:(first+(1+(i:Int)))% (G.length:Int)<(G.length:Int):=Int.emod_lt_of_pos _ @c;rw [show G.length - i=(G.length - (i+1))+1 by lia] at j;have j:sf (eu G) (first+1)=if (eu G).getD ((first+1+(i:Int))% (eu G).length).toNat false=true then (first+1+(i:Int))% (eu G).length else IU (eu G) (first+1) (i+1) (G.length - (i+1)):=j;rw [O,<-Y] at j;rwa[⟨by lia,?_⟩];rwa[U.at S J λc a b hc hT=> ?_];rwa[ae hT rfl ?_];rw [zt hc] at j;rwa[cB @i @i]
  ·rw [if_pos @N] at j;rw [j] at q;exact ⟨by lia,q⟩
  ·rw [if_neg (by rw [decide_eq_false z];decide)] at j;exact ⟨rfl,j,_,rfl⟩
 obtain ⟨rfl,j,L,rfl⟩:=R;rw [W,Nat.sub_self] at j;have j:sf (eu G) (first+1)= -1:=j;rw [j] at q;exact q
inductive Mn (K:Fg)(vs:List V)(H:Hp)(Q:VK)(_e:XK):Prop
 |mk (p cs i:_) (_:vs=[.ref p,.int i]) (_:gA K H p cs) (_:1<=cs.length) (_:cs.length<=3) (_:0<=i) (_:i<(cs.length:Int)) (_:Q (.int (sf @gY i)) H)
theorem SR {H:Hp}{p:Addr}{cs:List A4}{i:Int}{Q:VK}{E:XK}(h1:gA K H p cs)(h2:1<=cs.length)(L:cs.length<=3)(j:0<=i)(U:i<(cs.length:Int))(g:Q (.int (sf @gY i)) H):Mn K [.ref p,.int i] H Q E:=⟨p,cs,i,rfl,h1,h2,L,j,U,g⟩
theorem Qu (F:Z0 K "_law_at" MA f fd)(Z:aV P w K mg base 1 "_law_behind" ["_law_cabins","_law_lift_here"] (EM K)):ay P w K mg base bd 2 f fd ["_law_cabins","_law_lift_here"] (Mn K):=by
 rwa[F.ok PY (by symm) (λO A outer s H vs Q E Y h=> ?_)];obtain ⟨p,G,i,rfl,J,S,W,L,U,q⟩:=h;have bl:(eu G).length=G.length:=length_map _;obtain ⟨j,rfl⟩:=Int.eq_ofNat_of_zero_le L;have hs:=PX (bs:=eu G) (i:=j) @c @c @c;rwa[⟨_,(aa @gg @j),?_⟩];rwa[J.at L U λc a b I R=> ?_];rw [show ((j:Int)).toNat=j by lia] at I;rw [zt I] at hs;rwa[ae R rfl ?_];rwa[cB @i @i]
 ·rw [if_pos @N] at hs;rw [hs] at q;exact q
 ·rw [if_neg (by rw [decide_eq_false z];decide)] at hs;rw [hs] at q;exact EM.mk _ _ _ rfl J S W L q
theorem yz {dl:sR}{M:MS}:∀ {i p:Nat},i<=p->(aD dl M.ws i M).ws[p]? =M.ws[p]?
 |0,_,_=>rfl
 |i+1,p,h=>by
  have j:=yz (dl:=dl) (M:=M) (i:=i) (p:=p) @c;unfold aD;split
  ·split
   ·unfold c5;split
    ·exact j
    ·show ((aD dl M.ws i M).ws.set i _)[p]? =_;rw [getElem?_set_ne @c];exact j
   ·exact j
  ·exact j
theorem jJ {dl:sR}{W:List aI}{M:MS}(h:M.log=[]):∀i,noLs (aD dl W i M).log=true
 |0=>by show noLs M.log=true;rw [h];rfl
 |i+1=>by
  have j:=jJ (dl:=dl) (W:=W) h i;unfold aD;split
  ·split
   ·unfold c5;split
    ·exact j
    ·exact jg j rfl
   ·exact j
  ·exact j
theorem Ms {bs:List Bool}{first:Int}(h:0<=first): -1<=sf bs first:=by
 have j:∀(n k:Nat),-1<=IU bs first k n:=by
  intro n
  induction n with
  |zero=>intro k;simp [IU]
  |succ n ih=>
   intro k;unfold IU;split
   ·by_cases z:(bs.length:Int)=0
    ·rw [z,Int.emod_zero];lia
    ·have:=Int.emod_nonneg (first+(k:Int)) z;lia
   ·exact ih _
 exact j _ _
theorem Hq {zs:List Int}{X:MS}{j:Nat}{r:aI}{v:Int}(Y:v=Rj zs X.cs r.tag)(F: -1<=v)(S:X.ws[j]? =some r)(z:r.lift= -1):(c5 @ce X j r).ws=X.ws.set j {r with lift:=v}/\(c5 @ce X j r).log=(if v> -1 then X.log++[Fn r.tag v] else X.log)/\(c5 @ce X j r).last=X.last:=by
 have R:(j5 zs X.cs X.ws r X.last).1=v:=Y.symm;unfold c5;rw [R];by_cases y:v= -1
 ·rw [if_pos y,if_neg @c];rwa[⟨?_,rfl,rfl⟩]
  have:({r with lift:=v}:aI)=r:=by rw [y,<-z]
  rw [this,qu S]
 ·rw [if_neg y,if_pos @c];exact ⟨rfl,rfl,rfl⟩
noncomputable def Il:Str:=s!"block"
theorem KC {M:MS}{d:Dd}{n:Nat}(J:DQ n d){i:Nat}:(bJ 0 M d).bl.testBit i=true↔M.bl.testBit i=true\/d= .lf Il (i:Int):=by
 have F:∀ {b p:Prop},¬p->(b↔b\/p):=λh=>⟨.inl,λz=>z.resolve_right h⟩
 rcases J with ⟨x,j,rfl,W,Z,_⟩|⟨t,s,g,k,rfl⟩
 ·have G:∀y:Str,y≠Il-> ¬Dd.lf y j= .lf Il (i:Int):=λy h e=>by cases e;exact h rfl
  rcases W with rfl|rfl|rfl|rfl|rfl
  ·rw [fO];show (M.bl|||2^j.toNat).testBit i=true↔_;rw [Nat.testBit_or,Nat.testBit_two_pow,Bool.or_eq_true,decide_eq_true_eq];rwa[⟨λz=>z.imp id λe=> ?_,λz=>z.imp id λe=> ?_⟩]
   ·rw [show j=(i:Int) by lia];rfl
   ·cases e;lia
  ·rw [fM];exact F (G _ @f)
  ·rw [gK];exact F (G _ @f)
  ·rw [fN];exact F (G _ @f)
  ·rw [gL];exact F (G _ @f)
 ·have e:(bJ 0 M (.come t s g k)).bl=M.bl:=by
   show (cK 0 M t s g k).bl=_;unfold cK;split
   ·rfl
   split<;>rfl
  rw [e];exact F (λe=>by cases e)
theorem yx {n:Nat}{i:Nat}:∀ {ds:List Dd} {M:MS},(∀d∈ds,DQ n d)->((aH 0 M ds).bl.testBit i=true↔M.bl.testBit i=true\/ .lf Il (i:Int)∈ds)
 |[],M,_=>⟨λh=> .inl h,λh=>h.elim id (λh=>by cases h)⟩
 |d::ds,M,h=>by
  show (aH 0 @eu ds).bl.testBit i=true↔_;rw [yx λe U=>h e (.tail _ U),KC (h d (.head _)),mem_cons];constructor
  ·rintro ((a|a)|a)
   ·exact .inl a
   ·exact .inr (.inl a.symm)
   ·exact .inr (.inr a)
  ·rintro (a|a|a)
   ·exact .inl (.inl a)
   ·exact .inl (.inr a.symm)
   ·exact .inr a
theorem rH {dl:sR}{W:List aI}{M:MS}:∀i,(aD dl W i M).bl=M.bl/\(aD dl W i M).fire=M.fire
 |0=>⟨rfl,rfl⟩
 |i+1=>by
  have j:=rH (dl:=dl) (W:=W) (M:=M) i;unfold aD;split
  ·split
   ·unfold c5;split<;>exact j
   ·exact j
  ·exact j
structure SL (hs:Hs)(cs:List Cb)(ws:List aI):Prop where
 len:cs.length=hs.ls.length
 ck:∀c∈cs,iB hs.fl c
 d0:∀c∈cs,0<=c.dr
 m3:B8 cs
 rk:∀r∈ws,fS hs.fl r
def S9 (hs:Hs)(ds:List Dd):Prop:=∀d∈ds,DQ hs.ls.length d/\d.fit hs.fl hs.ls.length
abbrev mS (cs:List Cb)(ws:List aI)(last:Int):MS:=⟨cs,ws,last,false,0,[]⟩
abbrev HP (hs:Hs)(wf:Wf)(zs:List Int)(cs:List Cb)(ws:List aI)(last:Int)(ds:List Dd)(M':MS):Prop:=k6 hs wf hs.ls.length (nQ @ce (aH 0 (mS cs ws last) ds)) M'
structure Sx where
 b:Bool
 t:Int
 i:Int
 fl:Int
noncomputable def sW (b:Bool):Str:=if b=true then s!"in" else s!"out"
noncomputable def Sx.d (s:Sx):D:=tK (sW s.b) s.t s.i s.fl
noncomputable def nY (L:List Sx):List Int:=(L.filter (·.b)).map (·.t)
theorem GD {L j:List Sx}:nY (L++j)=nY L++nY j:=by unfold nY;rw [filter_append,map_append]
theorem NZ {os j:List Int}{i fl:Int}:nY (os.map (λt=>(⟨false,t,i,fl⟩:Sx))++j.map λt=>⟨true,t,i,fl⟩)=j:=by
 have h1:∀l:List Int,nY (l.map (λt=>(⟨false,t,i,fl⟩:Sx)))=[]:=λl=>by
  induction l with
  |nil=>rfl
  |cons t l ih=>exact ih
 have h2:∀l:List Int,nY (l.map (λt=>(⟨true,t,i,fl⟩:Sx)))=l:=λl=>by
  induction l with
  |nil=>rfl
  |cons t l ih=>exact congrArg (t:: ·) ih
 rw [GD,h1,h2];rfl
abbrev DR (H:Hp)(x:V)(d:Dd):Prop:=∃a,x=V.ref a/\ub H a d
theorem wN {H H':Hp}{xs:List V}{ds:List Dd}(h:Paired (DR H) xs ds)(s:aq H H'):Paired (DR H') xs ds:=Paired.imp' (λx d ⟨a,e,z⟩=>⟨a,e,s _ _ z.1,z.2⟩) h
theorem Hk {H:Hp}{l t:Addr}{zs:List V}{xs:List V}{ds:List Dd}{d:Dd}{o:List V}(W:H l=some (.lst zs))(G:Paired (DR H) xs ds)(J:H t=some (.tup d.v))(F:d.ok):Paired (DR (upd H l (.lst o))) (xs++[.ref t]) (ds++[d]):=by
 have L:∀ {y:Addr} {j:List V},H y=some (.tup j)->y≠l:=λ{y j} e z=>by rw [z,W] at e;cases e
 exact Paired.app (Paired.imp' (λx d ⟨a,e,z⟩=>⟨a,e,by rw [am (L z.1)];exact z.1,z.2⟩) G) (.cons ⟨t,rfl,by rw [am (L J)];exact J,F⟩ .nil)
noncomputable def Dd.dat:Dd->D
 | .come t s g k=> .tup [.str p9,.int t,.int s,.int g,.bl k]
 | .lf x n=> .tup [.str x,.int n]
 | .sg x=> .tup [.str x]
theorem Og {H:Hp}{a:Addr}{d:Dd}(h:H a=some (.tup d.v)):bM K H (.ref a) d.dat:=by
 cases d with
 |come t s g k=>exact eh (az.of h) (.cons (.str _) (.cons (.int _) (.cons (.int _) (.cons (.int _) (.cons (.bl _) .nil)))))
 |lf x n=>exact eh (az.of h) (.cons (.str _) (.cons (.int _) .nil))
 |sg x=>exact eh (az.of h) (.cons (.str _) .nil)
theorem KD {H:Hp}{xs:List V}{ds:List Dd}(h:Paired (DR H) xs ds):av K H xs (ds.map Dd.dat):=by
 rwa[PySem.Paired.of (by rw [length_map];exact h.len) λi x d R O=> ?_];rw [getElem?_map] at O;obtain ⟨q,F,rfl⟩:=Option.map_eq_some_iff.mp O;obtain ⟨S,j,a,rfl,z⟩:=h.get1 R;rw [F] at j;cases j;exact Og z.1
theorem KG (d:Dd):iO d.dat<=50:=by cases d<;>simp [Dd.dat,iO,deps]
theorem Hr {ds:List Dd}:∀d∈ds.map Dd.dat,iO d<=50:=λd J=>by
 obtain ⟨e,_,rfl⟩:=mem_map.mp J;exact KG e
noncomputable def Dd.eqB (e d:Dd):Bool:=jP d.dat e.dat
theorem KS {ds:List Dd}{e:Dd}:((ds.map Dd.dat).any λd=>jP d e.dat)=ds.any e.eqB:=by
 rw [any_map];rfl
theorem Hd {d:Dd}{i:Int}:Dd.eqB (.lf Il i) d=true↔d= .lf Il i:=by
 cases d with
 |come t s g k=>simp [Dd.eqB,Dd.dat,jP,eqDs]
 |lf x n=>simp [Dd.eqB,Dd.dat,jP,eqDs]
 |sg x=>simp [Dd.eqB,Dd.dat,jP,eqDs]
theorem Ol {ds:List Dd}{i:Int}:ds.any (Dd.eqB (.lf Il i))=true↔ .lf Il i∈ds:=by
 rw [any_eq_true];exact ⟨λ⟨d,J,e⟩=>Hd.mp e▸J,λh=>⟨_,h,Hd.mpr rfl⟩⟩
theorem M9 {i pl:Int}{os j:List Int}:wm i pl os j=(os.map (λt=>(⟨false,t,i,pl / 2⟩:Sx))++j.map (λt=>(⟨true,t,i,pl / 2⟩:Sx))).map Sx.d:=by
 unfold wm;rw [map_append,map_map,map_map];rfl
theorem Me {H:Hp}{x:V}{s:Sx}(h:bM K H x s.d):∃a,x= .ref a/\az K H a [.str (sW s.b),.int s.t,.int s.i,.int s.fl]:=by
 obtain ⟨a,xs,rfl,h1,h2⟩:=(show bM K H x (.tup [.str (sW s.b),.int s.t,.int s.i,.int s.fl]) from h).outT
 cases h2 with|cons q0 t0=>cases t0 with|cons q1 t1=>cases t1 with|cons q2 t2=>cases t2 with|cons q3 t3=>
 cases t3;cases q0.isStr;cases q1.isInt;cases q2.isInt;cases q3.isInt;exact ⟨a,rfl,h1⟩
theorem uC {L:List Sx}{i:Nat}{s:Sx}(h:L[i]? =some s):nY (L.take (i+1))=nY (L.take i)++if s.b=true then [s.t] else []:=by
 unfold nY;rw [cj _ h,map_append];congr 1;cases e:s.b<;>rfl
theorem Le {b:Bool}:sW b=s!"in"↔b=true:=by
 cases b with
 |true=>exact ⟨λ_=>rfl,λ_=>rfl⟩
 |false=>exact ⟨λz=>absurd z @f,λz=>Bool.noConfusion z⟩
theorem GY (ws:List aI):(ws.filter λr=> !decide (r.tag∈([]:List Int)))=ws:=by
 rw [List.filter_eq_self];intro r _;rfl
theorem Oa {fl tu pl li dr:Int}{ps:List (Int×Int)}{x:Str}(j:0<=tu)(J:0<=dr):0<=(eF fl tu pl li dr ps x).2.2:=by
 unfold eF;split
 ·exact j
 split
 ·exact j
 split
 ·exact J
 split<;>exact J
theorem Ob {k:Str}{t n:Int}{b s:Bool}(J:0<=t)(z:0<n):0<=fv k t n b s:=by
 unfold fv;split
 ·exact J
 split<;>lia
theorem Ca.dm {hs:Hs}{wf:Wf}{M M':MS}{i:Int}{c:Cb}{l:Lf}(h:Ca hs wf M i c l M')(I:atC M i c)(G:M.fire=false)(Y:0<=c.dr)(F:0<=l.tn)(j:noLs M.log=true):∃c',M'.cs=M.cs.set i.toNat c'/\0<=c'.dr/\c'.mr=c.mr/\M'.bl=M.bl/\noLs M'.log=true:=by
 rcases h with ⟨_,rfl⟩|⟨_,h2,_⟩|⟨_,_,L⟩
 ·exact ⟨c,(qu I.2).symm,Y,rfl,rfl,j⟩
 ·rw [G] at h2;cases h2
 ·unfold xh at L;split at L
  ·rename_i z;subst L;exact ⟨_,rfl,Ob F z,rfl,rfl,jg (jg j @fD) @fD⟩
  ·split at L
   ·subst L;exact ⟨⟨c.pl+c.li,c.li,0,c.mr,c.ps⟩,rfl,Int.le_refl _,rfl,rfl,j⟩
   ·obtain ⟨U,u,d,e,J,O,rfl⟩:=L;exact ⟨_,rfl,Oa F Y,rfl,rfl,j⟩
theorem k6.dm {hs:Hs}{wf:Wf}{M:MS}(R:hs.ok)(W:∀fl li he up dn,iz li he up dn->wf fl li he up dn∈cx)(Y:M.fire=false)(I:∀c∈M.cs,iB hs.fl c)(U:∀r∈M.ws,fS hs.fl r)(L:M.ws.length<=64)(Z:∀c∈M.cs,0<=c.dr)(O:B8 M.cs)(J:noLs M.log=true):∀ {n:Nat} {M':MS},k6 hs wf n M M'->(∀c∈M'.cs,0<=c.dr)/\B8 M'.cs/\M'.bl=M.bl/\noLs M'.log=true
 |0,M',h=>by
  obtain rfl:M'=M:=h;exact ⟨Z,O,rfl,J⟩
 |n+1,M',⟨M1,c,l,h1,h2,h3,h4⟩=>by
  obtain ⟨G,S,a3,a4⟩:=k6.dm R W Y I U L Z O J h1;obtain ⟨f1,_,_,_⟩:=k6.ok R W Y I U L h1;have j:c∈M1.cs:=mem_of_getElem? h2.2;obtain ⟨c',e,b1,b2,b3,b4⟩:=h4.dm h2 f1 (G c j) (by have:=(R.lf l (mem_of_getElem? h3)).2.2.1;lia) a4;rwa[⟨λx F=> ?_,λx F=> ?_,b3.trans a3,b4⟩]
  ·rw [e] at F
   rcases fc F with z|z
   ·exact G x z
   ·rw [z];exact b1
  ·rw [e] at F
   rcases fc F with z|z
   ·exact S x z
   ·rw [z,b2];exact S c j
theorem rc:∀ {ds:List Dd} {cs:List Cb} {n:Nat},cs.length=n->(∀d∈ds,DQ n d)->B8 cs->(∀c∈cs,0<=c.dr)->(∀c∈fh cs ds,0<=c.dr)/\B8 @hc
 |[],cs,n,_,_,m,h=>⟨h,m⟩
 |d::ds,cs,n,hn,hd,m,h=>by
  have W:d.ok:=by rcases hd d (.head _) with ⟨x,i,rfl,W,_⟩|⟨t,s,g,k,rfl⟩;exact W;trivial
  have F:∀x i,d= .lf x i->i.toNat<cs.length:=λx i e=>by
   rcases hd d (.head _) with ⟨J,R,j,_,L,O⟩|⟨t,s,g,k,j⟩
   ·rw [e] at j;cases j;lia
   ·rw [e] at j;cases j
  show (∀c∈fh @hi ds,0<=c.dr)/\B8 (fh @hi ds);rwa[rc (by rw [Bw];exact hn) (λe U=>hd e (.tail _ U)) (NC m W F) ?_];by_cases z:∃x i,d= .lf x i/\oP x
  ·obtain ⟨x,i,rfl,G⟩:=z;obtain ⟨v,_,_,e,_⟩:=AA m (F x i rfl) G;rw [e];intro c I
   rcases fc I with y|y
   ·exact h c y
   ·rw [y];show 0<=(cs.getD i.toNat KO).dr;rwa[h _ ?_];rw [getD_eq_getElem?_getD,getElem?_eq_getElem (F x i rfl)];exact getElem_mem _
  ·rw [wt W λx i e y=>z ⟨x,i,e,y⟩];exact h
inductive vq (K:Fg)(vs:List V)(H:Hp)(Q:VK)(_e:XK):Prop
 |mk (h rp np st dp:Addr) (hs:Hs) (rk:Rk) (zs:List Int) (cs:List Cb) (ws:List aI) (last:Int) (ds:List Dd) (_:vs=[.ref h,.ref rp,.ref np,.ref st,.ref dp]) (_:iN K H h hs) (_:hs.lo=0) (_:Rm K H rp rk) (_:rk.ok) (_:rk.fit (hs.fl - 1)) (_:H np=some (.lst @ch)) (_:0<zs.length) (_:(∀z∈zs,0<=z/\z<(hs.ls.length:Int))) (_:zs.length<=9) (_:gR K H st cs ws last false) (_:y3 K H dp ds) (_:SL hs cs ws) (_:S9 hs ds) (_:ws.length+ds.length<=60) (_:0<=last) (_:∀t st' lg us M' H',aq H H'->H' t=some (.tup [.ref st',.ref lg])->gR K H' st' M'.cs M'.ws M'.last false->H' lg=some (.lst us)->av K H' us M'.log->HP hs rk.word zs cs ws last ds M'->Q (.ref t) H')
theorem FW (F:Z0 K "_law_turn" zZ f fd)(bp:mg "len"=none)(aQ:mg "range"=none)(aZ:mg "tuple"=none)(fw:aV P w K mg base 1 "_law_deeds_done" ["_law_state_here","_law_deeds_here"] (vz K))(wZ:aV P w K mg base 2 "_law_at" ["_law_cabins","_law_lift_here"] (Mn K))(jw:aV P w K mg base 3 "_law_opened" ["_law_house_here","_law_k","_law_cabin_here","_law_riders","_law_blocked"] (vv K))(oq:aV P w K mg base 4 "_law_gone" ["_law_house_here","_law_k","_law_rule","_law_cabin_here","_law_riders"] (vy K)):ay P w K mg base bd 5 f fd ["_law_house_here","_law_rule","_law_numbers","_law_state_here","_law_deeds_here"] (vq K):=by
 rwa[F.ok gj (by symm) (λdN A outer s H vs Q E hr h=> ?_)];obtain ⟨h,rp,np,st,dp,hs,rk,zs,cs,ws,aj,ds,rfl,hh,dg,dh,cp,dw,cG,z0,zr,z9,ct,cU,sl,dl,dI,dK,q⟩:=h;have l3:=hh.1.l3;have cl:=sl.len
 have cW:∀d∈ds,DQ cs.length d:=λd hd=>by rw [cl];exact (dl d hd).1
 rwa[⟨_,(aa (dZ (b9 fw hr @b rfl (ar (wv 3) (ar (wv 4) ao))) @a) (aa (bF (i:=7) gj.nd rfl @l (pW ao)) (aa (ce PassesOwn.never rfl (bS rfl aQ (ar (bb @fL rfl bp PySem.boot_len (ar (wv 6) ao)) ao)) @a (aa (bF (i:=9) gj.nd rfl @l @dq) (ac (au (bw @eO @el @fx (bx _)) (aa (dZ (bR @cu (lQ (A7 rfl) (wv 9) pN (pI aB)) (cO (ar (b9 wZ hr @b rfl (ar (wv 5) (ar (bT @O (wv 2) (bR A9 @el (bb @fL rfl bp PySem.boot_len @es)) @p) ao))) ao))) (gy (wv 6) (wv 8) jT)) (ac (au (bw IC (bT @O @dq aB @p) @fx (bx _)) (ac (aJ (fY rfl PySem.F.plainAttrs_list PySem.F.slot_list_append PySem.F.type_list_append lr (wv 7) (ar (cO (ar aT (ar @el (ar (bT @O @dq aB @p) ao)))) ao)))) ak))) ak)))) (aa (ce PassesOwn.never rfl (bS rfl aQ (ar (bb @fL rfl bp PySem.boot_len @er) ao)) @a (aa (cu (i:=11) rfl gj.nd rfl @l (ax (N':=["_law_one","_law_k"]) (pk:=[none,some 10]) @k) (iP rfl (wv 6)) @g (λC s H ex=>(cc (bw @eO @bp (wv 1) (bx _)))) @E) (aa (bF (i:=12) gj.nd rfl @l (pW ao)) (aa (au (bw @eO (bR A9 (bT @O @cb aB @p) aB) aB (bx _)) (ac xZ) ak) (bV (au (bw IC (bT @O @cb aB @p) aB (bx _)) (ac (dZ (b9 jw hr @b rfl (ar (wv 0) (ar @dN (ar @cb (ar (wv 11) (ar (fb (OW rfl hr) (cO (ar aT (ar @dN ao))) (wv 4) @z) ao)))))) (gv (K:=K) (n:=2) rfl rfl (aM (gy (wv 5) @dN jT) (aM (lP (i:=12) gj.nd rfl @l) eU))))) (ac (dZ (b9 oq hr @b rfl (ar (wv 0) (ar @dN (ar (wv 1) (ar @cb @cR))))) (gy (wv 5) @dN jT)))) (aa (aJ (fY rfl PySem.F.plainAttrs_list PySem.F.slot_list_extend PySem.F.type_list_extend iR (wv 7) (ar @gw ao))) (aa (bF (i:=13) gj.nd rfl @gF (bG rfl (ax (N':=["_law_row"]) (pk:=[none]) @k) (iP rfl @gw) @g (λC s H ex=>(cc (bw @eO @bp aT (bx _)))) (λC s H ex=>@bp))) (ac (cu (i:=6) rfl gj.nd rfl @l (ax (N':=["_law_one","_law_ins"]) (pk:=[none,some 13]) @k) (iP rfl (wv 6)) @g (λC s H ex=>(cc (bw @gu @bp (wv 1) @z))) @E))))))))) (ac (ai (cO (ar (cO (ar (aL @cA rfl aZ boot_tuple @er) (ar (aL @cA rfl aZ boot_tuple (ar (wv 6) ao)) (ar (bT @O (wv 3) aB @p) (ar fg ao))))) (ar (wv 7) ao))))))))),?_⟩];have co:=ct;obtain ⟨tc,tw,dS,dJ,hS,_⟩:=ct;rwa[vz.mk _ _ _ _ _ _ _ rfl co cU sl.m3 @c @c cW λt1 lc lw us vs H1 s1 nc nw aG e1 eC pC eW dW m3=> ?_]
 have cI:∀d∈ds,(∃x i,d= .lf x i/\Dd.ok (.lf x i))\/∃t s g k,d= .come t s g k:=λd hd=>by
  rcases (dl d hd).1 with ⟨x,i,e,ok,_⟩|z
  ·exact .inl ⟨x,i,e,ok⟩
  ·exact .inr z
 have da:∀d∈ds,d.ok/\d.fit hs.fl hs.ls.length:=λd hd=>⟨by rcases cI d hd with ⟨x,i,rfl,ok⟩|⟨t,s,g,k,rfl⟩;exact ok;trivial,(dl d hd).2⟩;obtain ⟨q1,q2,q3,q4,q5⟩:=wQ (ds:=ds) (M:=mS cs ws aj) rfl cI;have dj:kZ hs ws.length (mS cs ws aj):=⟨sl.len,sl.ck,sl.rk,by show 0+ws.length<=_;lia⟩;have mo:=dj.deeds da ds.length;rw [take_of_length_le @h,dg] at mo;have md:=rc cl (λd hd=>(dl d hd).1) sl.m3 sl.d0;have cC:=λi:Nat=>yx (i:=i) (M:=mS cs ws aj) (λd hd=>(dl d hd).1);have cK:=pU (ds:=ds) (ws:=ws);unfold HP nQ at q;rw [<-q1] at dW cK;rw [<-q5] at pC m3 md;generalize aH 0 (mS cs ws aj) ds=M at q dW pC m3 md cC mo q2 q3 q4 cK;have q3:M.log=[]:=q3;have q4:M.last=aj:=q4;have vl:vs.length=M.ws.length:=aE dW;have ul:us.length=M.cs.length:=pC.len;have ml:=mo.len;rwa[jU (az.of e1) rfl ?_];rwa[gI (be (by show 0<=1000000;decide)) λU H2 s2 n2 e2=> ?_];have du:=s1.trans s2;have ng:H U=none:=qZ s1 n2
 have aF:lw≠U:=λz=>by rw [z,n2] at eW;cases eW
 have bg:lc≠U:=λz=>by rw [z,n2] at eC;cases eC
 rwa[bZ (aC.of (s2 _ _ eW)) ?_];rwa[⟨⟨by lia,by lia⟩,?_⟩];rwa[c4 (λj σ HY=>aq H HY/\∃(ys J:List V) (o8 o9:Option V),HY lc=some (.lst us)/\Paired (bv K HY) us M.cs/\HY lw=some (.lst ys)/\av K HY ys ((aD @ce M.ws j M).ws.map aI.d)/\HY U=some (.lst J)/\av K HY J (aD @ce M.ws j M).log/\(aD @ce M.ws j M).last=M.last/\σ=[some (.ref h),some (.ref rp),some (.ref np),some (.ref st),some (.ref dp),some (.ref lc),some (.ref lw),some (.ref U),o8,o9,none,none,none,none]) ⟨du,vs,[],_,_,s2 _ _ eC,Paired.imp' (λx c z=>bv.keep z s2.st) pC,s2 _ _ eW,av.same dW s2,e2,by show av K H2 [] M.log;rw [q3];exact .nil,rfl,rfl⟩ @dB @cl]
 ·obtain ⟨sY,ys,J,o8,o9,R,pY,S,I,ah,O,aA,rfl⟩:=pv
  have i0:(0:Int)+(j:Nat)=((j:Nat):Int):=by lia
  rw [i0]
  have hj:j<M.ws.length:=by lia
  have cn:M.ws[j]? =some M.ws[j]:=getElem?_eq_getElem hj;generalize M.ws[j]=r at cn;have bK:(aD @ce M.ws j M).ws[j]? =some r:=(yz @h).trans cn;have aP:=jJ (dl:=j5 zs) (W:=M.ws) q3 j;obtain ⟨bz,an,a9⟩:=dH (dl:=j5 zs) (W:=M.ws) (M:=M) j
  have hY:aD @ce M.ws (j+1) M=if r.lift= -1 then c5 @ce (aD @ce M.ws j M) j r else aD @ce M.ws j M:=by
   show (match M.ws[j]? with|some r=>_|none=>_)=_;rw [cn]
  rw [q3,length_nil] at a9;rw [hY];generalize aD @ce M.ws j M=X at I O bK aP bz an a9 aA;have yl:ys.length=X.ws.length:=aE I;have zl:J.length=X.log.length:=O.len
  have dv:j<ys.length:=by lia
  have hy:=getElem?_eq_getElem dv;obtain ⟨r',ap,dy⟩:=bi (f:=aI.d) I hy;rw [bK] at ap;cases ap;obtain ⟨ra,ey,hT⟩:=bU dy;rw [ey] at hy dy;have aR:=bW hy;rwa[aW @fh aR ?_];rwa[ae hT rfl ?_];rwa[cB @i @i]
  ·rw [if_pos z];rwa[eV hT (by show ¬(HT.sIx 4 0 none=0/\HT.sIx 4 4 (some 3)=4);decide) λt4 H4 s4 n4 e4=> ?_];have e4:H4 t4=some (.tup [.int r.tag,.int r.start,.int r.goal]):=e4;have ad:=sY.trans s4;rwa[ae (s4.seqT hT) rfl ?_];rwa[bZ (aC.of (ad _ _ cG)) ?_];rw [length_map];rwa[⟨by lia,?_⟩];have m0:0<=r.tag% (zs.length:Int):=Int.emod_nonneg _ @c;have m1:r.tag% (zs.length:Int)<(zs.length:Int):=Int.emod_lt_of_pos _ @c;obtain ⟨n,hn⟩:∃n:Nat,r.tag% (zs.length:Int)=(n:Int):=Int.eq_ofNat_of_zero_le m0
   have ca:n<zs.length:=by lia
   have gz:zs.getD (r.tag% (zs.length:Int)).toNat 0=zs[n]:=by
    rw [hn,show ((n:Int)).toNat=n by lia,getD_eq_getElem?_getD,getElem?_eq_getElem ca];rfl
   rwa[aW (aC.of (ad _ _ cG)) (v:= .int zs[n]) (by rw [hn];exact bW (by rw [getElem?_map,getElem?_eq_getElem ca];rfl)) ?_];obtain ⟨g0,g1⟩:=zr zs[n] (getElem_mem ca);rwa[SR (cs:=M.cs.map yG) (BZ (.inl (aC.of (s4 _ _ R))) (Paired.imp' (λx c z=>bv.keep z s4.st) pY)) (by rw [length_map];have:=hh.1.l1;lia) (by rw [length_map];lia) g0 (by rw [length_map];lia) ?_];obtain ⟨v,hv⟩:∃v,v=sf (eu (M.cs.map yG)) zs[n]:=⟨_,rfl⟩
   have ge: -1<=v:=by rw [hv];exact Ms g0
   rw [<-hv]
   have hv:v=Rj zs X.cs r.tag:=by unfold Rj;rw [gz,an];exact hv
   obtain ⟨d1,d2,d3⟩:=Hq hv ge bK z;generalize c5 @ce X j r=Y at d1 d2 d3;rw [d1,d2,d3];rwa[bD (be (by show 1<=1000000;decide)) λt5 H5 s5 n5 e5=> ?_];rwa[ju (az.of (s5 _ _ e4)) e5 @e (be (by show 3+1<=1000000;decide)) λt6 H6 s6 e6=> ?_];have e6:H6 t6=some (.tup [.int r.tag,.int r.start,.int r.goal,.int v]):=e6;have Z:=s4.trans @gx;have al:=Z _ _ S;rwa[jW (j:=j) al (by unfold wE;rw [if_pos @c,if_pos @c];congr 1) ?_];have sT:aK H6 @cB:= .updL al;have ch:aq H @cB:=aq.updF (sY.trans Z) nw
   have bX:av K @cB @F ((X.ws.set j {r with lift:=v}).map aI.d):=by
    rw [map_set];exact eL (bC (av.same I Z) (cy _) al) (bM.noL (d:=aI.d {r with lift:=v}) (eh (az.of e6) (.cons (.int _) (.cons (.int _) (.cons (.int _) (.cons (.int _) .nil))))) rfl al)
   have bA:=bC (o:= .lst @F) (av.same O Z) aP al;have a6:upd H6 lw (.lst @F) lw=some (.lst @F):=ag
   have aw:upd H6 lw (.lst @F) U=some (.lst J):=by rw [am aF.symm];exact Z _ _ ah
   have bY:upd H6 lw (.lst @F) lc=some (.lst us):=by rw [am aG];exact Z _ _ R
   have cg:az K @cB t6 [.int r.tag,.int r.start,.int r.goal,.int v]:=sT.sqT (az.of e6);have cw:=sT.sqT (Z.seqT hT);have b0:=Paired.imp' (λx c z=>bv.keep z sT) (Paired.imp' (λx c z=>bv.keep z Z.st) pY);generalize upd H6 lw (.lst @F)=H7 at ch bX bA a6 aw bY cg cw b0;have bu:k7 @F (j:Int)=some (.ref t6):=bW (by rw [getElem?_set_self @c]);rwa[aW (aC.of a6) bu ?_];rwa[ae cg rfl ?_];rwa[cB @cn @cn]
   ·rwa[⟨.inl ⟨rfl,_,aC.of aw⟩,?_⟩];rwa[ae cw rfl ?_];rwa[aW (aC.of a6) bu ?_];rwa[ae cg rfl ?_];rwa[bD (be (by show 3<=1000000;decide)) λt9 H9 s9 n9 e9=> ?_];rwa[fQ @eR @dz ?_];rwa[⟨aq.updF (ch.trans s9) ng,_,_,_,_,?_,Paired.imp' (λx c z=>bv.keep z (.updL @eR)) (Paired.imp' (λx c z=>bv.keep z s9.st) b0),?_,bC (av.same bX s9) (cy _) @eR,ag,?_,aA,rfl⟩]
    ·rw [am bg];exact s9 _ _ bY
    ·rw [am aF];exact s9 _ _ a6
    ·rw [if_pos y];exact Paired.app (bC (av.same bA s9) aP @eR) (.cons (bM.noL (d:=Fn r.tag v) (eh (az.of e9) (.cons (.str _) (.cons (.int _) (.cons (.int _) .nil)))) rfl @eR) .nil)
   ·exact ⟨ch,_,J,_,_,bY,b0,a6,bX,aw,by rw [if_neg y];exact bA,aA,rfl⟩
  ·rw [if_neg z];exact ⟨sY,ys,J,_,_,R,pY,S,I,ah,O,aA,rfl⟩
 obtain ⟨sY,ys,J,o8,o9,R,pY,S,I,ah,O,aA,rfl⟩:=pv;rw [show ((vs.length:Int)).toNat=M.ws.length by lia] at I O aA;have aO:=mo.deals (dl:=j5 zs) mo.ws M.ws.length;obtain ⟨bz,an,a9⟩:=dH (dl:=j5 zs) (W:=M.ws) (M:=M) M.ws.length;have aP:=jJ (dl:=j5 zs) (W:=M.ws) q3 M.ws.length;obtain ⟨cV,cr⟩:=rH (dl:=j5 zs) (W:=M.ws) (M:=M) M.ws.length;rw [q3,length_nil] at a9;generalize aD @ce M.ws M.ws.length M=M2 at q I O aA aO bz an a9 aP cV cr;rw [<-an] at pY
 have d2:∀c∈M2.cs,0<=c.dr:=by rw [an];exact md.1
 have k3:B8 M2.cs:=by rw [an];exact m3
 have cY:∀fl li he up dn,iz li he up dn->rk.word fl li he up dn∈cx:=λfl li he up dn sn=>Kk (Rk.isL cp sn);have f2:M2.fire=false:=cr.trans q2
 have dL:M2.ws.length<=60:=by lia
 have cD:=λ(n:Nat) (M':MS) (G:k6 hs rk.word n M2 M')=>k6.ok hh.1 cY f2 aO.cs aO.ws @c G;have dB:=λ(n:Nat) (M':MS) (G:k6 hs rk.word n M2 M')=>k6.dm hh.1 cY f2 aO.cs aO.ws @c d2 k3 aP G;clear dW pC eC eW;rwa[bZ @cH ?_];rwa[⟨⟨by lia,by lia⟩,?_⟩];rwa[c4 (λj σ HY=>aq H HY/\∃(M':MS) (lw:Addr) (xs ys J:List V) (o8 o9 b5 bJ bH bk:Option V),k6 hs rk.word j M2 M'/\H lw=none/\lc≠lw/\lw≠U/\HY lc=some (.lst xs)/\Paired (bv K HY) xs M'.cs/\HY lw=some (.lst ys)/\av K HY ys @fK/\HY U=some (.lst J)/\av K HY J M'.log/\σ=[some (.ref h),some (.ref rp),some (.ref np),some (.ref st),some (.ref dp),some (.ref lc),some (.ref lw),some (.ref U),o8,o9,b5,bJ,bH,bk]) ⟨sY,M2,lw,us,ys,J,_,_,_,_,_,_,rfl,nw,aG,aF,R,pY,S,I,ah,O,rfl⟩ @dB @cl]
 ·clear sY R pY S I ah O;obtain ⟨sY,M',lw,xs,ys,J,o8,o9,b5,bJ,bH,bk,G,nw,aG,aF,R,pY,S,I,ah,O,rfl⟩:=pv
  have i0:(0:Int)+(j:Nat)=((j:Nat):Int):=by lia
  rw [i0];obtain ⟨g1,g2,g3,g4⟩:=cD _ _ G;obtain ⟨b1,b2,b3,b4⟩:=dB _ _ G;have wl:=g4.wl;have gl:=g4.log
  have jl:j<M'.cs.length:=by rw [g4.len,an];lia
  have jN:((j:Int)).toNat=j:=by lia
  have cf:M'.cs[j]? =some M'.cs[j]:=getElem?_eq_getElem jl;have ci:M'.cs[j]∈M'.cs:=getElem_mem jl;generalize M'.cs[j]=c at cf ci;have bm:atC M' (j:Int) c:=⟨by lia,by rw [jN];exact cf⟩;have ba:hs.ls[j]? =some hs.ls[j]:=getElem?_eq_getElem @c;generalize hs.ls[j]=l at ba
  have bq:hs.ls[((j:Int)).toNat]? =some l:=by rw [jN];exact ba
  have aY:=g3 c ci;have dO:=b1 c ci;have m0:=aY.m0;have yl:ys.length=M'.ws.length:=aE I;have xl:xs.length=M'.cs.length:=pY.len;have dT:J.length=M'.log.length:=O.len
  have tb:c.mr.toNat.testBit 0=decide (c.mr% 2=1):=by rw [Nat.testBit_zero,decide_eq_decide];lia
  have dd:∀r∈M'.ws,fS hs.fl r:=λr hr=>aO.ws r (g4.ws r hr);rwa[bL @fh ?_];rwa[bf (xs:=ys) (λi us HX=>HX=HY/\av K HX us (((M'.ws.take i).filter λr=>decide (r.lift=(j:Int))).map aI.d)) @bb (λi us HX h=>by rw [h.2.len,length_map];exact Nat.le_trans @B (by rw [length_take];exact Nat.min_le_left _ _)) ⟨rfl,.nil⟩ (λi us HX _ h=>by rw [h.1];exact aC.of S) @dr (λcQ HX h rl nr=> ?_)]
  ·obtain ⟨rfl,dX⟩:=h;obtain ⟨r,ap,dr⟩:=bi I hy;obtain ⟨ra,rfl,hR⟩:=bU dr;rwa[⟨bc,?_⟩];rwa[ae hR rfl ?_];show if decide (r.lift=(j:Int))=true then _ else _;by_cases z:r.lift=(j:Int)
   ·rw [if_pos @N];exact ⟨rfl,by rw [cj _ ap,if_pos @N,map_append];exact dX.app (.cons dr .nil)⟩
   ·rw [if_neg (by rw [decide_eq_false z];decide)];exact ⟨rfl,by rw [cj _ ap,if_neg (by rw [decide_eq_false z];decide),append_nil];exact dX⟩
  obtain ⟨rfl,dR⟩:=h;rw [yl,take_length] at dR;have dR:av K HX cQ ((bQ (j:Int) M').map aI.d):=dR;have a7:(bQ (j:Int) M').length<=64:=Nat.le_trans @B @c;generalize b8:upd HX rl _=H3
  have s3:aq HX H3:=by rw [<-b8];exact .upd nr
  have e3:H3 rl=some (.lst cQ):=by rw [<-b8];exact ag
  clear b8;rwa[gI (be (by show 0<=1000000;decide)) λlm H4 s4 n4 e4=> ?_];have ad:=s3.trans s4;have aS:=sY.trans ad
  have cZ:j<xs.length:=by lia
  obtain ⟨c2,cS,c0,dD,dt⟩:=pY.get1 (getElem?_eq_getElem cZ);rw [cf] at cS;cases cS;have aR:k7 xs (j:Int)=some (.ref c0):=bW (by rw [getElem?_eq_getElem cZ,dD])
  have cH:wE xs.length (j:Int)=some j:=by unfold wE;rw [if_pos @c,if_pos @c];congr 1
  have bn:bo K H4 c0 c.pl c.li c.dr c.mr c.ps:=dt.same ad;have br:=bn;obtain ⟨ab,bs,cE,eb,db⟩:=bn;have as:=ad _ _ R;have bE:=ad _ _ S;have bj:=ad _ _ ah;have bP:=av.same I ad;have b7:=av.same O ad;have bN:Paired (bv K H4) xs M'.cs:=Paired.imp' (λx c z=>bv.keep z ad.st) pY;have cJ:=av.same dR ad
  have dz:lm≠U:=λz=>by rw [z,s3 _ _ ah] at n4;cases n4
  have dq:lm≠lc:=λz=>by rw [z,s3 _ _ R] at n4;cases n4
  rwa[aW @gp aR ?_];rwa[ae (az.of cE) rfl ?_];rwa[⟨by decide,?_⟩];rwa[cB @eV @eV]
  ·exact ⟨aS,M',lw,xs,ys,J,_,_,_,_,_,_,⟨M',c,l,G,bm,ba,.inl ⟨by rw [tb];exact decide_eq_true od,rfl⟩⟩,nw,aG,aF,as,bN,bE,bP,bj,b7,rfl⟩
  have cz:c.mr.toNat.testBit 0=false:=by rw [tb];exact decide_eq_false od
  clear R pY S I ah O;rwa[fz (λσ H5=>aq H H5/\∃(c':Cb) (os is:List Int) (tn a5:Addr) (ms:List V),H5 lc=some (.lst @ev)/\Paired (bv K H5) @ev (M'.cs.set j c')/\H5 lw=some (.lst ys)/\av K H5 ys @fK/\H5 U=some (.lst J)/\av K H5 J M'.log/\H5 a5=some (.lst ms)/\a5≠U/\av K H5 ms (wm (j:Int) c.pl os is)/\os.length<=64/\is.length<=64/\Ca hs rk.word M' (j:Int) c l ⟨M'.cs.set j c',M'.ws.filter (λr=> !decide (r.tag∈is)),M'.last,M'.fire,M'.bl,M'.log++wm (j:Int) c.pl os is⟩/\σ=[some (.ref h),some (.ref rp),some (.ref np),some (.ref st),some (.ref dp),some (.ref lc),some (.ref lw),some (.ref U),o8,o9,some (.int (j:Int)),some (.ref rl),some (.ref a5),bk]) ?_ ?_]
  ·rwa[aW @gp aR ?_];rwa[ae (az.of cE) rfl ?_];rwa[cB (λop=> ?_) (λop=> ?_)]
   ·rwa[aW @gp aR ?_];rwa[bD (be (by show 2<=1000000;decide)) λkb H5 s5 n5 e5=> ?_];obtain ⟨zd,dc,pD⟩:=cU;have a8:=aS.trans s5;rwa[IY (e:=Dd.dat (.lf Il (j:Int))) (a8.seq dc) (KD (wN pD a8)) (eh (az.of e5) (.cons (.str _) (.cons (.int _) .nil))) Hr ?_];rw [KS]
    have hb:ds.any (Dd.eqB (.lf Il (j:Int)))=M'.bl.testBit ((j:Int)).toNat:=by
     rw [Bool.eq_iff_iff,Ol,jN,b3,cV,cC j];exact ⟨.inr,λz=>z.elim (λz=>by simp at z) id⟩
    rw [hb];rwa[vv.mk _ _ _ _ _ _ _ _ _ _ rfl (hh.same a8) @c bq (br.same s5) (aY.ev op) aY.len ((s4.trans s5) _ _ e3) (av.same cJ s5) a7 λt bh lx zx H6 s6 n6 e6 c6 x6 d6=> ?_];rwa[jU (az.of e6) rfl ?_];have af:=s5.trans s6
    have c3:lx≠U:=λz=>by rw [z,s5 _ _ bj] at n6;cases n6
    have df:lx≠lc:=λz=>by rw [z,s5 _ _ as] at n6;cases n6
    rwa[jW @eS cH ?_];have sT:aK H6 (upd H6 lc (.lst (xs.set j (.ref bh)))):= .updL @eS;rwa[⟨aq.updF (aS.trans af) nc,⟨c.pl,(cq hs c l (bQ (j:Int) M')).light,(fv l.kd l.tn c.dr (M'.bl.testBit ((j:Int)).toNat) (decide (((bO c.pl c.ps).length:Int)+((cq hs c l (bQ (j:Int) M')).ins.length:Int)>0))),c.mr,(cq hs c l (bQ (j:Int) M')).kept⟩,bO c.pl c.ps,(cq hs c l (bQ (j:Int) M')).ins,bh,lx,zx,ag,?_,?_,bC (av.same bP af) (cy _) @eS,?_,bC (av.same b7 af) b4 @eS,?_,c3,bC d6 @fE @eS,Nat.le_trans jf aY.len,Nat.le_trans rC a7,?_,rfl⟩]
    ·have c8:bv K H6 (.ref bh) ⟨c.pl,(cq hs c l (bQ (j:Int) M')).light,(fv l.kd l.tn c.dr (M'.bl.testBit ((j:Int)).toNat) (decide (((bO c.pl c.ps).length:Int)+((cq hs c l (bQ (j:Int) M')).ins.length:Int)>0))),c.mr,(cq hs c l (bQ (j:Int) M')).kept⟩:=⟨bh,rfl,c6⟩;exact eL (Paired.imp' (λx c z=>bv.keep z (af.st.trans sT)) bN) (c8.keep sT)
    ·rw [am aG.symm];exact af _ _ bE
    ·rw [am bg.symm];exact af _ _ bj
    ·rw [am df];exact x6
    ·rwa[.inr (.inr ⟨cz,g1,?_⟩)];unfold xh;rw [if_pos op];unfold oX gh wz wm;rw [jN];simp only [append_assoc]
   ·have c9:c.dr=0:=by lia
    rwa[aW @gp aR ?_];rwa[vy.mk _ _ _ _ _ _ _ _ _ _ _ rfl (hh.same aS) @c bq (aS.seqT dh) cp dw br aY c9 (s4 _ _ e3) cJ (λr hr=>dd r (mem_filter.mp hr).1) a7 λt c' H6 s6 c6 gc=> ?_];rwa[jW @ga cH ?_];have sT:aK H6 (upd H6 lc (.lst (xs.set j (.ref t)))):= .updL @ga;rwa[⟨aq.updF (aS.trans s6) nc,c',[],[],t,lm,[],ag,?_,?_,bC (av.same bP s6) (cy _) @ga,?_,bC (av.same b7 s6) b4 @ga,?_,dz,.nil,by decide,by decide,?_,rfl⟩]
    ·have c8:bv K H6 (.ref t) c':=⟨t,rfl,c6⟩;exact eL (Paired.imp' (λx c z=>bv.keep z (s6.st.trans sT)) bN) (c8.keep sT)
    ·rw [am aG.symm];exact s6 _ _ bE
    ·rw [am bg.symm];exact s6 _ _ bj
    ·rw [am dq];exact s6 _ _ e4
    ·rwa[.inr (.inr ⟨cz,g1,?_⟩)];rw [GY,show wm (j:Int) c.pl [] []=[] from rfl,append_nil]
     have se:(⟨M'.cs.set j c',M'.ws,M'.last,M'.fire,M'.bl,M'.log⟩:MS)=gh M' (j:Int) c':=by unfold gh;rw [jN]
     rw [se];unfold xh;unfold Rp at gc;rw [if_neg op];by_cases cT:c.pl% 2=1
     ·rw [if_pos cT] at gc ⊢;rw [gc]
     ·rw [if_neg cT] at gc ⊢;obtain ⟨f0,u,d,a1,a2,a3,a4⟩:=gc;exact ⟨f0,u,d,a1,a2,a3,by rw [a4]⟩
  rintro σ' H5 ⟨a8,c',os,is,tn,a5,ms,c7,dC,di,dA,aN,dF,cv,cR,bI,ol,il,gr,rfl⟩
  have dM:ms.length=os.length+is.length:=by rw [bI.len];unfold wm;rw [length_append,length_map,length_map]
  rwa[⟨.inl ⟨rfl,_,aC.of aN⟩,?_⟩];rwa[BO aN cv @bb ?_];have sT:aK H5 (upd H5 U (.lst (J++ms))):= .updL aN;have Z:aq H (upd H5 U (.lst (J++ms))):=aq.updF a8 ng;have cm:upd H5 U (.lst (J++ms)) U=some (.lst (J++ms)):=ag;have cL:av K (upd H5 U (.lst (J++ms))) (J++ms) (M'.log++wm (j:Int) c.pl os is):=(bC dF b4 aN).app (bC bI @fE aN)
  have cb:upd H5 U (.lst (J++ms)) lc=some (.lst @ev):=by rw [am bg];exact c7
  have al:upd H5 U (.lst (J++ms)) lw=some (.lst ys):=by rw [am aF];exact di
  have bB:upd H5 U (.lst (J++ms)) a5=some (.lst ms):=by rw [am cR];exact cv
  have a0:av K (upd H5 U (.lst (J++ms))) ms (wm (j:Int) c.pl os is):=bC bI @fE aN;have cM:av K (upd H5 U (.lst (J++ms))) ys @fK:=bC dA (cy _) aN;have cP:=Paired.imp' (λx c z=>bv.keep z sT) dC;generalize upd H5 U (.lst (J++ms))=H6 at Z cm cL cb al bB a0 cM cP;clear sT;rw [M9] at a0;have hL:nY (os.map (λt=>(⟨false,t,(j:Int),c.pl / 2⟩:Sx))++is.map (λt=>(⟨true,t,(j:Int),c.pl / 2⟩:Sx)))=is:=NZ;generalize os.map (λt=>(⟨false,t,(j:Int),c.pl / 2⟩:Sx))++is.map (λt=>(⟨true,t,(j:Int),c.pl / 2⟩:Sx))=L at a0 hL;have mL:ms.length=L.length:=aE a0;rwa[bL (aC.of bB) ?_];rwa[bf (xs:=ms) (λi us HX=>HX=H6/\us=(nY (L.take i)).map V.int) @bb (λi us HX h=>by rw [h.2,length_map];unfold nY;rw [length_map];exact Nat.le_trans @B (by rw [length_take];exact Nat.min_le_left _ _)) ⟨rfl,rfl⟩ (λi us HX _ h=>by rw [h.1];exact aC.of bB) @dr (λdQ HX h li ni=> ?_)]
  ·obtain ⟨rfl,rfl⟩:=h;obtain ⟨x,cF,dx⟩:=bi a0 hy;obtain ⟨xa,rfl,hX⟩:=Me dx;rwa[⟨bc,?_⟩];rwa[ae hX rfl ?_];show if decide (sW x.b=s!"in")=true then _ else _;by_cases z:x.b=true
   ·rw [if_pos (decide_eq_true (Le.mpr z))];rwa[ae hX rfl ?_];exact ⟨rfl,by rw [uC cF,if_pos z,map_append];rfl⟩
   ·rw [if_neg (by rw [decide_eq_false (λy=>z (Le.mp y))];decide)];exact ⟨rfl,by rw [uC cF,if_neg z,append_nil]⟩
  obtain ⟨rfl,rfl⟩:=h;rw [mL,take_length,hL];generalize b6:upd HX li _=H7
  have s7:aq HX H7:=by rw [<-b6];exact .upd ni
  have e7:H7 li=some (.lst (is.map V.int)):=by rw [<-b6];exact ag
  clear b6;rwa[bL (aC.of (s7 _ _ al)) ?_];rwa[bf (xs:=ys) (λi us HX=>HX=H7/\av K HX us (((M'.ws.take i).filter λr=> !decide (r.tag∈is)).map aI.d)) @bb (λi us HX h=>by rw [h.2.len,length_map];exact Nat.le_trans @B (by rw [length_take];exact Nat.min_le_left _ _)) ⟨rfl,.nil⟩ (λi us HX _ h=>by rw [h.1];exact aC.of (s7 _ _ al)) @dr (λcA cX h c1 n8=> ?_)]
  ·obtain ⟨rfl,dX⟩:=h;obtain ⟨r,ap,dr⟩:=bi (av.same cM s7) hy;obtain ⟨ra,rfl,hR⟩:=bU dr;rwa[⟨bc,?_⟩];rwa[ae hR rfl ?_];rwa[mW (aC.of e7) rfl (fB _) ?_];rw [jE];show if (!decide (r.tag∈is))=true then _ else _;by_cases z:(!decide (r.tag∈is))=true
   ·rw [if_pos z];exact ⟨rfl,by rw [cj _ ap,if_pos z,map_append];exact dX.app (.cons dr .nil)⟩
   ·rw [if_neg z];exact ⟨rfl,by rw [cj _ ap,if_neg z,append_nil];exact dX⟩
  obtain ⟨rfl,dX⟩:=h;rw [yl,take_length] at dX;have s8:aq cX (upd cX c1 (.lst cA)):= .upd n8;have aU:=s7.trans s8;exact ⟨Z.trans aU,_,c1,xs.set j (.ref tn),cA,J++ms,_,_,_,_,_,_,⟨M',c,l,G,bm,ba,gr⟩,qZ (Z.trans s7) n8,(λe=>by rw [<-e,s7 _ _ cb] at n8;cases n8),(λe=>by rw [e,s7 _ _ cm] at n8;cases n8),aU _ _ cb,Paired.imp' (λx c z=>bv.keep z aU.st) cP,ag,av.same dX s8,aU _ _ cm,av.same cL aU,rfl⟩
 ·obtain ⟨sY,M',lw,xs,ys,J,o8,o9,b5,bJ,bH,bk,G,nw,aG,aF,R,pY,S,I,ah,O,rfl⟩:=pv;rw [show ((us.length:Int)).toNat=hs.ls.length by lia] at G;obtain ⟨g1,g2,g3,g4⟩:=cD _ _ G;rwa[fm @cH λdk G1 u1 _ f1=> ?_];rwa[fm (aC.of (u1 _ _ S)) λde G2 u2 _ f2=> ?_];have cN:=u1.trans u2;rwa[ae ((sY.trans cN).seqT hS) rfl ?_];rwa[bD (be (by show 4<=1000000;decide)) λt3 G3 u3 _ f3=> ?_];rwa[bD (be (by show 2<=1000000;decide)) λt4 G4 u4 _ f4=> ?_];have aX:=cN.trans @hq
  have la:M'.last=aj:=by rw [g2,aA,q4]
  rwa[q t4 t3 U J M' G4 (sY.trans aX) f4 ?_ (aX _ _ ah) (av.same O aX) G];rw [la];exact ⟨dk,de,xs,ys,az.of (u4 _ _ f3),az.of ((u2.trans @hq) _ _ f1),az.of ((u3.trans u4) _ _ f2),Paired.imp' (λx c z=>bv.keep z aX.st) pY,av.same I aX⟩
theorem OQ {i:Int}(F:0<=i)(h1:i<7):∃x,k7 [V.str "block",.str "block",.str "goods",.str "back",.str "stick",.str "free",.str "free"] i=some (.str x)/\(x=s!"block"\/x=s!"stick"\/x=s!"free"\/x=s!"goods"\/x=s!"back"):=by
 rcases (show i=0\/i=1\/i=2\/i=3\/i=4\/i=5\/i=6 by lia) with rfl|rfl|rfl|rfl|rfl|rfl|rfl
 ·exact ⟨_,rfl,.inl rfl⟩
 ·exact ⟨_,rfl,.inl rfl⟩
 ·exact ⟨_,rfl,.inr (.inr (.inr (.inl rfl)))⟩
 ·exact ⟨_,rfl,.inr (.inr (.inr (.inr rfl)))⟩
 ·exact ⟨_,rfl,.inr (.inl rfl)⟩
 ·exact ⟨_,rfl,.inr (.inr (.inl rfl))⟩
 ·exact ⟨_,rfl,.inr (.inr (.inl rfl))⟩
structure A2 (hs:Hs)(tg:Int)(ds:List Dd):Prop where
 len:ds.length<=2
 ok:S9 hs ds
 only:∀d∈ds,∀t∈vg d,t=tg
 gd:∀ts,tg∉ts->tR hs.fl hs.ls.length ts ds
 one:(ds.flatMap vg).length<=1
def Ii (hs:Hs)(tg:Int)(ds:List Dd):Prop:=ds=[]\/∃r k,fS hs.fl r/\ds=[.come tg r.start r.goal k]
theorem Ii.day {hs:Hs}{tg:Int}{ds:List Dd}(h:Ii hs tg ds):A2 hs tg ds/\ds.length<=1:=by
 rcases h with rfl|⟨r,k,W,rfl⟩
 ·exact ⟨⟨Nat.zero_le _,(λd J=>by cases J),(λd J=>by cases J),λF _=>trivial,Nat.zero_le _⟩,Nat.zero_le _⟩
 ·have j:Dd.fit hs.fl hs.ls.length (.come tg r.start r.goal k):=⟨W.s0,W.s1,W.g0,W.g1,W.ne⟩;rwa[⟨⟨by show 1<=2;decide,λd J=> ?_,λd J t z=> ?_,λF z=>⟨j,λt h=> ?_,trivial⟩,Nat.le_refl _⟩,Nat.le_refl _⟩]
  ·rw [mem_singleton.mp J];exact ⟨.inr ⟨_,_,_,_,rfl⟩,j⟩
  ·rw [mem_singleton.mp J] at z;exact mem_singleton.mp z
  ·rw [mem_singleton.mp h];exact z
theorem GO {fl:Int}{n:Nat}{x:Str}{i:Int}(h:0<=i/\i<(n:Int)):∀ {ds:List Dd} {ts:List Int},tR fl n ts ds->tR fl n ts (ds++[.lf x i])
 |[],ts,_=>⟨h,(λt J=>by cases J),trivial⟩
 |d::ds,ts,g=>⟨g.1,g.2.1,GO h g.2.2⟩
theorem A2.app {hs:Hs}{tg:Int}{ds:List Dd}{x:Str}{i:Int}(h:A2 hs tg ds)(O:ds.length<=1)(W:Dd.ok (.lf x i))(F:0<=i)(h1:i<(hs.ls.length:Int)):A2 hs tg (ds++[.lf x i]):=by
 rwa[⟨by rw [length_append];show _+1<=2;lia,λd J=> ?_,λd J t j=> ?_,λG z=>GO ⟨F,h1⟩ (h.gd G z),by rw [flatMap_append,length_append];exact h.one⟩]
 ·rcases mem_append.mp J with z|z
  ·exact h.ok d z
  ·rw [mem_singleton.mp z];exact ⟨.inl ⟨x,i,rfl,W,F,h1⟩,F,h1⟩
 ·rcases mem_append.mp J with z|z
  ·exact h.only d z t j
  ·rw [mem_singleton.mp z] at j;cases j
inductive qk (K:Fg)(vs:List V)(H:Hp)(Q:VK)(_e:XK):Prop
 |mk (a:Addr) (ns:List Int) (k:Int) (h:Addr) (hs:Hs) (tg:Int) (_:vs=[.ref a,.int k,.ref h,.int tg]) (_:xq K H a ns) (_:0<=k) (_:k<1000) (_:iN K H h hs) (_:∀l xs ds H',aq H H'->H' l=some (.lst xs)->Paired (DR H') xs ds->A2 hs tg ds->Q (.ref l) H')
theorem CW (F:Z0 K "_law_deeds" vY f fd)(bp:mg "len"=none)(bg:Z00 P w K mg base)(iy:Z04 P w K mg base):ay P w K mg base bd 4 f fd ["_law_script","_law_at_here","_law_house_here","_law_tag_here"] (qk K):=by
 rwa[F.ok E2 (by symm) (λal A outer s H vs Q E hr h=> ?_)];obtain ⟨a,ns,k,h,hs,tg,rfl,Y,U,O,hh,q⟩:=h;have aj:=hh;obtain ⟨ho,p,ls,hT,hp,hl⟩:=hh;have an:ls.length=hs.ls.length:=hl.len;have l1:=ho.l1;rwa[⟨_,(aa @a (bV (au @a (aa @a @A) ak) (aa @a (bV (au @a (aa @a @A) ak) @ft)))),?_⟩];rwa[gI (be (by show 0<=1000000;decide)) λl H1 s1 n1 e1=> ?_];rwa[fz (λσ H2=>aq H H2/\∃(xs:List V) (ds:List Dd) (o:Option V),H2 l=some (.lst xs)/\Paired (DR H2) xs ds/\Ii hs tg ds/\σ=[some (.ref a),some (.int k),some (.ref h),some (.int tg),some (.ref l),o,none,none]) ?_ ?_]
 ·rwa[kR (Y.same s1) U O @b @b λi i0 i1=> ?_];rwa[cB @i @i]
  ·rwa[gI (be (by show 1<=1000000;decide)) λl2 H2 S n2 Z=> ?_];have L:=s1.trans S;rwa[iX.mk _ _ _ _ _ _ _ [-1] rfl (Y.same L) U O (aj.same L) (aC.of Z) @e @b λv r I R dr aw rt rl=> ?_];obtain ⟨ra,rfl,hR⟩:=bU dr;have ad:=L.trans R;have G:=(S.trans R) _ _ e1;rwa[⟨.inl ⟨rfl,_,aC.of G⟩,?_⟩];rwa[ae hR rfl ?_];rwa[ae hR rfl ?_];rwa[ae hR rfl ?_];rwa[kR (Y.same ad) U O @b @b λj j0 j1=> ?_];rwa[bD (be (by show 5<=1000000;decide)) λt H4 J n4 e4=> ?_];rwa[fQ (J _ _ G) (zq (by show 0<1000000;decide)) ?_];rw [rt] at e4;exact ⟨aq.updF (ad.trans J) n1,_,_,_,ag,Hk (xs:=[]) (ds:=[]) (d:= .come tg r.start r.goal (decide (j=0))) (J _ _ G) .nil e4 trivial,.inr ⟨r,_,aw,rfl⟩,rfl⟩
  ·exact ⟨s1,[],[],_,e1,.nil,.inl rfl,rfl⟩
 rintro σ' H2 ⟨S,xs,ds,o,Z,p2,cm,rfl⟩;obtain ⟨dy,am⟩:=cm.day;have xl:xs.length=ds.length:=p2.len;rwa[kR (Y.same S) U O @b @b λi i0 i1=> ?_];rwa[fz (λσ I=>aq H I/\∃(xs:List V) (ds:List Dd) (o':Option V),I l=some (.lst xs)/\Paired (DR I) xs ds/\A2 hs tg ds/\σ=[some (.ref a),some (.int k),some (.ref h),some (.int tg),some (.ref l),o,some (.int i),o']) ?_ ?_]
 ·rwa[cB @i @i]
  ·obtain ⟨x,hx,ok⟩:=OQ i0 z;rwa[gI (be (by show 7<=1000000;decide)) λl3 I R n3 e3=> ?_];rwa[aW (aC.of e3) hx ?_];have ad:=S.trans R;rwa[⟨.inl ⟨rfl,_,aC.of (R _ _ Z)⟩,?_⟩];rwa[ae @gO rfl ?_];rwa[eX @gP ?_];rwa[kR (Y.same ad) U O @b @c λj j0 j1=> ?_];rwa[bD (be (by show 2<=1000000;decide)) λt H4 J n4 e4=> ?_];have W:=(R.trans J) _ _ Z;rwa[fQ W @dz ?_];exact ⟨aq.updF (ad.trans J) n1,_,_,_,ag,Hk (d:= .lf x j) W (wN p2 (R.trans J)) e4 ok,dy.app am ok j0 @c,rfl⟩
  ·exact ⟨S,xs,ds,_,Z,p2,dy,rfl⟩
 rintro σ' I ⟨R,ab,af,o',e3,p3,ah,rfl⟩;exact q l ab af I R e3 p3 ah
noncomputable def SM (c:Cb):D:= .tup (Lr c.pl c.li c.dr c.mr c.ps)
noncomputable def Sd (cs:List Cb)(ws:List aI)(last:Int):D:= .tup [.tup (cs.map SM),.tup @dO,.int last,.bl false]
theorem Mg {H:Hp}{st:Addr}{cs:List Cb}{ws:List aI}{j:Int}(h:gR K H st cs ws j false):bM K H (.ref st) (Sd cs ws j):=by
 obtain ⟨tc,G,xs,ys,h1,h2,L,F,U⟩:=h;rwa[eh h1 (.cons (eh h2 ?_) (.cons (eh L U) (.cons (.int _) (.cons (.bl _) .nil))))];rwa[PySem.Paired.of (by rw [length_map];exact F.len) λi x d R O=> ?_];rw [getElem?_map] at O;obtain ⟨c,I,t,rfl,z⟩:=F.get1 R;rw [I] at O;cases O;exact z.den
theorem wP {α:Type}{g:α->D}{n:Nat}(h:∀a,iO (g a)<=n):∀as:List α,deps (as.map g)<=n
 |[]=>Nat.zero_le _
 |a::as=>by rw [map_cons,deps];exact Nat.max_le.mpr ⟨h a,wP h as⟩
theorem Oe (c:Cb):iO (SM c)<=3:=by
 have:=uI c.ps;show max 0 (max 0 (max 0 (max 0 (max (deps @gz+1) 0))))+1<=3;lia
theorem uH:∀is:List Int,deps (is.map D.int)=0
 |[]=>by simp [deps]
 |i::is=>by rw [map_cons];simp only [deps,iO,uH is];lia
theorem Jm {d:D}(h:ez d):iO d<=1:=by
 obtain ⟨j,i,z,rfl,_⟩:=h;simp only [iO,deps,uH];lia
theorem xX:∀ {ds:List D},(∀d∈ds,ez d)->deps ds<=1
 |[],_=>by simp [deps]
 |d::ds,h=>by
  have a:=Jm (h d mem_cons_self);have b:=xX λe U=>h e (mem_cons_of_mem _ U);simp only [deps];lia
theorem Fk {j:Str}{t i fl:Int}:ez (tK j t i fl):=⟨j,t,[i,fl],rfl,by show 2<=10;decide⟩
theorem Fm {t i:Int}:ez (Fn t i):=⟨_,t,[i],rfl,by show 1<=10;decide⟩
theorem qQ {a b:List D}(h1:∀d∈a,ez d)(h2:∀d∈b,ez d):∀d∈a++b,ez d:=λd J=>(mem_append.mp J).elim (h1 d) (h2 d)
theorem Lh {j:Str}{i fl:Int}{ts:List Int}:∀d∈ts.map (λt=>tK j t i fl),ez d:=λd J=>by
 obtain ⟨t,_,rfl⟩:=mem_map.mp J;exact Fk
theorem rG {dl:sR}{W:List aI}{M:MS}(h:∀d∈M.log,ez d):∀i,∀d∈(aD dl W i M).log,ez d
 |0=>h
 |i+1=>by
  have j:=rG (dl:=dl) (W:=W) h i;unfold aD;split
  ·split
   ·unfold c5;split
    ·exact j
    ·exact qQ j λd J=>by rw [mem_singleton.mp J];exact Fm
   ·exact j
  ·exact j
theorem Ca.rows {hs:Hs}{wf:Wf}{M M':MS}{i:Int}{c:Cb}{l:Lf}(h:Ca hs wf M i c l M')(S:∀d∈M.log,ez d):∀d∈M'.log,ez d:=by
 rcases h with ⟨_,rfl⟩|⟨_,_,rfl⟩|⟨_,_,L⟩
 ·exact S
 ·exact S
 ·unfold xh at L;split at L
  ·subst L;exact qQ (qQ S Lh) Lh
  ·split at L
   ·subst L;exact S
   ·obtain ⟨U,u,d,e,z,J,rfl⟩:=L;exact S
theorem k6.rows {hs:Hs}{wf:Wf}{M:MS}(S:∀d∈M.log,ez d):∀ {n:Nat} {M':MS},k6 hs wf n M M'->∀d∈M'.log,ez d
 |0,M',h=>by
  obtain rfl:M'=M:=h;exact S
 |n+1,M',⟨M1,c,l,h1,h2,h3,h4⟩=>h4.rows (k6.rows S h1)
theorem En {cs:List Cb}{ws:List aI}{j:Int}{lg:List D}(h:∀d∈lg,ez d):iO (.tup [Sd cs ws j,.lst lg])<=60:=by
 have h1:=wP Oe cs;have h2:deps @dO<=1:=wP (λr=>by show max 0 (max 0 (max 0 (max 0 0)))+1<=1;decide) ws;have L:=xX h;show max (max (deps (cs.map SM)+1) (max (deps @dO+1) (max 0 (max 0 0)))+1) (max (deps lg+1) 0)+1<=60;lia
def mw (K:Fg)(H:Hp)(r:Addr)(M:MS):Prop:=∃st ll zs,H r=some (.tup [.ref st,.ref ll])/\gR K H st M.cs M.ws M.last false/\H ll=some (.lst zs)/\av K H zs M.log
theorem mw.den {H:Hp}{r:Addr}{M:MS}(h:mw K H r M):bM K H (.ref r) (.tup [Sd M.cs M.ws M.last,.lst M.log]):=by
 obtain ⟨st,ll,zs,e,j,S,z⟩:=h;exact eh (az.of e) (.cons (Mg j) (.cons (SJ @fh z) .nil))
theorem mw.same {H H':Hp}{r:Addr}{M:MS}(h:mw K H r M)(s:aq H H'):mw K H' r M:=by
 obtain ⟨st,ll,zs,e,j,S,z⟩:=h;exact ⟨st,ll,zs,s _ _ e,j.keep s.st,s _ _ S,av.same z s⟩
inductive qo (K:Fg)(vs:List V)(H:Hp)(Q:VK)(_e:XK):Prop
 |mk (r t:Addr) (M:MS) (_:vs=[.ref r,.ref t]) (_:mw K H r M) (_:mw K H t M) (_:(∀d∈M.log,ez d)) (_:M.log.length<=4000) (_:M.cs.length<=10) (_:∀H',aq H H'->Q (.bl true) H')
theorem C0 (F:Z0 K "_law_alike" v5 f fd)(bu:mg "isinstance"=none)(aZ:mg "tuple"=none)(ux:mg "bool"=none)(bp:mg "len"=none)(eS:aV P w K mg base 1 "_law_whole" ["_law_thing"] lz)(oo:aV P w K mg base 2 "_law_rows" ["_law_log"] (zz K)):ay P w K mg base bd 3 f fd ["_law_told","_law_due"] (qo K):=by
 rwa[F.ok E4 (by symm) (λaf A outer s H vs Q E S h=> ?_)];obtain ⟨r,t,M,rfl,h1,h2,J,l4,am,q⟩:=h;have Z:=h1;obtain ⟨st,ll,zs,G,W,el,dz⟩:=h1;obtain ⟨tc,tw,xs,ys,g1,g2,g3,g4,g5⟩:=W;have xl:xs.length=M.cs.length:=g4.len;rwa[⟨_,(aa (au (PW.pt (iC (dU (fW rfl (bb @gy rfl bu boot_isinstance (ar (wv 0) (ar (ii (v:= .ty "tuple") rfl aZ boot_tuple rfl) ao))))) (iC (bw (A8 rfl S) (bb @fL rfl bp PySem.boot_len @fZ) aB (bx _)) (ig (dU (fW rfl (b9 oo S @b rfl (ar @bp ao)))))))) @ba ak) (aa (au (PW.pt (iC (bw (A8 rfl S) (wv 0) (wv 1) (bx _)) (ig (dU (fW rfl (bb @gy rfl bu boot_isinstance (ar (bT @O @bp aB @p) (ar (ii (v:= .ty "bool") rfl ux boot_bool rfl) ao)))))))) @ba ak) (aa (ce PassesOwn.never rfl (iP rfl (bT @O @bp aB @p)) @a (ac (ce PassesOwn.never rfl (iP rfl (lQ (A7 rfl) (wv 2) pN (pI aB))) @a (ac (au (dU (fW rfl (b9 eS S @b rfl @fW))) @ba ak))))) @ba))),?_⟩];rwa[Gy rfl (.tup G) rfl ?_];rwa[aG rfl ?_];rwa[eX @dd ?_];rwa[aG rfl ?_];rwa[ae @dd rfl ?_];rwa[zz.mk _ _ _ rfl el dz J l4 λH1 O=> ?_];rwa[aG rfl ?_];rwa[N8 (Z.same O).den (h2.same O).den (En J) ?_];rwa[aG rfl ?_];rwa[ae (az.of (O _ _ G)) rfl ?_];rwa[ae (O.seqT g1) rfl ?_];rwa[⟨rfl,?_⟩];rwa[aG rfl ?_];rwa[ae (az.of (O _ _ G)) rfl ?_];rwa[ae (O.seqT g1) rfl ?_];rwa[d9 (O.seqT g2) ?_];rwa[me (xs:=xs) (λi σ j=>aq H j/\∃Y z,σ=[some (.ref r),some (.ref t),Y,z]) ⟨O,_,_,rfl⟩ (λi σ j _ R=>R.1.seqT g2) (λi x σ j L R=> ?_) (λσ j R=> ?_)]
 ·obtain ⟨I,Y,z,rfl⟩:=R;obtain ⟨c,hc,c0,rfl,dt⟩:=g4.get1 L;obtain ⟨ab,bs,ad,eb,db⟩:=dt;rwa[eV (az.of (I _ _ ad)) (by show ¬(HT.sIx 5 0 none=0/\HT.sIx 5 5 (some 4)=5);decide) λl2 H2 s2 n2 U=> ?_];have U:H2 l2=some (.tup [.int c.pl,.int c.li,.int c.dr,.int c.mr]):=U;rwa[d9 (az.of U) ?_];rwa[me (xs:=[c.pl,c.li,c.dr,c.mr].map V.int) (λi σ j=>j=H2/\∃z,σ=[some (.ref r),some (.ref t),some (.ref c0),z]) ⟨rfl,_,rfl⟩ (λi σ j _ R=>by rw [R.1];exact az.of U) (λi x σ j L R=> ?_) (λσ j R=> ?_)]
  ·obtain ⟨rfl,z,rfl⟩:=R;rw [getElem?_map] at L;obtain ⟨v,_,rfl⟩:=Option.map_eq_some_iff.mp L;rwa[lz.mk _ rfl ?_];rwa[aG rfl ?_];exact ⟨rfl,_,rfl⟩
  ·obtain ⟨rfl,z,rfl⟩:=R;exact ⟨I.trans s2,_,_,rfl⟩
 ·obtain ⟨I,Y,z,rfl⟩:=R;exact q j I
structure In (T:Int->Prop)(M:MS):Prop where
 w:∀r∈M.ws,T r.tag
 c:∀c∈M.cs,∀p∈c.ps,T p.1
theorem Ko {M:MS}{i:Int}{p:Int×Int}(h:p∈(jo M i).ps):∃c∈M.cs,p∈c.ps:=by
 unfold jo at h;rw [getD_eq_getElem?_getD] at h
 cases e:M.cs[i.toNat]? with
 |none=>rw [e] at h;cases h
 |some c=>rw [e] at h;exact ⟨c,mem_of_getElem? e,h⟩
theorem In.setC {T:Int->Prop}{M:MS}(h:In T M){i:Nat}{c:Cb}{lg:List D}{ws:List aI}{O:Int}{F:Bool}{J:Nat}(I:∀p∈c.ps,T p.1)(j:∀r∈ws,r∈M.ws):In T ⟨M.cs.set i c,ws,O,F,J,lg⟩:=
 ⟨λr S=>h.w r (j r S),λd L p G=>by
   rcases fc L with z|z
   ·exact h.c d z p G
   ·rw [z] at G;exact I p G⟩
theorem In.deed {T:Int->Prop}{lo:Nat}{M:MS}{d:Dd}(h:In T M)(J:∀t∈vg d,T t):In T (bJ lo M d):=by
 cases d with
 |come t s g k=>
  have I:=J t (.head _);show In T (cK lo M t s g k);unfold cK;split
  ·exact ⟨h.w,h.c⟩
  split
  ·exact ⟨h.w,h.c⟩
  ·rwa[⟨λr S=> ?_,h.c⟩]
   rcases mem_append.mp S with z|z
   ·exact h.w r z
   ·rw [mem_singleton.mp z];exact I
 |lf x i=>
  have ps:∀p∈(jo M i).ps,T p.1:=λp j=>let ⟨c,hc,z⟩:=Ko j;h.c c hc p z
  have G:∀r∈dB i M.ws,T r.tag:=λr S=>by
   obtain ⟨q,L,rfl⟩:=mem_map.mp S;have:=h.w q L;split<;>exact this
  have F:∀m,In T {M with cs:=M.cs.set i.toNat {jo M i with mr:=m}}:=λm=>h.setC ps λr z=>z;unfold bJ;dsimp only;split
  ·exact ⟨h.w,h.c⟩
  split
  ·exact ⟨G,(F _).c⟩
  split
  ·exact ⟨G,(F _).c⟩
  split
  ·exact F _
  ·exact F _
 |sg x=>exact h
theorem In.deeds {T:Int->Prop}{lo:Nat}:∀ {ds:List Dd} {M:MS},In T M->(∀d∈ds,∀t∈vg d,T t)->In T (aH lo M ds)
 |[],_,h,_=>h
 |d::ds,M,h,hd=>In.deeds (ds:=ds) (M:=bJ lo M d) (h.deed (hd d (.head _))) λe U=>hd e (.tail _ U)
theorem In.deals {T:Int->Prop}{dl:sR}{W:List aI}(F:∀r∈W,T r.tag){M:MS}(h:In T M):∀i,In T @gt
 |0=>h
 |i+1=>by
  have j:=In.deals (dl:=dl) F h i;unfold aD;split
  ·rename_i r S;have J:=F r (mem_of_getElem? S);split
   ·unfold c5;split
    ·exact ⟨j.w,j.c⟩
    ·rwa[⟨λq G=> ?_,j.c⟩]
     rcases fc G with z|z
     ·exact j.w q z
     ·rw [z];exact J
   ·exact j
  ·exact j
theorem xH {so:Str}{room pl:Int}:∀(rs:List aI) (s:B7),∃js:List aI,js.Sublist rs/\(br so room pl s rs).ins=s.ins++js.map (·.tag)/\(br so room pl s rs).kept=s.kept++js.map λr=>(r.tag,r.goal)
 |[],s=>⟨[],.slnil,(append_nil _).symm,(append_nil _).symm⟩
 |r::rs,s=>by
  obtain ⟨js,h1,h2,L⟩:=xH (so:=so) (room:=room) (pl:=pl) rs @bv;show ∃js:List aI,js.Sublist (r::rs)/\(br so room pl @bv rs).ins=s.ins++js.map (·.tag)/\(br so room pl @bv rs).kept=s.kept++js.map λr=>(r.tag,r.goal);rw [h2,L];unfold cG;split
  ·exact ⟨r::js,h1.cons₂ r,by simp,by simp⟩
  ·exact ⟨js,h1.cons r,rfl,rfl⟩
theorem In.go {T:Int->Prop}{hs:Hs}{wf:Wf}{M M':MS}{i:Int}{c:Cb}{l:Lf}(h:In T M)(O:atC M i c)(g:Ca hs wf M i c l M'):In T M':=by
 have ps:∀p∈c.ps,T p.1:=h.c c (mem_of_getElem? O.2);have F:∀J:Cb,(∀p∈J.ps,p∈c.ps)->In T (gh M i J):=λJ e=>h.setC (λp G=>ps p (e p G)) λr z=>z
 rcases g with ⟨_,rfl⟩|⟨_,_,rfl⟩|⟨_,_,g⟩
 ·exact h
 ·exact h
 ·unfold xh at g;split at g
  ·rw [g];obtain ⟨j,Y,L,I⟩:=xH (so:=hs.so) (room:=l.rm) (pl:=c.pl) @ep ⟨c.li,cf c.pl c.ps,[]⟩;have L:(cq hs c l @ep).ins=j.map (·.tag):=L;have I:(cq hs c l @ep).kept=cf c.pl c.ps++j.map λr=>(r.tag,r.goal):=I;have Z:∀r∈j,T r.tag:=λr S=>h.w r (mem_filter.mp (Y.subset S)).1;unfold oX gh wz;rwa[h.setC (λp G=> ?_) λr z=>(mem_filter.mp z).1];rw [I] at G
   rcases mem_append.mp G with z|z
   ·exact ps p (mem_filter.mp z).1
   ·obtain ⟨r,S,rfl⟩:=mem_map.mp z;exact Z r S
  split at g
  ·rw [g];exact F _ λp G=>G
  ·obtain ⟨U,u,d,_,_,_,rfl⟩:=g;exact F _ λp G=>G
theorem In.goN {T:Int->Prop}{hs:Hs}{wf:Wf}{M:MS}(h:In T M):∀ {n:Nat} {M':MS},k6 hs wf n M M'->In T M'
 |0,M',g=>by
  obtain rfl:M'=M:=g;exact h
 |n+1,M',⟨M1,c,l,g1,g2,_,g4⟩=>(In.goN h g1).go g2 g4
theorem In.turn {hs:Hs}{wf:Wf}{dl:sR}{cs:List Cb}{ws:List aI}{j:Int}{fire:Bool}{ds:List Dd}{M':MS}{T:Int->Prop}(L:∀t∈fF cs ws,T t)(J:∀d∈ds,∀t∈vg d,T t)(g:k6 hs wf hs.ls.length (nQ dl (aH 0 ⟨cs,ws,j,fire,0,[]⟩ ds)) M'):In T M':=by
 have F:In T ⟨cs,ws,j,fire,0,[]⟩:=⟨λr S=>L _ (mem_append_left _ (mem_map_of_mem S)),λc I p G=>L _ (mem_append_right _ (mem_flatMap.mpr ⟨c,I,mem_map_of_mem G⟩))⟩;have h1:=F.deeds (lo:=0) J;rwa[In.goN (n:=hs.ls.length) ?_ g];unfold nQ;exact h1.deals h1.w _
theorem GX {α:Type}{CX:oA}{k:Nat}{ps:List Str}{sp:α->Sp}(F:∀a,ay P w K mg base CX k f fd ps (sp a))(W:∀vs H Q E,(∃a,sp a vs H Q E)->vs.length=ps.length):ay P w K mg base CX k f fd ps (λvs H Q E=>∃a,sp a vs H Q E):=
 ⟨λvs H Q E ⟨a,q⟩=>(F a).len vs H Q E q,λA outer s H z j vs Q E S U G Y ⟨a,hs⟩=>(F a).run A outer s H z j vs Q E S U G Y hs⟩
theorem BY {n:Nat}{x:Str}{ps:List Str}{sp j:Sp}(c:aV P w K mg base n x ps sp)(h:∀vs H Q E,j vs H Q E->sp vs H Q E):aV P w K mg base n x ps j:=by
 obtain ⟨f,fd,F,b⟩:=c.ex;exact ⟨f,fd,F.imp h,b⟩
def pK (P:Program)(w:World)(K:Fg)(mg:Str->Option Value)(base:Heap)(C:Addr):Sp:=λvs H Q E=>∃q:Dq,qq P w K mg base C q.G q.L q.p q.d vs H Q E
def lH (P:Program)(w:World)(K:Fg)(mg:Str->Option Value)(base:Heap)(C:Addr):Sp:=λvs H Q E=>∃q:Dq,lI P w K mg base C q.G q.L q.p q.d vs H Q E
def lB (P:Program)(w:World)(K:Fg)(mg:Str->Option Value)(base:Heap):Sp:=λvs H Q E=>∃q:Dq,zw P w K mg base q.G q.L q.p q.d vs H Q E
theorem Ga {C:Addr}{O:Tok}(F:Z0 K "deal" Bn f fd)(J:xi K C)(I:mg "tuple"=none)(z:mg "NO_LIFT"=some (.int (-1) O))(j:Z08 P w K mg base):ay P w K mg base bd 6 f fd ["moment","dealer","place","rider"] (pK P w K mg base C):=by
 have G:∀q:Dq,ay P w K mg base bd 6 f fd ["moment","dealer","place","rider"] (qq P w K mg base C q.G q.L q.p q.d):=λq=>JV F q.gT q.lN J I z j;exact GX G λR H Q E ⟨k,h⟩=>(G k).len R H Q E h
theorem C3 {C:Addr}{J:Tok}(F:Z0 K "deal_all" lL f fd)(I:xi K C)(j:mg "list"=none)(O:mg "enumerate"=none)(z:mg "NO_LIFT"=some (.int (-1) J))(S:aV P w K mg base 6 "deal" ["moment","dealer","place","rider"] (pK P w K mg base C)):ay P w K mg base bd 7 f fd ["moment","dealer"] (lH P w K mg base C):=by
 have G:∀q:Dq,ay P w K mg base bd 7 f fd ["moment","dealer"] (lI P w K mg base C q.G q.L q.p q.d):=λq=>Gb F q.gT q.lN I j O z (BY S λR H Q E h=>⟨q,h⟩);exact GX G λR H Q E ⟨k,h⟩=>(G k).len R H Q E h
theorem FM {Z:Addr}(F:bt K "turn" "Court.turn" ie f fd)(z:xi K Z)(O:mg "len"=none)(I:mg "range"=none)(j:aV P w K mg base 7 "need_deeds" ["house","state","deeds"] (Bi K))(U:iK P w K mg base bd 1 "Moment" Z (EE K))(J:aV P w K mg base 5 "do_deed" ["moment","deed"] (IR K Z))(S:aV P w K mg base 7 "deal_all" ["moment","dealer"] (lH P w K mg base Z))(bn:aV P w K mg base 8 "go" ["moment","rule","lift"] (IQ P w K mg base Z))(W:aV P w K mg base 1 "state_of" ["moment"] (Bh K Z)):ay P w K mg base bd 9 f fd ["self","state","deeds"] (lB P w K mg base):=by
 have G:∀q:Dq,ay P w K mg base bd 9 f fd ["self","state","deeds"] (zw P w K mg base q.G q.L q.p q.d):=λq=>JJ q.gT q.lN F z O I j U J (BY S λR H Q E h=>⟨q,h⟩) bn W;exact GX G λR H Q E ⟨k,h⟩=>(G k).len R H Q E h
seal pK lH
structure K3 (P:Program)(w:World)(K:Fg)(mg:Str->Option Value)(base:Heap)(C:Addr)(H:Hp)(a:Addr)(hs:Hs)(wf:Wf)(q:Dq):Prop where
 ex:∃dx h ru df,H a=some (.ins C dx @gM)/\iN K H h hs/\DW P w K mg base H ru wf/\sS P w K mg base 5 df (xK K q.G q.L q.p q.d)
 gg:q.G H
 lb:q.L H
theorem K3.nt {C:Addr}{H H':Hp}{a:Addr}{hs:Hs}{wf:Wf}{q:Dq}(c:K3 P w K mg base C H a hs wf q)(s:bE H H')(g:q.G H'):K3 P w K mg base C H' a hs wf q:=by
 obtain ⟨dx,h,F,I,h1,h2,L,j⟩:=c.ex;exact ⟨⟨dx,h,F,I,s _ _ (λ_ z=>by cases z) h1,BJ s h2,Lg s L,j⟩,g,q.lN _ _ s c.lb⟩
theorem K3.same {C:Addr}{H H':Hp}{a:Addr}{hs:Hs}{wf:Wf}{q:Dq}(c:K3 P w K mg base C H a hs wf q)(s:aq H H'):K3 P w K mg base C H' a hs wf q:=c.nt s.nt (q.gT _ _ s.st c.gg)
theorem Pq {C:Addr}{H:Hp}{a st O:Addr}{hs:Hs}{wf:Wf}{cs:List Cb}{ws:List aI}{j:Int}{ds:List Dd}{q:Dq}{Q:VK}{E:XK}(c:K3 P w K mg base C H a hs wf q)(W:OG K C)(lo:hs.lo=0)(I:gR K H st cs ws j false)(J:kZ hs ws.length @bD)(R:y3 K H O ds)(L:ws.length+ds.length<=64)(aj:tR hs.fl hs.ls.length @hb ds)(F:∀i r,(aH 0 @bD ds).ws[i]? =some r->r.lift= -1->q.p (aD q.d (aH 0 @bD ds).ws i @fl).cs (aD q.d (aH 0 @bD ds).ws i @fl).ws r (aD q.d (aH 0 @bD ds).ws i @fl).last)
(g:∀r st' ll zs M' H',bE H H'->q.G H'->H' r=some (.tup [.ref st',.ref ll])->gR K H' st' M'.cs M'.ws M'.last M'.fire->H' ll=some (.lst zs)->av K H' zs M'.log->k6 hs wf hs.ls.length (nQ q.d @fl) M'->M'.log.length<=2000->Q (.ref r) H'):lB P w K mg base [.ref a,.ref st,.ref O] H Q E:=by
 obtain ⟨dx,h,ru,df,h1,hH,ad,Y⟩:=c.ex;rwa[⟨q,a,st,O,C,dx,h,ru,df,hs,wf,cs,ws,j,ds,rfl,h1,W,hH,ad,Y,c.gg,c.lb,I,R,J,L,aj,?_,?_⟩]
 ·rw [lo];exact F
 ·intro r st' ll zs M' H' Z hg er aX S z aC U;rw [lo] at aC;exact g r st' ll zs M' H' Z hg er aX S z aC U
seal lB
theorem NI {i:Int}(F:0<=i)(h1:i<=9):i.natAbs.log2<1920:=by
 rcases (show i=0\/i=1\/i=2\/i=3\/i=4\/i=5\/i=6\/i=7\/i=8\/i=9 by lia) with rfl|rfl|rfl|rfl|rfl|rfl|rfl|rfl|rfl|rfl<;>decide+kernel
theorem Dl {H:Hp}{l:Addr}{x:Str}{j:List Int}{Q:VK}(G:x.length<=10)(S:∀i∈j,0<=i/\i<=9)(W:j.length<=9)(I:H l=some (.lst ((x::j.map pE).map V.str)))(q:Q (.str (oO x j)) H):yh K Mi l H Q:=by
 have F:∀z:List Int,(∀i∈z,0<=i/\i<=9)->((z.map pE).map (·.length)).sum<=z.length:=by
  intro z Z
  induction z with
  |nil=>exact Nat.le_refl _
  |cons i z ih=>
   have:=ih λx G=>Z x (.tail _ G);have:=(rD (Z i (.head _)).1 (Z i (.head _)).2).2.1;simp only [map_cons,sum_cons,length_cons] at *;lia
 have U:=F j S;rwa[Gw (aC.of I) (be ?_) (be ?_) ?_]
 ·rw [PySem.StrLaws.joinTotal];have:(x::j.map pE).length*Mi.length<=(x::j.map pE).length*1:=Nat.mul_le_mul_left _ @b;simp only [map_cons,sum_cons,length_cons,length_map] at *;lia
 ·rw [PySem.StrLaws.glued_eq_join];have:=ya G S @c;unfold oO at this;lia
 ·rw [PySem.StrLaws.glued_eq_join];exact q
theorem KH {xs:List V}:(jr xs (some 42) (some 62)).length<=20:=by
 unfold jr;rw [show (some (42:Int))=some ((42:Nat):Int) from rfl,show (some (62:Int))=some ((62:Nat):Int) from rfl,HT.sIx_nat,HT.sIx_nat,length_take,length_drop];lia
theorem Cg {H:Hp}{P:Addr}{q:Str}(h:H P=some (.tbl #[])):gQ H P q:=⟨#[],h,trivial,λpos z e=>by cases e⟩
theorem Er {R:List Int}{b t:Int}{n:Nat}(h:t∈(List.range n).map λj:Nat=>gC R (b+(j:Int))):∃j:Nat,j<n/\t=gC R (b+(j:Int)):=by
 obtain ⟨j,Z,e⟩:=mem_map.mp h;exact ⟨j,mem_range.mp Z,e.symm⟩
theorem EQ {H H':Hp}{a:Addr}{R:List Int}(h:xq K H a R)(s:bE H H'):xq K H' a R:=⟨⟨s.sqL h.1.1,h.1.2⟩,h.2⟩
theorem FI {F:List Int}{hs:Hs}{cs:List Cb}{ws:List aI}(J:hs.ok)(W:cs.length=hs.ls.length)(S:ws.length<=10)(ad:∀j c,cs[j]? =some c->Rq F j c)(R:ws.map (·.tag)=(List.range ws.length).map (λj:Nat=>gC F (20+(j:Int)))):∀t∈fF cs ws,∃j:Int,j<40/\t=gC F j:=λt O=>by
 have l3:=J.l3
 rcases mem_append.mp O with z|z
 ·rw [R] at z;obtain ⟨i,hi,U⟩:=Er z;exact ⟨20+(i:Int),by lia,U⟩
 ·obtain ⟨c,I,z⟩:=mem_flatMap.mp z;obtain ⟨m,G,e⟩:=List.getElem_of_mem I;obtain ⟨_,n,Y,h⟩:=ad m c (by rw [getElem?_eq_getElem G,e]);rw [h] at z;obtain ⟨j,Z,L⟩:=Er z;exact ⟨6*(m:Int)+(j:Int),by lia,L⟩
structure Sr (ns:List Int)(hs:Hs)(n:Nat)(cs:List Cb)(ws:List aI)(last:Int):Prop where
 sl:SL hs cs ws
 w:ws.length<=10+n
 l0:0<=last
 tg:∀t∈fF cs ws,∃j:Int,j<40+n/\t=gC ns j
theorem Sr.mok {z:List Int}{hs:Hs}{n:Nat}{cs:List Cb}{ws:List aI}{j:Int}(R:Sr z hs n cs ws j):kZ hs ws.length @bD:=⟨R.sl.len,R.sl.ck,R.sl.rk,by show 0+ws.length<=_;lia⟩
theorem Sr.new {F:List Int}{hs:Hs}{n:Nat}{cs:List Cb}{ws:List aI}{z:Int}(R:Sr F hs n cs ws z):gC F (40+(n:Int))∉fF cs ws:=λh=>by
 obtain ⟨j,Z,e⟩:=R.tg _ h;have:=IH e;lia
theorem yw:∀ {ds:List Dd} {ws:List aI},(ds.foldl va ws).length<=ws.length+(ds.flatMap vg).length
 |[],ws=>Nat.le_refl _
 |d::ds,ws=>by
  have h:=yw (ds:=ds) (ws:=va ws d)
  have e:(va ws d).length<=ws.length+(vg d).length:=by
   cases d with
   |come t s g k=>show (ws++[_]).length<=_+1;simp
   |lf x i=>
    show (if _ then dB i ws else ws).length<=_;split
    ·unfold dB;rw [length_map];lia
    ·lia
   |sg x=>show ws.length<=_;lia
  rw [foldl_cons,flatMap_cons,length_append];lia
theorem kZ.deedsZ {hs:Hs}{n:Nat}{M:MS}{ds:List Dd}(o:kZ hs n M)(ae:∀d∈ds,d.ok/\d.fit hs.fl hs.ls.length):kZ hs (n+ds.length) (aH 0 M ds):=by
 have o':kZ {hs with lo:=0} n M:=⟨o.len,o.cs,o.ws,o.sum⟩;have:=o'.deeds ae ds.length;rw [take_of_length_le @h] at this;exact ⟨this.len,this.cs,this.ws,this.sum⟩
theorem yy {zs:List Int}{W:List aI}{M:MS}:∀i,(aD @ce W i M).last=M.last
 |0=>rfl
 |i+1=>by
  have j:=yy (zs:=zs) (W:=W) (M:=M) i;unfold aD;split
  ·split
   ·unfold c5;split<;>exact j
   ·exact j
  ·exact j
theorem Sr.turn {ns:List Int}{hs:Hs}{n:Nat}{cs:List Cb}{ws:List aI}{F:Int}{ds:List Dd}{rk:Rk}{zs:List Int}{M':MS}(R:Sr ns hs n cs ws F)(hk:hs.ok)(ab:n<=40)(U:rk.ok)(D:A2 hs (gC ns (40+(n:Int))) ds)(G:HP hs rk.word zs cs ws F ds M'):Sr ns hs (n+1) M'.cs M'.ws M'.last/\M'.fire=false/\∀d∈M'.log,ez d:=by
 have Z:∀d∈ds,(∃x i,d= .lf x i/\Dd.ok (.lf x i))\/∃t s g k,d= .come t s g k:=λd I=>by
  rcases (D.ok d I).1 with ⟨x,i,e,U,_⟩|z
  ·exact .inl ⟨x,i,e,U⟩
  ·exact .inr z
 have ae:∀d∈ds,d.ok/\d.fit hs.fl hs.ls.length:=λd I=>⟨by rcases Z d I with ⟨x,i,rfl,U⟩|⟨t,s,g,k,rfl⟩;exact U;trivial,(D.ok d I).2⟩;obtain ⟨q1,q2,q3,q4,q5⟩:=wQ (ds:=ds) (M:=mS cs ws F) rfl Z;have mo:=R.mok.deedsZ ae;have md:=rc R.sl.len (λd I=>(D.ok d I).1) R.sl.m3 R.sl.d0;have wl:=yw (ds:=ds) (ws:=ws);have Rw:=R.w;have ac:=D.one;have aa:In (λt=>∃j:Int,j<40+((n+1:Nat):Int)/\t=gC ns j) M':=In.turn (dl:=j5 zs) (fire:=false) (λt S=>by obtain ⟨j,hj,e⟩:=R.tg t S;exact ⟨j,by lia,e⟩) (λd I t S=>⟨40+(n:Int),by lia,D.only d I t S⟩) G;have L:k6 hs rk.word hs.ls.length (nQ @ce (aH 0 @fF ds)) M':=G;rw [<-q1] at wl;rw [<-q5] at md;have q4:(aH 0 @fF ds).last=F:=q4;have q3:(aH 0 @fF ds).log=[]:=q3;unfold nQ at L;generalize aH 0 @fF ds=M at L mo md wl q2 q3 q4;have J:=mo.deals (dl:=j5 zs) mo.ws M.ws.length;obtain ⟨bz,an,a9⟩:=dH (dl:=j5 zs) (W:=M.ws) (M:=M) M.ws.length;have aP:=jJ (dl:=j5 zs) (W:=M.ws) q3 M.ws.length;obtain ⟨cV,cr⟩:=rH (dl:=j5 zs) (W:=M.ws) (M:=M) M.ws.length;have O:=rG (dl:=j5 zs) (W:=M.ws) (M:=M) (by rw [q3];intro d I;cases I) M.ws.length;have Y:=yy (zs:=zs) (W:=M.ws) (M:=M) M.ws.length;generalize aD @ce M.ws M.ws.length M=M2 at L J bz an aP cV cr O Y;have cY:∀fl li he up dn,iz li he up dn->rk.word fl li he up dn∈cx:=λfl li he up dn sn=>Kk (Rk.isL U sn);have f2:M2.fire=false:=cr.trans q2;obtain ⟨g1,g2,g3,g4⟩:=k6.ok hk cY f2 J.cs J.ws @c L;obtain ⟨b1,b2,_,_⟩:=k6.dm hk cY f2 J.cs J.ws @c (by rw [an];exact md.1) (by rw [an];exact md.2) aP L;have bA:=g4.wl;rwa[⟨⟨⟨by rw [g4.len];exact J.len,g3,b1,b2,λr hr=>J.ws r (g4.ws r hr)⟩,by lia,by rw [g2,Y,q4];exact R.l0,λt S=> ?_⟩,g1,k6.rows O L⟩]
 rcases mem_append.mp S with z|z
 ·obtain ⟨r,hr,rfl⟩:=mem_map.mp z;exact aa.w r hr
 ·obtain ⟨c,hc,z⟩:=mem_flatMap.mp z;obtain ⟨p,hp,rfl⟩:=mem_map.mp z;exact aa.c c hc p hp
theorem Dv {i fl:Int}(F:0<=i)(h1:i<5):∃s rk,k7 [V.str Mb,.str Px,.str Mb,.str Pw,.str PM] i=some (.str s)/\gk s fl=some rk/\rk.nm=s/\rk.lt=s!""/\rk.fit (fl - 1):=by
 have Z:∃rk,gk Pw fl=some rk/\rk.nm=Pw/\rk.lt=s!""/\rk.fit (fl - 1):=⟨.sw,by unfold gk;rw [if_pos rfl],rfl,rfl,trivial⟩;have I:∃rk,gk PM fl=some rk/\rk.nm=PM/\rk.lt=s!""/\rk.fit (fl - 1):=⟨.ho,by unfold gk;rw [if_neg @b,if_pos rfl],rfl,rfl,trivial⟩;have L:∃rk,gk Mb fl=some rk/\rk.nm=Mb/\rk.lt=s!""/\rk.fit (fl - 1):=⟨.ne,by unfold gk;rw [if_neg @b,if_neg @b,if_pos rfl],rfl,rfl,trivial⟩;have j:∃rk,gk Px fl=some rk/\rk.nm=Px/\rk.lt=s!""/\rk.fit (fl - 1):=⟨.ba (fl - 1),by unfold gk;rw [if_neg @b,if_neg @b,if_neg @b,if_pos rfl],rfl,rfl,rfl⟩
 rcases (show i=0\/i=1\/i=2\/i=3\/i=4 by lia) with rfl|rfl|rfl|rfl|rfl
 ·exact ⟨Mb,L.imp λ_ h=>⟨rfl,h⟩⟩
 ·exact ⟨Px,j.imp λ_ h=>⟨rfl,h⟩⟩
 ·exact ⟨Mb,L.imp λ_ h=>⟨rfl,h⟩⟩
 ·exact ⟨Pw,Z.imp λ_ h=>⟨rfl,h⟩⟩
 ·exact ⟨PM,I.imp λ_ h=>⟨rfl,h⟩⟩
inductive xJ (K:Fg)(Pf:Addr)(vs:List V)(H:Hp)(Q:VK)(_e:XK):Prop
 |mk (a:Addr) (ns:List Int) (_:vs=[.ref a]) (_:xq K H a ns) (_:gQ H Pf qF) (_:∀H',Q (.bl true) H')
theorem Nk {k:Ks}{fu iI Pf:Addr}(F:Z0 K "law" Mz f fd)(bp:mg "len"=none)(aQ:mg "range"=none)(NG:mg "max"=none)(Db:mg "str"=none)(R:SY K P w mg base k)(ff:Z06 P w K mg base)(kW:aV P w K mg base 4 "dealer_of" ["text","house"] (λvs H Q _=>EK K mg Pf vs H Q E0))(rQ:aV P w K mg base 3 "rule_of" ["text","floors"] (λvs H Q _=>iV K k vs H Q E0))(nU:iK P w K mg base @ck 1 "Table" k.t (jB K fu))(AG:iK P w K mg base bd 1 "Court" iI (IS K))(cC:OG K iI)(jx:jS P w K mg base bd 9 "turn" iI (lB P w K mg base))
(bg:Z00 P w K mg base)(fP:Z05 P w K mg base)(si:aV P w K mg base 4 "_law_house" ["_law_script","_law_most"] (qi K))(r9:aV P w K mg base 5 "_law_state" ["_law_script","_law_house_here","_law_fire"] (qh K))(mm:aV P w K mg base 3 "_law_letters" ["_law_script","_law_at_here"] (zD K))(ss:aV P w K mg base 4 "_law_deeds" ["_law_script","_law_at_here","_law_house_here","_law_tag_here"] (qk K))(uN:aV P w K mg base 5 "_law_turn" ["_law_house_here","_law_rule","_law_numbers","_law_state_here","_law_deeds_here"] (vq K))(kU:aV P w K mg base 3 "_law_alike" ["_law_told","_law_due"] (qo K)):ay P w K mg base bd 11 f fd ["_law_script"] (xJ K Pf):=by
 rwa[F.ok uo (by symm) (λcc A outer s H vs Q E hr h=> ?_)];obtain ⟨a,ns,rfl,Y,tb,q⟩:=h;rwa[⟨_,(aa @a (aa @a (aa @a (aa @a (aa (bF (i:=4) uo.nd rfl @l (fX nU (Jy (X:=_)) hr @b rfl @C)) (bV (au @a (aa @a (ac (bF (i:=4) uo.nd rfl @l (b9 rQ hr @b rfl (ar @a @C))))) ak) (aa (cu (i:=5) rfl uo.nd rfl @l (ax (N':=["_law_k","_law_script","_law_house_here"]) (pk:=[none,some 0,some 1]) @k) @dA @g @s @g) (aa (bF (i:=6) uo.nd rfl @l (fX AG jX hr @b rfl (ar (wv 1) (ar (wv 4) (ar (b9 kW hr @b rfl (ar (fY rfl PySem.F.plainAttrs_str PySem.F.slot_str_join PySem.F.type_str_join (zg rfl) aT (ar (bR @cu @a (bG rfl (ax (N':=["_law_one"]) (pk:=[none]) @k) @a @g @s (λC s H ex=>(aL LQ rfl Db boot_str @fZ)))) ao)) @bz)) ao))))) (aa (ce PassesOwn.never rfl (bS rfl aQ (ar (bb (OU rfl) rfl NG boot_max (ar aB @C)) ao)) @a (aa @a (aa @a (aa (bF (i:=10) uo.nd rfl @l (vc (n:=9) jX hr @b (wv 6) (ar (wv 2) @fS))) (aa (au (dU (fW rfl (b9 kU hr @b rfl (ar @dN (ar (wv 9) ao))))) @ba ak) (ac @a)))))) @ba))))))))),?_⟩];rwa[qi.mk _ _ rfl Y λcf I H1 s1 bz=> ?_];obtain ⟨U,p,ls,hh,hp,hl⟩:=bz;rwa[eV hh (by show ¬(HT.sIx 4 0 none=0/\HT.sIx 4 4 (some 2)=4);decide) λl1 H2 s2 n2 e2=> ?_];have e2:H2 l1=some (.tup [.int I.fl,.ref p]):=e2;rwa[bD (be (by show 1<=1000000;decide)) λl2 H3 s3 n3 e3=> ?_];rwa[ju (az.of (s3 _ _ e2)) e3 @e (be (by show 2+1<=1000000;decide)) λl3 H4 s4 e4=> ?_];have e4:H4 l3=some (.tup [.int I.fl,.ref p,.int 0]):=e4;have aM:=s2.trans @ho;rwa[eV (aM.seqT hh) (by show ¬(HT.sIx 4 0 (some 3)=0/\HT.sIx 4 4 none=4);decide) λl4 H5 s5 n5 e5=> ?_];have e5:H5 l4=some (.tup [.str I.so]):=e5;rwa[ju (az.of (s5 _ _ e4)) e5 @e (be (by show 3+1<=1000000;decide)) λhA H6 s6 e6=> ?_];have e6:H6 hA=some (.tup [.int I.fl,.ref p,.int 0,.str I.so]):=e6;have al:=aM.trans @gx;have a3:=s1.trans al;have hH:iN K H6 hA {I with lo:=0}:=⟨⟨U.f2,U.f8,U.l1,U.l3,U.lf,U.so⟩,p,ls,az.of e6,al.seqT hp,Paired.imp' (λx l ⟨b,e,z⟩=>⟨b,e,al.seqT z⟩) hl⟩;have aU:({I with lo:=0}:Hs).lo=0:=rfl;generalize ({I with lo:=0}:Hs)=hs at hH aU;clear hl hp hh e2 e3 e4 e5 e6 aM al s1 s2 s3 s4 s5 s6;have ho:=hH.1;have cj:=ho.l1;have ci:=ho.l3;rwa[qh.mk _ _ _ _ _ rfl (Y.same a3) hH λst W ws G H7 s7 ad O aJ bi m3 a8 aA br bT=> ?_];have cl:W.length=hs.ls.length:=O.len;have sr:Sr ns hs 0 W ws G:=⟨⟨O.len,O.cs,(λc hc=>by obtain ⟨m,hm,e⟩:=List.getElem_of_mem hc;exact (aA m c (by rw [getElem?_eq_getElem hm,e])).1),(λc hc=>⟨(O.cs c hc).m0,m3 c hc⟩),O.ws⟩,aJ,bi,(λt ht=>by obtain ⟨j,hj,e⟩:=FI ho cl aJ aA br t ht;exact ⟨j,by lia,e⟩)⟩;clear aA br a8 m3 O bT;have Z:=a3.trans s7;have ab:=hH.same s7;have f2:=ho.f2;rwa[zD.mk _ _ _ rfl (Y.same Z) @b @b λt H8 s8 aE=> ?_];rwa[bD (be (by show 2<=1000000;decide)) λbQ H9 s9 n9 e9=> ?_];rwa[ae (az.of e9) rfl ?_];rwa[Qw (R.c (.ta t)) aE λbP ah HA sA nA eA=> ?_];have an:=s8.trans (s9.trans sA);have aK:=Z.trans an;rwa[fz (λσ HB=>aq H7 HB/\∃(L:Rk) (rp ru ah:Addr),Rm K HB rp L/\L.ok/\L.fit (hs.fl - 1)/\HB ru=some (.ins (L.cl k) ah L.fs)/\σ=[some (.ref a),some (.ref hA),some (.ref st),some (.ref rp),some (.ref ru),none,none,none,none,none,none]) ?_ ?_]
 ·rwa[kR (Y.same aK) @b @b @b @b λi i0 i1=> ?_];rwa[cB @i @i]
  ·rwa[gI (be (by show 5<=1000000;decide)) λl1 HB sB nB eB=> ?_];rwa[kR (Y.same (aK.trans sB)) @b @b @b @b λj j0 j1=> ?_];obtain ⟨x,L,ea,er,en,el,ef⟩:=Dv (fl:=hs.fl) j0 j1;rwa[aW (aC.of eB) ea ?_];rwa[bD (be (by show 2<=1000000;decide)) λrp HC sC nC eC=> ?_];rwa[ae (az.of eC) rfl ?_];have bs:=an.trans (sB.trans sC);obtain ⟨_,p7,b6,cw,_,_⟩:=id ab;rwa[ae (bs.seqT cw) rfl ?_];rwa[Jk er λra dx HD sD nD eD=> ?_];rwa[⟨bs.trans sD,L,rp,ra,dx,?_,Fj f2 er,ef,eD,rfl⟩];show az K HD rp [.str L.nm,.str L.lt];rw [en,el];exact az.of (sD _ _ eC)
  ·exact ⟨an,.ta t,bQ,bP,ah,az.of (sA _ _ e9),aE,trivial,eA,rfl⟩
 clear e9 eA nA n9 s8 s9 sA an aK aE;rintro σ' HB ⟨ap,L,rp,ru,ah,bn,aF,bO,a0,rfl⟩;have aN:=Z.trans ap;have ba:=ab.same ap;obtain ⟨_,pB,bX,a7,bq,bk⟩:=id ba;have cg:bX.length=hs.ls.length:=bk.len;rwa[kR (Y.same aN) @b @b @b @b λc9 c0 c1=> ?_];rwa[⟨⟨by lia,by lia⟩,?_⟩];rwa[eR (λi zs HX=>HX=HB/\∃is:List Int,zs=is.map V.int/\is.length=i/\∀j∈is,0<=j/\j<(hs.ls.length:Int)) @bb (λi zs HX p=>by obtain ⟨_,is,rfl,e,_⟩:=p;rw [length_map];lia) ⟨rfl,[],rfl,rfl,λj hj=>nomatch hj⟩ (λi zs HX hi p=> ?_) (λzs HX p np nN=> ?_)]
 ·obtain ⟨rfl,is,rfl,bA,S⟩:=p;rwa[⟨bc,?_⟩];rwa[ae a7 rfl ?_];rwa[eX bq ?_];rwa[kR (Y.same aN) @c @c @b @c λj j0 j1=> ?_];rwa[⟨rfl,is++[j],by rw [map_append];rfl,by rw [length_append,bA];rfl,λy hy=> ?_⟩]
  rcases mem_append.mp hy with z|z
  ·exact S y z
  ·rw [mem_singleton.mp z];exact ⟨j0,by lia⟩
 obtain ⟨rfl,zs,rfl,bA,S⟩:=p
 have z1:1<=zs.length:=by lia
 have z9:zs.length<=9:=by lia
 have h9:∀z∈zs,0<=z/\z<=9:=λz hz=>⟨(S z hz).1,by have:=(S z hz).2;lia⟩;generalize aS:upd HX np _=HN
 have sN:aq HX HN:=by rw [<-aS];exact .upd nN
 have eN:HN np=some (.lst @ch):=by rw [<-aS];exact ag
 clear aS;rwa[⟨rfl,?_⟩];rwa[gI (be (by show 1<=1000000;decide)) λlC HC sC nC eC=> ?_];rwa[bL (aC.of (sC _ _ eN)) ?_];rwa[bf (xs:=zs.map V.int) (λi us HX=>HX=HC/\us=((zs.map pE).take i).map V.str) (be (by rw [length_map];lia)) (λi us HX pz=>by rw [pz.2,length_map,length_take];exact Nat.min_le_left _ _) ⟨rfl,rfl⟩ (λi us HX _ pz=>by rw [pz.1];exact aC.of (sC _ _ eN)) (λi y us HX a1 pz=> ?_) (λus cX pz a6 n6=> ?_)]
 ·obtain ⟨rfl,rfl⟩:=pz;rw [getElem?_map] at a1;obtain ⟨v,hv,rfl⟩:=Option.map_eq_some_iff.mp a1;obtain ⟨v0,v9⟩:=h9 v (mem_of_getElem? hv);rwa[⟨bc,NI v0 v9,rfl,?_⟩];rw [take_add_one,getElem?_map,hv,map_append];rfl
 obtain ⟨rfl,rfl⟩:=pz;rw [take_of_length_le (by rw [length_map,length_map];exact Nat.le_refl _)];generalize aP:upd cX a6 _=HD
 have sD:aq cX HD:=by rw [<-aP];exact .upd n6
 have eD:HD a6=some (.lst ((zs.map pE).map V.str)):=by rw [<-aP];exact ag
 clear aP;rwa[Hx (sD _ _ eC) eD (be (by rw [length_map,length_map];show 1+_<=_;lia)) λlE HE sE nE eE=> ?_]
 have eE:HE lE=some (.lst ((fo::zs.map pE).map V.str)):=by rw [eE];rfl
 rwa[Dl @b h9 z9 eE ?_];have aw:=sC.trans (sD.trans sE);have aj:=sN.trans aw;have af:=ap.trans aj;have aR:=Z.trans af;rwa[Tv (ab.same af) ⟨z1,z9,S⟩ (tb.same aR) λlx HF sF kG kL=> ?_];rwa[Sv cC λca bI HG sG nG eG=> ?_];have J:=sF.trans sG.nt;have bm:=EQ Y (aR.nt.trans J);have a4:=BJ (af.nt.trans J) ab;have bo:=Bg (af.nt.trans J) ad;have bv:=(aw.nt.trans J) _ _ (λ_ z=>by cases z) eN;have aZ:=(aj.nt.trans J) _ _ (λ_ z=>by cases z) a0;have a9:Rm K HG rp L:=(aj.nt.trans J).sqT bn;have bj:DW P w K mg base HG ru L.word:=ME R aF aZ;have cv:=Oc bp ff (zs:=zs) @c lx;have bW:K3 P w K mg base iI HG ca hs L.word @hr:=⟨⟨bI,hA,ru,lx.f,eG,a4,bj,cv⟩,tY.st sG.st kG,(dq mg zs lx).lN _ _ sG.nt kL⟩;clear eC eD eE nC nE n6 nN nG eN a0 eG ad hH ab ba a7 bq bk tb Y bn aZ bj aR af aj aw J sF sG kG kL sE sD sC sN ap aN Z a3 s7;rwa[Bl bm.1.1 λl8 HH sH n8 e8=> ?_];rwa[bZ (aC.of e8) ?_];have bu:=KH (xs:=ns.map V.int);generalize (jr @cg (some 42) (some 62)).length=aX at bu;ext;obtain ⟨am,aY,b4,b2⟩:∃am:Int,am=(if (aX:Int)>6 then (aX:Int) else 6)/\0<=am/\am<=20:=⟨_,rfl,by split<;>lia,by split<;>lia⟩;rw [<-aY];rwa[⟨⟨by lia,by lia⟩,?_⟩];rwa[c4 (λj σ HY=>bE HG HY/\K3 P w K mg base iI HY ca hs L.word @hr/\∃(st:Addr) (W:List Cb) (ws:List aI) (G:Int) (o7 o8 o9 b5:Option V),gR K HY st W ws G false/\Sr ns hs j W ws G/\σ=[some (.ref a),some (.ref hA),some (.ref st),some (.ref rp),some (.ref ru),some (.ref np),some (.ref ca),o7,o8,o9,b5]) ⟨sH.nt,bW.same sH,st,W,ws,G,_,_,_,_,Bg sH.nt bo,sr,rfl⟩ @dB @cl]
 ·clear sr bo cl bi aJ;clear st W ws G;obtain ⟨sY,cY,st,W,ws,G,o7,o8,o9,b5,ad,sr,rfl⟩:=pv
  have i0:(0:Int)+(j:Nat)=((j:Nat):Int):=by lia
  rw [i0]
  have jc:j<20:=by lia
  have Y:=EQ bm sY;have hh:=BJ sY a4;have ch:=sr.w;rwa[qd.mk _ _ _ rfl Y @c @c λtg bY=> ?_];rwa[qk.mk _ _ _ _ _ _ rfl Y @c @c hh λld xd ds H1 s1 e1 p1 dy=> ?_];rw [bY] at dy;have b8:=dy.len;have bC:∀d∈ds,d.ok/\d.fit hs.fl hs.ls.length:=λd hd=>⟨by rcases (dy.ok d hd).1 with ⟨x,i,rfl,ok,_⟩|⟨t,s,g,k,rfl⟩;exact ok;trivial,(dy.ok d hd).2⟩;have mo:=sr.mok.deedsZ bC;have bM:H1 np=some (.lst @ch):=s1 _ _ (sY _ _ (λ_ z=>by cases z) bv);rwa[vq.mk _ _ _ _ _ _ _ _ _ _ _ _ rfl (hh.same s1) aU (s1.seqT (sY.sqT a9)) aF bO bM @c S z9 (ad.keep s1.st) ⟨xd,aC.of e1,p1⟩ sr.sl dy.ok @c sr.l0 λt bh lg us M1 H2 s2 e2 av bH d2 G1=> ?_];obtain ⟨a5,f1,aO⟩:=sr.turn ho @c aF dy G1;have c2:=cY.same (s1.trans s2);obtain ⟨cb,b3,b1,b0,bx,_⟩:=c2.ex;rwa[ww bx rfl jx ?_];rwa[Pq c2 cC aU (ad.keep (s1.trans s2).st) sr.mok ⟨xd,aC.of (s2 _ _ e1),wN p1 s2⟩ @c (dy.gd _ sr.new) (λi r _ _=> ?_) λr bU ll bN M2 H3 sN hg er as bJ d3 G2 bB=> ?_]
  ·have e:(aD (dq mg zs lx).d (aH 0 @gb ds).ws i @hs).cs.length=hs.ls.length:=by rw [(dH i).2.1];exact mo.len
   generalize (aD (dq mg zs lx).d (aH 0 @gb ds).ws i @hs).cs=b7 at e;exact ⟨by lia,by lia,by lia,by rw [e];exact S⟩
  obtain rfl:M1=M2:=k6.uniq G1 G2;rw [f1] at as;have a2:mw K H3 r M1:=⟨bU,ll,bN,er,as,bJ,d3⟩;have bl:mw K H3 t M1:=⟨bh,lg,us,sN _ _ (λ_ z=>by cases z) e2,Bg sN av,sN _ _ (λ_ z=>by cases z) bH,sN.dens d2⟩;have bw:=sN _ _ (λ_ z=>by cases z) e2;rwa[qo.mk _ _ _ rfl a2 bl aO @c (by rw [a5.sl.len];lia) λH4 s4=> ?_];rwa[aG rfl ?_];rwa[ae (az.of (s4 _ _ bw)) rfl ?_];exact ⟨sY.trans ((s1.trans s2).nt.trans (sN.trans s4.nt)),(c2.nt sN hg).same s4,bh,M1.cs,M1.ws,M1.last,_,_,_,_,Bg (sN.trans s4.nt) av,a5,rfl⟩
 ·exact q _
end
end My
namespace My
open PySem L2 PyProof.Rows
seal PE PT PS uX PA PI PG DP Ip PW PO dA OD bj DX zc Ot HS
seal oa iY oG vD KM um BG kQ qv oF yh KR KZ yf Eo yj setL Ej AQ wT xj DT A5 iF BM IJ uE
seal DC nX AI L2.yp L2.putAt L2.wy gH Kt N7 NA Ri Hy KU vE Eu
seal Kf yk iV EK vm pK lH lB
theorem Gu {K:Fg}{H:Hp}{a:Addr}{R:List Int}{E:XK}(S:aC K H a (R.map V.int))(W:R.length<=63)(F:∀i∈R,Builtin.Int.intBits i<=2^20)(L:∀t∈([(341,337)]:List (Addr×Addr)),H t.2=some (.tbl #[])):xJ K 337 [.ref a] H (λv _=>v= .bl true) E:=⟨a,R,rfl,⟨⟨S,W⟩,F⟩,Cg (L (341,337) (.head _)),λ_=>rfl⟩
theorem Hl {P:Program}{w:World}{K:Fg}{mg:Str->Option Value}{base:Heap}{j F z:Addr}(J:gU K j)(L:aR K j "turns")(U:gU K F)(O:aR K F "turns")(Y:gU K z)(G:aR K z "turns")(W:jS P w K mg base bd 1 "left" j (iW K Im))(S:jS P w K mg base bd 1 "left" F (iW K hst))(I:jS P w K mg base bd 1 "left" z (iW K DV)):LC P w K mg base j F z:=by
 rwa[⟨λk R=> ?_,λk R=> ?_⟩]
 ·rcases R with rfl|rfl|rfl
  ·rw [NQ];exact ⟨J,L⟩
  ·rw [NR];exact ⟨U,O⟩
  ·rw [NP];exact ⟨Y,G⟩
 ·rcases R with rfl|rfl|rfl
  ·rw [NQ];exact W
  ·rw [NR];exact S
  ·rw [NP];exact I
theorem Om {l:PySem.W.OpenLaw}{w:World}{K:Fg}{h:Heap}{mg:Str->Option Value}{fa:Addr}(X:K.In h)(G:h.Ns mainGlobals mg)(b4:mg "law"=some (.ref fa))
{tO lY wB cz fI lX d8 cJ jm aa S j wD fu iI f1 f2 f3 f4 f5 f6 f7 f8 f9 ce co cQ dq di cj bo dJ bB bh b2 c2 aW Z bm ch a3 dG c7 b7 bL br b3 dT bQ bY dQ bf aY be a0 ab cT bH bD dP dl cf dj bK b6 bZ bv aN a6 ct cY db bU cm a1 cP bb cx c4 cU cc dW c9 bJ bM aK aH dD ah cG c6 bC dy bj du d0 dh dt cw a9 bz dU df dw dB bE dL dm ck dS cL cN dX bq ag aD aM as aJ aP aT:Addr}{au aO:Option Addr}{ak:Array @bj}{ap aE an aI aU:Value}{Es:Tok}{L8:Tok}{L7:Tok}{tm:Tok}{Et:Tok}{xC:Tok}{xB:Tok}{L6:Tok}{vh:Tok}
(OP:W.nsIn K mainGlobals "Door"=some (some (.ref tO)))
(LM:W.nsIn K mainGlobals "Hasty"=some (some (.ref lY)))
(ON:W.nsIn K mainGlobals "Slow"=some (some (.ref wB)))
(DY:W.nsIn K mainGlobals "Shuttle"=some (some (.ref cz)))
(LJ:W.nsIn K mainGlobals "Table"=some (some (.ref fI)))
(OO:W.nsIn K mainGlobals "Rule"=some (some (.ref lX)))
(Iw:W.nsIn K mainGlobals "Homing"=some (some (.ref d8)))
(DZ:W.nsIn K mainGlobals "Nearest"=some (some (.ref cJ)))
(Iu:W.nsIn K mainGlobals "NoDeal"=some (some (.ref jm)))
(OJ:W.nsIn K mainGlobals "near"=some (some (.ref aa)))
(LH:W.nsIn K mainGlobals "least"=some (some (.ref S)))
(Cc:W.nsIn K mainGlobals "by_turns"=some (some (.ref j)))
(Iv:W.nsIn K mainGlobals "Moment"=some (some (.ref wD)))
(Ir:W.nsIn K mainGlobals "NoRule"=some (some (.ref fu)))
(LN:W.nsIn K mainGlobals "Court"=some (some (.ref iI)))
(R:LD K tO)
(I:LD K lY)
(Y:LD K wB)
(z:xi K wD)
(cC:OG K iI)
(h1:L2.NF K "bit" MD f1)
(h2:L2.NF K "has" MC f2)
(h3:L2.NF K "with_bit" qC f3)
(h4:L2.NF K "below" Ae f4)
(h5:L2.NF K "above" Af f5)
(h6:L2.NF K "mask_of" vO f6)
(h7:L2.NF K "listed" vQ f7)
(h8:L2.NF K "lowest" vP f8)
(h9:L2.NF K "highest" qM f9)
(dK:L2.NF K "floor_of" qN ce)
(b5:L2.NF K "goals_aboard" ib co)
(bi:L2.NF K "way_of" zW cQ)
(bS:L2.NF K "tasks_of" qE dq)
(cW:L2.NF K "goes_along" kE di)
(a5:L2.NF K "here_of" v7 cj)
(cH:L2.NF K "view" Fc bo)
(dp:L2.NF K "turned" vJ dJ)
(bW:L2.NF K "bounded" qP bB)
(ba:L2.NF K "with_changes" hI bh)
(bR:L2.NF K "steered" qG b2)
(cb:L2.NF K "may_step_in" kz c2)
(cp:L2.NF K "exchanged" kF aW)
(dO:L2.MF K tO "__init__" "Door.__init__" nJ Z)
(aj:L2.MF K tO "left" "Door.left" nF bm)
(aw:L2.MF K lY "left" "Hasty.left" kB ch)
(ae:L2.MF K wB "left" "Slow.left" mZ a3)
(cI:L2.NF K "door_of" v8 dG)
(ci:L2.NF K "room_of" vM c7)
(dN:L2.NF K "turns_of" qD b7)
(c0:L2.NF K "kind_of" v6 bL)
(cS:L2.NF K "do_come" wb br)
(dA:L2.NF K "dealt_to" qO b3)
(cs:L2.NF K "with_marks" ki dT)
(dH:L2.NF K "without" qB bQ)
(dd:L2.NF K "put_mark" qI bY)
(dk:L2.NF K "lose_mark" nh dQ)
(bV:L2.NF K "do_deed" wa bf)
(c3:L2.NF K "is_serving" kA aY)
(c1:L2.NF K "serving_from" hV be)
(cZ:L2.NF K "zone_of" Bm a0)
(a7:W.nsIn K mainGlobals "fixed_of"=some (some (.ref ab)))(am:K.lookup ab=some ⟨ap,au,.func (W.fnOf "fixed_of" "fixed_of" (fe cA) (dF cA) (af cA) .none aE an aI aO (.ref 341) aU),ak⟩)(aB:W.codeIn K (.ref 341) "fixed_of"=true)(aS:W.keepIn K (.ref ab)=true)
(ax:W.codeHdIn K 341 337=true)
(bA:L2.NF K "writes_number" gw cT)
(dg:L2.NF K "number_of" m6 bH)
(cg:L2.NF K "read_lifts" kq bD)
(dC:L2.NF K "dealer_of" nK dP)
(bk:L2.NF K "deal" Bn dl)
(bw:L2.NF K "deal_all" lL cf)
(b0:L2.NF K "log_steps" nj dj)
(cn:L2.NF K "exchange" nz bK)
(a4:L2.NF K "go_by_rule" nv b6)
(bl:L2.NF K "go_without_fire" fG bZ)
(a2:L2.NF K "go" Sh bv)
(bI:L2.MF K wD "__init__" "Moment.__init__" i8 aN)
(dY:L2.NF K "state_of" qH a6)
(dM:L2.NF K "need_floor" kt ct)
(bG:L2.NF K "need_lift" m8 cY)
(dI:L2.NF K "need_ride" m7 db)
(cq:L2.NF K "need_deed" m9 bU)
(cO:L2.NF K "tags_in" vK cm)
(bF:L2.NF K "need_deeds" ky a1)
(ad:L2.MF K iI "turn" "Court.turn" ie cP)
(bP:L2.NF K "swept" zX bb)
(dn:L2.NF K "nearest" qJ cx)
(a8:L2.NF K "shuttled" m4 c4)
(dV:L2.NF K "place_in_table" gx cU)
(aA:L2.MF K lX "word" "Rule.word" m5 cc)
(aG:L2.MF K d8 "word" "Homing.word" jb dW)
(ao:L2.MF K cJ "word" "Nearest.word" hZ c9)
(aC:L2.MF K cz "word" "Shuttle.word" hJ bJ)
(aL:L2.MF K fI "word" "Table.word" kj bM)
(bc:L2.MF K cz "__init__" "Shuttle.__init__" hU aK)
(cB:L2.MF K fI "__init__" "Table.__init__" km aH)
(cX:L2.NF K "rule_of" vL dD)
(cy:L2.MF K iI "__init__" "Court.__init__" kI ah)
(dz:L2.NF K "_law_cell" Ad cG)
(bt:L2.NF K "_law_draw" Ac c6)
(de:L2.NF K "_law_great" vW bC)
(bx:L2.NF K "_law_whole" vR dy)
(c5:L2.NF K "_law_tag" Fe bj)
(dZ:L2.NF K "_law_lift" z7 du)
(cK:L2.NF K "_law_house" vV d0)
(bN:L2.NF K "_law_goals" vX dh)
(dE:L2.NF K "_law_cabin" v4 dt)
(bs:L2.NF K "_law_rider" vU cw)
(cv:L2.NF K "_law_state" vT a9)
(cV:L2.NF K "_law_letters" nu bz)
(dc:L2.NF K "_law_rows" z6 dU)
(cr:L2.NF K "_law_behind" qL df)
(aX:L2.NF K "_law_at" MA dw)
(b1:L2.NF K "_law_way" Fd dB)
(c8:L2.NF K "_law_tasks" vS bE)
(b9:L2.NF K "_law_here" z8 dL)
(bT:L2.NF K "_law_seen" z5 dm)
(ca:L2.NF K "_law_turns_round" ia ck)
(cD:L2.NF K "_law_goes" Ab dS)
(dv:L2.NF K "_law_word" zY cL)
(cu:L2.NF K "_law_let" Ff cN)
(da:L2.NF K "_law_gone" Aa dX)
(cR:L2.NF K "_law_steps_in" nq bq)
(aR:L2.NF K "_law_count" vZ ag)
(al:L2.NF K "_law_opened" qK aD)
(ai:L2.NF K "_law_deeds_done" ja aM)
(az:L2.NF K "_law_turn" zZ as)
(ar:L2.NF K "_law_deeds" vY aJ)
(av:L2.NF K "_law_alike" v5 aP)
(aq:L2.NF K "law" Mz aT)
(LA:L2.gU K tO)
(y8:W.findIn K (.ref tO) "turns"=some none)
(Ig:L2.gU K lY)
(xm:W.findIn K (.ref lY) "turns"=some none)
(Ly:L2.gU K wB)
(y6:W.findIn K (.ref wB) "turns"=some none)
(sQ:L2.gU K cz)
(mF:W.findIn K (.ref cz) "top"=some none)
(gW:W.findIn K (.ref cz) "letters"=some none)
(A1:L2.gU K fI)
(sU:W.findIn K (.ref fI) "top"=some none)
(jz:W.findIn K (.ref fI) "letters"=some none)
(Lz:L2.gU K lX)
(DU:W.findIn K (.ref lX) "top"=some none)
(ue:W.findIn K (.ref lX) "letters"=some none)
(B9:L2.gU K d8)
(y7:W.findIn K (.ref d8) "top"=some none)
(pH:W.findIn K (.ref d8) "letters"=some none)
(yY:L2.gU K cJ)
(xk:W.findIn K (.ref cJ) "top"=some none)
(oB:W.findIn K (.ref cJ) "letters"=some none)
(LG:W.nsIn K mainGlobals "range"=some none)
(Ru:W.nsIn K mainGlobals "len"=some none)
(LF:W.nsIn K mainGlobals "tuple"=some none)
(Nz:L2.Mk K tO Z)
(J4:L2.Mk K lY Z)
(Ny:L2.Mk K wB Z)
(D2:W.nsIn K mainGlobals "NO_LIFT"=some (some (.int (-1) Es)))
(LL:W.nsIn K mainGlobals "STUCK"=some (some (.int 0 L8)))
(LK:W.nsIn K mainGlobals "TAKEN"=some (some (.int 1 L7)))
(Ry:W.nsIn K mainGlobals "all"=some none)
(sV:W.nsIn K mainGlobals "MOST_FIGURES"=some (some (.int 9 tm)))
(D3:W.nsIn K mainGlobals "FIGURES"=some (some (.str "0123456789" Et)))
(Rv:W.nsIn K mainGlobals "int"=some none)
(Rx:W.nsIn K mainGlobals "any"=some none)
(jG:W.excIn K jm [.type "ValueError",.type "Exception",.type "BaseException",.type "object"] "ValueError.__new__"=true)
(xv:W.nsIn K mainGlobals "MOST_FIXED"=some (some (.int 9 xC)))
(OK:W.nsIn K mainGlobals "list"=some none)
(ze:W.nsIn K mainGlobals "enumerate"=some none)
(OL:W.nsIn K mainGlobals "dict"=some none)
(Gn:L2.Mk K wD aN)
(xu:W.nsIn K mainGlobals "TABLE_SIZE"=some (some (.int 36 xB)))
(LI:W.nsIn K mainGlobals "WORDS"=some (some (.str "oxuds" L6)))
(jF:W.excIn K fu [.type "ValueError",.type "Exception",.type "BaseException",.type "object"] "ValueError.__new__"=true)
(Gj:L2.Lv K lX)
(wr:L2.Lv K d8)
(q8:L2.Lv K cJ)
(C8:L2.Mk K cz aK)
(J3:L2.Mk K fI aH)
(uZ:W.nsIn K mainGlobals "TABLE_START"=some (some (.str "table " vh)))
(xt:W.nsIn K mainGlobals "isinstance"=some none)
(OM:W.nsIn K mainGlobals "bool"=some none)
(Rr:W.nsIn K mainGlobals "str"=some none)
(Rs:W.nsIn K mainGlobals "min"=some none)
(Rt:W.nsIn K mainGlobals "max"=some none)
(J5:L2.Mk K iI ah)
(Oz:L2.uY K iI):
 ∃fd:FuncData,(∀(s:Shared) (v:Value),BindsTo s fd ⟨[v],[]⟩ [("_law_script",v)])/\∀base:Heap,K.In base->base.Ns mainGlobals mg->L2.mE base mg->ay l.prog w K mg base bd 11 fa fd ["_law_script"] (xJ K 337):=by
 obtain ⟨aF,_,F106⟩:=aq;cases b4.symm.trans (W.mg_of X G aF);rwa[⟨_,F106.law,λbase KB _ BB=> ?_⟩];have T:L2.tV l.prog w K mg base h:=⟨X,G⟩;have QF:=T.gl OP;have N3:=T.gl LM;have QE:=T.gl ON;have GS:=T.gl DY;have N2:=T.gl LJ;have GU:=T.gl OO;have wK:=T.gl Iw;have rz:=T.gl DZ;have jI:=T.gl Iu;have GP:=T.gl OJ;have AN:=T.gl LH;have oh:=T.gl Cc;have Kp:=T.gl Iv;have jH:=T.gl Ir;have N4:=T.gl LN;have F41:=AO (x:="fixed_of") (qual:="fixed_of") (st:=cA) am aB aS
 have bO:=F41.binds (ps:=["lifts"]) λ_ _ _ _ _ _ us hl=>match us,hl with|[_],_=>rfl
 have Q7:=LA.cl;have Oy:=Ig.cl;have Q5:=Ly.cl;have Ia:=sQ.cl;have Ox:=A1.cl;have Q6:=Lz.cl;have K2:=B9.cl;have Ib:=yY.cl;have J:=T.no LG;have L:=T.no Ru;have O:=T.no LF;have b8:=T.gl D2;have wJ:=T.gl LL;have GR:=T.gl LK;have NH:=T.no Ry;have j4:=T.gl sV;have yn:=T.gl D3;have tN:=T.no Rv;have Dc:=T.no Rx;have oV:=T.gl xv;have d7:=T.no OK;have fH:=T.no ze;have Gp:=T.no OL;have oU:=T.gl xu;have GQ:=T.gl LI;have lZ:=T.gl uZ;have bu:=T.no xt;have ux:=T.no OM;have Db:=T.no Rr;have ye:=T.no Rs;have NG:=T.no Rt;have yR:=T.cal' h1 λF=>Nr F;have pF:=T.cal' h2 λF=>Nn F yR;have fC:=T.cal' h3 λF=>FJ F yR;have w4:=T.cal' h4 λF=>Gd F yR;have Hz:=T.cal' h5 λF=>Gf F w4;have rW:=T.cal' h6 λF=>CM F fC;have B2:=T.cal' h7 λF=>CT F J pF;have B1:=T.cal' h8 λF=>CS F B2;have yM:=T.cal' h9 λF=>Ax F;have bX:=T.cal' dK λF=>F8 F;have cF:=T.cal' b5 λF=>F7 F;have iu:=T.cal' bi λF=>Nb F;have uK:=T.cal' bS λF=>FN F L cF rW;have pj:=T.cal' cW λF=>Ge F iu;have yN:=T.cal' a5 λF=>JT F bX pF cF pj;have Ls:=T.cal' cH λF=>JI F bX uK Hz B1 w4 yM yN;have B0:=T.cal' dp λF=>Av F L bX cF;have yQ:=T.cal' bW λF=>Ay F bX;have cE:=T.cal' ba λF=>JH F;have yJ:=T.cal' bR λF=>Au F L B0 yQ cE;have iw:=T.cal' cb λF=>Nh F iu;have sJ:=T.cal' cp λF=>JU F L O bX iu iw;obtain ⟨d1,_,F23⟩:=dO;have ac:=T.ok (JS F23);have Gr:=T.mkc F23 Nz QF ac;have AF:=T.mkc F23 J4 N3 ac;have Gq:=T.mkc F23 Ny QE ac;have A0:=T.mcal' aj Q7 aj.1 λF=>F5 F;have yX:=T.mcal' aw Oy aw.1 λF=>F4 F;have AY:=T.mcal' ae Q5 ae.1 λF=>F3 F;have yO:=T.cal' cI λF=>C2 F R I Y Gr AF Gq;have mj:=T.cal' ci λF=>JM F;have jL:=T.cal' dN λF=>As F;have yL:=T.cal' c0 λF=>C1 F;have yP:=T.cal' cS λF=>JW F z b8 pF;have fD:=T.cal' dA λF=>F9 F;have gq:=T.cal' cs λF=>Na F;have yH:=T.cal' dH λF=>Aq F yR pF;have uM:=T.cal' dd λF=>JN F z b8 fC gq fD;have rX:=T.cal' dk λF=>FY F z yH gq;have mq:=T.cal' bV λF=>Qs F z wJ GR yP fC uM rX;have pi:=T.cal' c3 λF=>Nm F;have ff:=T.cal' c1 λF=>Qn F L J b8 pi;have rP:=T.cal' cZ λF=>JG F;have dR:=L2.QJ (P:=l.prog) (w:=w) (mg:=mg) (base:=base) (k:=0) (N:=["lifts"]) (lp:=Bz cA) (lb:=By cA) (lsc:=rf cA) am aB Cz (W.codeHd_of_K KB ax) BB @fC @fC @fC rfl;have ow:L2.aV l.prog w K mg base _ "fixed_of" ["lifts"] _:=⟨_,_,dR,bO,aS,T.gl a7⟩;have jv:=T.cal' bA λF=>Qm F L NH j4 yn;have rR:=T.cal' dg λF=>Nf F tN jv;have fV:=T.calX' cg λF=>Qo F L Dc jI jG rR;have zf:=T.calX' dC λF=>Qt (Pf:=337) F L oV jI jG GP AN oh fV rP ow;have kW:=zf.calm;have B3:=T.cal' bk λF=>Ga F z O b8 fD;have jO:=T.cal' bw λF=>C3 F z d7 fH b8 B3;have rY:=T.cal' b0 λF=>JQ F z bX;have uS:=T.cal' cn λF=>Np F z (Hl LA y8 Ig xm Ly y6 A0 yX AY) L mj jL yL sJ rY yO pF cE;have pp:=T.cal' a4 λF=>Nq F z mj jL Ls yJ;have gP:=T.cal' bl λF=>No F z uS cE pp;have bn:=T.cal' a2 λF=>Qq F z wJ pF gP;have lU:=T.mkc' bI Gn Kp λF=>FU F d7;have jM:=T.cal' dY λF=>Nd F z O;have pe:=T.cal' dM λF=>CL F;have rT:=T.cal' bG λF=>FT F L;have rS:=T.cal' dI λF=>FS F pe;have rV:=T.cal' cq λF=>JO F rS rT;have yI:=T.cal' cO λF=>JK F;have gt:=T.cal' bF λF=>Ng F Gp yI rV;have jx:=T.mcal' ad Oz ad.1 λF=>FM F z L J gt lU mq jO bn jM;have wY:=T.cal' bP λF=>FP F;have yK:=T.cal' dn λF=>Aw F;have uL:=T.cal' a8 λF=>x9 F;have iJ:=T.cal' dV λF=>FR F;have AZ:=T.mcal' aA Q6 aA.1 λF=>FL F wY;have xg:=T.mcal' aG K2 aG.1 λF=>Ar F wY;have tX:=T.mcal' ao Ib ao.1 λF=>x8 F yK;have tW:=T.mcal' aC Ia aC.1 λF=>x5 F uL;have yW:=T.mcal' aL Ox aL.1 λF=>CJ F iJ;have re:=T.mkc' bc C8 GS λF=>FQ F;have nU:=T.mkc' cB J3 N2 λF=>FO F L Dc oU GQ jH jF;have D4:=T.calX' cX λF=>CK (k:=⟨lX,d8,cJ,cz,fI⟩) F L (.mk sQ mF gW) (.mk A1 sU jz) GU wK rz Gj wr q8 re nU lZ jH jF;have rQ:=D4.calm;have AG:=T.mkc' cy J5 N4 λF=>Gc F;have gO:=T.cal' dz λF=>JX F L;have U:=T.cal' bt λF=>Qr F gO;have sj:=T.cal' de λF=>Qp F gO;have eS:=T.cal' bx λF=>FK F bu tN ux;have fP:=T.cal' c5 λF=>Nc F U sj;have uP:=T.cal' dZ λF=>F0 F U;have si:=T.cal' cK λF=>CU F O J U uP;have sq:=T.cal' bN λF=>CV F d7 J;have sI:=T.cal' dE λF=>CZ F L J O U fP sq;have iy:=T.cal' bs λF=>CQ F L U;have r9:=T.cal' cv λF=>CP F J L O U fP sI iy;have mm:=T.cal' cV λF=>JR F J U;have oo:=T.cal' dc λF=>JL F bu d7 O Db L eS;have pf:=T.cal' cr λF=>Nt F L J;have wZ:=T.cal' aX λF=>Qu F pf;have gM:=T.cal' b1 λF=>JP F;have rZ:=T.cal' c8 λF=>CN F L;have uQ:=T.cal' b9 λF=>F1 F gM;have uO:=T.cal' bT λF=>FX F ye rZ uQ;have gN:=T.cal' ca λF=>Ni F;have uR:=T.cal' cD λF=>Nj F tN;have on:=T.cal' dv λF=>FV F ye gN uR;have sd:=T.cal' cu λF=>Nl F L;have oq:=T.cal' da λF=>F2 F uO on sd;have j8:=T.cal' cR λF=>CO F L gM;have su:=T.cal' aR λF=>CY F;have jw:=T.cal' al λF=>FZ F L O gM j8 su;have fw:=T.cal' ai λF=>F6 F d7;have uN:=T.cal' az λF=>FW F L J O fw wZ jw oq;have ss:=T.cal' ar λF=>CW F L U iy;have kU:=T.cal' av λF=>C0 F bu O ux L eS oo;exact Nk (k:=⟨lX,d8,cJ,cz,fI⟩) (Pf:=337) F106 L J NG Db (MG AZ xg tX tW yW Lz DU ue B9 y7 pH yY xk oB sQ mF gW A1 sU jz) ff kW rQ nU AG cC jx U fP si r9 mm ss uN kU
theorem Rz {l:PySem.W.OpenLaw}{q:Program}{j:List Str}{L:(Str->Option Value)->Heap->Prop}{J:World->Heap->Prop}{d:DefRec}{K:Params->Fg}(R:l.most=some 63)(G:d.params.defaults=[])
(O:∀(w:World) (h:Heap),J w h->(K w.params).In h/\∀t∈([(341,337)]:List (Addr×Addr)),h.get? t.2=some (W.tabObj #[]))(aj:∀w:World,W.noTabs @bV=true)(I:∀w:World,∀t∈([(341,337)]:List (Addr×Addr)),W.codeHdIn @bV t.1 t.2=true)
(F:∀(w:World) (mg:Str->Option Value) (fa:Addr) (h:Heap),(K w.params).In h->h.Ns mainGlobals mg->mg d.name=some (.ref fa)->
   ∃fd:FuncData,(∀(s:Shared) (u:Value),BindsTo s fd ⟨[u],[]⟩ [("_law_script",u)])/\∀base:Heap,(K w.params).In base->base.Ns mainGlobals mg->L2.mE base mg->ay l.prog w @bV mg base bd 11 fa fd ["_law_script"] (xJ @bV 337)):
 PySem.W.WalkO q j L J l.row.toRowW d [] @cZ:=
 L2.Eb (tabs:=λ_=>[(341,337)]) (n:=63) (k:=11) (x:="_law_script") (CX:=λ_=>bd) (sp:=λw=>xJ @bV 337) R @b G ⟨rfl,by decide,by decide⟩ O aj I F (λ_ _ a ns Z Y S U=>Gu U Z Y S) λ_ _ _ _ _ z=>z
end My
open PySem PySem.W PyProof.Rows
local macro_rules | `(tactic| walk_at "l3t") => `(tactic| first | (refine' L2.Qv ?_ ?_ ?_ ?_; all_goals try k_is) | (refine' L2.QA ?_ ?_ ?_ ?_ ?_; all_goals try k_is) | k_is | kernel_rfl | (refine L2.Tp ?_; constructor <;> walk_at "l3t"))
set_option maxRecDepth 100000 in
set_option maxHeartbeats 0 in
theorem PySem.Challenge.cw_liftcourt_k36_a_lifts_turn_holds : PySem.Challenge.rw_liftcourt_k36_a_lifts_turn.Holds := by
 w_on;o_law;k_head;(case hw=>w_witness2)
 k_fill
 rwa[My.Rz (l:=PySem.Challenge.rw_liftcourt_k36_a_lifts_turn) rfl rfl (λw h Y=>⟨PySem.W.km_in_of Y,λt J=>PySem.W.km_tabs_of Y _ (by simp only [mem_cons,not_mem_nil,or_false] at J;rcases J with rfl<;>decide)⟩) ?lnt ?lhc ?F]
 (case lnt=>intro w;kernel_rfl)
 (case lhc=>intro w t J;simp only [mem_cons,not_mem_nil,or_false] at J;rcases J with rfl<;>kernel_rfl)
 case F=>
  intro w mg j h Z G U;refine' My.Om Z G U ?_ ?_ ?_ ?_ ?_ ?_ ?_ ?_ ?_ ?_ ?_ ?_ ?_ ?_ ?_ ?_ ?_ ?_ ?_ ?_ ?_ ?_ ?_ ?_ ?_ ?_ ?_ ?_ ?_ ?_ ?_ ?_ ?_ ?_ ?_ ?_ ?_ ?_ ?_ ?_ ?_ ?_ ?_ ?_ ?_ ?_ ?_ ?_ ?_ ?_ ?_ ?_ ?_ ?_ ?_ ?_ ?_ ?_ ?_ ?_ ?_ ?_ ?_ ?_ ?_ ?_ ?_ ?_ ?_ ?_ ?_ ?_ ?_ ?_ ?_ ?_ ?_ ?_ ?_ ?_ ?_ ?_ ?_ ?_ ?_ ?_ ?_ ?_ ?_ ?_ ?_ ?_ ?_ ?_ ?_ ?_ ?_ ?_ ?_ ?_ ?_ ?_ ?_ ?_ ?_ ?_ ?_ ?_ ?_ ?_ ?_ ?_ ?_ ?_ ?_ ?_ ?_ ?_ ?_ ?_ ?_ ?_ ?_ ?_ ?_ ?_ ?_ ?_ ?_ ?_ ?_ ?_ ?_ ?_ ?_ ?_ ?_ ?_ ?_ ?_ ?_ ?_ ?_ ?_ ?_ ?_ ?_ ?_ ?_ ?_ ?_ ?_ ?_ ?_ ?_ ?_ ?_ ?_ ?_ ?_ ?_ ?_ ?_ ?_ ?_ ?_ ?_ ?_ ?_ ?_ ?_ ?_ ?_ ?_ ?_ ?_ ?_ ?_ ?_ ?_ ?_ ?_ ?_ ?_ ?_ ?_ ?_
  all_goals try walk_at "l3t"
