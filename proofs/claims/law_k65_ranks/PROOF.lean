import PyProof.Rows.All
import Wide.All
import KE.KDictOf
import KE.KDictList
import KE.KNestM
import KE.KFromBytes
import KE.KIsAll
import KE.KLam
import KE.RegMulBits
import Wide.FinOn
import KE.LcSums
import KE.KIntText
import KE.KRevIter
import KE.KMinKey
import KE.KCount
import PySem.Challenge.RW_liftcourt_k65_ranks
set_option Elab.async false
set_option bootstrap.genMatcherCode false
set_option linter.all false
set_option maxRecDepth 100000
set_option maxHeartbeats 4000000
local macro_rules|`(s! $x)=>match x.raw[0].isInterpolatedStrLit? with|some s=>`(PySem.Str.ofString $(Lean.quote s))|_=>Lean.Macro.throwUnsupported
local macro_rules|`(tactic|symm)=>`(tactic|(intro _ _ _ _ h;cases h;subst_vars;rfl))
local macro_rules|`(tactic|ac_rfl)=>`(tactic|exact ⟨rfl,rfl,rfl,by decide+kernel,rfl,by decide+kernel,by decide+kernel⟩)
local macro_rules|`(tactic|ext)=>`(tactic|conv=>whnf)
local macro_rules|`(tactic|rwa[$x:term])=>`(tactic|refine $x)
local macro_rules|`(tactic|erw[$x:term])=>`(tactic|(refine $x;conv=>whnf))
local macro_rules|`(tactic|left)=>`(tactic|walk_at "l3go")
local macro_rules|`(tactic|right)=>`(tactic|walk_at "l3dd")
namespace Lean
def wN:=Syntax.node .none
def wI(s:String):Syntax:=mkIdent (.mkSimple s)
def wA(s:String):Syntax:=if s=="_" then wN ``Parser.Term.hole #[mkAtom s] else
 let c:=s.front;if c=='?' then wN ``Parser.Term.syntheticHole #[mkAtom "?",mkAtom "_"] else if c=='@' then wN ``Parser.Term.explicit #[mkAtom "@",mkIdent (s.drop 1).toString.toName] else
 if c.isDigit then Syntax.mkNumLit s else if c=='"' then Syntax.mkStrLit ((s.drop 1).dropEnd 1).toString else if c=='!' then Unhygienic.run (match s with|"!r"=>`((by right))|"!d"=>`((by decide))|"!l"=>`((by lia))|"!a"=>`((by assumption))|"!s"=>`((by simp))|"!k"=>`((by decide+kernel))|"!c"=>`((by kernel_rfl))|"!q"=>`((by walk_at "l3sq"))|"!f"=>`((by first|assumption|decide|lia))|"!g"=>`((by first|assumption|decide))|"!h"=>`((by first|decide|lia))|_=>`((by with_unfolding_all rfl))) else
 let d p:= !(p:String).front.isDigit;if c=='.' then wN ``Parser.Term.dotIdent #[mkAtom ".",mkIdent (s.drop 1).toString.toName] else let q:=s.splitOn ".";let i:Syntax:=mkIdent ((q.takeWhile d).foldl .str .anonymous);(q.dropWhile d).foldl (λt p=>wN ``Parser.Term.proj #[t,mkAtom ".",if d p then wI p else wN `fieldIdx #[mkAtom p]]) i
def wE(x:String):Syntax->Bool|.atom _ y=>x != y|_=>true
def wF:List Syntax->Syntax|[]=>.missing|[x]=>x|x::y=>Syntax.mkApp ⟨x⟩ (y.toArray.map (⟨·⟩))
def wL(l:List Syntax):Syntax:=match l.dropWhile (wE "λ") with|[]=>wF l|_::b=>let v:TSyntaxArray ``Parser.Term.funBinder:=(b.takeWhile (wE "=>")).toArray.map (⟨·⟩);let e:Term:=⟨wF ((b.dropWhile (wE "=>")).drop 1)⟩;wF (l.takeWhile (wE "λ")++[(Unhygienic.run `(fun $v*=>$e)).raw])
def wS(l:List Syntax):Syntax:=let r:=l.foldl (λ(s:Array Syntax×List Syntax) x=>if wE "," x then (s.1,x::s.2) else (s.1.push (wL s.2.reverse),[])) (#[],[]);Syntax.mkSep (if r.2.isEmpty then r.1 else r.1.push (wL r.2.reverse)) (mkAtom ",")
def wC(c:Char)(l:List Syntax):Syntax:=if c==']' then wN `«term[_]» #[mkAtom "[",wS l,mkAtom "]"] else if c=='⟩' then wN ``Parser.Term.anonymousCtor #[mkAtom "⟨",wS l,mkAtom "⟩"] else match l with|x::y::r=>if wE ":=" y then wL l else wN ``Parser.Term.namedArgument #[mkAtom "(",x,mkAtom ":=",wL r,mkAtom ")"]|_=>wL l
def wP(s:List (List Syntax)×String)(x:Syntax):List (List Syntax)×String:=match s.1 with|[]=>s|f::g=>((x::f)::g,"")
def wG(s:List (List Syntax)×String):List (List Syntax)×String:=if s.2=="" then s else wP s (if s.2=="=>"||s.2==":=" then mkAtom s.2 else wA s.2)
def wT(s:List (List Syntax)×String)(c:Char):List (List Syntax)×String:=if " ([⟨)]⟩,λ".contains c then let s:=wG s;if c==' ' then s else if "([⟨".contains c then ([]::s.1,"") else if c==','||c=='λ' then wP s (mkAtom c.toString) else match s.1 with|f::g=>wP (g,"") (wC c f.reverse)|_=>s else (s.1,s.2.push c)
def wD(t:String):Syntax:=match (wG (t.foldl wT ([[]],""))).1 with|[f]=>wL f.reverse|_=>.missing
def wH(s:String):MacroM (TSyntax `tactic):=do
 let r←(s.splitOn "|").toArray.mapM λx=>do
  let q:=x.splitOn "~";let p:Term:=⟨wD q.head!⟩;let e:Term:=⟨wD q.getLast!⟩;`(Parser.Tactic.tacticSeq|(show $p;exact $e))
 `(tactic|first $[|$r]*)
end Lean
def Lean.wW:=("!r~!d~!l~model X.prog X.w~Nat.le_refl _~!s~ac(aj @a)~λC s H ex => @a~model prog w~!c~aZ X scope N' C s H ex~Option Nat~aF 0⟨[b],j,0,false,0,B⟩~λC s H ex => (dh(K := K)(n := 2)rfl rfl(aA @a(aA @a cc)))~Or.inl rfl~upd(upd H dx(.own a))a(.ins C dx[])~λj A outer s H L Q E Y h => ?_~λC s H ex => bw~λC s H ex => (dh(K := K)(n := 4)rfl rfl(aA @a(aA @a(aA @a(aA @a cc)))))~λz => ?_~EP X pins σ Q~aN hs.lo⟨cs,ws,last,false,0,[]⟩ds~PySem.W.instObj C s.heap.objs.size~λz => absurd z.1 @b~λab A outer s H vs Q E hr h => ?_~!k~jS hs wf k ks~mem_append_right _(.head _)~ay @a(ac(aj cJ))ap~bv hs.so b.pl b.li b.ps(wf R b.li(dQ hs.so b.li(tk l.rm b.ps @m R)(CK b.ps R)(Bc @m R b.li))u d)~av @a aq~ac(aE @a)~Nat.lt_irrefl _~aR I q @f~Nat.lt_of_lt_of_le(Heap.lt_size e)I.ok.above~Option Value~post_val_or_str⟨Nat.le_trans(Txt.slice_le z _ _)J,B⟩~cj pk σ~aZ X scope N' C B H fp~!u~j pins s σ H _ I h~starEach es X.env~λB A outer s H L Q E Y h => ?_~λC s H ex => (wv 0)~upd H p(.lst ys)~mem_append_right _(.tail _(.head _))~cs.map c8~Nat.ne_of_lt(Nat.lt_of_lt_of_le(Heap.lt_size e)(I.ok.cab x c W F))~aB(N' := [\"tag\",\"start\",\"goal\",\"lift\"])(pk := [none,none,none,none])@j~model P w~some(.ref f)~bq @c~~~~~~~~~~~λI A outer s H L Q E Y h => ?_~λC s H ex => (d7 @a)~aJ(jj rfl)rfl dD boot_list @E~length_filter_le _ _~dR X.env.cells scope.names[]~eO(aD.of S)(.cons(.str _)(.cons(.int _).nil))~List.map V.bl bs~wpAny_pure⟨_,rfl,wpAny_pure h⟩~λad A outer s H vs Q E hr h => ?_~λaa A outer s H vs Q E hr h => ?_~av(wv 1)aq~rs.map aL.d~qP CX P w K mg base N qual scope f j A outer s H E~upd H a o~λI A outer s H R Q E Y h => ?_~I.hok.fresh @e~some v~λx c z => d4.keep z st~Y.trans x~binaryOp .Add~wpAny_pure ?_~bq @f~ay(dB @a)(ac cO)ap~λh => ?_~~I.ok.hd hc~mQ X.K H e~upd H p(.lst(xs.set j v))~cN so room pl s r~upd(upd H P _)c' _~cE rfl(wv 0)(wv 1)~ns.map V.int~he pins s σ H _ I h~envOfC qual scope s.heap.objs.size f cd~Value.type.inj U~λvs H Q E h => ?_~ae st~K w.params~λh2 => ?_~starEach es env~ay @a @g ap~Gr.visit @A s n~J.map V.ref~upd H' D(.lst ys)~λai A outer s H vs Q E hr h => ?_~Nat.lt_succ_self _~upd H a(.ins C dx(putF f y fs))~Heap.lt_size e~J.hok.fresh @e~upd H l(.lst ys)~ac(aj i7)~S.trans U~~~~~~~~~~~j I.2.2 F.2.2 U W~λy => ?_~Builtin.Str.glued z ts~!q~ow Pn Pl~O.st.trans(.updL(O _ _ a.el))~λys H' p l2 Y => ?_~λj y B z hy J => ?_~letOwnedTupleGo tg(.ref it)u~compareOp .In~compareOp .NotIn~Value.ref j.objs.size~Ag P w~ac cO~aF i M~b9 PassesOwn.never rfl @a @a @F~s0 hs~hi pins s σ H _ I h~ps.zip us~iX H m lc lw ll~Ne.symm(Nat.ne_of_lt I.big)~λ_ _ => rfl~nx s c~S pins s σ H _ I h~mem_cons_of_mem _ B~start N vs~PySem.F.args_tuple_add_2 _ _~W pins s σ H _ I h~az.of a.ec~dR env.cells scope.names[]~λh1 => ?_~xv xs lo hi~compEnvC scope @be C X.env~starEach[]X.env~wpAny_seqItems nS.1 rfl ?_~bv hs.so c.pl c.li c.ps wd~upd H l(.tup ys)~I.same O~bu cs ws~R b o e j~g i j~bt st~assign(.Name x B)X.env~λf vs => PySem.call f vs~bv so pl li ps wd~λz => h1 z.1~upd H U(.dK[])~cE rfl(wv 0)@a~jH @a(mz @a(wv 2)pc)~pyNext(.ref it)~f(.int i t)(.int j u)~hX(j.take xs.length)f~~~~~~~~~~~aJ wc rfl kF boot_int @E~bY P w~ps.mapλp => p.2.toNat~decide_eq_true z~λb o B e => eb b o B e~ts.map V.str~CR aQ outer P w H s Q E~λz => R z.1~lO Kλl => .int l.rm~lO Kλl => .int l.tn~vS @c~λi x σ I hx W => ?_~λσ I W => ?_~F.args_str_split_2 _ _~~List Nat~gb.ok fl~ss G.S k~u.map CP~ac(aj(wv 2))~I.base.free b o e n j~PySem.mem_of_lookup h~HT.sIx xs.length 0 lo~keywordEach[]X.env~wpAny_field h1 W S ?_~λb u z => ?_~ps.map cY~rs.take i~aE @a~TP X pins σ Q~λ_ _ => False~ds.anyλd => gE d e~PySem.W.instObj C dx~ha pins s σ H _ I h~λS => ?_~λ_ q => q~~vT X.stack~Nat.le_succ _~bS st~L pins s σ H _ I h~Int.le_refl _~aY cs~mem_cons_of_mem _ J~G.F.map Js~~gh rfl~pE K @ce qi(jJ k)~λL H Q E h => ?_~some 0~some r~call(.ref f)[u]~~~~~~~~~~~ay(dB @a)@bY ap~keeperOf(.ref f)~λz => h z.2~ay @a @cn ap~bu s.cs s.ws~Si X pins σ tg R~I.ok.hd j~λx => x.1.isSome~upd H p o~ay @a(ac @a)ap~decide_eq_true h1~R.seqT hT~B O R~ρ.map fZ~B b _ qλz => z~rR h lc lw M.last M.fire M.bl ll~bp q z~compareOp j~typeIs_str s z t~ns.map WData.int~Dt pk wi g tt te~R.map V.int~gE d e~typeIs_str _ _ _~λ_ _ _ => False~rT j.heap H~cP a xs~bv so pl li ps j~gf rfl~ws.map aL.d~rk.cl k~sB.trans sC~Nat.ne_of_lt @I~eval iter X.env~s.heap.push PySem.W.emptyDict~sIx j.size 0 lo~ac(aj(wv 1))~az.of af~az.of e1~aD.of eb~Gr.visit nx s n~cP dn ys~J.map fZ~Qx r ta tb~h1.trans z~O _ _ a.ew~mV h ru df~Heap.lt_size q~binaryOp .Mult~ds.getD j .non~es.getD j .non~av(wv 11)aq~~~~~~~~~~~pE K GG pre dl~some u~some 6~some q~tupleKind @db~I.freeC x c e~Ne.symm Z~wpAny_bind ?_~I.tok _~xs.length~aW h'.1~bV h'.2~Nat.zero_le _~~max 0 0~ps.take i~ds.take i~av(wv 2)aq~s.ws.map aL.d~s3 _ _ e2~ρ.map G8~I.stkSub b z~σ.set i @bq~eval e X.env~eval o X.env~cq rfl aU @E~wl.map V.ref~G.S.map SS.d~Option V~aZ X scope N' C s H fp~aa @a @g~aD.of e3~O.seqT B~B _ _ ed~az.of eB~fs.lookup f~i _ _ _ _ q~ls.map gb.d~Bj rfl~c.ps.map cY~FS @A ks.length @cq n~ac(aj bA)~Str.ofString \"oxuds\"~Or.inr rfl~tb σ H1 Q~Ne.symm ah~eL j h2~fN kvs k y~fN kvs k v~s.sqT h~aD.of S~xs.set i v~~~~~~~~~~~O _ _ a.el~az.of a.ew~aD.of B.eg~az.of B.e0~az.of L.e0~upd H x o~I.ok.hd F~bs.all id~ks.map kV~Jy C dx t~av @a @bk~ks.map cY~SS.last s~jS hs wf k ks s c~X.wish E~dJ kvs k~backTo pos @bN~fN kvs B.1 B.2~aO dl M.ws i M~JP lo n~ae d5~ae cG~kc kD kH kS k~upd H dn @eP~un.map V.int~GZ K a~GY K a~fS dl M p r~aO dl W i M~hH.same a.s~s4.trans s5~its.push y~hC.same s1~L2.kj _ _ _ _ _~L2.ao !q rfl ?_~L2.bd !q rfl ?_~L2.ie _ _ _ _~L2.gm !q ?_~L2.cf !q ?_~L2.Bk _ _ _ _ _~L2.fh !q rfl ?_~L2.spDraw _ _ _ _ _~L2.drawI !q !l !l !l ?_~L2.qD _ _ _ _ _~L2.vk rfl(.tup !q)rfl ?_~L2.vk rfl(.lst !q)rfl ?_~L2.rB _ _ _~L2.kJ !f ?_~L2.hU !f ?_~L2.Px !f ?_~L2.FM !f ?_~L2.bG !g ?_~~~~~~~~~~~L2.bf !g ?_~And(L2.Qu _ _ _ _)_~⟨.inl⟨rfl,_,!q⟩,?_⟩~And(L2.CO _ _)_~⟨L2.PZ !d !d,?_⟩~And(L2.rA _ _)_~⟨L2.fF !h !h,?_⟩".splitOn "~").toArray
local macro_rules|`(@$i:ident)=>do
 let n:=i.getId;let k:=n.toString.foldl (λk c=>k*62+(("abcdefghijklmnopqrstuvwxyzABCDEFGHIJKLMNOPQRSTUVWXYZ0123456789".splitOn c.toString).head!).length) 0;let s:=Lean.wW.getD k "";if n.hasMacroScopes||n.toString.length>2||s=="" then Lean.Macro.throwUnsupported else return Lean.wD s
open List (all_cons all_eq_true all_map any_cons any_eq_false any_eq_true any_filter any_map append_assoc append_nil cons_append drop_append_of_le_length drop_eq_getElem_cons drop_length drop_of_length_le drop_zero ext_getElem filterMap_append filterMap_cons filterMap_map filter_append filter_cons filter_cons_of_neg filter_cons_of_pos filter_nil find?_cons flatMap_append flatMap_cons flatMap_nil flatten_cons foldl_append foldl_cons foldl_toArray forIn_cons getD_eq_getElem?_getD getElem?_append_left getElem?_append_right getElem?_drop getElem?_eq_getElem getElem?_map getElem?_replicate getElem?_set_ne getElem?_set_self getElem?_take_of_lt getElem?_zip_eq_some getElem_inj getElem_mem length_append length_cons length_drop length_eq_zero_iff length_filter_le length_map length_nil length_pos_iff length_range length_replicate length_set length_singleton length_take length_take_le lookup_cons lookup_eq_none_iff map_append map_congr_left map_cons map_eq_nil_iff map_map map_nil map_set mem_append mem_append_left mem_append_right mem_cons mem_cons_of_mem mem_cons_self mem_filter mem_filterMap mem_flatMap mem_flatten mem_iff_getElem mem_iff_getElem? mem_map mem_map_of_mem mem_of_getElem? mem_of_mem_drop mem_of_mem_take mem_or_eq_of_mem_set mem_range mem_reverse mem_singleton nil_append nodup_append nodup_cons not_mem_nil of_mem_zip pairwise_iff_getElem pairwise_lt_range range_succ range_succ_eq_map rel_of_pairwise_cons replicate_succ set_getElem_self size_toArray take_add_one take_append_of_le_length take_length take_of_length_le take_sublist take_succ take_zero)
local macro_rules|`(#check $s:str)=>do
 let a←(s.getString.splitOn " ").toArray.mapM λw=>let i:=Lean.mkIdent (.str `PySem.W.Fast ("tw"++toString (w.foldl (λk c=>k*62+(("0123456789ABCDEFGHIJKLMNOPQRSTUVWXYZabcdefghijklmnopqrstuvwxyz".splitOn c.toString).head!).length) 0)));`(command|def $i:ident:=True)
 return Lean.mkNullNode (a.map (·.raw))
#check "9Jle7n4f23x DoSOo5wXGxv 9cpnA5Dz9t1 MJHgbb9xOg 45bGaDm1qRQ 8OOL8JZjtE0 E5jfWH0VTsG 3AQKsnIWf0W Bl0IG8zkVja 4cxVk5MsH6X 6ZSl3Y3RHJD A5vZNsBZ4vz EUdQt4i4bc1 LXiVtbqCffe 23KCozanLz8 DhuWswoo9Jj AkOzSnvxwSh LI2IzdZtVlg K7FkigTZuch 8t3omksGVuC 6VIudj6F3ae Asv9pa6RuEs 8r68kzxcXTm 8GRJb7wuwhW 3rWjnebF9wc EXzqQ9YKcyd DI8u77V4xBo HsPJkhSacap DDofRG0ZoxV AzMs7jC7EFV GnZuzjMMSWb riThNEhm12 BQKh8XyknQ6 8gPOp0mvQlJ 1QcJVLaBwxV DyDlle6AJXI BQ2eZHEgqnx J1zGAbK33fz 2KNpYjJ4tNC K3914NiYVzz EINH1sTThEb FXcEirJbsJ7 KWfsAodY0EW BQy7zzuXJQf DJt4xV3tFy0 FlARjh68YZv BDiJeEMoCqY HKbKmETvcZ9 C0l0rL4RQS4 8WTKdnZ8jR7 GWDFbbmL124 G6c46YnECgo DUB079LnxGs Hc3E2Bicymy BUKk5wwCZ7H 7mCbtI3340V FqzH00uSws0 5t4Q9aKzYtm KHqOuu2ICUy 6PkmHYSbzJE Mtyi2QUBml AmhJugTP03J LSKB2fzsXtf 8X8CpzxmhDo HDEasdhAluX I0TFRvPCCw4 LHgXwL3f9Wt FS5YQGBx81u BfcTkW8035i JHt950R7Hy1 JCsFhcFrTf3 5tgOoW9oeQm 23L6mgHCgQW 7hCYoaNO6t8 ADzU9fhrkj2 8scWed2W27R LoSYX3K3aYv ETpRLiKi4tx Jxxh5p82qRm LIr0ukR1ME8 Hi89M0OlmUs EbJLupVRS5d 7g1Q30TS4PC 6fpneW6hPCs JLOUIAhlolm 1IbYYwJQMJw 5l412ac2vIC DyJ1Skbn20x LpHbor3wQ61 5kzZXRAodk1 EMLOH7gqon1 4lsf5G6c27z 7AWNdQEVBEq FPHsvCU7jhD 4TOQWgM10Xr GEX5M6Fs0Jd IzjMx0leLP5 2feO9sE2Rzn 6UOVSfprpYj 39dGGYontht Fme9w60pTgo 8XbcVmtPIoD HAFzQjccPhS BlocPjkdIAY 96ARQ5mLAY5 IRJ6aFucDg1 2Aw93iWrkv2 KJKrPoAhSg4 G0vc8i7zrws viSBVQyS4Y JHrdsUBXL7W 7eVUm8JIYSc 7Qt6crMZ9RO 7OpduiURCht 39esDnADO6u LtFplxLUe2r I0Vblu161bP XCmFN9ZvyE 8DT01zHeEcm 9pbNHCgt3vW 4w0Cn3oBed4 4pIoGME4fFl DuzX2EAdA32 HxfkSLeNvPh IEG9oVIfcRc AE64bxIgYQj CXHENz2l4Sq 8qxFFXErlnf 4S7Tz9gFHMf B4bn5GQufsE J7g6g0rFgt2 CJMMNhVlxgc 3c9Y9axrhuG DE84nm6Dlft Doosn3XQd2h 2Spe8rZGgJG 4LYkbnCnmx8 7U6EyFGDSqR 5laQaxwmG1z DP9PaqB9tq1 JQFzs5PWDmw EVFmDkNPjKf jCZNyPGVhB 5xxQxFfDlFU E0tXL1qaqvx IsoQvMOmx72 21rAUm8OBGh IMdfae8Q48l GGDezGAyngS K2xJm4UV3Pb 7NIPpXdjQgO L6S1NKuEEVZ zAk9OVhcSB EoS7FmmxUSe KxQmrta1w7A Am0iIXDjunh 6zutc5Ki50H 11mU0NeSnVD DkTRoitqges 7g2rQEwhipd 6u7EZXyzFoX DkAFss1baQX KawTNUQVw2h 1F3c6e1AnDj 61HK4Dm3pqL zyrySt5U2l 3qxFz0DfO6C KKPSIKVtO8 Doe6ZlgAJUZ HhOST3NRWTg 8XLf1Wxvdod ATSRHVxthLX 2lgSuekW6if 60wJFJ8enX1 JEvx3dlCDGQ DZTqnZjCmYg Hxu8NX6ZD0V Ja6jCPBoY4F 6ltYpqHZuZd JKNYs7Js4O0 A0ckXR8EOvT HrDzDg4KqlN KztvQTYfqn9 8HG1xM55lIy 3ya65YUsKTD 85yLAxEevMf GzMGfJ3pd40 4qOcOshrcgl EzvQl7ZtXSh DYZZevyiwUl ALogOcsVgh2 Kk2poUFeWPe Egf0ix8kS0J 5KqfmTFZI0S G4quQtLQ8C5 68XhSzx7L04 FMebzsn0jNe 4Zt0W4S2Buw 8TmS8gAk9uI J81tI5WRJMu WnhV3NmAIJ 2T4kzBtfcXC BFMZo7IlZx5 8xqcaRpV2w9 7H40XnD8KAy A5TLbPOyZnO 6x4RONPE3ZK GfGZTE5f3Xz 9z1nqe3v9sD Hqfr0eJaCkm 6UcoC4DtrsP CbfvbWiJrcY AbNzYaWLUwL 25G9TZarxcc 9vOwugRDFZp 8uiHBl9g8bA 9k4abBI6uI4 2XrC5AcGHtI 2k2CZifEgCW BHhMB5nyaAZ ar1Pax5nWk 6ViA1EEPqp8 HEjGkcmvY6o 9duzM3W7OxJ Jk8dycplg9I 2so4M45345b 5xz6CDbenp1 5A4dNwuEQLW DPqLWn4WLWe DE55so3KGcA 8kxyalpmaxq 32J6aZjYxhO Iq7YwtmitTw I9MPXDrfMXF IezAb1aP5T7 6bojQpyYt9z 9TTzXXjMH3a Ey2mJHeFcQY GsR3H83T9mK 4ILueUQqouU 7AU0oXmlkbs DtI4SAD8ClG 9wN0TTndXhu H5UL74Nqgo6 LGJTTo21qB7 Gcu9QXxivDE 5KYuvUiMO4A IK2s61i6Pxn 6pm6FyCX3vA Hwpn1FBCFJe HyTo1sfENaX LHKxJd67Akt 7usEpOhcJWv HqbEj7QOvZt Lr2SRGflEPv 7lKsXBJ8nJm CNb8ojuzn7F 9WnbFRhTrNn 1oIhIfUCpyu Ij372WGSsDI 2npYu27bdL6 HTeZKJB3r5x BKVMoX3N2jg H3jw4yK5SDc 5ezXwNREZ3z CM8TFrmBZCm 4uvpHsygSlv 7gLvIhhjyrI 8xS9lTkgdGt E0Vqi49mxI4 LMmARouEGPL 1krJGVMPYIZ LrZcj27TDTU 5QaAedIJXfJ 7R90aKjpjm0 75xR3E2D4hn AViw2YmOK2E Knzxsv1cVTb Ep8HB2KZepK 4KKANMCO6ST DIVlExYROUo KcxBAHDRFxr 6Sfgu6107jF 5rLQeDgGUdi F7T2VaBfJfI 9IUy7q4Akgx 9SrQVfmv4eH Go1I3LIM2Yc EgbRQnAZnZz Ga2ZCDbaX1S 9D7Z3MCarNN 469jOv5L2kj LMHelXx1br5 2S6kbngJ9Rq EEG8zjittor GkuRBNVLmNH HYYJzpguF7v 2TksKcXpyZa H9cNuG7mrcx HHsXi36292j 7rDVNqjZ6iC IqjtawR5Dmm 4pl8sn0iFQa 4EIVwvg7Hge CPj36uTtDfH 7UdyhnCOrZZ a70TsLmK5n V7yqpcSL6C 9FW7XZiIrJa AEsWqIBzOjk F86271GbI54 H8eyLE8icUc 4aJff944fgw 5H4dIGjIL73 JLoZbOAMjj7 LbZ9w44iwvz JxTBLE8Y36I KIrcYwo0MOT DewMhAapVpW 7r2NwoGlkzR 4h310GVkqjj G0KfOECbBKE FdAMGaVzzW3 fm1HPIODYN LeOFcpz0PCA 2Gs84dml4qO K93FZOxiGOq 4AKsIXaqmVE GqQv6ii6u3I 9joN9Kqkr0F H3kGlBMU4Ab g998QezNBN GgQyn3ZgGYS 1VLXeM06bCe K4vanlv3LO2 Gaf4RoGtIvs GiJmshnJMn7 OfTGqxX144 HWwnlJJX89S JsChqtbqHMD APY19sJCDGd 1UmqkMzycO2 K6dFJgLBZUP CEfddHIIAuR L7i8WxMXogq 88HHEgCWFaf BGN9n38gfvQ ARlOuzqTPqz GERTnNMId3q DujRlwgrlgB LjrRsk1hkxs Bu3NvXbdoHh FG1B9dN9MZL EAYz6EeDA7n 4n8aRngb8za J4WlR9BnHR K7kThF3HKMS IdEOUblsNSQ Dd24t2l2dCN 39oMjYowuiI 2umkLYGOvDl 4QJwsx6gL0N jsRpnWUsVU FTm8BuvJ1cQ 4xc5oBCrLjy Jm3T9mEpZS8 9OGY4tzm1jW HLjcYisS6xu 7Edn30b7TTu AtQWo8Bnexh DKiM5UXNwNL Dtel0OmodoI 98lQ6Wutx0Y HixpvhbPSzU GbO1QxEjH8b 48dxOQafzpS Dey7L7HHCMt LRUxS4qterU 5EzsPOheEDt DjBgIKE6Q0y GXhtRwsxE8T Fq2Ja2dTsaP 4hgZlInEFv4 25MiNesNuhv 9wBCyONAbEG 4K61nqLdjBp D74ACAM94DE I0HCwZmVG48 2GSZkAV6BRj 7zuxCUpbpuW AX4wsaEpnt6 BKKXvyTKdCH 4iGUBJBG12Y 5SqeMvzhH92 Hnq5uO6bJSW CslP6oqbTBu LDsrRfuhvZ5 JNGSvKlSkkD JBbmjmPybh3 J5X87DS3Iwr IZje9HCCk0j DAHSst0jFqa 5bau9HRGAET 1d16KWzefND K0429JRzEUb Hw1yiE8m45e 9rUHOQo1rcE 5QAuDvkG1aU BgeyeOXp5QW CslN5mb6Xp 7G9EYrqbHNk 7BHa7mNs67o Hql1eAlkstT 6LTvd5kgHa DxvghAKPB1O AndDEWhooMk AlYDqhFvCq5 2Er4ej1dKAl KJBnhb2ulpH 7wNGvD3lxsb JUn6dym8NqY Hm5VsHNqJW7 EXiXOWB3vUX D2cK5Lz2RIx EBZE9J0THcO 2iCTKUU67lN QnXOXlRM5r D7MViv55pAb 69c5qJomu0i F79J8qnJgk0 1eccIZkFBHW KnuQ2MRAAdW 3fkuUeSvTRq E0m6wCoXYc3 7nu49kDgwkt 3w6dnGloGTo 9XxKUifvWBb 6c1KbYobWjQ 3wwz2vApbfC 79gU7aI7RbP BsN6cdUINOb 1afVcJM2LMw Df8UfaSebVZ AADiAFTvO6t BAcBlgX5WqG 9OmSK2HPw6E G4BdFj7UrBH 9dIbZutjKAY KwT0GVtp4bM 9OrczQeDJHI CulBrskx8kF BJeDkvHAFzs G0ynY3jiXkB AW9zymlVpWL 6iY0ZLjkmao LUly5VFNLm6 9SDdQYATyHy AVysrahzgdz B9U2028OMPd BH7ysMP6NE0 JukGuwrhGUN B840J89NT9L FqNDGFOAqMg 9Vct32wRndW AinQNnyvPIN AWaP8EY4kU JETvNhOM2kz KpYMPi695qI 8NlNxy9IZqX Ic64O5o1OeK BLSe1XVAcR3 2L4jiez9OYh ACMZIw6O3rW 7JuLm4z17SA 3XwU7SgeSDD 2OtQvs6hF1e 2hktxkgRN2m AS85ytE8UdG I1oZ3TksfVF 43LQ05hhMZz 3ZLs5iDC1YF DbVgyizaFc3 5VDPU62Ly3g 3fSm1XQBg9A DryacEFwsin 9ShwHJiWRpq JjLHsjLnagj JWBw04ODFEF 7LkaK1ZuNlw J3ykOPEOxqc KdrDeQMpaEm 9XSD7M24kti G9XTgnwQrkR 8m86OJVZSPO 31DTmMV7Azk 38890zu9uFT 7JskfSqocwm 8D8Qa6LlV7f E1mgNFG2hcD FQrkj4lSI9e DCOXFrPfHRJ 5WhLIPIM37Z AksttDpUEwZ 2HLfZWL2Zbv FbD1waVVs78 HViTnyUEKr KFmwJv3svat LUFH5uNFqF7 Eu43pLA1KHA KvQn6dPvFbd GiKZaS8xdLB L8tWIQWdItw 2xDFftJLQ7b IfUSaItEgPF 85q006LOYG5 EOddnjAd4Be 4uK0PHDKjx LqSL4fXD0dK If801kU3prO 8KslyqLJwPq 3XrRskxr5K7 LFBiqfNSjn1 JKcIBY3jueN duwCVTSu2c K43dJwWqQ5e 7xDSOBihbDD 4T82IGxJXbp FwQNrNZqd7V AS8rtjaGao8 J6eVRWTIG3w C3PCWthq0cX 9GGewmR8sv K8c8vwSix29 FRxO8ITlBvx ASVXfAwVWWK JfYbxzdutDP GszA1pSF3Q2 7iBe022PwMQ pDTv5pxlKh Ig79Zhg5B19 6X089NdB7he Ewuwl6WwuU6 6KxIsaJRKeS d0KsKx0aLi G2GhqdqRt1K FnEmPbYqvim 9TY0g6kNuCY GOSIKn15yrt oHEEnQnZta 7qSP3icKCIZ 9Y0U89eVF4o 2BCVpuHjoxR 43UPkjxJR7q LvNPrL8ojCN GWHU9Q7U4QW D59O845tjfx FLHycqMAcwo 5ANhiQYTjiV 1aKvsA73wwg CWoROapw1pL lfJFm1azSw BzKcSSJmt8L 7Gjv130eSGf 9XZHxxDzS6y 4uI7ooQOuyc Doso6NI1FlS GciumIJ4gkd JSKjovzuHnM CiFOku7034s 7PaZFNkEFJR 1ypEYqyNcp9 7g5mkqKQmK0 IYfeejPJ2jz HRcogu1W7Tp La2gYw3q6n J6eYi1HdTZs 2Vfff5iwErD 7Ki7lTx5048 DHx5pbGkciE BBnVulM9gCB Kp5zO2c4MX 1HzNbUqX53G J74tC8Eg35n LqOTtngA0zZ IvrazUf7J1O 3BJLfZWNnIH 65Id4umF51N J1wZHNwbxht GicESbzsWJI 4sz1TfsNY3m 4ecwB69rir6 9Zd7cNa6wAi ueZgcvqNlw CBfdzJ0QcSY CnRf3XHWbIL BpbKm0dfvKG Ef7VsLde7x0 2GLIWqujhy8 JF789jhopJr 5PUrqnXrCNM FhOnfg240w2 BcGMEsocWKD 7bC0ZWreXYl KTpqGuODr9V 8TYVuZQIO4Y 28rR20aKvLq 70sbsTPFEFK A5FxQdkmIU2 1ruTxJ1HlvD FLd3w3fDRsU 4ZbHKbGX7fV 93KpEiphO7T Cmd633pW0UC 2sJKmw5ruxv DoNlfelIEFX K8UWBFaMzJb CF7E2vB1Xdf GaNjwQdtHq6 K3Okt1Tq82v 5SbmDzb9wBK DmxlKuX1LwK IRwzsJP8u2u 5157neevwKh 8l0CrOQ5f3M IWTLwN2KSdg 26mxTImKqxo ypvamNOMaZ EdQDKnZdXJI BDcCpDeafcW DVimfA5AcyJ 7mwfDROiKkO 1mG08pDAw6W 9NjBUDRadDv 8ConGmodfsK BZcwt1IL4wM GgR1UBfhvi1 EESyhzCqjUT Fz85DpX7cNX 669OBIpfoiS D9cWYiwdmez 4zCbPjRveE4 Ap2rBbg6N8U FbD4k9qnEme Im6lTWOlDk5 13a6REXFGFF Afl6tnx2uJL 9EX8ePpDiWN I8fjpQZgoiR 5XYyTflyI3c 7T6n4mEDyHW H53WWymcELY HzL486tzY85 ADSsd4MLj7n DB3sXnZPzcp DEx3Exp6uZl F16zKEbJe1E LuT697uOW7i 7RiQduX6Wde AIYRRfePrkr 2AxSH1AEgEx HHuTulPcMMb 9FeZ4otHY9i 7wObjM7JNLf zGN7mgyu2k 9DOiPMTmXex HsfvHfN6xq9 JDTgtneQsHl K1YljnEViTJ CwgKxoDuuHA HhEx1Pd7mmM 7D79xMQW98G IEYA03w3N7v HEcFlC5zA2K FBko48QmltX LcpL8DFR3Ea EongNnR0lo0 BYWlSeD95h7 2iIJ5IrKqWn HYZHBCqYcGM JXnTNsR1Vvs Cbc31NBm3a9 Gb6gZIE1mWf 8svLEw49DK0 DHEppvxRMGE 6fgBQxeuzCb K6cJBRgLBMT D8B8D4sqxDz KjhMcMRcTbX FmH1xW3Ve24 IK8UumPJhWb 2X67t87CGKA 5x1e2nyqU69 2Tw1rSgUGoY G6NrU0cPtZs IW8psKcpmMC Hy0FZES8rc6 BILFevW46wE KR3o51ueBqf 5UAeL24FyeU JhTyQuWXOSd 82YaKjr2Ceu AK7FQod8r2F 4qLRH8O4bKV LjqZHTXdWBj 61i6rJNZapY JYmKYgL8ezP CATCLpxoUPL 9bANmIj9641 6VbOsbfBqeu GHZqoQxy4Uy Ar1qZdZCJyT EMqNzjk2qgF JbZdfCkMCZP Esly86I4490 1EGKczto0yI GLwRGXc91cj 1BbB3Xn3iXU ea1PWYjoEO GGBaYkp53QE 8PdG3Zl2UCR HLsMeWABnih AiEc2JB0Ndg 60ryV41u61q 1CB4nm3nvpg 42zZ9Rb707K BOa6Qbr4Ktp 2ZIjC1cXjTu 6gGCq99gkOx C2VwwcR4S5r CS26eKWxApE 6NAK2l2bbOn 3cXdwrekwzJ 2YRla2bL40J 1EVRuCmBwwg 9pbnYcTP9m8 CyVIBP19nbi 87N3bzErP9x BikAcpDJ5QA BoK8p6YlqGN 99tOu7ZLn5c 8CaBwgBN3ua ChaLs8j9a41 BMJBj1R8X1z Gc2yXe1AYWD CjUBsrVSxOw 8JFzOmYYlPk OlhhudKK5f 20KZNmPgAeT IxLQBbVrwel J7TShlCNG0Z I3ZB8kzCEIp mf7QRKjaZF 1WkKPSfUEpa LRvONbzQjxy 6kYpS8fVcM8 70FAWmJ3Ha4 DFjH0VynTNk JwrcKdAgakf 4w0gYgj85U6 EWVd3dPI7nH 2UM7vODdlMw 8NIIsJQIbiT 8anfs553Ng4 6ba7JAqxdTY J066Oy7G1Xl 6RjScXRe5bH FOTG4qGdaks E1V9rcdXu9O 7sZYc7vqS21 IW415exlxrg HWKONVw42kh DbP6QI2O80q 4oDJPOYdq2P 8rv7Bu400DC FrtoXzp3pPD KpQTToDmOVV 6CrWAA0Jc2T GmONo2h7V5z IwfnlRMNsSQ hIN9KMGJpi FxqIyjTwDf5 30M131MV2Wj 4J5C9esbTwT EknFiGC3jmB IX4hb6EGknT 8YxywxrU9SW 4A1HgvFxBMn 1iNbxMfINBI 6ySLtFEnwUh 41PjTVYau20 LwFoRKob7AE 40ylGiEmt05 5yONphjXwKh 2gGirkYK6rt Chd0ARJIDX6 IqO2TD2O2r7 3ZnbgMbyOUD 3lEqpzC7JYb 4T4oPcvVyBh ExfM61Tvbk L61yIkO6L1G FUXvfsVcgkF 86T1fI4tUE6 Foro1WMWAIW 5aflRjOJUB4 E2eBikJTNm9 Jud1UXRqbGY HNlQRkoXE17 EnGO8nYGHtM 1yJcX0u4Zkx Dz2tFTQxRn2 6qSvISqtmVD 9pIRSsgACYf 3W8pjr8zFsy H9PQoU8qmV 8DLDSRNVBwA 4ObneWs1319 9ieoijDN1tE Ho3UPsU0bjD 2qqwWtxb9bl KP75DXkDO1N JSCXdcaxKnX CZC59qlBqjS 1fmRgsqKppc klFjfN4XTy AA3FRGLFiDo 82plUU6mS6P 2hMwH96zJwg I680lTAFcbb Gl76mgK3Tin ESmOxnu8F8X Jj984ej1nAD F7TP4oJP4vX ATid63TpbfZ 8j0EWDR3JgM 2gtApio6m4s HLBS4CeaeVo KAAsTL3KoZs JEz6GQmRd5B 1tDwQ61qngp GhEICv5nTU9 IcNEAFubHdF LabK6GErDGj z7u5dlvD55 Fxez7e639pg LPKwRQFRroO 7PXzeuzjLN4 FIua94s6MxT AjbL9quFmQQ J5ZL2GpkQV4 JslWdeRBZ77 EWaN3bnHyIf 6yDGzrcjUYn CUHuuYcotyr B86hS6CwMCa 9CyXS9YtUKv GV7mS8RVqWb 1mrgn76vRM9 5VpMfe6mrlO H911fYgELhe 9E2MpDhOJta k1yAGyghmd 5J1xwuHuBsa EQf3Cp5NE3z G0FGpY2S2aL K7iR3Wnli7j 1gm82IkZMWG IrNvme20qOu 6qVH8WQaOEy J2F4xGkpVeq CSdfEmiQDDF 3kyKK7QV8zo 2CqjnvR80fc GuCjkJSOAiB CvytW6UWjco 9kO4MreQrur 5m3lmCdtt1j J8ET1DijxTV BQS9oZwCKJR G3KR003CxIy 350fkozkG7Q H3IbwgjWKhw LD45S1Bdbtu C1Ajps0ymLA AMcfdp0C8Ah 4ZRWi8wbYKU B4zDrzrUSjD 7cCaix0rR9c jymmHxpZkK DSpfJYpYHsU 1kIcyv3yXq9 9ZMTkzn5Ym0 L1bDGaw51Ac DSqbj4KvW1B EHD3GqtMp37 4nbv7on2XpH HH9ZiF4OaLQ 7ItYdqKXuGr ADmVlTWnjAb LtyKfnL0iSc HiJZKhM7tjC CgjaMK3a5fT Je9izEzjyWB FjSssB7OVIk KhMmQ2oom4u GWeBZHNtzB2 3EkFMhJqYjm 2QOEabZeut1 5VTxFLuUC53 LWPPnDHXS3A KS0AVDvUGPG 3Brt9TWpwSP Ht0nQLrk754 36fj5jVDBiK Lc5ggLswEYA GXgO5A4NUWT IPpATiZ5Q75 IqLqS3YYkZa IGnEVAjctED LkCWSUg8p6P 3njoO6jd9Ld JNUFEFI96OU avbcs0A5oY BbmsUh9rzzC KP0yMtlCXVa 3GJcNhuhyBT IkOH75RnpmE 4p0GbuZjjWa 5cz1Wi7OhrS 56eRwczdCRd KMgd8BLLtXl JMpPk0fkcS3 6tfjFdRGNOp K4ehYr75eJX HhE35GoPsmw KoqAhGAeUUW 66NjK06Pdtw AQqOBoWP9pF 8wu8vb97NUn 3ZNDs9aIXVr 6GKKSsZ8fJY 17VdrNozPdn K6o6qx9RJ2D EcUO57EsKvd 28IUyMomTNN"
abbrev Fg:=PySem.W.Frag
namespace L2
open PySem PySem.Spec PyProof.Rows
abbrev dg:=Sum Int Str
noncomputable def sM:dg->Value->Bool
 | .inl k,v=>Value.isInt k v
 | .inr x,v=>Value.isStrOf x v
noncomputable def RY (w:World):dg->Int
 | .inl k=>hashInt k
 | .inr x=>hashStr w x
theorem bK:∀ {k:dg} {v:Value},sM k v=true->(∃i t,k=Sum.inl i/\v=Value.int i t)\/(∃x t,k=Sum.inr x/\v=Value.str x t)
 | .inl i,v,h=>by
   obtain ⟨t,e⟩:=Value.isInt_shape (k:=i) (v:=v) h;exact .inl ⟨i,t,rfl,e⟩
 | .inr x,v,h=>by
   obtain ⟨t,e⟩:=Value.isStrOf_shape (x:=x) (v:=v) h;exact .inr ⟨x,t,rfl,e⟩
theorem Ci (i:Int)(t:Tok):sM (.inl i) (.int i t)=true:=by simp [sM,Value.isInt]
theorem Ch (x:Str)(t:Tok):sM (.inr x) (.str x t)=true:=by simp [sM,Value.isStrOf]
theorem M3 (a b:Int):decide ((Sum.inl a:dg)=Sum.inl b)=(a==b):=by
 by_cases e:a=b
 ·subst e;simp
 ·have h: ¬(Sum.inl a:dg)=Sum.inl b:=λq=>e (Sum.inl.inj q);rw [decide_eq_false h];exact (beq_eq_false_iff_ne.mpr e).symm
theorem MX (a b:Str):decide ((Sum.inr a:dg)=Sum.inr b)=decide (a=b):=by
 by_cases e:a=b
 ·subst e;simp
 ·have h: ¬(Sum.inr a:dg)=Sum.inr b:=λq=>e (Sum.inr.inj q);rw [decide_eq_false h,decide_eq_false e]
theorem MZ (a:Int)(b:Str):decide ((Sum.inl a:dg)=Sum.inr b)=false:=decide_eq_false (λq=>nomatch q)
theorem MY (a:Str)(b:Int):decide ((Sum.inr a:dg)=Sum.inl b)=false:=decide_eq_false (λq=>nomatch q)
noncomputable def bY (prog:Program)(w:World):PySem.KeyKind prog w dg where
 is:=sM
 hash:=RY w
 inj:=λv a b ha hb=>by
  rcases bK ha with ⟨i,t,rfl,rfl⟩|⟨x,t,rfl,rfl⟩
  ·rcases bK hb with ⟨j,u,rfl,e⟩|⟨y,u,rfl,e⟩
   ·injection e with e1 _;rw [e1]
   ·exact nomatch e
  ·rcases bK hb with ⟨j,u,rfl,e⟩|⟨y,u,rfl,e⟩
   ·exact nomatch e
   ·injection e with e1 _;rw [e1]
 byValue:=λk v h=>by
  rcases bK h with ⟨i,t,rfl,rfl⟩|⟨x,t,rfl,rfl⟩<;>rfl
 pyHash:=λhv h=>by
  rcases bK hv with ⟨i,t,rfl,rfl⟩|⟨x,t,rfl,rfl⟩
  ·exact wpAny_pyHash_int h
  ·exact wpAny_pyHash_str h
 eqBool:=λhu hv h=>by
  rcases bK hu with ⟨i,t,rfl,rfl⟩|⟨x,t,rfl,rfl⟩
  ·rcases bK hv with ⟨j,u,rfl,rfl⟩|⟨y,u,rfl,rfl⟩
   ·rw [M3] at h;exact wpAny_eqBool_int h
   ·rw [MZ] at h;exact SeqAt.EqAt.int_str i t y u _ _ _ _ h
  ·rcases bK hv with ⟨j,u,rfl,rfl⟩|⟨y,u,rfl,rfl⟩
   ·rw [MY] at h;exact SeqAt.EqAt.str_int x t j u _ _ _ _ h
   ·rw [MX] at h;exact wpAny_eqBool_str h
 «strs»:=λk x t v h=>by
  rcases bK h with ⟨i,u,rfl,e⟩|⟨y,u,rfl,e⟩
  ·exact nomatch e
  ·injection e with e1 _;subst e1;cases v<;>rfl
theorem w6 (prog:Program)(w:World)(i:Int)(t:Tok):(bY prog w).is (.inl i) (.int i t)=true:=Ci i t
theorem w5 (prog:Program)(w:World)(x:Str)(t:Tok):(bY prog w).is (.inr x) (.str x t)=true:=Ch x t
inductive V where
 |non|bl (b:Bool)|int (i:Int)|str (x:Str)|byt (b:Array UInt8)|flt (b:UInt64)|ref (a:Addr)|ty (n:String)
 deriving DecidableEq
def ax:V->Value->Prop
 | .non,u=>u=Value.none
 | .bl b,u=>u=Value.bool b
 | .int i,u=>∃t,u=Value.int i t
 | .str x,u=>∃t,u=Value.str x t
 | .byt b,u=>∃t,u=Value.bytes b t
 | .flt b,u=>∃t,u=Value.float b t
 | .ref a,u=>u=Value.ref a
 | .ty n,u=>u=Value.type n
abbrev aH:List V->List Value->Prop:=Paired ax
theorem aH.length {xs:List V}{us:List Value}(r:aH xs us):xs.length=us.length:=Paired.length r
theorem aH.get:∀ {xs:List V} {us:List Value} {i:Nat} {x:V},aH xs us->xs[i]? =some x->∃u,us[i]? =some u/\ax x u
 |_,_,_,_,.nil,e=>by simp at e
 |_,_,0,_,.cons r _,e=>by simp at e;subst e;exact ⟨_,rfl,r⟩
 |_,_,i+1,x,.cons _ t,e=>by
  obtain ⟨u,h1,h2⟩:=aH.get (i:=i) (x:=x) t (by simpa using e);exact ⟨u,by simpa using h1,h2⟩
theorem aH.set {x:V}{u:Value}(r:ax x u):∀ {xs:List V} {us:List Value} (i:Nat),aH xs us->aH (xs.set i x) (us.set i u)
 |_,_,_,.nil=> .nil
 |_,_,0,.cons _ t=> .cons r t
 |_,_,i+1,.cons q t=> .cons q (aH.set r i t)
theorem aH.append:∀ {xs ys:List V} {us ws:List Value},aH xs us->aH ys ws->aH (xs++ys) (us++ws)
 |_,_,_,_,.nil,s=>s
 |_,_,_,_,.cons r t,s=> .cons r (aH.append t s)
theorem aH.take:∀ {xs:List V} {us:List Value} (n:Nat),aH xs us->aH (xs.take n) (us.take n)
 |_,_,0,_=> .nil
 |_,_,_+1,.nil=> .nil
 |_,_,n+1,.cons r t=> .cons r (aH.take n t)
theorem aH.drop:∀ {xs:List V} {us:List Value} (n:Nat),aH xs us->aH (xs.drop n) (us.drop n)
 |_,_,0,r=>r
 |_,_,_+1,.nil=> .nil
 |_,_,n+1,.cons _ t=>aH.drop n t
def iZ:Option V->Option Value->Prop
 |some v,some u=>ax v u
 |none,none=>True
 |_,_=>False
def KV {κ:Type}:List (κ×V)->List (κ×Value)->Prop:=Paired λ(p:κ×V) (q:κ×Value)=>p.1=q.1/\ax p.2 q.2
noncomputable def kV:dg->V
 | .inl i=> .int i
 | .inr x=> .str x
inductive HO where
 |lst (xs:List V)
 |tup (xs:List V)
 |dK (kvs:List (dg×V))|dT (kvs:List (List dg×V))
 |set (S:Int->Bool) (n:Nat)
 |ins (C dx:Addr) (fs:List (Str×V))
 |own (x:Addr)
 |xd (fs:List (Str×V))
 |met (f x:Addr)
 |rng (lo hi:Int)
 |frz (o:Obj) (u:HO)
 |tbl (ps:Array Value)
 |ext (φ:Heap->Prop)
abbrev Hp:=Addr->Option HO
noncomputable def upd (H:Hp)(a:Addr)(o:HO):Hp:=λb=>if b=a then some o else H b
theorem af {H:Hp}{a:Addr}{o:HO}:upd H a o a=some o:=by unfold upd;rw [if_pos rfl]
theorem ag {H:Hp}{a b:Addr}{o:HO}(h:b≠a):upd H a o b=H b:=by unfold upd;rw [if_neg h]
theorem Ak {H:Hp}{a:Addr}{o u:HO}:upd @bn a u=upd H a u:=by
 funext b;unfold upd;split<;>rfl
theorem Po {H:Hp}{a b:Addr}{o u:HO}(h:H a=some o)(h':H b=some u)(d:o≠u):a≠b:=by
 intro e;subst e;rw [h] at h';exact d (Option.some.inj h')
theorem bp {H:Hp}{a b:Addr}{o:HO}(h:H a=some o)(h':H b=none):a≠b:=by
 intro e;subst e;rw [h] at h';cases h'
section
variable (P:Program)(w:World)
def bb (H:Hp)(h:Heap)(a:Addr):HO->Prop
 | .lst xs=>xs.length<=sizeLine/\∃(its:List Value) (n:Nat),aH xs its/\h.get? a=some {cls:= .type "list",data:= .seq its.toArray n}
 | .tup xs=>xs.length<=sizeLine/\∃its:List Value,aH xs its/\IsTup h a its.toArray
 | .dK kvs=>kvs.length<=sizeLine/\(a==sysModules)=false/\∃vs,KV kvs vs/\h.DictOf @db a vs
 | .dT kvs=>kvs.length<=sizeLine/\(a==sysModules)=false/\∃xs:List (List dg×Addr×Value),
    Paired (λ(p:List dg×V) (q:List dg×Addr×Value)=>p.1=q.1/\H q.2.1=some (.tup (p.1.map kV))/\ax p.2 q.2.2) kvs xs/\
    ∃o es ep,h.get? a=some o/\o.ExactDict/\o.data= .dict es ep/\es.toList=xs.map (entryOfKey @fe)/\(xs.map (·.1)).Nodup
 | .set S n=>h.SetOf (intKind P w) a S n
 | .ins C dx fs=>H dx=some (.own a)/\fs.length<=1000/\dx≠a/\h.get? a=some @dG/\
    ∃mA,h.Ns1 dx mA/\(∀f,iZ @fJ (mA f))/\PySem.Within mA (fs.map (·.1))
 | .own _=>∃o,h.get? a=some o
 | .xd fs=>∃mA,h.Ns1 a mA/\∀f,iZ @fJ (mA f)
 | .rng lo hi=>∃t u v,h.get? a=some {cls:= .type "range",data:= .fields #[.int lo t,.int hi u,.int 1 v]}
 | .frz o u=>h.get? a=some o/\bb H h a u
 | .tbl ps=>h.get? a=some {cls:= .none,data:= .fields ps}
 | .met f x=>h.get? a=some (W.methodObj (.ref f) (.ref x))
 | .ext φ=>φ h/\(∃o,h.get? a=some o)/\∀h1 h2:Heap,φ h1->(∀o,h1.get? a=some o->h2.get? a=some o)->φ h2
def fA (H:Hp)(h:Heap):Prop:=∀a o,H a=some o->bb P w H h a o
end
section
variable {P:Program}{w:World}{H H':Hp}{h h':Heap}{a:Addr}{o:HO}
theorem bb.lt (x:bb P w H h a o):a<h.objs.size:=by
 cases o with
 |lst xs=>obtain ⟨_,_,_,_,e⟩:=x;exact Heap.lt_size e
 |tup xs=>obtain ⟨_,_,_,p⟩:=x;exact p.lt
 |dK kvs=>obtain ⟨_,_,_,_,o,_,_,e,_⟩:=x;exact Heap.lt_size e
 |dT kvs=>obtain ⟨_,_,_,_,o,_,_,e,_⟩:=x;exact Heap.lt_size e
 |set S n=>obtain ⟨o,_,_,_,e,_⟩:=x;exact Heap.lt_size e
 |ins C dx fs=>obtain ⟨_,_,_,e,_⟩:=x;exact Heap.lt_size e
 |own y=>obtain ⟨_,e⟩:=x;exact Heap.lt_size e
 |xd fs=>obtain ⟨_,⟨_,_,_,e,_⟩,_⟩:=x;exact Heap.lt_size e
 |rng lo hi=>obtain ⟨_,_,_,e⟩:=x;exact Heap.lt_size e
 |frz ob u=>obtain ⟨e,_⟩:=x;exact Heap.lt_size e
 |tbl ps=>exact Heap.lt_size (show h.get? a=some _ from x)
 |met f y=>exact Heap.lt_size (show h.get? a=some _ from x)
 |ext φ=>obtain ⟨_,⟨_,e⟩,_⟩:=x;exact Heap.lt_size e
theorem Paired.mapP {α β:Type}{F G:α->β->Prop}:∀ {l₁:List α} {l₂:List β},Paired F l₁ l₂->(∀a b,F a b->G a b)->Paired G l₁ l₂
 |_,_,.nil,_=> .nil
 |_,_,.cons r t,f=> .cons (f _ _ r) (Paired.mapP t f)
theorem Paired.imp' {α β:Type}{F G:α->β->Prop}(f:∀a b,F a b->G a b){j:List α}{z:List β}(r:Paired F j z):Paired G j z:=Paired.mapP r f
theorem bb.stay (x:bb P w H h a o)(k:∀b u,(b=a\/H b=some (.own a))->h.get? b=some u->h'.get? b=some u)
(I:∀b,H b=some (.own a)->H' b=some (.own a))(J:∀b xs,H b=some (.tup xs)->H' b=some (.tup xs)):bb P w H' h' a o:=by
 induction o with
 |lst xs=>obtain ⟨z,its,n,r,e⟩:=x;exact ⟨z,its,n,r,k _ _ (.inl rfl) e⟩
 |tup xs=>obtain ⟨z,its,r,j,e,c⟩:=x;exact ⟨z,its,r,j,k _ _ (.inl rfl) e,c⟩
 |dK kvs=>obtain ⟨z,y,L,r,j,es,B,e,c⟩:=x;exact ⟨z,y,L,r,j,es,B,k _ _ (.inl rfl) e,c⟩
 |dT kvs=>
  obtain ⟨z,y,xs,r,j,es,B,e,c⟩:=x;exact ⟨z,y,xs,Paired.mapP r λp q z=>⟨z.1,J _ _ z.2.1,z.2.2⟩,j,es,B,k _ _ (.inl rfl) e,c⟩
 |set S n=>obtain ⟨j,es,B,t,e,c⟩:=x;exact ⟨j,es,B,t,k _ _ (.inl rfl) e,c⟩
 |ins C dx fs=>
  obtain ⟨d,z,O,e,mA,⟨F,es,B,R,c⟩,r⟩:=x;exact ⟨I _ d,z,O,k _ _ (.inl rfl) e,mA,⟨F,es,B,k _ _ (.inr d) R,c⟩,r⟩
 |own y=>obtain ⟨j,e⟩:=x;exact ⟨j,k _ _ (.inl rfl) e⟩
 |xd fs=>obtain ⟨mA,⟨F,es,B,e,c⟩,r⟩:=x;exact ⟨mA,⟨F,es,B,k _ _ (.inl rfl) e,c⟩,r⟩
 |rng lo hi=>obtain ⟨t,u,v,e⟩:=x;exact ⟨t,u,v,k _ _ (.inl rfl) e⟩
 |frz j u ih=>obtain ⟨e,q⟩:=x;exact ⟨k _ _ (.inl rfl) e,ih q⟩
 |tbl ps=>
  have e:h.get? a=some {cls:= .none,data:= .fields ps}:=x;show h'.get? a=some {cls:= .none,data:= .fields ps};exact k a _ (.inl rfl) e
 |met f y=>
  have e:h.get? a=some (W.methodObj (.ref f) (.ref y)):=x;show h'.get? a=some (W.methodObj (.ref f) (.ref y));exact k a _ (.inl rfl) e
 |ext φ=>obtain ⟨p,⟨o,e⟩,st⟩:=x;exact ⟨st _ _ p λo q=>k _ _ (.inl rfl) q,⟨o,k _ _ (.inl rfl) e⟩,st⟩
theorem fA.lt (x:fA P w H h)(e:H a=some o):a<h.objs.size:=(x a o e).lt
theorem fA.fresh (x:fA P w H h)(e:h.objs.size<=a):H a=none:=by
 cases q:H a with
 |none=>rfl
 |some u=>exact absurd (Nat.lt_of_lt_of_le (x.lt q) e) @G
theorem fA.kept (x:fA P w H h)(k:∀b u,h.get? b=some u->h'.get? b=some u):fA P w H h':=λa o e=>
 (x a o e).stay (λb u _ q=>k b u q) @dJ λ_ _ q=>q
theorem fA.laid (x:fA P w H h)(k:∀b u,h.get? b=some u->h'.get? b=some u)(F:h.objs.size<=a)(j:bb P w @bn h' a o):fA P w @bn h':=λb u e=>by
 have z:=x.fresh F;by_cases B:b=a
 ·subst B;rw [af] at e;cases e;exact j
 ·rw [ag B] at e
  exact (x b u e).stay (λc v _ q=>k c v q) (λc q=>by rw [ag @eq];exact q) λc xs q=>by rw [ag @eq];exact q
end
def Rd (H:Hp)(a:Addr)(u:HO):Prop:=H a=some u\/∃o,H a=some (.frz o u)
theorem Rd.ok {P:Program}{w:World}{H:Hp}{h:Heap}{a:Addr}{u:HO}(r:Rd H a u)(x:fA P w H h):bb P w H h a u:=by
 rcases r with r|⟨o,r⟩
 ·exact x a u r
 ·obtain ⟨_,q⟩:=x a _ r;exact q
def Qi:Option HO->Prop
 |some (.lst _)=>True
 |some (.dK _)=>True
 |some (.dT _)=>True
 |some (.set _ _)=>True
 |some (.ins _ _ _)=>True
 |some (.ext _)=>True
 |_=>False
section
variable {P:Program}{w:World}{H:Hp}{h h':Heap}{x e:Addr}{o':HO}
theorem fA.write (Y:fA P w H h)(J:Qi (H x))(S:e=x\/H e=some (.own x))(k:∀b u,b≠e->h.get? b=some u->h'.get? b=some u)(O:∃u,h'.get? e=some u)
(R:bb P w (upd H x o') h' x o'):fA P w (upd H x o') h':=λb u q=>by
 have B:∀c y,H c=some (.own y)->c≠x:=λc y r z=>by subst z;rw [r] at J;exact J
 have F:∀c xs,H c=some (.tup xs)->c≠x:=λc xs r z=>by subst z;rw [r] at J;exact J
 by_cases L:b=x
 ·subst L;rw [af] at q;cases q;exact R
 ·rw [ag L] at q;by_cases j:b=e
  ·have U:H b=some (.own x):=by
    rcases S with z|z
    ·exact absurd (j.trans z) L
    ·rw [j];exact z
   rw [q] at U;cases U;obtain ⟨v,W⟩:=O;exact ⟨v,by rw [j];exact W⟩
  ·refine (Y b u q).stay (λc v I r=>k c v ?_ r) (λc r=>by rw [ag (B c b r)];exact r) λc xs r=>by rw [ag (F c xs r)];exact r
   rcases I with rfl|I
   ·exact j
   ·rintro rfl
    rcases S with z|z
    ·exact B c b I z
    ·rw [I] at z;cases z;exact L rfl
end
structure Un (fs ex:List Addr)(H H':Hp)(h h':Heap):Prop where
 keep:∀b o,h.get? b=some o->H b=none->b∉fs->b∉ex->h'.get? b=some o
 slot:∀b o,h.get? b=some o->H b=none->b∈fs->b∉ex->∃sl,h'.get? b=some {o with slots:=sl}
 free:∀b o,h.get? b=some o->H b=none->b∉ex->H' b=none
 there:∀b o,h.get? b=some o->b∉ex->∃o',h'.get? b=some o'
 tups:∀b xs,H b=some (.tup xs)->H' b=some (.tup xs)
 frzs:∀b o u,H b=some (.frz o u)->H' b=some (.frz o u)
 tbls:∀b ps,H b=some (.tbl ps)->∃more,H' b=some (.tbl (ps++more))
section
variable {fs fs' ex ex':List Addr}{H H1 H2:Hp}{h h1 h2 h':Heap}{a x e:Addr}{o:HO}
theorem Un.any (u:Un fs ex H H1 h h1){b:Addr}{j:Obj}(q:h.get? b=some j)(n:H b=none)(z:b∉ex):∃sl,h1.get? b=some {j with slots:=sl}:=by
 by_cases B:b∈fs
 ·exact u.slot b j q n B z
 ·exact ⟨j.slots,u.keep b j q n B z⟩
theorem Un.kept (k:∀b u,h.get? b=some u->h'.get? b=some u):Un fs ex H H h h':=
 ⟨λb j q _ _ _=>k b j q,λb j q _ _ _=>⟨j.slots,k b j q⟩,λ_ _ _ n _=>n,λb j q _=>⟨j,k b j q⟩,λ_ _ q=>q,λ_ _ _ q=>q,λ_ ps q=>⟨#[],by rw [q];simp⟩⟩
theorem Un.refl:Un fs ex H H h h:=Un.kept λ_ _ q=>q
theorem Un.laid (k:∀b u,h.get? b=some u->h'.get? b=some u)(F:h.objs.size<=a)(z:H a=none):Un fs ex H @bn h h' where
 keep:=λb u q _ _ _=>k b u q
 slot:=λb u q _ _ _=>⟨u.slots,k b u q⟩
 free:=λb u q n _=>by rw [ag (Nat.ne_of_lt (Nat.lt_of_lt_of_le @eV F))];exact n
 there:=λb u q _=>⟨u,k b u q⟩
 tups:=λb xs q=>by rw [ag @eq];exact q
 frzs:=λb u xs q=>by rw [ag @eq];exact q
 tbls:=λb ps q=>⟨#[],by rw [ag @eq,q];simp⟩
theorem Un.write (J:Qi (H x))(S:e=x\/H e=some (.own x))(k:∀b u,b≠e->h.get? b=some u->h'.get? b=some u)(O:∃u,h'.get? e=some u):Un fs ex H @gf h h':=by
 have F:∀b,H b=none->b≠x:=λb n z=>by subst z;rw [n] at J;exact J
 have I:∀b,H b=none->b≠e:=λb n z=>by
  subst z
  rcases S with r|r
  ·exact F b n r
  ·rw [n] at r;cases r
 have B:∀b u,H b=some u-> ¬Qi @fb->b≠x:=λb u q nm z=>by subst z;rw [q] at J;exact nm J
 refine ⟨λb u q n _ _=>k b u (I b n) q,λb u q n _ _=>⟨u.slots,k b u (I b n) q⟩,λb u q n _=>by rw [ag (F b n)];exact n,λb u q _=> ?_,
  λb xs q=>by rw [ag @eo];exact q,λb u xs q=>by rw [ag @eo];exact q,λb ps q=>⟨#[],by rw [ag @eo,q];simp⟩⟩
 by_cases j:b=e
 ·subst j;exact O
 ·exact ⟨u,k b u j q⟩
end
noncomputable def Qv (h:Heap)(H:Hp):List Addr:=(List.range h.objs.size).filter λa=>(H a).isSome
noncomputable def rT (h:Heap)(H:Hp):Heap:=W.hideAll h (Qv h H)
theorem Cn (h:Heap)(H:Hp):(rT h H).objs.size=h.objs.size:=W.hideAll_size _ _
theorem FN {h:Heap}{H:Hp}{b:Addr}{o:Obj}(e:h.get? b=some o)(n:H b=none):(rT h H).get? b=some o:=
 W.hideAll_get _ e λB=>by
  have q:(H b).isSome=true:=(mem_filter.mp B).2;rw [n] at q;simp at q
theorem I9 {h:Heap}{H:Hp}{b:Addr}{o:Obj}(e:(rT h H).get? b=some o):h.get? b=some o/\H b=none:=by
 have j:h.get? b=some o:=W.of_hideAll (Qv h H) e;rwa[⟨j,?_⟩]
 cases q:H b with
 |none=>rfl
 |some x=>
  have B:b∈Qv h H:=mem_filter.mpr ⟨mem_range.mpr (Heap.lt_size j),by simp [q]⟩;have z:(rT h H).get? b=none:=W.hideAll_none (Qv h H) B;rw [z] at e;cases e
noncomputable def JJ (g h:Heap)(L:Addr):List (Addr×Obj):=(List.range h.objs.size).filterMap λa=>if a=L\/(g.get? a).isSome=true then none else (h.get? a).map λo=>(a,o)
noncomputable def eJ (g h:Heap)(L d:Addr):List (Addr×Obj):=(JJ g h L).filter λp=>decide (p.1≠d)
structure Mod (K:Fg)(mg:Str->Option Value)(base:Heap):Prop where
 kin:K.In base
 glob:base.Ns mainGlobals mg
 blt:∃mb,base.Ns builtinsNs mb/\∀x:Str,x≠"__name__"->mb x=bootBuiltins x
 nolimit:base.NoLimit
structure Cx where
 prog:Program
 w:World
 K:Fg
 mg:Str->Option Value
 base:Heap
 A:Around
 N:List Str
 s₀:Shared
 H₀:Hp
 env:Env
 outer:List Env
 stack:List Env
 ex:List Addr
 fn:Str->Bool
 calm:Bool
 pn:List (Addr×Obj)
 xe:Value->Shared->Prop
noncomputable def vT (l:List Env):List Addr:=l.filterMap (·.frame)
noncomputable abbrev Cx.fs (X:Cx):List Addr:=vT X.outer
def NJ (sc:Scope)(x:Str):Prop:=sc.names.lookup x=some .local\/sc.names.lookup x=some .cell\/sc.names.lookup x=some .free
def JN (sc:Scope)(x:Str):Prop:=sc.names.lookup x=some .local\/sc.names.lookup x=some .cell
def Sk (env:Env)(h:Heap)(m:Str->Option Value)(x:Str)(u:Value):Prop:=
 (env.kindOf x=some .local/\m x=some u)\/((env.kindOf x=some .cell\/env.kindOf x=some .free)/\∃c,env.cells.lookup x=some c/\h.IsCell c @fb)
structure Cx.Ok (X:Cx):Prop where
 mod:Mod X.K X.mg X.base
 kind:X.env.scope.kind= .function
 glob:X.env.globals=mainGlobals
 blt:X.env.builtins=builtinsNs
 above:X.s₀.heap.objs.size<=X.env.locals
 inj:∀x y c,X.env.cells.lookup x=some c->X.env.cells.lookup y=some c->x=y
 has:∀x,(X.env.kindOf x=some .cell\/X.env.kindOf x=some .free)->∃c,X.env.cells.lookup x=some c
 cab:∀x c,X.fn x=true->X.env.cells.lookup x=some c->X.s₀.heap.objs.size<=c
 hd:X.calm=true->X.A.handled=none
 frames:X.A.frames=some X.stack
 stk:X.stack=X.outer\/(X.stack=X.env::X.outer/\X.env.frame=some X.env.locals)
 exf:∀b∈X.ex,b≠X.env.locals/\∀x c,X.env.cells.lookup x=some c->c≠b
 bs:∀b o,X.base.get? b=some o->X.s₀.heap.get? b=some o/\X.H₀ b=none
 bsz:X.base.objs.size<=X.s₀.heap.objs.size
 noex:∀b o,X.base.get? b=some o->b∉X.ex
 exfs:∀b∈X.ex,b∉X.fs
 funs:X.s₀.heap.FunFrames X.base X.outer
 frf:∀b∈X.fs,X.H₀ b=none
structure au (X:Cx)(pins:List (Addr×Obj))(σ:List @fC)(H:Hp)(s:Shared):Prop where
 ok:X.Ok
 os:s.os=X.s₀.os
 bare:AllBare s.gens
 base:Un X.fs X.ex X.H₀ H X.s₀.heap s.heap
 loc:∃m,s.heap.Ns X.env.locals m/\∀(i:Nat) (x:Str) (v:V),X.N[i]? =some x->σ[i]? =some @bq->NJ X.env.scope x->∃u,ax v u/\Sk X.env s.heap m x u
 cell:∀x c,X.env.cells.lookup x=some c->∃v,s.heap.IsCell c v
 free:H X.env.locals=none
 freeC:∀x c,X.env.cells.lookup x=some c->H c=none
 pin:∀p∈X.pn++pins,s.heap.get? p.1=some p.2/\H p.1=none/\p.1≠X.env.locals/\p.1∉X.fs/\∀v,p.2.data≠ .cell v
 hok:fA X.prog X.w H s.heap
 len:σ.length=X.N.length
section
variable {X:Cx}{pins:List (Addr×Obj)}{σ:List @fC}{H H':Hp}{s:Shared}{h':Heap}
theorem Cx.Ok.nofr (Y:X.Ok){b:Addr}{o:Obj}(e:X.base.get? b=some o):b∉X.fs:=λB=>by
 have:=(Y.funs.mem B).1;rw [e] at this;cases this
theorem au.bs (I:au X pins σ H s):∀b o,X.base.get? b=some o->s.heap.get? b=some o/\H b=none:=λb o e=>
 ⟨I.base.keep b o (I.ok.bs b o e).1 (I.ok.bs b o e).2 (I.ok.nofr e) (I.ok.noex b o e),I.base.free b o (I.ok.bs b o e).1 (I.ok.bs b o e).2 (I.ok.noex b o e)⟩
theorem au.bk (I:au X pins σ H s):∀b o,X.base.get? b=some o->s.heap.get? b=some o:=λb o e=>(I.bs b o e).1
theorem au.mod (I:au X pins σ H s):Mod X.K X.mg X.base:=I.ok.mod
theorem au.kIn (I:au X pins σ H s):X.K.In s.heap:=I.ok.mod.kin.keeps I.bk
theorem au.lt (I:au X pins σ H s):X.env.locals<s.heap.objs.size:=let ⟨_,hn,_⟩:=I.loc;hn.lt
theorem au.sz (I:au X pins σ H s):X.s₀.heap.objs.size<=s.heap.objs.size:=Nat.le_trans I.ok.above (Nat.le_of_lt I.lt)
theorem au.nofs (I:au X pins σ H s){a:Addr}(h:s.heap.objs.size<=a):a∉X.fs:=λB=>by
 obtain ⟨_,o,j,_⟩:=I.ok.funs.mem B;exact absurd (Nat.lt_of_lt_of_le (Heap.lt_size j) (Nat.le_trans I.sz h)) @G
theorem au.cne (I:au X pins σ H s):∀x c,X.env.cells.lookup x=some c->c≠X.env.locals:=λx c e z=>by
 obtain ⟨v,o,F,J⟩:=I.cell x c e;obtain ⟨m,⟨o',es,L,j,B,_⟩,_⟩:=I.loc;rw [z,j] at F;cases F;rw [B] at J;cases J
theorem au.funs (I:au X pins σ H s):s.heap.FunFrames X.base X.outer:=by
 have B:∀(l:List Env),(∀b∈vT l,b∈X.fs)->X.s₀.heap.FunFrames X.base l->s.heap.FunFrames X.base l:=by
  intro l
  induction l with
  |nil=>intro _ _;trivial
  |cons env r ih=>
   intro hs W;obtain ⟨R,⟨L,o,j,S,O,U⟩,Y⟩:=W;have F:L∈X.fs:=hs L (by unfold vT;rw [filterMap_cons,j];exact mem_cons_self);obtain ⟨sl,e⟩:=I.base.slot L o O (I.ok.frf L F) F λz=>I.ok.exfs L z F;exact ⟨R,⟨L,_,j,S,e,U⟩,ih (λb J=>hs b (by unfold vT;rw [filterMap_cons,j];exact mem_cons_of_mem _ J)) Y⟩
 exact B X.outer (λ_ J=>J) I.ok.funs
theorem au.stack (I:au X pins σ H s):s.heap.FunFrames X.base X.stack:=by
 rcases I.ok.stk with e|⟨e,j⟩
 ·rw [e];exact I.funs
 ·rw [e];obtain ⟨m,z,_⟩:=I.loc;rwa[.cons (by rw [I.ok.kind];decide) j z ?_ I.funs];exact Heap.get?_none_of_le (Nat.le_trans I.ok.bsz I.ok.above)
theorem au.stkSub (I:au X pins σ H s):∀b∈vT X.stack,b∈X.env.locals::X.fs:=λb B=>by
 rcases I.ok.stk with e|⟨e,j⟩
 ·rw [e] at B;exact mem_cons_of_mem _ B
 ·rw [e] at B;unfold vT at B;rw [filterMap_cons,j] at B;exact B
theorem au.stkFree (I:au X pins σ H s):∀b∈vT X.stack,H b=none:=λb B=>by
 rcases mem_cons.mp (I.stkSub b B) with e|B
 ·rw [e];exact I.free
 ·obtain ⟨_,o,j,_⟩:=I.ok.funs.mem B;exact I.base.free b o j (I.ok.frf b B) λz=>I.ok.exfs b z B
theorem au.step {g':Array GenState}{t':Nat}{d':Drawn}{ch:List Addr}(I:au X pins σ H s)
(F:∀b∈ch,(b∈X.ex\/X.s₀.heap.objs.size<=b)/\b≠X.env.locals/\(∀x c,X.env.cells.lookup x=some c->c≠b)/\∀p∈X.pn++pins,p.1≠b)
(J:∀b o,b≠X.env.locals->b∉X.fs->b∉ch->s.heap.get? b=some o->H b=none->h'.get? b=some o)
(U:∀b o,b≠X.env.locals->b∈X.fs->b∉ch->s.heap.get? b=some o->H b=none->∃sl,h'.get? b=some {o with slots:=sl})(B:∀b o,b∉ch->s.heap.get? b=some o->H b=none->H' b=none)
(W:∀b o,b∉ch->s.heap.get? b=some o->∃o',h'.get? b=some o')
(ad:∀b xs,H b=some (.tup xs)->H' b=some (.tup xs))(ab:∀b o u,H b=some (.frz o u)->H' b=some (.frz o u))(aa:∀b ps,H b=some (.tbl ps)->∃more,H' b=some (.tbl (ps++more)))
(ns:∀m,s.heap.Ns X.env.locals m->h'.Ns X.env.locals m)(af:fA X.prog X.w H' h')(hg:AllBare g'):
 au X pins σ H' {s with heap:=h',gens:=g',drawn:=d',toks:=t'}:=by
 have ac:∀b o,X.s₀.heap.get? b=some o->b≠X.env.locals:=λb o e=>Nat.ne_of_lt @I
 have R:∀b o,X.s₀.heap.get? b=some o->b∉X.ex->b∉ch:=λb o e j Y=>by
  rcases (F b Y).1 with z|z
  ·exact j z
  ·exact absurd (Nat.lt_of_lt_of_le @bV z) @G
 have O:∀x c,X.env.cells.lookup x=some c->∀v,s.heap.IsCell c v->h'.IsCell c v:=λx c e v ⟨o,Z,hd⟩=>by
  have L:c∉ch:=λz=>(F c z).2.2.1 x c e rfl;by_cases hc:c∈X.fs
  ·obtain ⟨sl,q⟩:=U c o (I.cne x c e) hc L Z @ff;exact ⟨_,q,hd⟩
  ·exact ⟨o,J c o (I.cne x c e) hc L Z @ff,hd⟩
 rwa[⟨I.ok,I.os,hg,⟨λb o e n Y j=> ?_,λb o e n Y j=> ?_,λb o e n j=> ?_,λb o e j=> ?_,λb xs e=>ad b xs (I.base.tups b xs e),λb o xs e=>ab b o xs (I.base.frzs b o xs e),λb ps e=> ?_⟩,?_,λx c e=> ?_,?_,λx c e=> ?_,λp hp=> ?_,af,I.len⟩]
 ·exact J b o (ac b o e) Y @cN (I.base.keep b o e n Y j) @du
 ·obtain ⟨sl,S⟩:=I.base.slot b o e n Y j;obtain ⟨ae,e2⟩:=U b _ (ac b o e) Y @cN S @du;exact ⟨ae,e2⟩
 ·obtain ⟨o',S⟩:=I.base.there b o e j;exact B b o' @cN S @du
 ·obtain ⟨o',S⟩:=I.base.there b o e j;exact W b o' @cN S
 ·obtain ⟨m1,S⟩:=I.base.tbls b ps e;obtain ⟨m2,e2⟩:=aa b _ S;exact ⟨m1++m2,by rw [e2,Array.append_assoc]⟩
 ·obtain ⟨m,hn,hl⟩:=I.loc;rwa[⟨m,ns m hn,λi x v S e2 e3=> ?_⟩];obtain ⟨u,r,l⟩:=hl i x v S e2 e3;rwa[⟨u,r,?_⟩]
  rcases l with l|⟨k,c,e,z⟩
  ·exact .inl l
  ·exact .inr ⟨k,c,e,O x c e _ z⟩
 ·obtain ⟨v,z⟩:=I.cell x c e;exact ⟨v,O x c e v z⟩
 ·obtain ⟨m,⟨o,_,_,Z,_⟩,_⟩:=I.loc;exact B _ o (λz=>(F _ z).2.1 rfl) Z I.free
 ·obtain ⟨v,o,Z,hd⟩:=I.cell x c e;exact B c o (λz=>(F c z).2.2.1 x c e rfl) Z @ff
 ·obtain ⟨e,n,ne,nf,d⟩:=I.pin p hp;have L:p.1∉ch:=λz=>(F p.1 z).2.2.2 p hp rfl;exact ⟨J p.1 p.2 ne nf L e n,B p.1 p.2 L e n,ne,nf,d⟩
theorem au.un {t':Nat}(I:au X pins σ H s)(u:Un X.fs [] H H' s.heap h')(af:fA X.prog X.w H' h'):au X pins σ H' {s with heap:=h',toks:=t'}:=by
 obtain ⟨m,⟨o,es,W,L,r⟩,_⟩:=id I.loc;obtain ⟨sl,S⟩:=u.any L I.free @f
 exact I.step (g':=s.gens) (d':=s.drawn) (ch:=[]) (λ_ z=>nomatch z) (λb o _ J _ e n=>u.keep b o e n J @f) (λb o _ J _ e n=>u.slot b o e n J @f) (λb o _ e n=>u.free b o e n @f) (λb o _ e=>u.there b o e @f) u.tups u.frzs u.tbls (λU R=>by
  obtain ⟨o',B,F,j,O⟩:=R;rw [L] at j;cases j
  exact ⟨_,B,F,S,O⟩) af I.bare
theorem au.call {g':Array GenState}{t':Nat}{d':Drawn}{ch:List Addr}(I:au X pins σ H s)(u:Un @dL ch H H' s.heap h')(af:fA X.prog X.w H' h')(W:AllBare g')
(F:∀b∈ch,(b∈X.ex\/X.s₀.heap.objs.size<=b)/\b≠X.env.locals/\(∀x c,X.env.cells.lookup x=some c->c≠b)/\∀p∈X.pn++pins,p.1≠b):
 au X pins σ H' {s with heap:=h',gens:=g',drawn:=d',toks:=t'}:=by
 obtain ⟨m,⟨o,es,ep,R,r⟩,_⟩:=id I.loc;obtain ⟨sl,L⟩:=u.any R I.free λz=>(F _ z).2.1 rfl
 exact I.step (ch:=ch) F (λb o L Y j e n=>u.keep b o e n (λz=>(mem_cons.mp @fv).elim L Y) j) (λb o _ _ j e n=>u.any e n j) (λb o j e n=>u.free b o e n j) (λb o j e=>u.there b o e j) u.tups u.frzs u.tbls (λZ U=>by
  obtain ⟨o',J,O,B,S⟩:=U;rw [R] at B;cases B
  exact ⟨_,J,O,L,S⟩) af W
theorem au.turned {t':Nat}{it:Addr}(I:au X pins σ H s)(k:∀b o,b≠it->s.heap.get? b=some o->h'.get? b=some o)(R:H it=none)(F:it≠X.env.locals)
(h1:it∈X.ex\/X.s₀.heap.objs.size<=it)(h2:∀x c,X.env.cells.lookup x=some c->c≠it)(L:∀p∈X.pn++pins,p.1≠it):au X pins σ H {s with heap:=h',toks:=t'}:=by
 have B:∀b u,H b=some u->b≠it:=λb u e z=>by rw [z,R] at e;cases e
 refine I.step (g':=s.gens) (d':=s.drawn) (ch:=[it]) (λb U=> ?_) (λb o _ _ j e _=>k b o (λz=>j (by simp [z])) e) (λb o _ _ j e _=>⟨o.slots,k b o (λz=>j (by simp [z])) e⟩) (λ_ _ _ _ n=>n)
  (λb o j e=>⟨o,k b o (λz=>j (by simp [z])) e⟩) (λ_ _ e=>e) (λ_ _ _ e=>e) (λb ps e=>⟨#[],by rw [e];simp⟩) (λm O=> ?_) (λb u e=> ?_) I.bare
 ·have e:b=it:=by simpa using U
  subst e;exact ⟨h1,F,h2,L⟩
 ·obtain ⟨o,es,S,J,r⟩:=O;exact ⟨o,es,S,k _ o (Ne.symm F) J,r⟩
 ·rwa[(I.hok b u e).stay (λc v j q=>k c v ?_ q) @dJ λ_ _ q=>q]
  rcases j with z|z
  ·rw [z];exact B b u e
  ·exact B c _ z
theorem au.tok (I:au X pins σ H s)(t:Nat):au X pins σ H {s with toks:=t}:=I.un (h':=s.heap) (t':=t) Un.refl I.hok
theorem au.kept {t':Nat}(I:au X pins σ H s)(k:∀b u,s.heap.get? b=some u->h'.get? b=some u):au X pins σ H {s with heap:=h',toks:=t'}:=I.un (Un.kept k) (I.hok.kept k)
theorem au.laid {a:Addr}{o:HO}{t':Nat}(I:au X pins σ H s)(k:∀b u,s.heap.get? b=some u->h'.get? b=some u)(F:s.heap.objs.size<=a)(j:bb X.prog X.w @bn h' a o):
 au X pins σ @bn {s with heap:=h',toks:=t'}:=I.un (Un.laid k F (I.hok.fresh F)) (I.hok.laid k F j)
theorem au.write {x e:Addr}{o:HO}{t':Nat}(I:au X pins σ H s)(J:Qi (H x))(S:e=x\/H e=some (.own x))(k:∀b u,b≠e->s.heap.get? b=some u->h'.get? b=some u)(O:∃u,h'.get? e=some u)
(j:bb X.prog X.w @gf h' x o):au X pins σ @gf {s with heap:=h',toks:=t'}:=I.un (Un.write J S k O) (I.hok.write J S k O j)
theorem au.weak {j:List @fC}(I:au X pins σ H s)(W:j.length=σ.length)(w:∀(i:Nat) v,j[i]? =some @bq->σ[i]? =some @bq):au X pins j H s:=
 ⟨I.ok,I.os,I.bare,I.base,let ⟨m,hn,hl'⟩:=I.loc;⟨m,hn,λi x v S R z=>hl' i x v S (w i v R) z⟩,I.cell,I.free,I.freeC,I.pin,I.hok,W.trans I.len⟩
theorem au.pins_of {j:List (Addr×Obj)}(I:au X pins σ H s)(h:∀p∈j,s.heap.get? p.1=some p.2/\H p.1=none/\p.1≠X.env.locals/\p.1∉X.fs/\∀v,p.2.data≠ .cell v):au X j σ H s:=
 ⟨I.ok,I.os,I.bare,I.base,I.loc,I.cell,I.free,I.freeC,λp F=>(mem_append.mp F).elim (λz=>I.pin p (mem_append_left _ z)) (h p),I.hok,I.len⟩
theorem qt {N:List Str}(z:N.Nodup){i j:Nat}{x:Str}(a:N[i]? =some x)(b:N[j]? =some x):i=j:=by
 obtain ⟨h1,S⟩:=List.getElem?_eq_some_iff.mp a;obtain ⟨h2,R⟩:=List.getElem?_eq_some_iff.mp b;exact (getElem_inj z).mp (S.trans R.symm)
theorem sj {M:Model}{A:Around}{E:Value->Shared->Prop}{i:Nat}{x:Str}{v:V}{u:Value}{Q:Unit->Shared->Prop}(I:au X pins σ H s)(hN:X.N.Nodup)(hi:X.N[i]? =some x)(J:JN X.env.scope x)(r:ax v u)
(h:∀s',au X pins @fw H s'->(∃a,Heap.SameBut a s.heap s'.heap/\(a=X.env.locals\/X.env.cells.lookup x=some a))->Q () s')(hf:X.fn x=true\/X.env.scope.names.lookup x=some .local:=by first|exact .inl rfl|exact .inr rfl|assumption):wpAny M A (storeName X.env x u) Q E s:=by
 obtain ⟨m,hn,hl⟩:=id I.loc
 have af:(X.env.scope.kind== .class||(X.env.scope.kind== .module&&X.env.locals != X.env.globals))=false:=by rw [I.ok.kind];rfl
 have aa:i<σ.length:=by rw [I.len];exact (List.getElem?_eq_some_iff.mp hi).1
 have U:=I.cne
 have B:∀ {a:Addr} {h':Heap},(∃o,s.heap.get? a=some o/\H a=none)->Heap.SameBut a s.heap h'->fA X.prog X.w H h':=λ{a h'} ha hs b ob e=>by
  obtain ⟨_,_,L⟩:=ha;rwa[(I.hok b ob e).stay (λc w' F q=>(hs.2 c ?_).trans q) @dJ λ_ _ q=>q];rintro rfl
  rcases F with rfl|F
  ·rw [L] at e;cases e
  ·rw [L] at F;cases F
 rcases J with O|O
 ·rwa[wpAny_storeName_local O hn (λh' ah hs=> ?_) af];obtain ⟨oL,_,_,ag,_⟩:=id hn;rwa[h _ ⟨I.ok,I.os,I.bare,⟨λb o e n Y J=> ?_,λb o e n Y J=> ?_,I.base.free,λb o e J=> ?_,I.base.tups,I.base.frzs,I.base.tbls⟩,⟨_,ah,λj y v' S R e3=> ?_⟩,λy c e=> ?_,I.free,I.freeC,λp hp=> ?_,B ⟨oL,ag,I.free⟩ hs,by simpa using I.len⟩ ⟨_,hs,.inl rfl⟩]
  ·exact (hs.2 b @eG).trans (I.base.keep b o e n Y J)
  ·obtain ⟨sl,S⟩:=I.base.slot b o e n Y J;exact ⟨sl,(hs.2 b @eG).trans S⟩
  ·obtain ⟨o',S⟩:=I.base.there b o e J;exact ⟨o',(hs.2 b @eG).trans S⟩
  ·by_cases Z:j=i
   ·subst Z;rw [hi] at S;cases S;rw [getElem?_set_self aa] at R;cases R;exact ⟨u,r,.inl ⟨O,by simp⟩⟩
   ·rw [getElem?_set_ne @fg] at R;obtain ⟨u',r',q⟩:=hl j y v' S R e3;rwa[⟨u',r',?_⟩]
    rcases q with ⟨k,e⟩|⟨k,c,e,z⟩
    ·rwa[.inl ⟨k,?_⟩];have:y≠x:=λe=>Z (qt hN S (e▸hi));simp [this,e]
    ·exact .inr ⟨k,c,e,z.sameBut hs (U y c e)⟩
  ·obtain ⟨w',z⟩:=I.cell y c e;exact ⟨w',z.sameBut hs (U y c e)⟩
  ·obtain ⟨e,n,ne,nf,d⟩:=I.pin p hp;exact ⟨(hs.2 p.1 ne).trans e,n,ne,nf,d⟩
 ·have W:X.fn x=true:=by
   rcases hf with z|z
   ·exact z
   ·rw [z] at O;cases O
  obtain ⟨c,F⟩:=I.ok.has x (.inl O);obtain ⟨w',z⟩:=I.cell x c F;rwa[wpAny_storeName_cell I.ok.kind O F z (λh' ad hs=> ?_)];obtain ⟨oc,ab,ae⟩:=id z;rwa[h {s with heap:=h'} ⟨I.ok,I.os,I.bare,⟨λb o e n Y J=> ?_,λb o e n Y J=> ?_,I.base.free,λb o e J=> ?_,I.base.tups,I.base.frzs,I.base.tbls⟩,⟨m,hn.sameBut hs (Ne.symm (U x c F)),λj y v' S R e3=> ?_⟩,λy c' e=> ?_,I.free,I.freeC,λp hp=> ?_,B ⟨oc,ab,I.freeC x c F⟩ hs,by simpa using I.len⟩ ⟨c,hs,.inr F⟩]
  ·exact (hs.2 b @V).trans (I.base.keep b o e n Y J)
  ·obtain ⟨sl,S⟩:=I.base.slot b o e n Y J;exact ⟨sl,(hs.2 b @V).trans S⟩
  ·obtain ⟨o',S⟩:=I.base.there b o e J;exact ⟨o',(hs.2 b @V).trans S⟩
  ·by_cases Z:j=i
   ·subst Z;rw [hi] at S;cases S;rw [getElem?_set_self aa] at R;cases R;exact ⟨u,r,.inr ⟨.inl O,c,F,ad⟩⟩
   ·rw [getElem?_set_ne @fg] at R;obtain ⟨u',r',q⟩:=hl j y v' S R e3;rwa[⟨u',r',?_⟩]
    rcases q with q|⟨k,c',e,z'⟩
    ·exact .inl q
    ·rwa[.inr ⟨k,c',e,z'.sameBut hs ?_⟩];rintro rfl;exact Z (qt hN S (I.ok.inj _ _ _ e F▸hi))
  ·by_cases ac:c'=c
   ·subst ac;exact ⟨_,ad⟩
   ·obtain ⟨w2,z2⟩:=I.cell y c' e;exact ⟨w2,z2.sameBut hs ac⟩
  ·obtain ⟨e,n,ne,nf,d⟩:=I.pin p hp;rwa[⟨(hs.2 p.1 ?_).trans e,n,ne,nf,d⟩];intro q;rw [q,ab] at e;have q':oc=p.2:=Option.some.inj e;exact d w' (by rw [<-q'];exact ae)
theorem pi {M:Model}{A:Around}{E:Value->Shared->Prop}{i:Nat}{x:Str}{v:V}{u:Value}{Q:Unit->Shared->Prop}(I:au X pins σ H s)(z:X.N.Nodup)(hi:X.N[i]? =some x)(j:JN X.env.scope x)(r:ax v u)
(h:∀s',au X pins @fw H s'->Q () s')(F:X.fn x=true\/X.env.scope.names.lookup x=some .local:=by first|exact .inl rfl|exact .inr rfl|assumption):wpAny M A (storeName X.env x u) Q E s:=
 sj I z hi j r (λs' B _=>h s' B) F
theorem au.call' {s':Shared}{ch:List Addr}(I:au X pins σ H s)(z:s'.os=s.os)(u:Un @dL ch H H' s.heap s'.heap)(af:fA X.prog X.w H' s'.heap)(W:AllBare s'.gens)
(F:∀b∈ch,(b∈X.ex\/X.s₀.heap.objs.size<=b)/\b≠X.env.locals/\(∀x c,X.env.cells.lookup x=some c->c≠b)/\∀p∈X.pn++pins,p.1≠b):au X pins σ H' s':=by
 obtain ⟨h',j,J,B,o'⟩:=s';have e:o'=s.os:=z;subst e;exact I.call (g':=j) (t':=B) (d':=J) u af W F
end
abbrev XK:=Value->Option Addr->Hp->Prop
abbrev St:=List @fC
abbrev VK:=V->Hp->Prop
abbrev TE:=St->Hp->VK->Prop
abbrev TT:=St->Hp->(Bool->Hp->Prop)->Prop
abbrev TA:=St->Hp->(List V->Hp->Prop)->Prop
structure m9 where
 nx:St->Hp->Prop
 rt:VK
 bk:St->Hp->Prop:=λ_ _=>False
 ct:St->Hp->Prop:=λ_ _=>False
abbrev TS:=m9->St->Hp->Prop
def EP (X:Cx)(pins:List (Addr×Obj))(σ:St)(Q:VK)(u:Value)(s':Shared):Prop:=∃v H',au X pins σ H' s'/\ax v u/\Q v H'
def TP (X:Cx)(pins:List (Addr×Obj))(σ:St)(Q:Bool->Hp->Prop)(b:Bool)(s':Shared):Prop:=∃H',au X pins σ H' s'/\Q b H'
def AP (X:Cx)(pins:List (Addr×Obj))(σ:St)(Q:List V->Hp->Prop)(us:List Value)(s':Shared):Prop:=∃vs H',au X pins σ H' s'/\aH vs us/\Q vs H'
def SP (X:Cx)(pins:List (Addr×Obj))(D:m9)(f:Flow)(s':Shared):Prop:=
 match f with
 | .next=>∃σ' H',au X pins σ' H' s'/\D.nx σ' H'
 | .brk=>∃σ' H',au X pins σ' H' s'/\D.bk σ' H'
 | .cont=>∃σ' H',au X pins σ' H' s'/\D.ct σ' H'
 | .ret u=>∃v σ' H',au X pins σ' H' s'/\ax v u/\D.rt v H'
def PE (X:Cx)(e:Expr)(t:TE):Prop:=
 ∀(pins:List (Addr×Obj)) (s:Shared) (σ:St) (H:Hp) (Q:VK),au X pins σ H s->t σ H Q->wpAny @d X.A @fx @u X.xe s
def PT (X:Cx)(e:Expr)(t:TT):Prop:=
 ∀(pins:List (Addr×Obj)) (s:Shared) (σ:St) (H:Hp) (Q:Bool->Hp->Prop),au X pins σ H s->t σ H Q->wpAny @d X.A (isTrue e X.env @fx) @dD X.xe s
def PW (X:Cx)(e:Expr)(t:TT):Prop:=
 ∀(whole:Sem Value) (pins:List (Addr×Obj)) (s:Shared) (σ:St) (H:Hp) (Q:Bool->Hp->Prop),au X pins σ H s->t σ H Q->wpAny @d X.A (isTrue e X.env whole) @dD X.xe s
theorem PW.pt {X:Cx}{e:Expr}{t:TT}(h:PW X e t):PT X e t:=h _
def PA (X:Cx)(es:List Expr)(t:TA):Prop:=
 ∀(pos:Pos) (pins:List (Addr×Obj)) (s:Shared) (σ:St) (H:Hp) (Q:List V->Hp->Prop),au X pins σ H s->t σ H Q->wpAny @d X.A (spliced (backTo pos @P)) (AP X pins σ Q) X.xe s
def PS (X:Cx)(st:Stmt)(t:TS):Prop:=
 ∀(pins:List (Addr×Obj)) (s:Shared) (σ:St) (H:Hp) (D:m9),au X pins σ H s->t D σ H->wpAny @d X.A (exec st X.env) (SP X pins D) X.xe s
def rj (X:Cx)(st:List Stmt)(t:TS):Prop:=
 ∀(pins:List (Addr×Obj)) (s:Shared) (σ:St) (H:Hp) (D:m9),au X pins σ H s->t D σ H->wpAny @d X.A (execs st X.env) (SP X pins D) X.xe s
theorem bj {α:Type}{t:Sem α}{Q j:α->Shared->Prop}{M:Model}{A:Around}{E:Value->Shared->Prop}{s:Shared}(h:wpAny M A t Q E s)(z:∀a s,Q a s->j a s):wpAny M A t j E s:=wpAny_mono h z λ_ _ x=>x
section
variable {X:Cx}
def Rq (i:Nat):TE:=λσ H Q=>∃v,σ[i]? =some @bq/\Q v H
def tC (v:V):TE:=λ_ H Q=>Q v H
theorem EB {i:Nat}{x:Str}{pos:Pos}(L:X.N[i]? =some x)(W:NJ X.env.scope x)(J:(x==("__debug__":Str))=false:=by decide)(B:(x==("__classdict__":Str))=false:=by decide):PE X (.Name x pos) (Rq i):=by
 intro pins s σ H Q I h;obtain ⟨v,e,h⟩:=h;obtain ⟨m,S,U⟩:=I.loc;obtain ⟨u,r,l⟩:=U i x v L e W;have z:EP X pins σ Q u s:=⟨v,H,I,r,h⟩
 rcases l with ⟨R,O⟩|⟨R,c,F,j⟩
 ·exact wpAny_Name (wpAny_loadName_local I.ok.kind R S O z) J
 ·rcases R with R|R
  ·exact wpAny_Name (wpAny_loadName_cell I.ok.kind R F j z) J
  ·exact wpAny_Name (wpAny_loadName_free I.ok.kind R F j z B) J
theorem bA {i j pos}:PE X (.Constant (.int i) j pos) (tC (.int i)):=λ_ _ _ H _ I h=>wpAny_Constant_int ⟨.int i,H,I.tok _,⟨_,rfl⟩,h⟩
theorem i7 {b j pos}:PE X (.Constant (.bool b) j pos) (tC (.bl b)):=λ_ _ _ H _ I h=>Constant_bool ⟨.bl b,H,I,rfl,h⟩
theorem mE {j pos}:PE X (.Constant .none j pos) (tC .non):=λ_ _ _ H _ I h=>Constant_none ⟨.non,H,I,rfl,h⟩
theorem cJ {x j pos}:PE X (.Constant (.str x) j pos) (tC (.str x)):=λ_ _ _ H _ I h=>Calls.Constant_str ⟨.str x,H,I.tok _,⟨_,rfl⟩,h⟩
def Gl (X:Cx)(x:Str):Prop:=X.env.kindOf x=some .globalImplicit
theorem oU {E:Value->Shared->Prop}{pins:List (Addr×Obj)}{s:Shared}{σ:St}{H:Hp}{x:Str}{u:Value}{pos:Pos}{Q:Value->Shared->Prop}(I:au X pins σ H s)(W:Gl X x)(B:X.mg x=some u)(h:Q u s)
(J:(x==("__debug__":Str))=false:=by decide):wpAny @d X.A (eval (.Name x pos) X.env) Q E s:=
 Calls.Name_function_global I.ok.kind W (Calls.loadGlobal_global (by rw [I.ok.glob];exact I.mod.glob.keeps I.bk) B h) J
theorem iw {E:Value->Shared->Prop}{pins:List (Addr×Obj)}{s:Shared}{σ:St}{H:Hp}{x:Str}{u:Value}{pos:Pos}{Q:Value->Shared->Prop}(I:au X pins σ H s)(j:Gl X x)(B:X.mg x=none)(W:bootBuiltins x=some u)(h:Q u s)
(z:x≠"__name__":=by decide)(J:(x==("__debug__":Str))=false:=by decide):wpAny @d X.A (eval (.Name x pos) X.env) Q E s:=by
 obtain ⟨F,h1,h2⟩:=I.mod.blt;exact Calls.Name_function_global I.ok.kind j (Calls.loadGlobal_builtin (by rw [I.ok.glob];exact I.mod.glob.keeps I.bk) B (by rw [I.ok.blt];exact h1.keeps I.bk) ((h2 x z).trans W) h) J
theorem Az {x:Str}{v:V}{u:Value}{pos:Pos}(W:Gl X x)(B:X.mg x=some u)(r:ax v u)(J:(x==("__debug__":Str))=false:=by decide):PE X (.Name x pos) (tC v):=
 λ_ _ _ H _ I h=>oU I W B ⟨v,H,I,r,h⟩ J
theorem u5 {x:Str}{v:V}{u:Value}{pos:Pos}(j:Gl X x)(B:X.mg x=none)(W:bootBuiltins x=some u)(r:ax v u)(z:x≠"__name__":=by decide)(J:(x==("__debug__":Str))=false:=by decide):PE X (.Name x pos) (tC v):=
 λ_ _ _ H _ I h=>iw I j B W ⟨v,H,I,r,h⟩ z J
variable {a b:Expr}{ta tb:TE}{pos:Pos}
def PC (X:Cx)(op:CmpOp)(a b:Expr)(t:TE):Prop:=
 ∀(pins:List (Addr×Obj)) (s:Shared) (σ:St) (H:Hp) (Q:VK),au X pins σ H s->t σ H Q->
  wpAny @d X.A (eval a X.env) (λv s₁=>wpAny @d X.A (eval b X.env) (λu s₂=>wpAny @d X.A (compareOp op v u) @u X.xe s₂) X.xe s₁) X.xe s
def tB (t:TE):TT:=λσ H Q=>t σ H λx H1=>∃c,x= .bl c/\Q c H1
theorem Er {j:CmpOp}{t:TE}(h:PC X j a b t)(h1:behindInMarks j b=false:=by first|exact nobehind _ @b @b|rfl):PT X (.Compare a [j] [b] pos) (tB t):=by
 intro pins s σ H Q I B;rwa[wpAny_isTrue_Compare1 (bj (h pins s σ H _ I B) λv O h1=>bj h1 λu R h2=>bj h2 λc L ⟨x,H1,J,z,F⟩=> ?_) h1];obtain ⟨d,rfl,q⟩:=F;cases z;exact wpAny_truthy_bool ⟨H1,J,q⟩
variable {tA tB':TT}{eJ:List Expr}
def RC (t u:TT):TT:=λσ H Q=>t σ H λc H1=>if c=true then u σ H1 Q else Q false H1
def SD (t u:TT):TT:=λσ H Q=>t σ H λc H1=>if c=true then Q true H1 else u σ H1 Q
def Ru (t:TT):TT:=λσ H Q=>t σ H λc H1=>Q (!c) H1
theorem Ay (j:PT X a tA):PW X (.BoolOp .And [a] pos) tA:=by
 intro z pins s σ H Q I h;rwa[isTrue_and (bj (j pins s σ H Q I h) λc O e=> ?_)]
 cases c with
 |true=>exact isTrue_and_nil e
 |false=>exact e
theorem u1 (j:PT X a tA):PW X (.BoolOp .Or [a] pos) tA:=by
 intro z pins s σ H Q I h;rwa[isTrue_or (bj (j pins s σ H Q I h) λc O e=> ?_)]
 cases c with
 |false=>exact isTrue_or_nil e
 |true=>exact e
theorem LS (j:PT X a tA)(B:PW X (.BoolOp .And (b::eJ) pos) tB'):PW X (.BoolOp .And (a::b::eJ) pos) (RC tA tB'):=by
 intro z pins s σ H Q I h;rwa[isTrue_and (bj @O λc O ⟨H1,J,F⟩=> ?_)]
 cases c with
 |true=>exact B z pins O σ H1 Q J F
 |false=>exact ⟨H1,J,F⟩
theorem OZ (j:PT X a tA)(B:PW X (.BoolOp .Or (b::eJ) pos) tB'):PW X (.BoolOp .Or (a::b::eJ) pos) (SD tA tB'):=by
 intro z pins s σ H Q I h;rwa[isTrue_or (bj @O λc O ⟨H1,J,F⟩=> ?_)]
 cases c with
 |true=>exact ⟨H1,J,F⟩
 |false=>exact B z pins O σ H1 Q J F
theorem dB (j:PT X a tA):PT X (.UnaryOp .Not a pos) (Ru tA):=by
 intro pins s σ H Q I h;exact isTrue_not (j pins s σ H (λc H1=>Q (!c) H1) I h)
theorem u4 {j}{t:TE}(h:PE X a t):PE X (.BoolOp j [a] pos) t:=λpins s σ H Q I B=>BoolOp_one (h pins s σ H Q I B)
def SE (t:TT)(ta tb:TE):TE:=λσ H Q=>t σ H λc H1=>if c=true then ta σ H1 Q else tb σ H1 Q
theorem EF {c:Expr}(j:PT X c tA)(z:PE X a ta)(B:PE X b tb):PE X (.IfExp c a b pos) (SE tA ta tb):=by
 intro pins s σ H Q I h;rwa[wpAny_IfExp (bj @O λd O ⟨H1,J,F⟩=> ?_)]
 cases d with
 |true=>exact z pins O σ H1 Q J F
 |false=>exact B pins O σ H1 Q J F
end
def az (K:Fg)(H:Hp)(a:Addr)(xs:List V):Prop:=
 Rd H a (.lst xs)\/
  ∃(o:Obj) (its:Array Value) (n:Nat),K.lookup a=some o/\o.cls= .type "list"/\o.dict=none/\o.data= .seq its n/\its.size<=sizeLine/\aH xs its.toList
def aD (K:Fg)(H:Hp)(a:Addr)(xs:List V):Prop:=
 Rd H a (.tup xs)\/
  ∃(o:Obj) (its:Array Value) (n:Nat),K.lookup a=some o/\o.cls= .type "tuple"/\o.data= .seq its n/\its.size<=sizeLine/\aH xs its.toList
noncomputable def Se:Value->Option V
 | .none=>some .non
 | .bool b=>some (.bl b)
 | .int i _=>some (.int i)
 | .str x _=>some (.str x)
 | .bytes b _=>some (.byt b)
 | .float b _=>some (.flt b)
 | .ref a=>some (.ref a)
 | .type n=>some (.ty n)
 |_=>none
theorem ax.abs {x:V}{u:Value}(r:ax x u):Se u=some x:=by
 cases x with
 |non=>cases r;rfl
 |bl _=>cases r;rfl
 |int _=>obtain ⟨t,rfl⟩:=r;rfl
 |str _=>obtain ⟨t,rfl⟩:=r;rfl
 |byt _=>obtain ⟨t,rfl⟩:=r;rfl
 |flt _=>obtain ⟨t,rfl⟩:=r;rfl
 |ref _=>cases r;rfl
 |ty _=>cases r;rfl
theorem ax.inj {x y:V}{u:Value}(r:ax x u)(q:ax y u):x=y:=Option.some.inj (r.abs.symm.trans q.abs)
theorem aH.inj:∀ {xs ys:List V} {us:List Value},aH xs us->aH ys us->xs=ys
 |_,_,_,.nil,.nil=>rfl
 |_,_,_,.cons r t,.cons r' t'=>by rw [r.inj r',aH.inj t t']
section
variable {X:Cx}{pins:List (Addr×Obj)}{σ:St}{H:Hp}{s:Shared}{a:Addr}{xs ys:List V}
theorem az.of {K:Fg}(h:H a=some (.lst xs)):az K H a xs:= .inl (.inl h)
theorem aD.of {K:Fg}(h:H a=some (.tup xs)):aD K H a xs:= .inl (.inl h)
theorem au.list (I:au X pins σ H s)(h:az X.K H a xs):∃its:List Value,aH xs its/\PlainL s.heap a its.toArray/\xs.length<=sizeLine:=by
 rcases h with h|⟨o,its,n,R,j,J,hs,B,r⟩
 ·obtain ⟨z,its,n,r,e⟩:=h.ok I.hok;exact ⟨its,r,⟨_,n,e,rfl,rfl,rfl⟩,z⟩
 ·rwa[⟨its.toList,r,⟨o,n,I.kIn a o R,j,J,by simpa using hs⟩,?_⟩];have e:=r.length;simp only [Array.length_toList] at e;lia
theorem au.tuple (I:au X pins σ H s)(h:aD X.K H a xs):∃its:List Value,aH xs its/\IsTup s.heap a its.toArray/\xs.length<=sizeLine:=by
 rcases h with h|⟨o,its,n,R,j,hs,B,r⟩
 ·obtain ⟨z,its,r,p⟩:=h.ok I.hok;exact ⟨its,r,p,z⟩
 ·rwa[⟨its.toList,r,⟨o,I.kIn a o R,j,n,by simpa using hs⟩,?_⟩];have e:=r.length;simp only [Array.length_toList] at e;lia
theorem au.list_inj (I:au X pins σ H s)(h:az X.K H a xs)(h':az X.K H a ys):xs=ys:=by
 obtain ⟨its,r,⟨o,n,e,_,_,d⟩,_⟩:=I.list h;obtain ⟨j,O,⟨o',B,z,_,_,J⟩,_⟩:=I.list h';rw [e] at z;cases z;rw [d] at J;injection J with d1 _
 have:its=j:=by simpa using congrArg Array.toList d1
 subst this;exact r.inj O
theorem au.tuple_inj (I:au X pins σ H s)(h:aD X.K H a xs)(h':aD X.K H a ys):xs=ys:=by
 obtain ⟨its,r,⟨o,e,_,n,d⟩,_⟩:=I.tuple h;obtain ⟨j,O,⟨o',z,_,B,J⟩,_⟩:=I.tuple h';rw [e] at z;cases z;rw [d] at J;injection J with d1 _
 have:its=j:=by simpa using congrArg Array.toList d1
 subst this;exact r.inj O
end
abbrev Cx.wish (X:Cx)(E:Value->Shared->Prop):Cx:= {X with xe:=E}
abbrev Cx.nox (X:Cx):Cx:=X.wish λ_ _=>False
theorem Cx.Ok.wish {X:Cx}(Y:X.Ok)(E:Value->Shared->Prop):(X.wish E).Ok:=
 ⟨Y.mod,Y.kind,Y.glob,Y.blt,Y.above,Y.inj,Y.has,Y.cab,Y.hd,Y.frames,Y.stk,Y.exf,Y.bs,Y.bsz,Y.noex,Y.exfs,Y.funs,Y.frf⟩
theorem Cx.Ok.unwish {X:Cx}{E:Value->Shared->Prop}(Y:(X.wish E).Ok):X.Ok:=
 ⟨Y.mod,Y.kind,Y.glob,Y.blt,Y.above,Y.inj,Y.has,Y.cab,Y.hd,Y.frames,Y.stk,Y.exf,Y.bs,Y.bsz,Y.noex,Y.exfs,Y.funs,Y.frf⟩
section
variable {X:Cx}{pins:List (Addr×Obj)}{σ:St}{H:Hp}{s:Shared}{E:Value->Shared->Prop}
theorem au.wish (I:au X pins σ H s)(E:Value->Shared->Prop):au @go pins σ H s:=⟨I.ok.wish E,I.os,I.bare,I.base,I.loc,I.cell,I.free,I.freeC,I.pin,I.hok,I.len⟩
theorem au.unwish (I:au @go pins σ H s):au X pins σ H s:=⟨I.ok.unwish,I.os,I.bare,I.base,I.loc,I.cell,I.free,I.freeC,I.pin,I.hok,I.len⟩
theorem SP.unwish {D:m9}{f:Flow}{s':Shared}(h:SP @go pins D f s'):SP X pins D f s':=by
 cases f with
 |next=>obtain ⟨j,H',I,q⟩:=h;exact ⟨j,H',I.unwish,q⟩
 |brk=>obtain ⟨j,H',I,q⟩:=h;exact ⟨j,H',I.unwish,q⟩
 |cont=>obtain ⟨j,H',I,q⟩:=h;exact ⟨j,H',I.unwish,q⟩
 |ret u=>obtain ⟨v,j,H',I,r,q⟩:=h;exact ⟨v,j,H',I.unwish,r,q⟩
theorem rj.nox {st:List Stmt}{t:TS}(h:rj X.nox st t):rj X st t:=λpins s σ H D I B=>
 wpAny_mono (h pins s σ H D (I.wish _) B) (λ_ _ q=>q.unwish) λ_ _ z=>False.elim z
end
section
variable {X:Cx}{st:Stmt}{eJ:List Stmt}{t u:TS}{e:Expr}{te:TE}{pos:Pos}
def OG:TS:=λD σ H=>D.nx σ H
def Rs (t u:TS):TS:=λD σ H=>t {D with nx:=u D} σ H
theorem ap:rj X [] OG:=λ_ _ σ H _ I h=>wpAny_execs_nil ⟨σ,H,I,h⟩
theorem aa (h1:PS X st t)(h2:rj X eJ u):rj X (st::eJ) (Rs t u):=by
 intro pins s σ H D I h;rwa[wpAny_execs_cons (bj (h1 pins s σ H {D with nx:=u D} I h) λf O q=> ?_)]
 cases f with
 |next=>
  obtain ⟨j,H',B,q⟩:=q;exact h2 pins O j H' D B q
 |ret v=>exact q
 |brk=>exact q
 |cont=>exact q
theorem ac (h1:PS X st t):rj X [st] t:=by
 intro pins s σ H D I h;rwa[wpAny_execs_cons (bj (h1 pins s σ H D I h) λf O q=> ?_)]
 cases f with
 |next=>exact wpAny_execs_nil q
 |ret v=>exact q
 |brk=>exact q
 |cont=>exact q
theorem au.quiet {pins:List (Addr×Obj)}{σ:St}{H:Hp}{s:Shared}(I:au X pins σ H s):interactive X.env=false:=by simp [interactive,I.ok.kind]
def OJ (te:TE):TS:=λD σ H=>te σ H λ_ H1=>D.nx σ H1
theorem aE (S:PE X e te)(hs:swapsWith e none pos.line X.env=pure false:=by rfl):PS X (.Expr e pos) (OJ te):=by
 intro pins s σ H D I h;exact wpAny_Expr_any (bj @cx λv O ⟨x,H1,J,z,F⟩=>⟨σ,H1,J,F⟩) I.quiet hs
def Rt (te:TE):TS:=λD σ H=>te σ H D.rt
theorem aj (S:PE X e te):PS X (.Return (some e) pos) (Rt te):=by
 intro pins s σ H D I h;exact wpAny_Return_some (bj @cx λv O ⟨x,H1,J,z,F⟩=>⟨x,σ,H1,J,z,F⟩)
def OF:TS:=λD _ H=>D.rt .non H
theorem Il:PS X (.Return none pos) OF:=λ_ _ σ H _ I h=>wpAny_Return_none ⟨.non,σ,H,I,rfl,h⟩
def Ry (c:TT)(t u:TS):TS:=λD σ H=>c σ H λb H1=>if b=true then t D σ H1 else u D σ H1
theorem O0 {c:Expr}{a b:List Stmt}{tc:TT}(j:PT X c tc)(z:rj X a t)(B:rj X b u):PS X (.If c a b pos) (Ry tc t u):=by
 intro pins s σ H D I h;rwa[wpAny_If (bj @O λd O ⟨H1,J,F⟩=> ?_)]
 cases d with
 |true=>exact z pins O σ H1 D J F
 |false=>exact B pins O σ H1 D J F
end
abbrev TG:=V->St->Hp->(St->Hp->Prop)->Prop
abbrev Bf:=List V->St->Hp->(St->Hp->Prop)->Prop
def PG (X:Cx)(target:Expr)(t:TG):Prop:=
 ∀(pins:List (Addr×Obj)) (s:Shared) (σ:St) (H:Hp) (v:V) (u:Value) (Q:St->Hp->Prop),au X pins σ H s->ax v u->t v σ H Q->
  wpAny @d X.A (assign target X.env u) (λ_ s'=>∃σ' H',au X pins σ' H' s'/\Q σ' H') X.xe s
def CN (X:Cx)(ts:List Expr)(t:Bf):Prop:=
 ∀(pins:List (Addr×Obj)) (s:Shared) (σ:St) (H:Hp) (vs:List V) (us:List Value) (Q:St->Hp->Prop),au X pins σ H s->aH vs us->t vs σ H Q->
  wpAny @d X.A (assignInOrder ((assignEach ts X.env).map (·.2)) us) (λ_ s'=>∃σ' H',au X pins σ' H' s'/\Q σ' H') X.xe s
abbrev GN:=V->V->V->Hp->(Hp->Prop)->Prop
def CM (X:Cx)(t:GN):Prop:=
 ∀(pins:List (Addr×Obj)) (s:Shared) (σ:St) (H:Hp) (o i v:V) (ov iv u:Value) (Q:Hp->Prop),au X pins σ H s->ax o ov->ax i iv->ax v u->t o i v H Q->
  wpAny @d X.A (setItem ov iv u) (λ_ s'=>∃H',au X pins σ H' s'/\Q H') X.xe s
abbrev NL:=V->V->Hp->VK->Prop
def QK (X:Cx)(op:Operator)(t:NL):Prop:=
 ∀(pins:List (Addr×Obj)) (s:Shared) (σ:St) (H:Hp) (x y:V) (v u:Value) (Q:VK),au X pins σ H s->ax x v->ax y u->t x y H Q->
  wpAny @d X.A (inplaceOp op v u) @u X.xe s
section
variable {X:Cx}{pos:Pos}
def ja (i:Nat):TG:=λv σ H Q=>Q @fw H
theorem u3 {i:Nat}{x:Str}(z:X.N.Nodup)(hi:X.N[i]? =some x)(j:JN X.env.scope x)(F:X.fn x=true\/X.env.scope.names.lookup x=some .local:=by first|exact .inl rfl|exact .inr rfl|assumption):PG X (.Name x pos) (ja i):=by
 intro pins s σ H v u Q I r h;exact wpAny_assign_Name (pi I z hi j r (λs' B=>⟨_,H,B,h⟩) F)
def R5:Bf:=λvs σ H Q=>vs=[]/\Q σ H
def PH (t:TG)(u:Bf):Bf:=λvs σ H Q=>∃v r,vs=v::r/\t v σ H λσ' H'=>u r σ' H' Q
theorem Iu:CN X [] R5:=by
 intro pins s σ H L j Q I r h;obtain ⟨e,h⟩:=h;subst e;cases r;exact assignInOrder_nil ⟨σ,H,I,h⟩
theorem Ez {e:Expr}{es:List Expr}{t:TG}{u:Bf}(h1:PG X e t)(h2:CN X es u)
(hs:(assignEach (e::es) X.env).map (·.2)=assign e X.env::(assignEach es X.env).map (·.2):=by rfl):CN X (e::es) (PH t u):=by
 intro pins s σ H L z Q I r h;obtain ⟨v,B,S,h⟩:=h;subst S
 cases r with
 |cons r rr=>
  rw [hs];rwa[assignInOrder_cons (bj (h1 pins s σ H _ _ _ I r h) λ_ O ⟨j,H1,J,F⟩=> ?_)];exact h2 pins O j H1 _ _ Q J rr F
def PF (K:Fg)(n:Nat)(t:Bf):TG:=λv σ H Q=>∃a xs,v= .ref a/\aD K H a xs/\xs.length=n/\t xs σ H Q
theorem LX {es:List Expr}{k:Nat}{t:Bf}{n:Nat}(F:X.calm=true)(h:CN X es t)
(O:(assignEach es X.env).length=n:=by rfl)(j:(assignEach es X.env).findIdx? (·.1)=none:=by rfl):PG X (.Tuple es k pos) (PF X.K n t):=by
 intro pins s σ H v u Q I r B;obtain ⟨a,xs,S,L,W,B⟩:=B;subst S;cases r;obtain ⟨its,z,U,Y⟩:=I.tuple L;rwa[assign_Tuple_tuple @gg U (by simp [O,<-W,z.length]) j λh' J=> ?_];have R:au X pins σ H {s with heap:=h'}:=I.kept (t':=s.toks) λb o e=>J b o (Nat.ne_of_lt @bV) e;exact h pins _ σ H xs _ Q R (by simpa using z) B
def R4 (to ti:TE)(t:GN):TG:=λv σ H Q=>to σ H λo H1=>ti σ H1 λi H2=>t o i v H2 λH3=>Q σ H3
theorem mz {o i:Expr}{to j:TE}{t:GN}(z:PE X o to)(hi:PE X i j)(hs:CM X t)
(J:∀v,assign (.Subscript o i pos) X.env v=(do
   let ov<-holding [v] @fy
   let iv<-holding [v,ov] (eval i X.env)
   standAt pos
   holding [v,ov,iv] (setItem ov iv v)
   release [v,ov,iv] []):=by intro _;rfl):PG X (.Subscript o i pos) (R4 to j t):=by
 intro pins s σ H v u Q I r h;rw [J];rwa[wpAny_bind (wpAny_holding (bj (z pins s σ H _ I h) λov Y ⟨x,H1,Z,U,L⟩=> ?_))];rwa[wpAny_bind (wpAny_holding (bj (hi pins Y σ H1 _ Z L) λiv R ⟨y,H2,O,W,q2⟩=> ?_))];rwa[wpAny_bind (wpAny_standAt (wpAny_bind (wpAny_holding (bj (hs pins R σ H2 x y v ov iv u _ O U W r q2) λ_ s3 ⟨B,F,S⟩=> ?_))))];exact wpAny_release ⟨σ,B,F,S⟩
def Du (te:TE)(g:TG):TS:=λD σ H=>te σ H λx H1=>g x σ H1 D.nx
theorem jH {tg e:Expr}{te:TE}{g:TG}(S:PE X e te)(W:PG X tg g)(hs:swapsWithSole [tg] e pos.line X.env=pure false:=by rfl)(B:swappedStores [tg] e X.env=pure none:=by rfl)
(h1:(assignEach [tg] X.env).map (·.2)=[assign tg X.env]:=by rfl):PS X (.Assign [tg] e pos) (Du te g):=by
 intro pins s σ H D I h;rwa[wpAny_Assign_stores (bj @cx λv O ⟨x,H1,J,z,F⟩=> ?_) hs B];rw [h1];exact bj (W pins O σ H1 x v _ J z F) λ_ R q=>q
theorem bM {i:Nat}{x:Str}{e:Expr}{te:TE}{pos':Pos}(j:X.N.Nodup)(hi:X.N[i]? =some x)(z:JN X.env.scope x)(S:PE X e te)(hs:swapsWith e (some (.Name x pos')) pos.line X.env=pure false:=by rfl)(B:X.fn x=true\/X.env.scope.names.lookup x=some .local:=by first|exact .inl rfl|exact .inr rfl|assumption):
 PS X (.Assign [.Name x pos'] e pos) (Du te (ja i)):=by
 intro pins s σ H D I h;rwa[wpAny_Assign_Name (bj @cx λv U ⟨y,H1,L,J,F⟩=> ?_) hs];exact pi L j hi z J (λR O=>⟨_,H1,O,F⟩) B
def RB (i:Nat)(te:TE)(ti:NL):TS:=λD σ H=>∃x,σ[i]? =some (some x)/\te σ H λy H1=>ti x y H1 λz H2=>D.nx (σ.set i (some z)) H2
theorem Eu {i:Nat}{x:Str}{e:Expr}{te:TE}{J:Operator}{O:NL}{pos':Pos}(hN:X.N.Nodup)(hi:X.N[i]? =some x)(B:JN X.env.scope x)(he:PE X e te)(W:QK X J O)(hf:X.fn x=true\/X.env.scope.names.lookup x=some .local:=by first|exact .inl rfl|exact .inr rfl|assumption):
 PS X (.AugAssign (.Name x pos') J e pos) (RB i te O):=by
 intro pins s σ H D I h;obtain ⟨v,e1,h⟩:=h;obtain ⟨m,hn,hl⟩:=I.loc
 have F:NJ X.env.scope x:=by rcases B with k|k;exact .inl k;exact .inr (.inl k)
 obtain ⟨u,r,l⟩:=hl i x v hi e1 F;rwa[wpAny_AugAssign_Name ?_]
 have L:wpAny @d X.A @fx (λw Y=>wpAny @d X.A (inplaceOp J u w) (λr U=>wpAny @d X.A (storeName X.env x r) (λ_=>SP X pins D .next) X.xe U) X.xe Y) X.xe s:=by
  rwa[bj @bG λw s1 ⟨y,H1,I1,r1,q1⟩=> ?_];rwa[bj (W pins s1 σ H1 v y u w _ I1 r r1 q1) λz s2 ⟨zv,H2,Z,r2,q2⟩=> ?_];exact pi Z hN hi B r2 (λs3 I3=>⟨_,H2,I3,q2⟩) hf
 rcases l with ⟨R,hm⟩|⟨R,c,S,j⟩
 ·exact wpAny_loadName_local I.ok.kind R hn hm L
 ·rcases R with R|R
  ·exact wpAny_loadName_cell I.ok.kind R S j L
  ·rcases B with k|k
   ·have:X.env.scope.names.lookup x=some .free:=R;rw [k] at this;cases this
   ·have:X.env.scope.names.lookup x=some .free:=R;rw [k] at this;cases this
def OK (to ti te:TE)(tget:V->V->Hp->VK->Prop)(tip:NL)(tset:GN):TS:=λD σ H=>to σ H λo H1=>ti σ H1 λi H2=>tget o i H2 λx H3=>te σ H3 λy H4=>tip x y H4 λz H5=>tset o i z H5 λH6=>D.nx σ H6
def Qf (X:Cx)(t:V->V->Hp->VK->Prop):Prop:=
 ∀(pins:List (Addr×Obj)) (s:Shared) (σ:St) (H:Hp) (o i:V) (ov iv:Value) (Q:VK),au X pins σ H s->ax o ov->ax i iv->t o i H Q->
  wpAny @d X.A (getItem ov iv) @u X.xe s
theorem Io {o i e:Expr}{to O te:TE}{z:V->V->Hp->VK->Prop}{B:NL}{j:GN}{S:Operator}{tpos:Pos}(ho:PE X o to)(hi:PE X i O)(hg:Qf X z)(he:PE X e te)(hp:QK X S B)(hs:CM X j)
(ha:∀ov iv new,augStore i ov iv new=(do holding [new,ov,iv] (setItem ov iv new);release [new,ov,iv] [];pure .next):=by intros;rfl):PS X (.AugAssign (.Subscript o i tpos) S e pos) (OK to O te z B j):=by
 intro pins s σ H D I h;rwa[wpAny_AugAssign_SubscriptAny (bj (ho pins s σ H _ I h) λov s1 ⟨R,H1,I1,L,q1⟩=> ?_) ha];rwa[bj (hi pins s1 σ H1 _ I1 q1) λiv s2 ⟨J,H2,I2,W,q2⟩=> ?_];rwa[bj (hg pins s2 σ H2 R J ov iv _ I2 L W q2) λF s3 ⟨x3,U,I3,r3,q3⟩=> ?_];rwa[bj (he pins s3 σ U _ I3 q3) λv Z ⟨x4,H4,I4,r4,q4⟩=> ?_];rwa[bj (hp pins Z σ H4 x3 x4 F v _ I4 r3 r4 q4) λnew s5 ⟨x5,H5,I5,r5,Y⟩=> ?_];exact bj (hs pins s5 σ H5 R J x5 ov iv new _ I5 L W r5 Y) λ_ s6 ⟨H6,I6,q6⟩=>⟨σ,H6,I6,q6⟩
def Sq (f:Int->Int->Int):NL:=λx y H Q=>∃i j,x= .int i/\y= .int j/\Q (.int (f i j)) H
theorem FJ:QK X .Add (Sq λi j=>i+j):=by
 intro pins s σ H x y v u Q I z W h;obtain ⟨i,j,S,R,q⟩:=h;subst S;subst R;obtain ⟨t,rfl⟩:=z;obtain ⟨B,rfl⟩:=W;exact iadd_int ⟨.int _,H,I.tok _,⟨_,rfl⟩,q⟩
theorem Na:QK X .Sub (Sq λi j=>i - j):=by
 intro pins s σ H x y v u Q I z W h;obtain ⟨i,j,S,R,q⟩:=h;subst S;subst R;obtain ⟨t,rfl⟩:=z;obtain ⟨B,rfl⟩:=W;exact isub_int ⟨.int _,H,I.tok _,⟨_,rfl⟩,q⟩
end
section
variable {X:Cx}{pos:Pos}
def Le (c:TT)(tb:TS):TS:=λD σ H=>∃W:Nat->St->Hp->Prop,(∃m,W m σ H)/\∀m σ H,W m σ H->
 c σ H λb H1=>if b=true then ∃N:St->Hp->Prop,(∀σ' H',N σ' H'->∃m',m'<m/\W m' σ' H')/\tb {D with nx:=N,ct:=N,bk:=D.nx} σ H1 else D.nx σ H1
theorem Es {c:Expr}{j:List Stmt}{tc:TT}{tb:TS}(hp:PassesOwn @d X.A X.env X.xe)(hc:PT X c tc)(hb:rj X j tb):PS X (.While c j [] pos) (Le tc tb):=by
 intro pins s σ H D I h;obtain ⟨W,⟨m0,w0⟩,z⟩:=h;rwa[wpAny_While (codeAny_whileLoop (λn s'=>∃σ' H',au X pins σ' H' s'/\W n σ' H') ?_ m0 ⟨σ,H,I,w0⟩)];rintro n s1 ⟨J,H1,I1,w1⟩;rwa[wpAny_passesOwn hp (bj (hc pins s1 J H1 _ I1 (z n J H1 w1)) λb s2 ⟨H2,I2,L⟩=> ?_)]
 cases b with
 |true=>
  obtain ⟨N,hN,L⟩:=L;rw [if_pos rfl];rwa[wpAny_passesOwn hp (bj (hb pins s2 J H2 _ I2 L) λf s3 S=> ?_)]
  cases f with
  |next=>
   obtain ⟨F,B,U,Z⟩:=S;obtain ⟨Y,R,O⟩:=hN F B Z;exact ⟨Y,R,F,B,U,O⟩
  |cont=>
   obtain ⟨F,B,U,Z⟩:=S;obtain ⟨Y,R,O⟩:=hN F B Z;exact ⟨Y,R,F,B,U,O⟩
  |brk=>exact S
  |ret v=>exact S
 |false=>
  rw [if_neg Bool.false_ne_true];exact wpAny_execs_nil ⟨J,H2,I2,L⟩
end
structure It where
 go:Nat->Hp->Prop
 yld:Nat->Hp->V->Hp->Prop
 stop:Nat->Hp->Prop
def iI (X:Cx)(pins:List (Addr×Obj))(H:Hp)(b:Addr):Prop:=
 H b=none/\b≠X.env.locals/\b∉X.fs/\(b∈X.ex\/X.s₀.heap.objs.size<=b)/\(∀x c,X.env.cells.lookup x=some c->c≠b)/\∀p∈X.pn++pins,p.1≠b
theorem au.fpOk {X:Cx}{pins:List (Addr×Obj)}{σ:St}{H H':Hp}{s:Shared}{b:Addr}(I:au X pins σ H s)(B:s.heap.objs.size<=b)(j:H' b=none):iI X pins H' b:=by
 rwa[⟨j,Nat.ne_of_gt (Nat.lt_of_lt_of_le I.lt B),I.nofs B,.inr (Nat.le_trans I.sz B),λx c e z=> ?_,λp F z=> ?_⟩]
 ·obtain ⟨v,q⟩:=I.cell x c e;exact absurd (Nat.lt_of_lt_of_le q.lt (by rw [z];exact B)) @G
 ·exact absurd (Nat.lt_of_lt_of_le (Heap.lt_size (I.pin p F).1) (by rw [z];exact B)) @G
structure vH (P:Program)(w:World)(K:Fg)(tg:Expr)(J:It)(fp:List Addr)(it:Addr)(tn:Nat->Heap->Prop):Prop where
 mem:it∈fp
 obj:∀i h,tn i h->∀b∈fp,∃o,h.get? b=some o/\∀v,o.data≠ .cell v
 keep:∀i h h',tn i h->(∀b∈fp,∀o,h.get? b=some o->h'.get? b=some o)->tn i h'
 item:∀(X:Cx),X.prog=P->X.w=w->X.K=K->X.calm=true->∀(i:Nat) (pins:List (Addr×Obj)) (s:Shared) (σ:St) (H:Hp) (E:Value->Shared->Prop),au X pins σ H s->(∀b∈fp,iI X pins H b)->tn i s.heap->J.go i H->
  wpAny @X X.A @cX (λr s1=>∃u,r=some u/\
   wpAny @X X.A @ci (λ_ s2=>∃x H',au X pins σ H' s2/\ax x u/\J.yld i H x H'/\tn (i+1) s2.heap/\∀b∈fp,H' b=none) E s1) E s
 done:∀(X:Cx),X.prog=P->X.w=w->X.K=K->X.calm=true->∀(i:Nat) (pins:List (Addr×Obj)) (s:Shared) (σ:St) (H:Hp) (E:Value->Shared->Prop),au X pins σ H s->(∀b∈fp,iI X pins H b)->tn i s.heap->J.stop i H->
  wpAny @X X.A @cX (λr s1=>r=none/\au X pins σ H s1) E s
 self:∀(A:Around) (i:Nat) (s:Shared) (Q:Value->Shared->Prop) (E:Value->Shared->Prop),tn i s.heap->Q (.ref it) s->wpAny @X A (pyIter (.ref it)) Q E s
abbrev TI:=St->Hp->(It->Hp->Prop)->Prop
def Si (X:Cx)(pins:List (Addr×Obj))(σ:St)(tg:Expr)(R:It->Hp->Prop)(itv:Value)(s2:Shared):Prop:=
 ∃(it:Addr) (fp:List Addr) (tn:Nat->Heap->Prop) (J:It) (H':Hp),itv= .ref it/\au X pins σ H' s2/\vH X.prog X.w X.K tg J fp it tn/\tn 0 s2.heap/\(∀b∈fp,iI X pins H' b)/\R J H'
def PI (X:Cx)(tg iter:Expr)(wi:TI):Prop:=
 ∀(pins:List (Addr×Obj)) (s:Shared) (σ:St) (H:Hp) (R:It->Hp->Prop),au X pins σ H s->wi σ H R->
  wpAny @d X.A @eH (λv s1=>wpAny @d X.A (pyIter v) @ef X.xe s1) X.xe s
theorem AU {M:Model}{A:Around}{E:Value->Shared->Prop}{s:Shared}{tg:Expr}{it:Addr}{u:Value}{o:Obj}{n:String}{vs:Array Value}{Q:Unit->Shared->Prop}(B:s.heap.get? it=some o)(I:o.cls= .type n)(J:o.data= .fields vs)
(j:["enumerate","zip","dict_itemiterator","dict_reverseitemiterator","odict_iterator","itertools.zip_longest","itertools.pairwise"].contains n=false)(z:Q () s):wpAny M A @ci Q E s:=by
 unfold letOwnedTupleGo
 cases tg<;>first
  |exact wpAny_pure z
  |(cases u<;>first
     |exact wpAny_pure z
     |(refine wpAny_bind (wpAny_load B ?_)
       rw [I,J];show wpAny M A (if (["enumerate","zip","dict_itemiterator","dict_reverseitemiterator","odict_iterator","itertools.zip_longest","itertools.pairwise"].contains n&&vs[0]? ==some (rawInt _))=true then _ else _) Q E s;rw [if_neg (by intro h;rw [j,Bool.false_and] at h;cases h)]
       exact wpAny_pure z))
noncomputable def GZ (K:Fg)(a:Addr):It:=
 ⟨λi H=>∃xs x,az K H a xs/\xs[i]? =some x,λi H x H'=>H'=H/\∀xs,az K H a xs->xs[i]? =some x,λi H=>∃xs,az K H a xs/\xs.length<=i⟩
noncomputable def GY (K:Fg)(a:Addr):It:=
 ⟨λi H=>∃xs x,aD K H a xs/\xs[i]? =some x,λi H x H'=>H'=H/\∀xs,aD K H a xs->xs[i]? =some x,λi H=>∃xs,aD K H a xs/\xs.length<=i⟩
noncomputable def JP (lo:Int)(n:Nat):It:=⟨λi _=>i<n,λi H x H'=>H'=H/\x= .int (lo+i),λi _=>n<=i⟩
theorem Bl {P:Program}{w:World}{K:Fg}{tg:Expr}(a it:Addr):vH P w K tg @gz [it] it (λi h=>h.IsListIter it a i) where
 mem:=by simp
 obj:=λi h st b B=>by
  have e:b=it:=by simpa using B
  subst e;obtain ⟨o,e,c,d⟩:=st;exact ⟨o,e,λv z=>by rw [d] at z;cases z⟩
 keep:=λi h h' st k=>st.at λo e=>k it @f o e
 item:=by
  intro X J hw hK hc i pins s σ H E I F st Z;subst J hw hK;obtain ⟨xs,x,L,U⟩:=Z;obtain ⟨its,O,p,hz⟩:=I.list L;obtain ⟨u,hu,ru⟩:=O.get U;obtain ⟨R,S,f2,W,Y,f5⟩:=F it @f;rwa[wpAny_pyNext_list_item st p.isList (x:=u) (by simpa using hu) λh' j sb=> ?_];have I1:au X pins σ H {s with heap:=h'}:=I.turned (t':=s.toks) (λb o B e=>(sb.2 b B).trans e) R S W Y f5;obtain ⟨o,e,c,d⟩:=id j;exact ⟨u,rfl,AU (s:= {s with heap:=h'}) e c d @b ⟨x,H,I1,ru,⟨rfl,λys hy=>by rw [I.list_inj hy L];exact U⟩,j,λb B=>(F b B).1⟩⟩
 done:=by
  intro X J hw hK hc i pins s σ H E I F st Z;subst J hw hK;obtain ⟨xs,L,U⟩:=Z;obtain ⟨its,O,p,hz⟩:=I.list L;obtain ⟨R,S,f2,W,Y,f5⟩:=F it @f;have hl:=O.length;exact wpAny_pyNext_list_end @bz st p.isList (by simp;lia) λh' eb=>⟨rfl,I.turned (t':=s.toks) @de R S W Y f5⟩
 self:=λ_ _ _ _ _ st h=>wpAny_pyIter_listiter st h
theorem ym {P:Program}{w:World}{K:Fg}{tg:Expr}(a it:Addr):vH P w K tg @gA [it] it (λi h=>h.IsTupleIter it a i) where
 mem:=by simp
 obj:=λi h st b B=>by
  have e:b=it:=by simpa using B
  subst e;obtain ⟨o,e,c,d⟩:=st;exact ⟨o,e,λv z=>by rw [d] at z;cases z⟩
 keep:=λi h h' st k=>st.at λo e=>k it @f o e
 item:=by
  intro X J hw hK hc i pins s σ H E I F st Z;subst J hw hK;obtain ⟨xs,x,L,U⟩:=Z;obtain ⟨its,O,p,hz⟩:=I.tuple L;obtain ⟨u,hu,ru⟩:=O.get U;obtain ⟨R,S,f2,W,Y,f5⟩:=F it @f;rwa[wpAny_pyNext_tuple_item st (show s.heap.IsTuple a its.toArray from p) (x:=u) (by simpa using hu) λh' j sb=> ?_];have I1:au X pins σ H {s with heap:=h'}:=I.turned (t':=s.toks) (λb o B e=>(sb.2 b B).trans e) R S W Y f5;obtain ⟨o,e,c,d⟩:=id j;exact ⟨u,rfl,AU (s:= {s with heap:=h'}) e c d @b ⟨x,H,I1,ru,⟨rfl,λys hy=>by rw [I.tuple_inj hy L];exact U⟩,j,λb B=>(F b B).1⟩⟩
 done:=by
  intro X J hw hK hc i pins s σ H E I F st Z;subst J hw hK;obtain ⟨xs,L,U⟩:=Z;obtain ⟨its,O,p,hz⟩:=I.tuple L;obtain ⟨R,S,f2,W,Y,f5⟩:=F it @f;have hl:=O.length;exact wpAny_pyNext_tuple_end @bz st (show s.heap.IsTuple a its.toArray from p) (by simp;lia) λh' eb=>⟨rfl,I.turned (t':=s.toks) @de R S W Y f5⟩
 self:=λ_ _ _ _ _ st h=>wpAny_pyIter_tupleiter st h
theorem yn {P:Program}{w:World}{K:Fg}{tg:Expr}(it:Addr)(lo:Int)(n:Nat):vH P w K tg @gt [it] it (λi h=>IsRangeIter h it (lo+(i:Nat)*1) ((n:Int) - (i:Nat)) 1) where
 mem:=by simp
 obj:=λi h st b B=>by
  have e:b=it:=by simpa using B
  subst e
  exact ⟨_,st,λv z=>by
   have z':Data.fields _=Data.cell v:=z
   cases z'⟩
 keep:=λi h h' st k=>k it @f _ st
 item:=by
  intro X L Z hK J i pins s σ H E I F st U;subst L Z hK;obtain ⟨R,S,f2,O,Y,f5⟩:=F it @f;have W:=Walks.range (prog:=X.prog) (w:=X.w) (I.ok.hd J) it lo 1 n;rwa[W.item i s _ _ U st λv h' tk hv j kk=> ?_];obtain ⟨t,rfl⟩:=hv;have I1:au X pins σ H {s with heap:=h',toks:=tk}:=I.turned (λb o B e=>kk b o (by simpa using B) e) R S O Y f5;rwa[⟨_,rfl,AU (s:= {s with heap:=h',toks:=tk}) (n:="range_iterator") j rfl rfl @b ⟨.int (lo+i),H,I1,⟨t,?_⟩,⟨rfl,rfl⟩,j,λb B=>(F b B).1⟩⟩];rw [Int.mul_one]
 done:=by
  intro X L Z hK J i pins s σ H E I F st U;subst L Z hK;obtain ⟨R,S,f2,O,Y,f5⟩:=F it @f;exact wpAny_pyNext_range_end (I.ok.hd J) st (by have:n<=i:=U;lia) λh' eb=>⟨rfl,I.turned (t':=s.toks) @de R S O Y f5⟩
 self:=λ_ _ _ _ _ st h=>wpAny_pyIter_rangeiter st h
section
variable {X:Cx}{tg:Expr}
theorem Em {pins:List (Addr×Obj)}{σ:St}{H:Hp}{s:Shared}{R:It->Hp->Prop}{E:Value->Shared->Prop}{lo hi:Int}{t u v:Tok}{tk:Nat}(I:au X pins σ H s)(h1: -(2^62)<=lo)(h2:lo<2^62)(L: -(2^62)<=hi)(j:hi<2^62)
(q:R (JP lo (hi - lo).toNat) H):wpAny @d X.A (pyIter (.ref s.heap.objs.size)) @ef E {s with heap:=s.heap.push {cls:= .type "range",data:= .fields #[.int lo t,.int hi u,.int 1 v]},toks:=tk}:=by
 rwa[wpAny_pyIter_range (IsRange.new ..) (small_one h1 h2 L j) ?_];have J:au X pins σ H {s with heap:=s.heap.push {cls:= .type "range",data:= .fields #[.int lo t,.int hi u,.int 1 v]},toks:=tk}:=I.kept λb o e=>Heap.get?_push_of_some _ e
 refine ⟨(s.heap.push {cls:= .type "range",data:= .fields #[.int lo t,.int hi u,.int 1 v]}).objs.size,[(s.heap.push {cls:= .type "range",data:= .fields #[.int lo t,.int hi u,.int 1 v]}).objs.size],_,_,H,rfl,
  J.kept (t':=tk) λb o e=>Heap.get?_push_of_some _ e,yn _ lo (hi - lo).toNat,?_,λb B=> ?_,q⟩
 ·have S:lo+((0:Nat):Int)*1=lo:=by simp
  have z:(((hi - lo).toNat:Nat):Int) - ((0:Nat):Int)=Builtin.Range.rangeSize lo hi 1:=by rw [rangeSize_one];split<;>lia
  show IsRangeIter _ _ (lo+((0:Nat):Int)*1) ((((hi - lo).toNat:Nat):Int) - ((0:Nat):Int)) 1;rw [S,z];exact Heap.get?_push_size _ rfl
 ·have e:b=(s.heap.push {cls:= .type "range",data:= .fields #[.int lo t,.int hi u,.int 1 v]}).objs.size:=by simpa using B
  subst e;exact J.fpOk @e @bW
def Rz (wi:TI)(g:TG)(tb:TS):TS:=λD σ H=>wi σ H λJ H1=>∃W:Nat->Nat->St->Hp->Prop,(∃m,W 0 m σ H1)/\∀i m σ H,W i m σ H->
 (J.stop i H/\D.nx σ H)\/(J.go i H/\∃N:St->Hp->Prop,(∀σ' H',N σ' H'->∃m',m'<m/\W (i+1) m' σ' H')/\∀x H',J.yld i H x H'->g x σ H' λσ2 H2=>tb {D with nx:=N,ct:=N,bk:=D.nx} σ2 H2)
noncomputable def qj (fp:List Addr)(h:Heap):List (Addr×Obj):=fp.filterMap λb=>(h.get? b).map λo=>(b,o)
theorem gB {fp:List Addr}{h:Heap}{b:Addr}{o:Obj}(B:b∈fp)(e:h.get? b=some o):(b,o)∈qj fp h:=mem_filterMap.mpr ⟨b,B,by rw [e];rfl⟩
theorem B3 {fp:List Addr}{h:Heap}{p:Addr×Obj}(F:p∈qj fp h):p.1∈fp/\h.get? p.1=some p.2:=by
 obtain ⟨b,B,e⟩:=mem_filterMap.mp F
 cases q:h.get? b with
 |none=>rw [q] at e;cases e
 |some o=>
  rw [q] at e;have j:(b,o)=p:=Option.some.inj e;subst j;exact ⟨B,q⟩
theorem au.pinned {pins:List (Addr×Obj)}{σ:St}{H:Hp}{s:Shared}{fp:List Addr}(I:au X pins σ H s)(F:∀b∈fp,iI X pins H b)(J:∀b∈fp,∃o,s.heap.get? b=some o/\∀v,o.data≠ .cell v):au X (pins++qj fp s.heap) σ H s:=
 I.pins_of λp O=>(mem_append.mp O).elim (λz=>I.pin p (mem_append_right _ z)) λz=>by
  obtain ⟨B,e⟩:=B3 z;obtain ⟨R,S,L,_⟩:=F p.1 B;obtain ⟨o,j,d⟩:=J p.1 B;rw [e] at j;cases j;exact ⟨e,R,S,L,d⟩
theorem au.unpinned {pins pl:List (Addr×Obj)}{σ:St}{H:Hp}{s:Shared}(I:au X (pins++pl) σ H s):au X pins σ H s:=I.pins_of λp F=>I.pin p (mem_append_right _ (mem_append_left _ F))
theorem LV {iter:Expr}{R:List Stmt}{wi:TI}{g:TG}{tb:TS}{pos:Pos}(hp:PassesOwn @d X.A X.env X.xe)(hc:X.calm=true)(hi:PI X tg iter wi)(hg:PG X tg g)(F:rj X R tb)
(hs:∀x,foldedSetIterable iter X.env x=pure x:=by intro _;rfl):PS X (.For tg iter R [] pos) (Rz wi g tb):=by
 intro pins s σ H D I h;rwa[wpAny_For (bj @cr λv s1 h1=>bj h1 λag s2 h2=> ?_) hs];obtain ⟨it,fp,tn,J,H2,e,I2,T,ae,f2,W,⟨m0,w0⟩,ac⟩:=h2;subst e;have O:∀ {H':Hp},(∀b∈fp,H' b=none)->∀b∈fp,iI X pins H' b:=λhn b F=>⟨hn b F,(f2 b F).2⟩;rwa[codeAny_forLoop_any (λn s'=>∃i Y H',au X pins Y H' s'/\tn i s'.heap/\(∀b∈fp,H' b=none)/\W i n Y H') ?_ m0 ⟨0,σ,H2,I2,ae,λb F=>(f2 b F).1,w0⟩];rintro n s3 ⟨i,σ3,H3,I3,ab,Z,w3⟩
 rcases ac i n σ3 H3 w3 with ⟨ad,qn⟩|⟨go,N,hN,aa⟩
 ·rwa[wpAny_passesOwn hp (bj (T.done X rfl rfl rfl hc i pins s3 σ3 H3 X.xe I3 (O Z) ab ad) λr s4 ⟨hr,I4⟩=> ?_)];subst hr;exact wpAny_execs_nil ⟨σ3,H3,I4,qn⟩
 ·rwa[wpAny_passesOwn hp (bj (T.item X rfl rfl rfl hc i pins s3 σ3 H3 X.xe I3 (O Z) ab go) λr s4 ⟨u,hr,h4⟩=> ?_)];subst hr;rwa[wpAny_passesOwn hp (bj h4 λ_ s5 ⟨x,H5,I5,r5,y5,U,af⟩=> ?_)];have I5':=I5.pinned (O af) (T.obj _ _ U);rwa[wpAny_passesOwn hp (bj (hg _ s5 σ3 H5 x u _ I5' r5 (aa x H5 y5)) λ_ s6 ⟨σ6,H6,I6,q6⟩=> ?_)];rwa[wpAny_passesOwn hp (bj (F _ s6 σ6 H6 _ I6 q6) λf s7 S=> ?_)]
  have L:∀ {j:St} {z:Hp},au X (pins++qj fp s5.heap) j z s7->N j z->∃m,m<n/\∃i Y H',au X pins Y H' s7/\tn i s7.heap/\(∀b∈fp,H' b=none)/\W i m Y H':=λ{j z} B n7=>by
   obtain ⟨m',hm,w7⟩:=hN j z n7;rwa[⟨m',hm,i+1,j,z,B.unpinned,T.keep _ _ _ U λb F o e=>(B.pin (b,o) (mem_append_right _ (mem_append_right _ (gB F e)))).1,λb F=> ?_,w7⟩];obtain ⟨o,e,d⟩:=T.obj _ _ U b F;exact (B.pin (b,o) (mem_append_right _ (mem_append_right _ (gB F e)))).2.1
  cases f with
  |next=>obtain ⟨j,z,B,n7⟩:=S;exact L B n7
  |cont=>obtain ⟨j,z,B,n7⟩:=S;exact L B n7
  |brk=>obtain ⟨j,z,B,S⟩:=S;exact ⟨j,z,B.unpinned,S⟩
  |ret v=>obtain ⟨x7,j,z,B,r7,S⟩:=S;exact ⟨x7,j,z,B.unpinned,r7,S⟩
end
theorem F5 {K:Fg}{a:Addr}{xs:List V}{g:TG}{tb:TS}{D:m9}{σ:St}{H:Hp}(j:Nat->St->Hp->Prop)(B:j 0 σ H)(F:∀i σ H,i<=xs.length->j i σ H->az K H a xs)
(hs:∀i x σ H,xs[i]? =some x->j i σ H->g x σ H λσ2 H2=>tb {D with nx:=j (i+1),ct:=j (i+1),bk:=D.nx} σ2 H2)(J:∀σ H,j xs.length σ H->D.nx σ H):
 ∃W:Nat->Nat->St->Hp->Prop,(∃m,W 0 m σ H)/\∀i m σ H,W i m σ H->
  ((GZ K a).stop i H/\D.nx σ H)\/((GZ K a).go i H/\∃N:St->Hp->Prop,(∀σ' H',N σ' H'->∃m',m'<m/\W (i+1) m' σ' H')/\∀x H',(GZ K a).yld i H x H'->g x σ H' λσ2 H2=>tb {D with nx:=N,ct:=N,bk:=D.nx} σ2 H2):=by
 rwa[⟨λi m σ H=>m=xs.length - i/\i<=xs.length/\j i σ H,⟨xs.length,by simp,Nat.zero_le _,B⟩,?_⟩];rintro i m σ H ⟨rfl,hi,p⟩;have q:=F i σ H hi p;by_cases z:i<xs.length
 ·rwa[.inr ⟨⟨xs,xs[i],q,by simp [z]⟩,j (i+1),λσ' H' I=>⟨xs.length - (i+1),by lia,rfl,z,I⟩,λx H' y=> ?_⟩];obtain ⟨e,y⟩:=y;subst e;exact hs i x σ _ (y xs q) p
 ·have e:i=xs.length:=by lia
  subst e;exact .inl ⟨⟨xs,q,Nat.le_refl _⟩,J σ H p⟩
theorem Jt {K:Fg}{a:Addr}{xs:List V}{g:TG}{tb:TS}{D:m9}{σ:St}{H:Hp}(j:Nat->St->Hp->Prop)(B:j 0 σ H)(F:∀i σ H,i<=xs.length->j i σ H->aD K H a xs)
(hs:∀i x σ H,xs[i]? =some x->j i σ H->g x σ H λσ2 H2=>tb {D with nx:=j (i+1),ct:=j (i+1),bk:=D.nx} σ2 H2)(J:∀σ H,j xs.length σ H->D.nx σ H):
 ∃W:Nat->Nat->St->Hp->Prop,(∃m,W 0 m σ H)/\∀i m σ H,W i m σ H->
  ((GY K a).stop i H/\D.nx σ H)\/((GY K a).go i H/\∃N:St->Hp->Prop,(∀σ' H',N σ' H'->∃m',m'<m/\W (i+1) m' σ' H')/\∀x H',(GY K a).yld i H x H'->g x σ H' λσ2 H2=>tb {D with nx:=N,ct:=N,bk:=D.nx} σ2 H2):=by
 rwa[⟨λi m σ H=>m=xs.length - i/\i<=xs.length/\j i σ H,⟨xs.length,by simp,Nat.zero_le _,B⟩,?_⟩];rintro i m σ H ⟨rfl,hi,p⟩;have q:=F i σ H hi p;by_cases z:i<xs.length
 ·rwa[.inr ⟨⟨xs,xs[i],q,by simp [z]⟩,j (i+1),λσ' H' I=>⟨xs.length - (i+1),by lia,rfl,z,I⟩,λx H' y=> ?_⟩];obtain ⟨e,y⟩:=y;subst e;exact hs i x σ _ (y xs q) p
 ·have e:i=xs.length:=by lia
  subst e;exact .inl ⟨⟨xs,q,Nat.le_refl _⟩,J σ H p⟩
theorem Cq {lo:Int}{n:Nat}{g:TG}{tb:TS}{D:m9}{σ:St}{H:Hp}(j:Nat->St->Hp->Prop)(B:j 0 σ H)
(hs:∀i σ H,i<n->j i σ H->g (.int (lo+i)) σ H λσ2 H2=>tb {D with nx:=j (i+1),ct:=j (i+1),bk:=D.nx} σ2 H2)(J:∀σ H,j n σ H->D.nx σ H):
 ∃W:Nat->Nat->St->Hp->Prop,(∃m,W 0 m σ H)/\∀i m σ H,W i m σ H->
  ((JP lo n).stop i H/\D.nx σ H)\/((JP lo n).go i H/\∃N:St->Hp->Prop,(∀σ' H',N σ' H'->∃m',m'<m/\W (i+1) m' σ' H')/\∀x H',(JP lo n).yld i H x H'->g x σ H' λσ2 H2=>tb {D with nx:=N,ct:=N,bk:=D.nx} σ2 H2):=by
 rwa[⟨λi m σ H=>m=n - i/\i<=n/\j i σ H,⟨n,by simp,Nat.zero_le _,B⟩,?_⟩];rintro i m σ H ⟨rfl,hi,p⟩;by_cases z:i<n
 ·rwa[.inr ⟨z,j (i+1),λσ' H' I=>⟨n - (i+1),by lia,rfl,z,I⟩,λx H' y=> ?_⟩];obtain ⟨e,y⟩:=y;subst e y;exact hs i σ _ z p
 ·have e:i=n:=by lia
  subst e;exact .inl ⟨Nat.le_refl _,J σ H p⟩
abbrev R2:=V->V->Hp->VK->Prop
def cL (X:Cx)(f:Value->Value->Sem Value)(r:R2):Prop:=
 ∀(pins:List (Addr×Obj)) (s:Shared) (σ:St) (H:Hp) (x y:V) (v u:Value) (Q:VK),au X pins σ H s->ax x v->ax y u->r x y H Q->
  wpAny @d X.A (f v u) @u X.xe s
def NK (X:Cx)(f:Value->Sem Value)(r:V->Hp->VK->Prop):Prop:=
 ∀(pins:List (Addr×Obj)) (s:Shared) (σ:St) (H:Hp) (x:V) (v:Value) (Q:VK),au X pins σ H s->ax x v->r x H Q->
  wpAny @d X.A (f v) @u X.xe s
def bc (X:Cx)(f:Value)(r:List V->Hp->VK->Prop):Prop:=
 ∀(pins:List (Addr×Obj)) (s:Shared) (σ:St) (H:Hp) (xs:List V) (us:List Value) (Q:VK),au X pins σ H s->aH xs us->r xs H Q->
  wpAny @d X.A (call f us) @u X.xe s
def Sh (X:Cx)(r:V->Hp->(Bool->Hp->Prop)->Prop):Prop:=
 ∀(pins:List (Addr×Obj)) (s:Shared) (σ:St) (H:Hp) (x:V) (v:Value) (Q:Bool->Hp->Prop),au X pins σ H s->ax x v->r x H Q->
  wpAny @d X.A (truthy v) @dD X.xe s
def Qx (r:R2)(ta tb:TE):TE:=λσ H Q=>ta σ H λx H1=>tb σ H1 λy H2=>r x y H2 Q
def SB (r:V->Hp->VK->Prop)(ta:TE):TE:=λσ H Q=>ta σ H λx H1=>r x H1 Q
def rI (C:Int->Int->Prop)(g:Int->Int->V):R2:=λx y H Q=>∃i j,x= .int i/\y= .int j/\C i j/\Q @cO H
def Eo (g:Int->Int->V):R2:=λx y H Q=>∃i j,x= .int i/\y= .int j/\Q @cO H
def rU (g:Int->V):V->Hp->VK->Prop:=λx H Q=>∃i,x= .int i/\Q (g i) H
section
variable {X:Cx}{a b c:Expr}{ta tb tc:TE}{pos:Pos}
theorem Nx (j:PE X a ta)(U:PE X b tb){pins:List (Addr×Obj)}{s:Shared}{σ:St}{H:Hp}{R:V->V->Hp->Prop}(I:au X pins σ H s)
(h:ta σ H λx H1=>tb σ H1 λy H2=>R x y H2){Q:Value->Shared->Prop}{f:Value->Value->Sem Value}
(z:∀v u s2 x y H2,au X pins σ H2 s2->ax x v->ax y u->R x y H2->wpAny @d X.A (f v u) Q X.xe s2):
 wpAny @d X.A (eval a X.env) (λv s₁=>wpAny @d X.A (eval b X.env) (λu s₂=>wpAny @d X.A (f v u) Q X.xe s₂) X.xe s₁) X.xe s:=by
 rwa[bj @O λv J ⟨x,H1,L,B,F⟩=> ?_];rwa[bj (U pins J σ H1 _ L F) λu s2 ⟨y,H2,O,W,S⟩=> ?_];exact z v u s2 x y H2 O B W S
theorem cz {j:Operator}{r:R2}(B:cL X (binaryOp j) r)(F:PE X a ta)(L:PE X b tb):PE X (.BinOp a j b pos) @eR:=by
 intro pins s σ H Q I h;exact wpAny_BinOp (Nx F L I h λv u R x y H2 O J z q=>B pins R σ H2 x y v u Q O J z q)
theorem O1 {j:UnaryOp}{r:V->Hp->VK->Prop}(z:NK X (unaryOp j) r)(F:PE X a ta):PE X (.UnaryOp j a pos) (SB r ta):=by
 intro pins s σ H Q I h;exact UnaryOp_ (bj (F pins s σ H _ I h) λv O ⟨x,H1,L,B,J⟩=>z pins O σ H1 x v Q L B J)
theorem QD {f:Value->Value->Sem Value}{C:Int->Int->Prop}{g:Int->Int->Int}
(z:∀(i j:Int) (t u:Tok) (s:Shared) (Q:Value->Shared->Prop) (E:Value->Shared->Prop),C i j->Q (.int @cO s.toks) {s with toks:=s.toks+1}->wpAny @d X.A @cY Q E s):
 cL X f (rI C λi j=> .int @cO):=by
 intro pins s σ H x y v u Q I L B h;obtain ⟨i,j,rfl,rfl,F,q⟩:=h;obtain ⟨t,rfl⟩:=L;obtain ⟨J,rfl⟩:=B;exact z i j t J s _ _ F ⟨.int @cO,H,I.tok _,⟨_,rfl⟩,q⟩
theorem ID {f:Value->Value->Sem Value}{g:Int->Int->Int}
(z:∀(i j:Int) (t u:Tok) (s:Shared) (Q:Value->Shared->Prop) (E:Value->Shared->Prop),Q (.int @cO s.toks) {s with toks:=s.toks+1}->wpAny @d X.A @cY Q E s):
 cL X f (Eo λi j=> .int @cO):=by
 intro pins s σ H x y v u Q I J B h;obtain ⟨i,j,rfl,rfl,q⟩:=h;obtain ⟨t,rfl⟩:=J;obtain ⟨F,rfl⟩:=B;exact z i j t F s _ _ ⟨.int @cO,H,I.tok _,⟨_,rfl⟩,q⟩
theorem IE {f:Value->Value->Sem Value}{g:Int->Int->Bool}
(z:∀(i j:Int) (t u:Tok) (s:Shared) (Q:Value->Shared->Prop) (E:Value->Shared->Prop),Q (.bool @cO) s->wpAny @d X.A @cY Q E s):
 cL X f (Eo λi j=> .bl @cO):=by
 intro pins s σ H x y v u Q I J B h;obtain ⟨i,j,rfl,rfl,q⟩:=h;obtain ⟨t,rfl⟩:=J;obtain ⟨F,rfl⟩:=B;exact z i j t F s _ _ ⟨.bl @cO,H,I,rfl,q⟩
def CO (i j:Int):Prop:=0<j/\j<1073741824
def G7 (i j:Int):Prop:=0<=j/\j<=1000000/\i.natAbs<2^64
def rA (i j:Int):Prop:=(-(2^64)<i/\i<2^64)\/(-(2^64)<j/\j<2^64)
theorem rA.ok {i j:Int}(h:rA i j):IntMulOk i j:=by
 rcases h with ⟨h1,h2⟩|⟨h1,h2⟩
 ·exact .of_left (intBits_le_64 h1 h2)
 ·exact .of_right (intBits_le_64 h1 h2)
theorem Mf:cL X @bt (Eo λi j=> .int (i+j)):=ID λ_ _ _ _ _ _ _ q=>add_int q
theorem L7:cL X (binaryOp .Sub) (Eo λi j=> .int (i - j)):=ID λ_ _ _ _ _ _ _ q=>sub_int q
theorem L9:cL X @eW (rI rA λi j=> .int (i*j)):=QD λ_ _ _ _ _ _ _ I q=>mul_int q I.ok
theorem IA:cL X (binaryOp .FloorDiv) (rI CO λi j=> .int (i / j)):=QD λi j _ _ _ _ _ I q=>by
 have h1:(0:Int)<j:=I.1;have h2:j<1073741824:=I.2;exact floordiv_int @c (by rw [Int.fdiv_eq_ediv_of_nonneg i @c];exact q) (.inl (PyProof.noPylong_small @c))
theorem Ma:cL X (binaryOp .Mod) (rI (λ_ j=>0<j) λi j=> .int (i% j)):=QD λi j _ _ _ _ _ I q=>by
 have h1:(0:Int)<j:=I;exact mod_int' @c (by rw [Int.fmod_eq_emod_of_nonneg i @c];exact q)
theorem L8:cL X (binaryOp .LShift) (rI G7 λi j=> .int (i*2^j.toNat)):=QD λ_ _ _ _ _ _ _ I q=>lshift_int_small I.1 I.2.1 I.2.2 q
theorem Me:cL X (binaryOp .BitAnd) (Eo λi j=> .int (Builtin.bitAnd i j)):=ID λ_ _ _ _ _ _ _ q=>and_int q
theorem O4:cL X (binaryOp .BitOr) (Eo λi j=> .int (Builtin.bitOr i j)):=ID λ_ _ _ _ _ _ _ q=>or_int q
theorem SA {f:Value->Sem Value}{g:Int->Int}
(z:∀(i:Int) (t:Tok) (s:Shared) (Q:Value->Shared->Prop) (E:Value->Shared->Prop),Q (.int (g i) s.toks) {s with toks:=s.toks+1}->wpAny @d X.A (f (.int i t)) Q E s):
 NK X f (rU λi=> .int (g i)):=by
 intro pins s σ H x v Q I J h;obtain ⟨i,rfl,q⟩:=h;obtain ⟨t,rfl⟩:=J;exact z i t s _ _ ⟨.int (g i),H,I.tok _,⟨_,rfl⟩,q⟩
theorem K7:NK X (unaryOp .USub) (rU λi=> .int (-i)):=SA λ_ _ _ _ _ q=>neg_int q
end
noncomputable def Lz:V->V->Bool
 | .non,.non=>true| .non,.int _=>true| .int _,.non=>true| .non,.bl _=>true| .bl _,.non=>true| .non,.str _=>true| .str _,.non=>true
 | .int _,.int _=>true| .bl _,.bl _=>true| .str _,.str _=>true| .byt _,.byt _=>true
 | .int _,.str _=>true| .str _,.int _=>true| .bl _,.str _=>true| .str _,.bl _=>true
 |_,_=>false
def SG:R2:=λx y H Q=>Lz x y=true/\Q (.bl (decide (x=y))) H
def SF:R2:=λx y H Q=>Lz x y=true/\Q (.bl (!decide (x=y))) H
theorem AZ {i j:Int}:decide (V.int i=V.int j)=(i==j):=by
 rw [Bool.eq_iff_iff];simp
theorem Gj {i j:Bool}:decide (V.bl i=V.bl j)=(i==j):=by
 rw [Bool.eq_iff_iff];simp
theorem AY {i j:Str}:decide (V.str i=V.str j)=(i==j):=by
 rw [Bool.eq_iff_iff];simp
theorem A0 {i j:Array UInt8}:decide (V.byt i=V.byt j)=(i.toList==j.toList):=by
 rw [Bool.eq_iff_iff];cases i;cases j;simp
section
variable {X:Cx}{a b c:Expr}{ta tb tc:TE}{pos:Pos}
theorem aR {pins:List (Addr×Obj)}{σ:St}{H:Hp}{s:Shared}{Q:VK}{k j:Bool}(I:au X pins σ H s)(q:Q (.bl k) H)(e:k=j):EP X pins σ Q (.bool j) s:=by
 subst e;exact ⟨.bl k,H,I,rfl,q⟩
theorem Pa:cL X (compareOp .Eq) SG:=by
 intro pins s σ H x y v u Q I J z h;obtain ⟨hs,q⟩:=h
 cases x with
 |non=>
  cases J
  cases y with
  |non=>cases z;exact PySem.EqNone.eq_none_none @H
  |bl j=>cases z;exact PySem.EqNone.eq_none_bool @H
  |int j=>obtain ⟨B,rfl⟩:=z;exact PySem.EqNone.eq_none_int @H
  |str j=>obtain ⟨B,rfl⟩:=z;exact PySem.EqNone.eq_none_str @H
  |_=>exact absurd (show false=true from hs) Bool.false_ne_true
 |bl i=>
  cases J
  cases y with
  |non=>cases z;exact PySem.EqNone.eq_bool_none @H
  |bl j=>cases z;exact eq_bool (aR I q Gj)
  |str j=>obtain ⟨B,rfl⟩:=z;exact PySem.EqMixed.eq_bool_str @H
  |_=>exact absurd (show false=true from hs) Bool.false_ne_true
 |int i=>
  obtain ⟨t,rfl⟩:=J
  cases y with
  |non=>cases z;exact PySem.EqNone.eq_int_none @H
  |int j=>obtain ⟨B,rfl⟩:=z;exact eq_int (aR I q AZ)
  |str j=>obtain ⟨B,rfl⟩:=z;exact PySem.EqMixed.eq_int_str @H
  |_=>exact absurd (show false=true from hs) Bool.false_ne_true
 |str i=>
  obtain ⟨t,rfl⟩:=J
  cases y with
  |non=>cases z;exact PySem.EqNone.eq_str_none @H
  |bl j=>cases z;exact PySem.EqMixed.eq_str_bool @H
  |int j=>obtain ⟨B,rfl⟩:=z;exact PySem.EqMixed.eq_str_int @H
  |str j=>obtain ⟨B,rfl⟩:=z;exact eq_str (aR I q AY)
  |_=>exact absurd (show false=true from hs) Bool.false_ne_true
 |byt i=>
  obtain ⟨t,rfl⟩:=J
  cases y with
  |byt j=>obtain ⟨B,rfl⟩:=z;exact W.eq_bytes (aR I q A0)
  |_=>exact absurd (show false=true from hs) Bool.false_ne_true
 |_=>cases y<;>exact absurd (show false=true from hs) Bool.false_ne_true
theorem O5:cL X (compareOp .NotEq) SF:=by
 intro pins s σ H x y v u Q I J z h;obtain ⟨hs,q⟩:=h
 cases x with
 |non=>
  cases J
  cases y with
  |non=>cases z;exact PySem.EqNone.ne_none_none @H
  |bl j=>cases z;exact PySem.EqNone.ne_none_bool @H
  |int j=>obtain ⟨B,rfl⟩:=z;exact PySem.EqNone.ne_none_int @H
  |str j=>obtain ⟨B,rfl⟩:=z;exact PySem.EqNone.ne_none_str @H
  |_=>exact absurd (show false=true from hs) Bool.false_ne_true
 |bl i=>
  cases J
  cases y with
  |non=>cases z;exact PySem.EqNone.ne_bool_none @H
  |bl j=>cases z;exact ne_bool (aR I q (congrArg not Gj))
  |str j=>obtain ⟨B,rfl⟩:=z;exact PySem.EqMixed.ne_bool_str @H
  |_=>exact absurd (show false=true from hs) Bool.false_ne_true
 |int i=>
  obtain ⟨t,rfl⟩:=J
  cases y with
  |non=>cases z;exact PySem.EqNone.ne_int_none @H
  |int j=>obtain ⟨B,rfl⟩:=z;exact ne_int (aR I q (congrArg not AZ))
  |str j=>obtain ⟨B,rfl⟩:=z;exact PySem.EqMixed.ne_int_str @H
  |_=>exact absurd (show false=true from hs) Bool.false_ne_true
 |str i=>
  obtain ⟨t,rfl⟩:=J
  cases y with
  |non=>cases z;exact PySem.EqNone.ne_str_none @H
  |bl j=>cases z;exact PySem.EqMixed.ne_str_bool @H
  |int j=>obtain ⟨B,rfl⟩:=z;exact PySem.EqMixed.ne_str_int @H
  |str j=>obtain ⟨B,rfl⟩:=z;exact ne_str (aR I q (congrArg not AY))
  |_=>exact absurd (show false=true from hs) Bool.false_ne_true
 |byt i=>
  obtain ⟨t,rfl⟩:=J
  cases y with
  |byt j=>obtain ⟨B,rfl⟩:=z;exact W.ne_bytes (aR I q (congrArg not A0))
  |_=>exact absurd (show false=true from hs) Bool.false_ne_true
 |_=>cases y<;>exact absurd (show false=true from hs) Bool.false_ne_true
theorem O6:cL X (compareOp .Lt) (Eo λi j=> .bl (decide (i<j))):=IE λ_ _ _ _ _ _ _ q=>lt_int q
theorem O7:cL X (compareOp .LtE) (Eo λi j=> .bl (decide (i<=j))):=IE λ_ _ _ _ _ _ _ q=>le_int q
theorem O8:cL X (compareOp .Gt) (Eo λi j=> .bl (decide (j<i))):=IE λ_ _ _ _ _ _ _ q=>gt_int q
theorem O9:cL X (compareOp .GtE) (Eo λi j=> .bl (decide (j<=i))):=IE λ_ _ _ _ _ _ _ q=>ge_int q
theorem BQ:cL X @cj (λx y H Q=>∃i j,x= .str i/\y= .str j/\Q (.bl (!(Builtin.Str.occurrences j i 0 j.length 1).isEmpty)) H):=by
 intro pins s σ H x y v u Q I J z h;obtain ⟨i,j,rfl,rfl,q⟩:=h;obtain ⟨t,rfl⟩:=J;obtain ⟨B,rfl⟩:=z;exact in_str (aR I q rfl)
theorem Mb:cL X (compareOp .Is) (λx y H Q=>y= .non/\Q (.bl (decide (x= .non))) H):=by
 intro pins s σ H x y v u Q I J z h;obtain ⟨rfl,q⟩:=h;cases z;rwa[is_none_gen (aR I q ?_)]
 cases x<;>first
  |(cases J;rfl)
  |(obtain ⟨t,rfl⟩:=J;rfl)
theorem u6:cL X @ck (λx y H Q=>∃i j,x= .str i/\y= .str j/\Q (.bl (!(!(Builtin.Str.occurrences j i 0 j.length 1).isEmpty))) H):=by
 intro pins s σ H x y v u Q I J z h;obtain ⟨i,j,rfl,rfl,q⟩:=h;obtain ⟨t,rfl⟩:=J;obtain ⟨B,rfl⟩:=z;exact notIn_str (aR I q rfl)
theorem cL.or {f:Value->Value->Sem Value}{r O:R2}(h:cL X f r)(h':cL X f O):cL X f (λx y H Q=>r x y H Q\/O x y H Q):=by
 intro pins s σ H x y v u Q I J z q
 rcases q with q|q
 ·exact h pins s σ H x y v u Q I J z q
 ·exact h' pins s σ H x y v u Q I J z q
theorem bN (b:Expr){j:CmpOp}(h:j≠ .In:=by decide)(h2:j≠ .NotIn:=by decide):behindInMarks j b=false:=by
 have S:(j==CmpOp.In)=false:=by cases j<;>first|rfl|exact absurd rfl h
 have R:(j==CmpOp.NotIn)=false:=by cases j<;>first|rfl|exact absurd rfl h2
 cases b<;>simp [behindInMarks,S,R]
theorem cr {j:CmpOp}{r:R2}(B:cL X @er r)(F:PE X a ta)(S:PE X b tb)(L:behindInMarks j b=false):PE X (.Compare a [j] [b] pos) @eR:=by
 intro pins s σ H Q I h;exact wpAny_Compare1 (Nx F S I h λv u R x y H2 O J z q=>B pins R σ H2 x y v u Q O J z q) L
def Qd (K:Fg)(x:V)(H:Hp)(k:Bool):Prop:=
 match x with
 | .non=>k=false
 | .bl b=>k=b
 | .int i=>k=(i != 0)
 | .str y=>y.length<=sizeLine/\k=((y.length:Int) != 0)
 | .byt y=>y.size<=sizeLine/\k=((y.size:Int) != 0)
 | .ref p=>(∃xs,az K H p xs/\k= !xs.isEmpty)\/(∃xs,aD K H p xs/\k= !xs.isEmpty)\/∃kvs,H p=some (.dK kvs)/\k= !kvs.isEmpty
 |_=>False
theorem zC {κ:Type}{kvs:List (κ×V)}{vs:List (κ×Value)}(r:KV kvs vs):(!vs.isEmpty)= !kvs.isEmpty:=by
 cases r<;>rfl
theorem qE {xs:List V}{its:List Value}(r:aH xs its):(!its.toArray.isEmpty)= !xs.isEmpty:=by
 cases r<;>simp
theorem iq:(sizeLine:Nat)<2^63:=by rw [sizeLine_eq];decide
theorem ia:Sh X (λx H Q=>∃k,Qd X.K x H k/\Q k H):=by
 intro pins s σ H x v Q I J h;obtain ⟨k,e,q⟩:=h;have S:=iq;have hs:sizeLine=16777216:=sizeLine_eq
 cases x with
 |non=>
  cases J;have j:k=false:=e;subst j;exact truthy_none ⟨H,I,q⟩
 |bl b=>
  cases J;have j:k=b:=e;subst j;exact wpAny_truthy_bool ⟨H,I,q⟩
 |int i=>
  obtain ⟨t,rfl⟩:=J;have j:k=(i != 0):=e;subst j;exact PySem.P.truthy_int ⟨H,I,q⟩
 |str y=>
  obtain ⟨t,rfl⟩:=J;obtain ⟨R,j⟩:y.length<=sizeLine/\k=((y.length:Int) != 0):=e;subst j;exact PySem.P.truthy_str @c ⟨H,I.tok _,q⟩
 |byt y=>
  obtain ⟨t,rfl⟩:=J;obtain ⟨R,j⟩:y.size<=sizeLine/\k=((y.size:Int) != 0):=e;subst j;exact W.truthy_bytes @c ⟨H,I.tok _,q⟩
 |ref p=>
  cases J;have j:(∃xs,az X.K H p xs/\k= !xs.isEmpty)\/(∃xs,aD X.K H p xs/\k= !xs.isEmpty)\/∃kvs,H p=some (.dK kvs)/\k= !kvs.isEmpty:=e
  rcases j with ⟨xs,B,j⟩|⟨xs,B,j⟩|⟨kvs,B,j⟩
  ·subst j;obtain ⟨its,r,pl,F⟩:=I.list B;have z:=r.length;exact wpAny_truthy_list pl.isList (by simp only [size_toArray];lia) ⟨H,I.tok _,by rw [qE r];exact q⟩
  ·subst j;obtain ⟨its,r,pl,F⟩:=I.tuple B;have z:=r.length;exact truthy_tuple pl (by simp only [size_toArray];lia) ⟨H,I.tok _,by rw [qE r];exact q⟩
  ·subst j;obtain ⟨F,O,L,r,m⟩:kvs.length<=sizeLine/\(p==sysModules)=false/\∃L,KV kvs L/\s.heap.DictOf (bY X.prog X.w) p L:=I.hok p _ B;have z:kvs.length=L.length:=Paired.length r;exact wpAny_truthy_dict O m @c ⟨H,I.tok _,by rw [zC r];exact q⟩
 |_=>exact (show False from e).elim
theorem zc:cL X @bt (λx y H Q=>∃i j,x= .str i/\y= .str j/\i.length+j.length<=sizeLine/\Q (.str (i++j)) H):=by
 intro pins s σ H x y v u Q I J F h;obtain ⟨i,j,rfl,rfl,B,q⟩:=h;obtain ⟨t,rfl⟩:=J;obtain ⟨z,rfl⟩:=F;exact add_str (λz tk=>⟨.str (i++j),H,I.tok _,⟨_,rfl⟩,q⟩) B
theorem fg {x:V}{us:List Value}(r:aH [x] us):∃u,us=[u]/\ax x u:=by
 cases r with
 |cons r1 r2=>cases r2;exact ⟨_,rfl,r1⟩
theorem JY {x y:V}{us:List Value}(r:aH [x,y] us):∃u w',us=[u,w']/\ax x u/\ax y w':=by
 cases r with
 |cons r1 r2=>
  cases r2 with
  |cons r3 r4=>cases r4;exact ⟨_,_,rfl,r1,r3⟩
theorem Gw:bc X (.builtin "abs") (λxs H Q=>∃i,xs=[.int i]/\Q (.int (if i<0 then -i else i)) H):=by
 intro pins s σ H xs j Q I r h;obtain ⟨i,rfl,q⟩:=h;obtain ⟨u,rfl,t,rfl⟩:=fg r;exact call_abs_int λu tk=>⟨.int (if i<0 then -i else i),H,I.tok _,⟨_,rfl⟩,q⟩
theorem CF:bc X (.type "int") (λxs H Q=>(∃i,xs=[.int i]/\Q (.int i) H)\/∃k,xs=[.bl k]/\Q (.int (if k then 1 else 0)) H):=by
 intro pins s σ H xs j Q I r h
 rcases h with ⟨i,rfl,q⟩|⟨k,rfl,q⟩
 ·obtain ⟨u,rfl,t,rfl⟩:=fg r;exact call_int_int ⟨.int i,H,I,⟨_,rfl⟩,q⟩
 ·obtain ⟨u,rfl,z⟩:=fg r;cases z;exact call_int_bool ⟨.int (if k then 1 else 0),H,I.tok _,⟨_,rfl⟩,q⟩
end
structure Ab (h:Heap)(x dx C:Addr)(mA:Str->Option Value):Prop where
 obj:h.get? x=some @dG
 ns:h.Ns1 dx mA
 ne:dx≠x
theorem Cc {h:Heap}{dx:Addr}{mA:Str->Option Value}(n:h.Ns1 dx mA):∃od,h.get? dx=some od/\∀name,W.lookIn name od=some (mA name):=by
 obtain ⟨o,es,O,I,J,R,_,B⟩:=n;rwa[⟨o,I,λname=> ?_⟩];have e:=B name;unfold nsFind findBy at e;rw [<-Array.find?_toList] at e;unfold W.lookIn;rw [J];dsimp only;split
 ·rename_i y q;rw [q] at e;exact congrArg some e
 ·rename_i q;rw [q] at e
  have a:es.toList.any (·.refKey)=false:=by
   rw [any_eq_false];intro y L;obtain ⟨z,t,j⟩:=R y (Array.mem_toList_iff.mp L);simp [DictEntry.refKey,j]
  have F: ¬es.toList.any (·.refKey)=true:=by rw [a];exact Bool.false_ne_true
  rw [if_neg F];exact congrArg some e
theorem Ab.look {h:Heap}{x dx C:Addr}{mA:Str->Option Value}(I:Ab h x dx C mA):∃od,PySem.W.InstAt h x @dG C (some od)/\∀name,W.lookIn name od=some (mA name):=
 let ⟨od,ho,hl⟩:=Cc I.ns
 ⟨od,⟨I.obj,rfl,rfl,ho⟩,hl⟩
section
variable {prog:Program}{w:World}{A:Around}{E:Value->Shared->Prop}{s:Shared}{K:Fg}{x dx C f:Addr}{mA:Str->Option Value}{name:Str}{v:Value}
theorem Jq {j:Bool}{Q:Value->Shared->Prop}(X:K.In s.heap)(I:Ab s.heap x dx C mA)(R:W.plainGet K C name=true)(L:W.hasDictIn K C=true)
(F:W.findIn K (.ref C) name=some none)(B:mA name=some v)(z:W.handedIn v=true)(h:Q v {s with toks:=s.toks+1}):
 wpAny @i A (getAttr (.ref x) name j) Q E s:=by
 obtain ⟨S,J,O⟩:=I.look;exact W.get_value X J (W.plainGet_of R).1 (W.findObj_own L F rfl (by rw [O,B])) z h
theorem FT {pl:Sem Bool}{Q:Value×List Value->Shared->Prop}(X:K.In s.heap)(I:Ab s.heap x dx C mA)(j:W.plainGet K C name=true)
(z:W.findIn K (.ref C) name=some @Y)(O:W.isFn K (.ref f)=true)(B:mA name=none)(h:Q (.ref f,[.ref x]) s):
 wpAny @i A (getMethod (.ref x) name pl) Q E s:=by
 obtain ⟨F,J,L⟩:=I.look;exact W.method_fn X J (W.plainGet_of j).1 (W.plainGet_of j).2 z (beq_iff_eq.mp O) (by show (W.lookIn name F).map (·.isSome)=some false;rw [L,B];rfl) h
theorem HQ {R:List Str}{Q:Unit->Shared->Prop}(X:K.In s.heap)(I:Ab s.heap x dx C mA)
(hs:W.findIn K (.ref C) "__setattr__"=some (some (.builtin "object.__setattr__")))(hp:W.plainOver K C=true)(ht:W.takerIn K C name=some none)(hh:W.hasDictIn K C=true)
(Y:PySem.Within mA R)(hsz:R.length<=sizeLine)
(h:∀h',Ab h' x dx C (λy=>if y=name then some v else mA y)->Heap.SameBut dx s.heap h'->Q () {s with heap:=h',toks:=s.toks+2}):
 wpAny @i A (setAttr (.ref x) name v) Q E s:=by
 obtain ⟨od,J,hl⟩:=I.look;rwa[W.set_plain X J hs (W.osa_open (s:= {s with toks:=s.toks+1}) (r:=none) X J hp ht λb=> ?_)];obtain ⟨cd,S,F⟩:=W.any_some hh;have Z:s.heap.get? x=some ⟨.ref C,some dx,.plain,#[]⟩:=I.obj;rwa[wpAny_bind (wpAny_pure (wpAny_bind (wpAny_bind (wpAny_loadPart Z (wpAny_bind (PySem.W.Looks.here (s:= {s with toks:=s.toks+1}) (W.looks_clsIn X S) ?_))))))];rw [F];rwa[wpAny_pure (a:=some dx) (wpAny_bind (wpAny_pure @fh))];rwa[wpAny_nsSet1 (s:= {s with toks:=s.toks+1}) I.ns λh' j z=> ?_];obtain ⟨oD,aa,U,L,B,O⟩:=j.count (PySem.Within.cons name v Y);rwa[wpAny_bind (wpAny_lookBehind L (by rw [B];exact pastItsLine_dict (Nat.le_trans O (by rw [length_cons];lia))) ?_)];exact wpAny_pure (h _ ⟨(z.2 _ (Ne.symm I.ne)).trans I.obj,j,I.ne⟩ z)
theorem Ft {R:Result->Shared->Prop}{vs:List Value}{z:List (Str×Value)}(X:K.In s.heap)(B:W.makesIn K C=true)
(hi:W.findIn K (.ref C) "__init__"=some @Y)(F:W.typeIn K (.ref f)=some (.type "function"))
(h:codeAny @i (A.under (.builtin "type.__call__" ⟨.ref C::vs,z⟩)) (.call (.ref f) ⟨.ref (s.heap.objs.size+1)::vs,z⟩) (PySem.W.InitBack (s.heap.objs.size+1) R)
   {s with heap:=(s.heap.push W.emptyDict).push @w}):
 codeAny @i A (.call (.ref C) ⟨vs,z⟩) R s:=by
 obtain ⟨L,g,d,t,os⟩:=s;exact W.make_core (W.makes_of X B) (W.looks_findIn X hi) (λj=>W.bind_fn X j F) (.inl rfl) h
theorem B8 {R:Result->Shared->Prop}(X:K.In s.heap)(B:W.makesIn K C=true)
(hi:W.findIn K (.ref C) "__init__"=some (some (.builtin "object.__init__")))
(j:∀self,PySem.W.Looks @i s.heap (bindSpecial (.builtin "object.__init__") self) (.builtin "object.__init__",[self]))
(h:codeAny @i (A.under (.builtin "type.__call__" ⟨[.ref C],[]⟩)) (.call (.builtin "object.__init__") ⟨[.ref (s.heap.objs.size+1)],[]⟩) (PySem.W.InitBack (s.heap.objs.size+1) R)
   {s with heap:=(s.heap.push W.emptyDict).push @w}):
 codeAny @i A (.call (.ref C) ⟨[],[]⟩) R s:=by
 obtain ⟨L,g,d,t,os⟩:=s;exact W.make_core (W.makes_of X B) (W.looks_findIn X hi) j (.inr ⟨rfl,rfl⟩) h
end
noncomputable def putF (f:Str)(v:V):List (Str×V)->List (Str×V)
 |[]=>[(f,v)]
 |(g,x)::r=>if g=f then (g,v)::r else (g,x)::putF f v r
theorem nJ (f g:Str)(v:V):∀fs:List (Str×V),(putF f v fs).lookup g=if g=f then some v else fs.lookup g
 |[]=>by
  show List.lookup g [(f,v)]=_;by_cases h:g=f
  ·have B:(g==f)=true:=beq_iff_eq.mpr h;simp only [List.lookup,B,if_pos h]
  ·have B:(g==f)=false:=beq_eq_false_iff_ne.mpr h;simp only [List.lookup,B,if_neg h]
 |(k,x)::r=>by
  have j:=nJ f g v r;rw [show putF f v ((k,x)::r)=(if k=f then (k,v)::r else (k,x)::putF f v r) from rfl];by_cases R:k=f
  ·rw [if_pos R];by_cases h:g=k
   ·have B:(g==k)=true:=beq_iff_eq.mpr h;simp only [List.lookup,B,if_pos (h.trans R)]
   ·have B:(g==k)=false:=beq_eq_false_iff_ne.mpr h;simp only [List.lookup,B,if_neg (λe:g=f=>h (e.trans R.symm))]
  ·rw [if_neg R];by_cases h:g=k
   ·have B:(g==k)=true:=beq_iff_eq.mpr h;simp only [List.lookup,B,if_neg (λe:g=f=>R (h.symm.trans e))]
   ·have B:(g==k)=false:=beq_eq_false_iff_ne.mpr h;simp only [List.lookup,B];exact j
theorem mI (f:Str)(v:V):∀fs:List (Str×V),f∈(putF f v fs).map (·.1)/\∀g,g∈fs.map (·.1)->g∈(putF f v fs).map (·.1)
 |[]=>⟨by simp [putF],λg h=>by simp at h⟩
 |(k,x)::r=>by
  obtain ⟨j,z⟩:=mI f v r;rw [show putF f v ((k,x)::r)=(if k=f then (k,v)::r else (k,x)::putF f v r) from rfl];by_cases R:k=f
  ·rw [if_pos R];subst R;exact ⟨by simp,λg h=>by simpa using h⟩
  ·rw [if_neg R];rwa[⟨?_,λg h=> ?_⟩]
   ·rw [map_cons];exact mem_cons_of_mem _ j
   ·rw [map_cons] at h ⊢
    rcases mem_cons.mp h with e|e
    ·exact mem_cons.mpr (.inl e)
    ·exact mem_cons_of_mem _ (z g e)
theorem nK (f:Str)(v:V):∀fs:List (Str×V),(putF f v fs).length<=fs.length+1
 |[]=>by simp [putF]
 |(k,x)::r=>by
  have j:=nK f v r;rw [show putF f v ((k,x)::r)=(if k=f then (k,v)::r else (k,x)::putF f v r) from rfl];by_cases R:k=f
  ·rw [if_pos R,length_cons,length_cons];lia
  ·rw [if_neg R,length_cons,length_cons];lia
theorem iZ.some_of {v:V}{o:Option Value}(r:iZ @bq o):∃u,o=some u/\ax v u:=by
 cases o with
 |none=>exact (show False from r).elim
 |some u=>exact ⟨u,rfl,r⟩
theorem iZ.none_of {o:Option Value}(r:iZ none o):o=none:=by
 cases o with
 |none=>rfl
 |some u=>exact (show False from r).elim
theorem Co {v:V}{u:Value}(r:ax v u):W.handedIn u=true:=by
 cases v with
 |non=>cases (show u=Value.none from r);rfl
 |bl b=>cases (show u=Value.bool b from r);rfl
 |int i=>obtain ⟨t,e⟩:=(show ∃t,u=Value.int i t from r);cases e;rfl
 |str x=>obtain ⟨t,e⟩:=(show ∃t,u=Value.str x t from r);cases e;rfl
 |byt b=>obtain ⟨t,e⟩:=(show ∃t,u=Value.bytes b t from r);cases e;rfl
 |flt b=>obtain ⟨t,e⟩:=(show ∃t,u=Value.float b t from r);cases e;rfl
 |ref a=>cases (show u=Value.ref a from r);rfl
 |ty n=>cases (show u=Value.type n from r);rfl
section
variable {P:Program}{w:World}{H H':Hp}{h h':Heap}{a C dx:Addr}{fs fs':List (Str×V)}
theorem oV (af:fA P w H h)(e:H a=some (.ins C dx fs)):∃mA,Ab h a dx C mA/\(∀f,iZ @fJ (mA f))/\PySem.Within mA (fs.map (·.1))/\fs.length<=1000/\H dx=some (.own a):=by
 obtain ⟨d,z,O,j,mA,n,r,q⟩:=(show bb P w H h a (.ins C dx fs) from af a _ e);exact ⟨mA,⟨j,n,O⟩,r,q,z,d⟩
end
structure tS (K:Fg)(C:Addr):Prop where
 pg:W.plainGet K C Str.empty=true
 hd:W.hasDictIn K C=true
 po:W.plainOver K C=true
 sa:W.findIn K (.ref C) "__setattr__"=some (some (.builtin "object.__setattr__"))
theorem tS.get {K:Fg}{C:Addr}(c:tS K C)(f:Str):W.plainGet K C f=true:=c.pg
def aK (K:Fg)(C:Addr)(f:Str):Prop:=W.findIn K (.ref C) f=some none
theorem aK.taker {K:Fg}{C:Addr}{f:Str}(n:aK K C f):W.takerIn K C f=some none:=by
 unfold W.takerIn;rw [show W.findIn K (.ref C) f=some none from n];rfl
structure Con (K:Fg)(C:Addr)(f:Str)(v:V)(u:Value):Prop where
 at_:W.findIn K (.ref C) f=some @fb
 rel:ax v u
 get:W.specialIn K u "__get__"=some none
 cp:W.copiedNames.contains f=false
structure GR (K:Fg)(C:Addr)(m:Str)(f:Addr):Prop where
 at_:W.findIn K (.ref C) m=some @Y
 fn:W.isFn K (.ref f)=true
 kp:W.keepIn K (.ref f)=true
section
variable {X:Cx}{pins:List (Addr×Obj)}{σ:St}{H:Hp}{s:Shared}{a C dx:Addr}{fs:List (Str×V)}{f:Str}{v:V}{A:Around}{E:Value->Shared->Prop}
theorem zF {b:Bool}{Q:Value->Shared->Prop}(I:au X pins σ H s)(e:H a=some (.ins C dx fs))(c:tS X.K C)(n:aK X.K C f)(l:fs.lookup f=some v)
(h:∀u s',au X pins σ H s'->ax v u->Q u s'):wpAny @d A (getAttr (.ref a) f b) Q E s:=by
 obtain ⟨mA,O,r,_,_,_⟩:=oV I.hok e;obtain ⟨u,z,j⟩:=iZ.some_of (v:=v) (o:=mA f) (by rw [<-l];exact r f);exact Jq I.kIn O (c.get f) c.hd n z (Co j) (h u _ @fi j)
theorem qF {m:Str}{g:Addr}{pl:Sem Bool}{Q:Value×List Value->Shared->Prop}(I:au X pins σ H s)(e:H a=some (.ins C dx fs))(c:tS X.K C)(k:GR X.K C m g)(l:fs.lookup m=none)
(h:Q (.ref g,[.ref a]) s):wpAny @d A (getMethod (.ref a) m pl) Q E s:=by
 obtain ⟨mA,O,r,_,_,_⟩:=oV I.hok e;have z:mA m=none:=iZ.none_of (by rw [<-l];exact r m);exact FT I.kIn O (c.get m) k.at_ k.fn z h
theorem yB {y:V}{u:Value}{Q:Unit->Shared->Prop}(I:au X pins σ H s)(e:H a=some (.ins C dx fs))(c:tS X.K C)(n:aK X.K C f)(U:fs.length<1000)(F:ax y u)
(h:∀s',au X pins σ @bU s'->Q () s'):wpAny @d A (setAttr (.ref a) f u) Q E s:=by
 obtain ⟨mA,O,r,wi,_,B⟩:=oV I.hok e
 have J:(fs.map (·.1)).length<=sizeLine:=by rw [length_map,sizeLine_eq];lia
 rwa[HQ I.kIn O c.sa c.po n.taker c.hd wi J λh' j L=>h _ ?_];have R:∃o,h'.get? dx=some o:=let ⟨o,_,_,e',_⟩:=j.ns;⟨o,e'⟩;rwa[I.write (x:=a) (e:=dx) (by rw [e];exact True.intro) (.inr B) (λb q S z=>(L.2 b S).trans z) R ?_];rwa[⟨by rw [ag O.ne];exact B,?_,O.ne,j.obj,_,j.ns,λg=> ?_,λg W=> ?_⟩]
 ·have:=nK f y fs;lia
 ·show iZ ((putF f y fs).lookup g) (if g=f then some u else mA g);rw [nJ];by_cases q:g=f
  ·rw [if_pos q,if_pos q];exact F
  ·rw [if_neg q,if_neg q];exact r g
 ·by_cases q:g=f
  ·rw [q];exact (mI f y fs).1
  ·rwa[(mI f y fs).2 g (wi g λz=>W ?_)];show (if g=f then some u else mA g)=none;rw [if_neg q];exact z
theorem au.made (I:au X pins σ H s):au X pins σ (upd (upd H s.heap.objs.size (.own (s.heap.objs.size+1))) (s.heap.objs.size+1) (.ins C s.heap.objs.size []))
 {s with heap:=(s.heap.push W.emptyDict).push @w}:=by
 have S:(s.heap.push W.emptyDict).get? s.heap.objs.size=some W.emptyDict:=Heap.get?_push_size s.heap rfl
 have B:((s.heap.push W.emptyDict).push @w).get? (s.heap.objs.size+1)=some @w:=by
  have:=Heap.get?_push_size @eI (o:=W.instObj C s.heap.objs.size) rfl;rwa [Heap.size_push] at this
 have z:(s.heap.push W.emptyDict).Ns s.heap.objs.size (λ_=>none):=⟨W.emptyDict,#[],_,S,rfl,(λe j=>absurd j @f),λ_=>rfl⟩;have J:=I.laid (a:=s.heap.objs.size) (o:= .own (s.heap.objs.size+1)) (h':=s.heap.push W.emptyDict) (t':=s.toks) (λb u q=>Heap.get?_push_of_some _ q) @e ⟨_,S⟩;rwa[J.laid (a:=s.heap.objs.size+1) (o:= .ins C s.heap.objs.size []) (t':=s.toks) (λb u q=>Heap.get?_push_of_some _ q) (Nat.le_of_eq (Heap.size_push _ _)) ?_];have O:s.heap.objs.size≠s.heap.objs.size+1:=Nat.ne_of_lt @bT;rwa[⟨by rw [ag O,af],Nat.zero_le _,O,B,λ_=>none,(Heap.Ns1.of_empty z).at λo q=>Heap.get?_push_of_some _ q,λ_=>True.intro,λy R=>absurd rfl R⟩]
theorem JF {prog:Program}{w:World}{env:Env}{e:Expr}{f:Str}{pos:Pos}{s:Shared}{Q:Value->Shared->Prop}(B:attributeBase e f env (eval e env)=eval e env)
(h:wpAny @i A (eval e env) (λo s₁=>wpAny @i A (getAttr o f true) Q E s₁) E s):wpAny @i A (eval (.Attribute e f pos) env) Q E s:=
 Attribute_any_ h (by rw [arm_eval_Attribute,B])
end
section
variable {X:Cx}{pins:List (Addr×Obj)}{σ:St}{H:Hp}{s:Shared}{A:Around}{E:Value->Shared->Prop}{Q:Value->Shared->Prop}{c:Value}{b:Bool}
inductive iA (K:Fg)(H:Hp):V->Value->Prop where
 |non:iA K H .non (.type "NoneType")
 |bl (x:Bool):iA K H (.bl x) (.type "bool")
 |int (i:Int):iA K H (.int i) (.type "int")
 |str (x:Str):iA K H (.str x) (.type "str")
 |flt (x:UInt64):iA K H (.flt x) (.type "float")
 |lst {a:Addr} {xs:List V} (e:H a=some (.lst xs)):iA K H (.ref a) (.type "list")
 |frz {a:Addr} {o:Obj} {xs:List V} (e:H a=some (.frz o (.lst xs))):iA K H (.ref a) (.type "list")
 |tup {a:Addr} {xs:List V} (e:H a=some (.tup xs)):iA K H (.ref a) (.type "tuple")
 |dK {a:Addr} {kvs:List (dg×V)} (e:H a=some (.dK kvs)):iA K H (.ref a) (.type "dict")
 |dT {a:Addr} {kvs:List (List dg×V)} (e:H a=some (.dT kvs)):iA K H (.ref a) (.type "dict")
 |ins {a C dx:Addr} {fs:List (Str×V)} (e:H a=some (.ins C dx fs)) (cl:tS K C) (ha:W.findIn K (.ref C) "__class__"=some (some (.builtin "object.__class__")))
   (hn:W.specialIn K (.builtin "object.__class__") "__get__"=some (some (.builtin "getset_descriptor.__get__"))) (htk:W.takesIn K (.builtin "object.__class__")=some true)
   (hm:W.mroIn K C (.type "object")=some true):iA K H (.ref a) (.ref C)
theorem Cj {x:V}{u t:Value}(I:au X pins σ H s)(j:ax x u)(ty:iA X.K H x t)(e:W.kitOne X.K t c=some b)(h:∀tk,Q (.bool b) {s with toks:=tk}):
 wpAny @d A (call (.builtin "isinstance") [u,c]) Q E s:=by
 cases ty with
 |non=>cases (show u=Value.none from j);exact W.kia_one W.kitx_none I.kIn True.intro e (λz=>nomatch z) h
 |bl y=>cases (show u=Value.bool y from j);exact W.kia_one W.kitx_bool I.kIn True.intro e (λz=>nomatch z) h
 |int i=>obtain ⟨t,q⟩:=(show ∃t,u=Value.int i t from j);cases q;exact W.kia_one W.kitx_int I.kIn True.intro e (λz=>nomatch z) h
 |str y=>obtain ⟨t,q⟩:=(show ∃t,u=Value.str y t from j);cases q;exact W.kia_one W.kitx_str I.kIn True.intro e (λz=>nomatch z) h
 |flt y=>obtain ⟨t,q⟩:=(show ∃t,u=Value.float y t from j);cases q;exact W.kia_one W.kitx_float I.kIn True.intro e (λz=>nomatch z) h
 | @lst a xs ea=>
   cases (show u=Value.ref a from j);obtain ⟨_,_,n,_,h1⟩:=(show bb X.prog X.w H s.heap a (.lst xs) from I.hok a _ ea);exact W.kia_one W.kitx_list I.kIn ⟨_,h1,rfl⟩ e (λz=>nomatch z) h
 | @frz a ob xs ea=>
   cases (show u=Value.ref a from j);obtain ⟨_,_,_,n,_,h1⟩:=(show bb X.prog X.w H s.heap a (.frz ob (.lst xs)) from I.hok a _ ea);exact W.kia_one W.kitx_list I.kIn ⟨_,h1,rfl⟩ e (λz=>nomatch z) h
 | @tup a xs ea=>
   cases (show u=Value.ref a from j);obtain ⟨_,_,_,p⟩:=(show bb X.prog X.w H s.heap a (.tup xs) from I.hok a _ ea);obtain ⟨o,h1,h2,_⟩:=p;exact W.kia_one W.kitx_tuple I.kIn ⟨o,h1,h2⟩ e (λz=>nomatch z) h
 | @dK a kvs ea=>
   cases (show u=Value.ref a from j);obtain ⟨_,_,L,_,p⟩:=(show bb X.prog X.w H s.heap a (.dK kvs) from I.hok a _ ea);obtain ⟨o,es,B,h1,h2,_⟩:=p;exact W.kia_one W.kitx_dict I.kIn ⟨o,h1,h2.1⟩ e (λz=>nomatch z) h
 | @dT a kvs ea=>
   cases (show u=Value.ref a from j);obtain ⟨_,_,xs,_,o,es,B,h1,h2,_⟩:=(show bb X.prog X.w H s.heap a (.dT kvs) from I.hok a _ ea);exact W.kia_one W.kitx_dict I.kIn ⟨o,h1,h2.1⟩ e (λz=>nomatch z) h
 | @ins a C dx fs ea cl ha hn htk hm=>
   cases (show u=Value.ref a from j);obtain ⟨mA,O,_⟩:=oV I.hok ea;obtain ⟨F,J,_⟩:=O.look;exact W.kia_one (W.kitx_own (cl.get _) cl.hd ha hn htk hm) I.kIn J e (λz=>nomatch z) h
end
structure bC (k:Nat)(A:Around):Prop where
 hd:A.handled=none
 dp:A.depth+3*k+5<recursionLimit
 un:A.units+16*k+200<cLine
theorem bC.mono {j k:Nat}{A:Around}(r:bC k A)(h:j<=k):bC j A:=⟨r.hd,by have:=r.dp;lia,by have:=r.un;lia⟩
theorem bC.deeper {k:Nat}{A:Around}(r:bC (k+1) A)(env:Env):bC k (A.deeper env):=
 ⟨r.hd,by have:=r.dp;show A.depth+1+3*k+5<_;lia,by have:=r.un;show A.units+3+16*k+200<_;lia⟩
theorem bC.in1 {k:Nat}{A:Around}(r:bC (k+1) A):bC k A.in1:=
 ⟨r.hd,by have:=r.dp;show A.depth+3*k+5<_;lia,by have:=r.un;show A.units+1+16*k+200<_;lia⟩
theorem zr {A:Around}{C:Addr}{us:List Value}{z:List (Str×Value)}:(A.under (.builtin "type.__call__" ⟨.ref C::us,z⟩)).depth=A.depth+1:=by
 first|rfl|simp [Around.under,Code.weight,Code.isCreation,Code.isGuard,Code.isCaller,Code.frames,Code.isFrame,guardIds]
theorem zq {A:Around}{C:Addr}{us:List Value}{z:List (Str×Value)}:(A.under (.builtin "type.__call__" ⟨.ref C::us,z⟩)).units=A.units+1:=by
 first|rfl|simp [Around.under,Code.cUnits,Code.frames,Code.isFrame]
theorem bC.make {k:Nat}{A:Around}(r:bC (k+1) A)(C:Addr)(us:List Value)(z:List (Str×Value)):bC k (A.under (.builtin "type.__call__" ⟨.ref C::us,z⟩)):=
 ⟨r.hd,by have:=r.dp;rw [zr];lia,by have:=r.un;rw [zq];lia⟩
theorem bC.depth {k:Nat}{A:Around}(r:bC k A):A.depth<recursionLimit:=by have:=r.dp;lia
theorem bC.units {k:Nat}{A:Around}(r:bC k A):A.units+64<cLine:=by have:=r.un;lia
def Li:TA:=λ_ H Q=>Q [] H
def Ds (ta:TE)(tr:TA):TA:=λσ H Q=>ta σ H λx H1=>tr σ H1 λxs H2=>Q (x::xs) H2
section
variable {X:Cx}{e:Expr}{es:List Expr}{te:TE}{t:TA}{pos:Pos}
theorem aq:PA X [] Li:=λ_ _ _ _ H Q I h=>Calls.spliced_nil ⟨[],H,I,.nil,h⟩
theorem Iz (j:PE X e te)(Y:PA X es t)(hs:starEach (e::es) X.env=(false,eval e X.env)::starEach es X.env:=by rfl):PA X (e::es) (Ds te t):=by
 intro pos pins s σ H Q I h;rw [hs];show wpAny _ _ (spliced ((false,eval e X.env)::backTo pos @P)) _ _ s;rwa[Calls.spliced_cons (bj @O λu B ⟨x,H1,J,z,F⟩=> ?_)];exact bj (Y pos pins B σ H1 _ J F) λR S ⟨xs,H2,O,W,L⟩=>⟨x::xs,H2,O,.cons z W,L⟩
def Rr (t:TA):TE:=λσ H Q=>t σ H λxs H1=>xs.length<=sizeLine/\∀p,H1 p=none->Q (.ref p) (upd H1 p (.tup xs))
def Rw (t:TA):TE:=λσ H Q=>t σ H λxs H1=>xs.length<=sizeLine/\∀p,H1 p=none->Q (.ref p) (upd H1 p (.lst xs))
theorem LY {R}(h:PA X es t):PE X (.Tuple es R pos) (Rr t):=by
 intro pins s σ H Q I L;rwa[wpAny_Tuple_spliced (bj (h pos pins s σ H _ I L) λB O ⟨xs,H1,J,r,z,q⟩=>⟨by rw [<-r.length];exact z,?_⟩)];have j:H1 O.heap.objs.size=none:=J.hok.fresh @e;rwa[⟨.ref O.heap.objs.size,upd H1 O.heap.objs.size (.tup xs),J.laid (t':=O.toks) (λb u e=>Heap.get?_push_of_some _ e) @e ?_,rfl,q _ j⟩];exact ⟨z,B,r,⟨_,Heap.get?_push_size _ rfl,rfl,_,rfl⟩⟩
theorem LZ (h:PA X es t):PE X (.List es pos) (Rw t):=by
 intro pins s σ H Q I L;rwa[wpAny_List_spliced (bj (h pos pins s σ H _ I L) λB O ⟨xs,H1,J,r,z,q⟩=>⟨by rw [<-r.length];exact z,?_⟩)];have j:H1 O.heap.objs.size=none:=J.hok.fresh @e;rwa[⟨.ref O.heap.objs.size,upd H1 O.heap.objs.size (.lst xs),J.laid (t':=O.toks) (λb u e=>Heap.get?_push_of_some _ e) @e ?_,rfl,q _ j⟩];exact ⟨z,B,0,r,Heap.get?_push_size _ rfl⟩
end
abbrev Sp:=List V->Hp->VK->XK->Prop
abbrev nh:=List Env->Hp->Shared->XK->Value->Shared->Prop
structure m8 (P:Program)(w:World)(K:Fg)(mg:Str->Option Value)(base:Heap)(A:Around)(outer:List Env)(s:Shared)(H:Hp):Prop where
 frames:A.frames=some outer
 mod:Mod K mg base
 bs:∀b o,base.get? b=some o->s.heap.get? b=some o/\H b=none
 bsz:base.objs.size<=s.heap.objs.size
 funs:s.heap.FunFrames base outer
 frf:∀b∈vT outer,H b=none
 hok:fA P w H s.heap
 bare:AllBare s.gens
def CE (outer:List Env)(P:Program)(w:World)(H:Hp)(s:Shared)(Q:VK)(u:Value)(s':Shared):Prop:=
 ∃v H',s'.os=s.os/\AllBare s'.gens/\Un (vT outer) [] H H' s.heap s'.heap/\fA P w H' s'.heap/\ax v u/\Q v H'
def CR (CX:nh)(outer:List Env)(P:Program)(w:World)(H:Hp)(s:Shared)(Q:VK)(E:XK)(r:Result)(s':Shared):Prop:=
 match r with
 | .ok (.ret u)=>CE outer P w H s Q u s'
 | .ok _=>False
 | .error e=>CX outer H s E e s'
structure ar (P:Program)(w:World)(K:Fg)(mg:Str->Option Value)(base:Heap)(CX:nh)(k:Nat)(f:Addr)(fd:FuncData)(ps:List Str)(sp:Sp):Prop where
 len:∀vs H Q E,sp vs H Q E->vs.length=ps.length
 run:∀(A:Around) (outer:List Env) (s:Shared) (H:Hp) (args:Args) (us:List Value) (vs:List V) (Q:VK) (E:XK),bC k A->m8 P w K mg base A outer s H->BindsTo s fd args @cs->aH vs us->sp vs H Q E->
  codeAny @X A (.call (.ref f) args) (CR CX outer P w H s Q E) s
theorem ar.mono {P:Program}{w:World}{K:Fg}{mg:Str->Option Value}{base:Heap}{CX:nh}{j k:Nat}{f:Addr}{fd:FuncData}{ps:List Str}{sp:Sp}(F:ar P w K mg base CX j f fd ps sp)(h:j<=k):
 ar P w K mg base CX k f fd ps sp:=⟨F.len,λA outer s H z B L Q E Y=>F.run A outer s H z B L Q E (Y.mono h)⟩
theorem ar.imp {P:Program}{w:World}{K:Fg}{mg:Str->Option Value}{base:Heap}{CX:nh}{k:Nat}{f:Addr}{fd:FuncData}{ps:List Str}{sp j:Sp}(F:ar P w K mg base CX k f fd ps sp)
(h:∀vs H Q E,j vs H Q E->sp vs H Q E):ar P w K mg base CX k f fd ps j:=
 ⟨λvs H Q E q=>F.len vs H Q E (h _ _ _ _ q),λA outer s H z B vs Q E Y S I W hs=>F.run A outer s H z B vs Q E Y S I W (h _ _ _ _ hs)⟩
theorem m8.make {P:Program}{w:World}{K:Fg}{mg:Str->Option Value}{base:Heap}{A:Around}{outer:List Env}{s:Shared}{H:Hp}(e:m8 P w K mg base A outer s H)(C:Addr)(us:List Value)(z:List (Str×Value)):
 m8 P w K mg base (A.under (.builtin "type.__call__" ⟨.ref C::us,z⟩)) outer s H:=⟨by first|exact e.frames|(simpa [Around.under,Code.envs,Code.isFrame,pushEnvs] using e.frames),e.mod,e.bs,e.bsz,e.funs,e.frf,e.hok,e.bare⟩
theorem m8.in1 {P:Program}{w:World}{K:Fg}{mg:Str->Option Value}{base:Heap}{A:Around}{outer:List Env}{s:Shared}{H:Hp}(e:m8 P w K mg base A outer s H):
 m8 P w K mg base A.in1 outer s H:=⟨e.frames,e.mod,e.bs,e.bsz,e.funs,e.frf,e.hok,e.bare⟩
section
variable {X:Cx}{pins:List (Addr×Obj)}{σ:St}{H:Hp}{s s':Shared}
theorem au.env0 (I:au X pins σ H s):m8 X.prog X.w X.K X.mg X.base X.A X.stack s H:=
 ⟨I.ok.frames,I.ok.mod,I.bs,Nat.le_trans I.ok.bsz I.sz,I.stack,I.stkFree,I.hok,I.bare⟩
theorem au.after {Q:VK}{u:Value}(I:au X pins σ H s)(h:CE X.stack X.prog X.w H s Q u s'):EP X pins σ Q u s':=by
 obtain ⟨v,H',os,j,un,af,r,q⟩:=h;obtain ⟨L,g,d,t,B⟩:=s';obtain rfl:B=s.os:=os;exact ⟨v,H',I.call (h':=L) (g':=g) (d':=d) (t':=t) (ch:=[]) un af j (λb z=>absurd z @f),r,q⟩
end
def Ao (sp:Sp)(dvs:List V)(E:XK)(t:TA):TE:=λσ H Q=>t σ H λvs H1=>sp (vs++dvs) H1 Q E
def OI (C:Addr)(sp:Sp)(dvs:List V)(E:XK)(t:TA):TE:=λσ H Q=>t σ H λvs H1=>∀x dx,H1 x=none->H1 dx=none->dx≠x->
 sp (.ref x::(vs++dvs)) (upd (upd H1 dx (.own x)) x (.ins C dx [])) (λv H2=>v= .non/\Q (.ref x) H2) E
def d6 (K:Fg)(fd:FuncData)(ps:List Str)(ds:List Value):Prop:=
 ∀(s:Shared) (us:List Value),K.In s.heap->(us++ds).length=ps.length->BindsTo s fd ⟨us,[]⟩ (ps.zip (us++ds))
theorem d6.all {K:Fg}{fd:FuncData}{ps:List Str}(h:∀us:List Value,us.length=ps.length->bindArgs fd ⟨us,[]⟩=pure @cs):d6 K fd ps []:=λs us _ W=>by
 rw [append_nil] at W ⊢;exact .of_eq (h us W)
def fG (CX:nh)(X:Cx)(E:XK):Prop:=∀(pins:List (Addr×Obj)) (σ:St) (H:Hp) (s:Shared) (e:Value) (s':Shared),au X pins σ H s->CX X.stack H s E e s'->X.xe e s'
section
variable {X:Cx}{CX:nh}{k:Nat}{f C:Addr}{fd:FuncData}{ps:List Str}{sp:Sp}{dvs:List V}{ds:List Value}{E:XK}{x m:Str}{p pos apos:Pos}{e o:Expr}{es:List Expr}{ta:TE}{t:TA}
theorem yW {pins:List (Addr×Obj)}{σ:St}{H:Hp}{s:Shared}{Q:VK}{us:List Value}{vs:List V}(F:ar X.prog X.w X.K X.mg X.base CX k f fd ps sp)(Y:bC k X.A)(B:d6 X.K fd ps ds)(J:aH dvs ds)(z:fG CX X E)
(I:au X pins σ H s)(r:aH vs us)(h:sp (vs++dvs) H Q E):wpAny @d X.A (call (.ref f) us) @u X.xe s:=by
 have W:aH (vs++dvs) (us++ds):=r.append J
 have j:(us++ds).length=ps.length:=by rw [<-W.length];exact F.len _ _ _ _ h
 rwa[wpAny_call (codeAny_mono (F.run X.A X.stack s H ⟨us,[]⟩ (us++ds) (vs++dvs) Q E Y I.env0 (B s us I.kIn j) W h) λr s' L=> ?_)]
 cases r with
 |error e=>exact z pins σ H s e s' I L
 |ok fl=>
  cases fl with
  |ret u=>exact I.after L
  |next=>exact False.elim L
  |brk=>exact False.elim L
  |cont=>exact False.elim L
theorem Iy (F:ar X.prog X.w X.K X.mg X.base CX k f fd ps sp)(Y:bC k X.A)(O:Gl X x)(U:X.mg x=some (.ref f))(R:W.keepIn X.K (.ref f)=true)(hb:d6 X.K fd ps ds)(Z:aH dvs ds)(B:fG CX X E)
(L:PA X (e::es) t)(z:(x==("__debug__":Str))=false:=by decide)(S:starEach (e::es) X.env=(false,eval e X.env)::starEach es X.env:=by rfl)(j:(backTo pos @P).any (·.1)=false:=by rfl):
 PE X (.Call (.Name x p) (e::es) [] pos) (Ao sp dvs E t):=by
 intro pins s σ H Q I h;rwa[wpAny_Call_Name_kw (oU I O U ?_ z)];rwa[W.callWith_K (h₀:=X.base) I.ok.mod.kin R (bj (L pos pins s σ H _ I h) λus s1 ⟨vs,H1,J,r,q⟩=>⟨J.kIn,?_⟩) S j];exact yW F Y hb Z B J r q
structure Mk (K:Fg)(C f:Addr):Prop where
 makes:W.makesIn K C=true
 init:W.findIn K (.ref C) "__init__"=some @Y
 fn:W.isFn K (.ref f)=true
 kp:W.keepIn K (.ref C)=true
theorem Eh {pins:List (Addr×Obj)}{σ:St}{H:Hp}{s:Shared}{Q:VK}{us:List Value}{vs:List V}(M:Mk X.K C f)(F:ar X.prog X.w X.K X.mg X.base CX k f fd ps sp)(Y:bC (k+1) X.A)(hb:d6 X.K fd ps ds)(S:aH dvs ds)
(R:fG CX X E)(I:au X pins σ H s)(r:aH vs us)
(h:∀x dx,H x=none->H dx=none->dx≠x->sp (.ref x::(vs++dvs)) (upd (upd H dx (.own x)) x (.ins C dx [])) (λv H2=>v= .non/\Q (.ref x) H2) E):
 wpAny @d X.A (call (.ref C) us) @u X.xe s:=by
 have L:=h (s.heap.objs.size+1) s.heap.objs.size (I.hok.fresh @dM) @bp (Nat.ne_of_lt @bT);have O:=au.made (C:=C) I;have W:aH (V.ref (s.heap.objs.size+1)::(vs++dvs)) (Value.ref (s.heap.objs.size+1)::(us++ds)):= .cons rfl (r.append S)
 have U:(Value.ref (s.heap.objs.size+1)::us++ds).length=ps.length:=by
  have e:=W.length;rw [F.len _ _ _ _ L] at e;exact e.symm
 refine wpAny_call (Ft (f:=f) I.kIn M.makes M.init (beq_iff_eq.mp M.fn) (codeAny_mono (F.run _ X.stack _ _ ⟨Value.ref (s.heap.objs.size+1)::us,[]⟩ (Value.ref (s.heap.objs.size+1)::(us++ds)) _ _ E (Y.make C us [])
  (O.env0.make C us []) (hb _ (Value.ref (s.heap.objs.size+1)::us) O.kIn U) W L) λr s' j=> ?_))
 cases r with
 |error e=>exact R pins σ _ _ e s' O j
 |ok fl=>
  cases fl with
  |ret u=>
   obtain ⟨v,H',J,z,B,Z⟩:=O.after j;subst B;exact ⟨z,⟨V.ref (s.heap.objs.size+1),H',J,rfl,Z⟩⟩
  |next=>exact False.elim j
  |brk=>exact False.elim j
  |cont=>exact False.elim j
theorem Iw (M:Mk X.K C f)(F:ar X.prog X.w X.K X.mg X.base CX k f fd ps sp)(Y:bC (k+1) X.A)(O:Gl X x)(R:X.mg x=some (.ref C))(Z:d6 X.K fd ps ds)(U:aH dvs ds)(B:fG CX X E)
(L:PA X (e::es) t)(z:(x==("__debug__":Str))=false:=by decide)(S:starEach (e::es) X.env=(false,eval e X.env)::starEach es X.env:=by rfl)(j:(backTo pos @P).any (·.1)=false:=by rfl):
 PE X (.Call (.Name x p) (e::es) [] pos) (OI C sp dvs E t):=by
 intro pins s σ H Q I h;rwa[wpAny_Call_Name_kw (oU I O R ?_ z)];rwa[W.callWith_K (h₀:=X.base) I.ok.mod.kin M.kp (bj (L pos pins s σ H _ I h) λus s1 ⟨vs,H1,J,r,q⟩=>⟨J.kIn,?_⟩) S j];exact Eh M F Y Z U B J r q
end
section
variable {X:Cx}{CX:nh}{k:Nat}{f C:Addr}{fd:FuncData}{ps ks:List Str}{sp:Sp}{E:XK}{x m:Str}{p pos apos kpos:Pos}{e o:Expr}{es:List Expr}{kws:List Keyword}{te ta:TE}{t tk:TA}{nm:Option Str}
structure KBinds (K:Fg)(fd:FuncData)(ps ks:List Str)(g:List Value->List Value->List Value)(gV:List V->List V->List V):Prop where
 to:∀(s:Shared) (us ws:List Value),K.In s.heap->(g us ws).length=ps.length->BindsTo s fd ⟨us,ks.zip ws⟩ (ps.zip (g us ws))
 rel:∀ {vs:List V} {us:List Value} {zs:List V} {ws:List Value},aH vs us->aH zs ws->aH (gV vs zs) (g us ws)
variable {g:List Value->List Value->List Value}{gV:List V->List V->List V}
end
structure ai (N P:List Str)(sc:Scope):Prop where
 kind:sc.kind= .function
 co:sc.isCoroutine=false
 gen:sc.isGenerator=false
 nd:N.Nodup
 pre:N.take P.length=P
 par:∀x∈P,sc.names.lookup x=some .local\/sc.names.lookup x=some .cell
 nofree:∀y∈sc.names,y.2≠ .free
theorem tM {j:Str->Option NameKind}{x:Str}:∀ {binds:List (Str×Value)} {m:Str->Option Value},(∀v,(x,v)∉binds)->bindL j binds m x=m x
 |[],_,_=>rfl
 |(n,v)::r,m,h=>by
  unfold bindL;rw [tM λw B=>h w @cy];split
  ·have:x≠n:=by rintro rfl;exact h v mem_cons_self
   simp [this]
  ·rfl
theorem tQ {j:Str->Option NameKind}{x:Str}:∀ {binds:List (Str×Value)} {m:Str->Option Value},(∀v,(x,v)∉binds)->bindC j binds m x=m x
 |[],_,_=>rfl
 |(n,v)::r,m,h=>by
  unfold bindC;rw [tQ λw B=>h w @cy];split
  ·rfl
  ·have:x≠n:=by rintro rfl;exact h v mem_cons_self
   simp [this]
theorem tO {j:Str->Option NameKind}{x:Str}{v:Value}:∀ {P:List Str} {vs:List Value} {i:Nat} {m:Str->Option Value},P.Nodup->P[i]? =some x->vs[i]? =some v->j x=some .local->
 bindL j (P.zip vs) m x=some v
 |[],_,_,_,_,h,_,_=>by simp at h
 |_::_,[],_,_,_,_,h,_=>by simp at h
 |p::P,w::vs,0,m,nd,h1,h2,hk=>by
  simp at h1 h2;subst h1;subst h2;show bindL j ((p,w)::P.zip vs) m p=_;unfold bindL;rw [tM λv W=>(nodup_cons.mp nd).1 (of_mem_zip W).1,if_pos hk];simp
 |p::P,w::vs,i+1,m,nd,h1,h2,hk=>by
  show bindL j ((p,w)::P.zip vs) m x=_;unfold bindL;exact tO (i:=i) (nodup_cons.mp nd).2 (by simpa using h1) (by simpa using h2) hk
theorem tR {j:Str->Option NameKind}{x:Str}{v:Value}:∀ {P:List Str} {vs:List Value} {i:Nat} {m:Str->Option Value},P.Nodup->P[i]? =some x->vs[i]? =some v->j x≠some .local->
 bindC j (P.zip vs) m x=some v
 |[],_,_,_,_,h,_,_=>by simp at h
 |_::_,[],_,_,_,_,h,_=>by simp at h
 |p::P,w::vs,0,m,nd,h1,h2,hk=>by
  simp at h1 h2;subst h1;subst h2;show bindC j ((p,w)::P.zip vs) m p=_;unfold bindC;rw [tQ λv W=>(nodup_cons.mp nd).1 (of_mem_zip W).1,if_neg hk];simp
 |p::P,w::vs,i+1,m,nd,h1,h2,hk=>by
  show bindC j ((p,w)::P.zip vs) m x=_;unfold bindC;exact tR (i:=i) (nodup_cons.mp nd).2 (by simpa using h1) (by simpa using h2) hk
noncomputable def start (N:List Str)(vs:List V):St:=vs.map some++List.replicate (N.length - vs.length) none
noncomputable def qP (CX:nh)(P:Program)(w:World)(K:Fg)(mg:Str->Option Value)(base:Heap)(N:List Str)(qual:Str)(scope:Scope)(f:Addr)(cd:Value)(A:Around)(outer:List Env)(s:Shared)(H:Hp)(E:XK):Cx where
 prog:=P
 w:=w
 K:=K
 mg:=mg
 base:=base
 A:=A.deeper @bH
 N:=N
 s₀:=s
 H₀:=H
 env:=envOfC qual scope s.heap.objs.size f cd
 outer:=outer
 stack:=envOfC qual scope s.heap.objs.size f cd::outer
 ex:=[]
 calm:=true
 fn:=λ_=>true
 pn:=[]
 xe:=λe s'=>wpAny @X (A.deeper @bH) (leaving @bH e) (λ_ s''=>CX outer H s E e s'') (λe' s''=>CX outer H s E e' s'') s'
theorem xy {j:Scope}{n:Nat}{x:Str}(h:j.names.lookup x=some .cell):∃c,(cellsFrom n j.names []).lookup x=some c:=by
 have q:=W.cellsFrom_some j.names n [] (.inl h);exact Option.isSome_iff_exists.mp q
theorem Ck {CX:nh}{P:Program}{w:World}{K:Fg}{mg:Str->Option Value}{base:Heap}{N ps:List Str}{qual:Str}{scope:Scope}{f:Addr}{cd:Value}{A:Around}{outer:List Env}{s O:Shared}{H:Hp}{E:XK}{us:List Value}{vs:List V}
(S:ai N ps scope)(Z:A.handled=none)(j:m8 P w K mg base A outer s H)(hl:vs.length=ps.length)(r:aH vs us)
(x:InCallC s s.heap.objs.size (bindL (envOfC qual scope s.heap.objs.size f cd).kindOf @cs λ_=>none) (cellsFrom (s.heap.objs.size+1) scope.names []) (bindC (envOfC qual scope s.heap.objs.size f cd).kindOf @cs λ_=>none) O):
 au (qP CX P w K mg base N qual scope f cd A outer s H E) [] @cz H O:=by
 have W:ps.length<=N.length:=by have:=congrArg List.length S.pre;rw [length_take] at this;lia
 obtain ⟨h1,tk,rfl,L⟩:=x.done;have B:∀b:Addr,b∉(qP CX P w K mg base N qual scope f cd A outer s H E).ex:=λb z=>absurd (show b∈([]:List Addr) from z) @f
 refine ⟨⟨j.mod,S.kind,rfl,rfl,Nat.le_refl _,λy z c h1 h2=> ?_,λy R=> ?_,λy c _ h=> ?_,λ_=>Z,Around.frames_deeper j.frames,.inr ⟨rfl,rfl⟩,λb z=>absurd z (B b),j.bs,j.bsz,λb _ _=>B b,λb z=>absurd z (B b),j.funs,j.frf⟩,
  rfl,j.bare,Un.kept L,⟨_,x.toInCall.ns,λi y v h1 h2 h3=> ?_⟩,λy c h=>⟨_,x.cell y c h⟩,j.hok.fresh @e,λy c h=> ?_,λp I=>absurd (show p∈([]:List (Addr×Obj)) from I) @f,j.hok.kept L,?_⟩
 ·exact name_of_addr x.apart (PySem.mem_of_lookup h1) (PySem.mem_of_lookup h2)
 ·have R:scope.names.lookup y=some .cell\/scope.names.lookup y=some .free:=R
  rcases R with R|R
  ·exact xy R
  ·exact absurd rfl (S.nofree _ (PySem.mem_of_lookup R))
 ·exact Nat.le_of_lt (x.above y c @dv)
 ·have hi:i<vs.length:=by
   unfold start at h2;by_cases hi:i<vs.length
   ·exact hi
   ·rw [getElem?_append_right (by simpa using hi)] at h2;rw [getElem?_replicate] at h2;split at h2<;>cases h2
  have Y:vs[i]? =some v:=by
   unfold start at h2;rw [getElem?_append_left (by simpa using hi),getElem?_map] at h2
   cases e:vs[i]? with
   |none=>rw [e] at h2;cases h2
   |some a=>rw [e] at h2;cases h2;rfl
  obtain ⟨u,J,U⟩:=r.get Y
  have I:ps[i]? =some y:=by
   rw [<-S.pre,getElem?_take_of_lt @c];exact h1
  have F:ps.Nodup:=by rw [<-S.pre];exact S.nd.sublist (take_sublist _ _)
  rwa[⟨u,U,?_⟩]
  rcases S.par y (mem_of_getElem? I) with k|k
  ·exact .inl ⟨k,tO F I J k⟩
  ·obtain ⟨c,e⟩:=xy (n:=s.heap.objs.size+1) k;rwa[.inr ⟨.inl k,c,e,?_⟩];have q:=x.cell y c e;rw [tR F I J (by show scope.names.lookup y≠_;rw [k];decide)] at q;exact q
 ·exact j.hok.fresh (Nat.le_of_lt (x.above y c @dv))
 ·unfold start;show _=N.length;rw [length_append,length_map,length_replicate];lia
theorem F6 {CX:nh}{P:Program}{w:World}{K:Fg}{mg:Str->Option Value}{base:Heap}{k:Nat}{f:Addr}{name qual:Str}{z:Arguments}{B:List Stmt}{scope:Scope}{dV kV O pm j ct oc:Value}{an od:Option Addr}
{aa:Array @J}{N ps:List Str}{sp:Sp}(lk:K.lookup f=some ⟨oc,od,.func (W.fnOf name qual z B scope dV kV O pm an j ct),aa⟩)(ab:W.codeIn K j qual=true)(S:ai N ps scope)
(Y:∀vs H Q E,sp vs H Q E->vs.length=ps.length)
(L:∀(A:Around) (outer:List Env) (s:Shared) (H:Hp) (vs:List V) (Q:VK) (E:XK),bC k (A.deeper (envOfC qual scope s.heap.objs.size f j))->sp vs H Q E->
   ∃t,rj @bm B t/\t {nx:=λ_ H'=>Q .non H',rt:=Q} @cz H):
 ar P w K mg base CX (k+1) f (W.fnOf name qual z B scope dV kV O pm an j ct) ps sp:=by
 rwa[⟨Y,λA outer s H ad us vs Q E hr Z hb r R=> ?_⟩];have hl:=Y _ _ _ _ R;have KX:K.In s.heap:=Z.mod.kin.keeps λb o e=>(Z.bs b o e).1;have ac:s.heap.NoLimit:=Z.mod.nolimit.keeps λb o e=>(Z.bs b o e).1
 have F:∀y∈ps.zip us,scope.names.lookup y.1=some .local\/(scope.names.lookup y.1=some .cell/\((cellsFrom (s.heap.objs.size+1) scope.names []).lookup y.1).isSome=true):=λ⟨n,v⟩ hy=>by
  rcases S.par n (of_mem_zip hy).1 with q|q
  ·exact .inl q
  ·exact .inr ⟨q,W.cellsFrom_some _ _ _ (.inl q)⟩
 rwa[codeAny_call_function hr.depth (KX _ _ lk) rfl S.co S.gen rfl (W.codeRec_of KX ab) (hb _ _ _ _ ?_)];rwa[wpAny_newFunctionEnv_cells S.kind F λae he s1 x=> ?_];subst he;rwa[⟨ac.keeps x.toInCall.keep,codeAny_func ?_⟩];obtain ⟨t,ht,hq⟩:=L A outer s H vs Q E (hr.deeper _) R;have I:au @bm [] @cz H s1:=Ck S hr.hd Z hl r x;rwa[wpAny_mono (ht [] s1 @cz H _ I hq) (λfl s' hs=> ?_) λe s' hs=>hs]
 have U:∀ {σ':St} {H':Hp} {v:V} {u:Value},au @bm [] σ' H' s'->ax v u->Q v H'->CE outer P w H s Q u s':=
  λ{σ' H' v u} J rv q=>⟨v,H',J.os,J.bare,J.base,J.hok,rv,q⟩
 cases fl with
 |ret u=>
  obtain ⟨v,σ',H',J,rv,q⟩:=hs;exact U J rv q
 |next=>
  obtain ⟨σ',H',J,q⟩:=hs;exact U (v:=V.non) (u:=Value.none) J rfl q
 |brk=>
  obtain ⟨_,_,_,q⟩:=hs;exact False.elim q
 |cont=>
  obtain ⟨_,_,_,q⟩:=hs;exact False.elim q
section
variable {X:Cx}{x:Str}{p pos:Pos}{e:Expr}{es:List Expr}{t:TA}{id T:String}{r:List V->Hp->VK->Prop}
def QA (r:List V->Hp->VK->Prop)(t:TA):TE:=λσ H Q=>t σ H λvs H1=>r vs H1 Q
theorem EK (B:bc X (.builtin id) r)(R:Gl X x)(U:X.mg x=none)(W:bootBuiltins x=some (.builtin id))(F:PA X (e::es) t)(Y:x≠"__name__":=by decide)(z:(x==("__debug__":Str))=false:=by decide)
(S:starEach (e::es) X.env=(false,eval e X.env)::starEach es X.env:=by rfl)(j:(backTo pos @P).any (·.1)=false:=by rfl):PE X (.Call (.Name x p) (e::es) [] pos) (QA r t):=by
 intro pins s σ H Q I h;rwa[wpAny_Call_Name_kw (iw I R U W ?_ Y z)];exact PyProof.Rows.callWith_builtin1 (bj (F pos pins s σ H _ I h) λJ s1 ⟨O,H1,I1,Z,L⟩=>B pins s1 σ H1 O J Q I1 Z L) S j
theorem BP (B:bc X (.type T) r)(R:Gl X x)(U:X.mg x=none)(W:bootBuiltins x=some (.type T))(F:PA X (e::es) t)(Y:x≠"__name__":=by decide)(z:(x==("__debug__":Str))=false:=by decide)
(S:starEach (e::es) X.env=(false,eval e X.env)::starEach es X.env:=by rfl)(j:(backTo pos @P).any (·.1)=false:=by rfl):PE X (.Call (.Name x p) (e::es) [] pos) (QA r t):=by
 intro pins s σ H Q I h;rwa[wpAny_Call_Name_kw (iw I R U W ?_ Y z)];exact PyProof.Rows.callWith_type1 (bj (F pos pins s σ H _ I h) λJ s1 ⟨O,H1,I1,Z,L⟩=>B pins s1 σ H1 O J Q I1 Z L) S j
end
end L2
namespace HT
open PySem PyProof.Rows
section
variable {prog:Program}{w:World}{A:Around}{E:Value->Shared->Prop}{s:Shared}
theorem cat_tup {t b:Addr}{vs ws:List Value}{Q:Value->Shared->Prop}(ht:IsTup s.heap t vs.toArray)(hb:IsTup s.heap b ws.toArray)(W:vs≠[])
(h1:ws=[]->Q (.ref t) s)(h2:ws≠[]->Q (.ref s.heap.objs.size) {s with heap:=s.heap.push {cls:= .type "tuple",data:= .seq (vs++ws).toArray}})
(hsz:vs.length+ws.length<=sizeLine):wpAny @i A (binaryOp .Add (.ref t) (.ref b)) Q E s:=by
 obtain ⟨⟨cls,U,data,sl⟩,L,S,n,Z⟩:=id ht;obtain ⟨⟨aa,z,R,J⟩,j,B,Y,I⟩:=id hb;simp only at S Z B I;subst S Z B I
 have e:vs.toArray++ws.toArray=(vs++ws).toArray:=by simp
 by_cases O:ws=[]
 ·exact concat_meets ⟨_,L,rfl⟩ ⟨_,j,rfl⟩ noFill_tuple_add seq_tuple_add PySem.F.slot_tuple_add PySem.F.entry_tuple_add @cA
   (tuple_addW1 t b vs.toArray ws.toArray n Y U z sl J (by simpa using W) (by simp [O])) ⟨L,j,h1 O⟩
 ·refine concat_meets ⟨_,L,rfl⟩ ⟨_,j,rfl⟩ noFill_tuple_add seq_tuple_add PySem.F.slot_tuple_add PySem.F.entry_tuple_add @cA
   (tuple_addW2 t b vs.toArray ws.toArray n Y U z sl J (by simpa using W) (by simpa using O) (by rw [size_toArray,size_toArray];exact hsz)) ⟨L,j,?_⟩
  rw [e];exact h2 O
noncomputable def sIx (n d:Nat):Option Int->Nat
 |none=>d
 |some v=>if v<0 then (v+(n:Int)).toNat else min v.toNat n
theorem LF (n d:Nat)(J:d<=n)(o:Option Int):sIx n d o<=n:=by
 cases o with
 |none=>exact J
 |some v=>
  show (if v<0 then (v+(n:Int)).toNat else min v.toNat n)<=n;by_cases W:v<0
  ·rw [if_pos W];lia
  ·rw [if_neg W];exact Nat.min_le_right _ _
theorem A2 (v:Int)(n d:Nat):(if v<0 then max (v+(n:Int)) 0 else min v (n:Int))=((sIx n d @bq:Nat):Int):=by
 show (if v<0 then max (v+(n:Int)) 0 else min v (n:Int))=(((if v<0 then (v+(n:Int)).toNat else min v.toNat n):Nat):Int);by_cases W:v<0
 ·simp only [if_pos W];lia
 ·simp only [if_neg W];lia
theorem z8 (lo hi:Option Int)(n:Nat):Builtin.Slice.sliceAdjust lo hi 1 (n:Int)=(((sIx n 0 lo:Nat):Int),((sIx n n hi:Nat):Int)):=by
 have h1: ¬((1:Int)<0):=by lia
 unfold Builtin.Slice.sliceAdjust;simp only [h1,if_false];rwa[Prod.ext ?_ ?_]
 ·cases lo with
  |none=>rfl
  |some v=>exact A2 v n 0
 ·cases hi with
  |none=>rfl
  |some v=>exact A2 v n n
theorem y7 (i j:Nat):Builtin.Slice.slicePlaces (i:Int) (j:Int) 1=j - i:=by
 unfold Builtin.Slice.slicePlaces
 have h1:(1:Int)>0:=by lia
 simp only [h1,if_true,Int.ediv_one];split<;>lia
theorem pF {v:Value}{o:Option Int}{Q:Option Int->Shared->Prop}(p:IsPart v o)(h:Q o s):wpAny @i A (Builtin.Slice.slicePartIndex v) Q E s:=by
 cases p with
 |none=>exact slicePart_none h
 |int i t=>exact slicePart_int h
theorem lS {sl:Addr}{F B:Value}{lo hi:Option Int}{n:Nat}{Q:Int×Int×Nat->Shared->Prop}(hs:s.heap.IsSliceOf sl F B .none)(pl:IsPart F lo)(J:IsPart B hi)
(h:Q (((sIx n 0 lo:Nat):Int),1,sIx n n hi - sIx n 0 lo) s):wpAny @i A (Builtin.Slice.sliceApplied (.ref sl) (pure (n:Int))) Q E s:=by
 obtain ⟨os,j,I,z⟩:=id hs;unfold Builtin.Slice.sliceApplied Builtin.Slice.sliceFields;rwa[wpAny_bind (wpAny_bind (wpAny_field j z (x:=F) rfl (wpAny_bind (wpAny_field j z (x:=B) rfl (wpAny_bind (wpAny_field j z (x:= .none) rfl @bu))))))];rwa[wpAny_bind (slicePart_none ?_)];show wpAny _ _ (if ((1:Int)==0)=true then _ else _) _ _ s;rw [if_neg @b];rwa[wpAny_bind (pF pl (wpAny_bind (pF J (wpAny_bind @bu))))];show wpAny _ _ (match Builtin.Slice.sliceAdjust lo hi 1 (n:Int) with|(lo,hi)=>pure (lo,(1:Int),Builtin.Slice.slicePlaces lo hi 1)) _ _ s;rw [z8 lo hi n];show wpAny _ _ (pure (((sIx n 0 lo:Nat):Int),(1:Int),Builtin.Slice.slicePlaces ((sIx n 0 lo:Nat):Int) ((sIx n n hi:Nat):Int) 1)) _ _ s;rw [y7];exact wpAny_pure h
theorem Ey (xs:Array Value)(i k:Nat):((List.range k).filterMap λ(m:Nat)=>xs[((i:Int)+(m:Int)*1).toNat]?).toArray=((xs.toList.drop i).take k).toArray:=by
 have e:(λ(m:Nat)=>xs[((i:Int)+(m:Int)*1).toNat]?)=λm=>xs[i+m]? :=by
  funext m
  have:((i:Int)+(m:Int)*1).toNat=i+m:=by lia
  rw [this]
 rw [e];have:=pick_run xs i k;rw [filterMap_map] at this;have R:((λx=>xs[x]?)∘λx=>i+x)=λm=>xs[i+m]? :=rfl;rw [R] at this;rw [this]
theorem getItem_tuple_cut {t sl:Addr}{j:Array Value}{R O:Value}{lo hi:Option Int}{Q:Value->Shared->Prop}(J:IsTup s.heap t j)(hs:s.heap.IsSliceOf sl R O .none)(pl:IsPart R lo)(S:IsPart O hi)
(U: ¬(sIx j.size 0 lo=0/\sIx j.size j.size hi=j.size))
(h:Q (.ref s.heap.objs.size) {s with heap:=s.heap.push {cls:= .type "tuple",data:= .seq ((j.toList.drop @eJ).take (sIx j.size j.size hi - sIx j.size 0 lo)).toArray}})
(hsz:j.size<=sizeLine):wpAny @i A (getItem (.ref t) (.ref sl)) Q E s:=by
 have z:sizeOk (.seq ((j.toList.drop @eJ).take (sIx j.size j.size hi - sIx j.size 0 lo)).toArray):=by
  show ((j.toList.drop @eJ).take (sIx j.size j.size hi - sIx j.size 0 lo)).toArray.size<=sizeLine;rw [size_toArray,length_take,length_drop,Array.length_toList];lia
 have Z:sIx j.size j.size hi<=j.size:=LF _ _ @e hi;obtain ⟨os,B,I,W⟩:=id hs;have L:s.TypeIs (.ref sl) "slice":=⟨os,B,I⟩;unfold getItem
 try with_reducible refine wpAny_holding ?_
 first|refine wpAny_bind @bu|skip
 rwa[wpAny_bind (wpAny_sequenceKey J.typeIs @b ?_)]
 refine wpAny_bind (wpAny_callSpecial?_slot (name:=s!"__getitem__") J.typeIs PyProof.Rows.slot_tuple_getitem
  (wpAny_call_entry PyProof.Rows.slot_tuple_getitem J.typeIs entry_tuple_getitem ?_ (args_tuple_getitem _ _)))
 show wpAny _ _ (Builtin.Tuple.tupleItemsOf (.ref t)>>=_) _ _ s;rwa[wpAny_bind (tupleItemsOf_ J ?_)];rwa[wpAny_bind (wpAny_typeOf L ?_)];rw [if_pos @b];rwa[wpAny_bind (lS hs pl S ?_)]
 have F: ¬((((sIx j.size 0 lo:Nat):Int)==0&&(1:Int)==1&&(sIx j.size j.size hi - sIx j.size 0 lo)==j.size)=true):=by
  intro q;rw [Bool.and_eq_true,Bool.and_eq_true] at q;have Y:((sIx j.size 0 lo:Nat):Int)=0:=eq_of_beq q.1.1;have q2:sIx j.size j.size hi - sIx j.size 0 lo=j.size:=eq_of_beq q.2;exact U ⟨by lia,by lia⟩
 show wpAny _ _ (if (((sIx j.size 0 lo:Nat):Int)==0&&(1:Int)==1&&(sIx j.size j.size hi - sIx j.size 0 lo)==j.size)=true then _ else _) _ _ s;rw [if_neg F,Ey]
 first
  |exact wpAny_bind (m:=Builtin.Tuple.tupleExact _) (wpAny_newObj_type @bh z)
  |exact wpAny_bind (m:=Builtin.Tuple.tupleExact _) (wpAny_newObj_type (wpAny_bind (wpAny_pure @bh)) z)
  |exact wpAny_bind (wpAny_bind (m:=Builtin.Tuple.tupleExact _) (wpAny_newObj_type (wpAny_pure @bh) z))
  |exact wpAny_bind (wpAny_bind (m:=Builtin.Tuple.tupleExact _) (wpAny_newObj_type @bh z))
end
end HT
namespace L2
open PySem PySem.Spec PyProof.Rows
abbrev TO:=St->Hp->(Option Int->Hp->Prop)->Prop
def PO (X:Cx)(e:Option Expr)(t:TO):Prop:=
 ∀(pins:List (Addr×Obj)) (s:Shared) (σ:St) (H:Hp) (Q:Option Int->Hp->Prop),au X pins σ H s->t σ H Q->
  wpAny @d X.A (evalPart e X.env) (λu s'=>∃o H',au X pins σ H' s'/\IsPart u o/\Q o H') X.xe s
def Hw:TO:=λ_ H Q=>Q none H
section
variable {X:Cx}{e:Expr}{te:TE}{lo hi:Option Expr}{tl th:TO}{pos p2:Pos}
theorem Iq:PO X none Hw:=by
 intro pins s σ H Q I h;rw [evalPart_none];exact wpAny_pure ⟨none,H,I,.none,h⟩
def NC (X:Cx)(r:V->Option Int->Option Int->Hp->VK->Prop):Prop:=
 ∀(pins:List (Addr×Obj)) (s:Shared) (σ:St) (H:Hp) (x:V) (v vl vu:Value) (lo hi:Option Int) (sl:Addr) (Q:VK),au X pins σ H s->ax x v->s.heap.IsSliceOf sl vl vu .none->IsPart vl lo->IsPart vu hi->r x lo hi H Q->
  ∃T id,typeLookup (.type T) "__getitem__"=pure (some (.builtin id))/\s.TypeIs v T/\wpAny @d X.A (getItem v (.ref sl)) @u X.xe s
def SC (r:V->Option Int->Option Int->Hp->VK->Prop)(te:TE)(tl th:TO):TE:=λσ H Q=>te σ H λx H1=>tl σ H1 λl H2=>th σ H2 λu H3=>r x l u H3 Q
theorem EC {r:V->Option Int->Option Int->Hp->VK->Prop}(Y:NC X r)(he:PE X e te)(W:PO X lo tl)(z:PO X hi th):PE X (.Subscript e (.Slice lo hi none p2) pos) (SC r te tl th):=by
 intro pins s σ H Q I h;rwa[Subscript_ (bj @bG λv s1 ⟨x,H1,I1,J,q1⟩=> ?_)];rwa[wpAny_Slice (bj (W pins s1 σ H1 _ I1 q1) λF R ⟨l,H2,O,pl,q2⟩=>bj (z pins R σ H2 _ O q2) λB L ⟨u,j,I3,pu,S⟩=> ?_)];rw [evalPart_none];rwa[wpAny_pure ?_];have U:au X pins σ j {L with heap:=L.heap.push {cls:= .type "slice",data:= .fields #[F,B,.none]}}:=I3.kept (t':=L.toks) λb ob q=>Heap.get?_push_of_some _ q;obtain ⟨T,id,hT,ht,Z⟩:=Y pins {L with heap:=L.heap.push {cls:= .type "slice",data:= .fields #[F,B,.none]}} σ j x v F B l u L.heap.objs.size Q U J (Heap.IsSliceOf.new ..) pl pu S;show wpAny @d X.A (subscriptTail e (.Slice lo hi none p2) v (.ref L.heap.objs.size)) @u X.xe {L with heap:=L.heap.push {cls:= .type "slice",data:= .fields #[F,B,.none]}};exact tail_any (ops:=[.ref L.heap.objs.size,v]) ht hT Z @N
noncomputable def xv (xs:List V)(lo hi:Option Int):List V:=(xs.drop @dw).take (HT.sIx xs.length xs.length hi - HT.sIx xs.length 0 lo)
theorem nU (xs:List V)(lo hi:Option Int):(xv xs lo hi).length<=xs.length:=by
 unfold xv;rw [length_take,length_drop];lia
def RL (K:Fg):V->Option Int->Option Int->Hp->VK->Prop:=λx lo hi H Q=>∃a xs,x= .ref a/\aD K H a xs/\
 ¬(HT.sIx xs.length 0 lo=0/\HT.sIx xs.length xs.length hi=xs.length)/\∀p,H p=none->Q (.ref p) (upd H p (.tup @cF))
theorem Lu:NC X (RL X.K):=by
 intro pins s σ H x v S U lo hi sl Q I F hs pl L h;obtain ⟨a,xs,rfl,j,O,q⟩:=h;cases F;obtain ⟨its,r,J,B⟩:=I.tuple j
 have z:its.toArray.size=xs.length:=by rw [size_toArray];exact r.length.symm
 rwa[⟨"tuple",_,PyProof.Rows.slot_tuple_getitem.lookup,J.typeIs,?_⟩];rwa[HT.getItem_tuple_cut J hs pl L (by rw [z];exact O) ?_ (by rw [z];exact B)];rw [z];rwa[⟨.ref s.heap.objs.size,_,I.laid (t':=s.toks) (o:= .tup @cF) (λb R q=>Heap.get?_push_of_some _ q) @e ?_,rfl,q _ @bp⟩];exact ⟨Nat.le_trans (nU xs lo hi) B,_,(r.drop @dw).take (HT.sIx xs.length xs.length hi - HT.sIx xs.length 0 lo),IsTup.new _ _⟩
def OW (K:Fg):R2:=λx y H Q=>∃a b xs ys,x= .ref a/\y= .ref b/\aD K H a xs/\aD K H b ys/\xs≠[]/\xs.length+ys.length<=sizeLine/\
 (ys=[]->Q (.ref a) H)/\(ys≠[]->∀p,H p=none->Q (.ref p) (upd H p (.tup (xs++ys))))
theorem aH.nil_iff {xs:List V}{us:List Value}(r:aH xs us):us=[]↔xs=[]:=by
 cases r with
 |nil=>simp
 |cons _ _=>simp
theorem IB:cL X @bt (OW X.K):=by
 intro pins s σ H x y v u Q I R J h;obtain ⟨a,b,xs,ys,rfl,rfl,O,Z,L,B,S,Y⟩:=h;cases R;cases J;obtain ⟨its,j,U,_⟩:=I.tuple O;obtain ⟨F,W,p2,_⟩:=I.tuple Z;rwa[HT.cat_tup U p2 (λz=>L (j.nil_iff.mp z)) (λz=>⟨.ref a,H,I,rfl,S (W.nil_iff.mp z)⟩) @t (by rw [<-j.length,<-W.length];exact B)];rwa[⟨.ref s.heap.objs.size,_,I.laid (t':=s.toks) (o:= .tup (xs++ys)) (λb ob q=>Heap.get?_push_of_some _ q) @e ?_,rfl,Y (λw=>z (W.nil_iff.mpr w)) _ @bp⟩];exact ⟨by rw [length_append];exact B,_,j.append W,IsTup.new _ _⟩
end
noncomputable def zA (n:Nat)(i:Int):Option Nat:=if 0<=i then (if i<n then some i.toNat else none) else if -(n:Int)<=i then some (i+n).toNat else none
noncomputable def oF {α:Type}(xs:List α)(i:Int):Option α:=(zA xs.length i).bind λj=>xs[j]?
theorem AM {n:Nat}{i:Int}{j:Nat}(h:zA n i=some j):seqIndex? i n=some j/\j<n/\ -(n:Int)<=i/\i<n:=by
 unfold zA at h;by_cases B:0<=i
 ·rw [if_pos B] at h;by_cases h1:i<n
  ·rw [if_pos h1] at h;have e:i.toNat=j:=Option.some.inj h;exact ⟨by rw [seqIndex_of B h1,e],by lia,by lia,h1⟩
  ·rw [if_neg h1] at h;cases h
 ·rw [if_neg B] at h;by_cases h1: -(n:Int)<=i
  ·rw [if_pos h1] at h;have e:(i+n).toNat=j:=Option.some.inj h;exact ⟨by rw [seqIndex_neg @c h1,e],by lia,h1,by lia⟩
  ·rw [if_neg h1] at h;cases h
theorem vG {α:Type}{xs:List α}{i:Int}{v:α}(h:oF xs i=some v):∃j,seqIndex? i xs.length=some j/\xs[j]? =some v/\j<xs.length/\ -(xs.length:Int)<=i/\i<xs.length:=by
 unfold oF at h
 cases e:zA xs.length i with
 |none=>rw [e] at h;cases h
 |some j=>
  rw [e] at h;obtain ⟨h1,h2,L,z⟩:=AM e;exact ⟨j,h1,h,h2,L,z⟩
theorem bz {α:Type}{xs:List α}{j:Nat}{v:α}(h:xs[j]? =some v):oF xs (j:Int)=some v:=by
 have Z:j<xs.length:=(List.getElem?_eq_some_iff.mp h).1
 have e:zA xs.length (j:Int)=some j:=by
  unfold zA;rw [if_pos @c,if_pos @c];simp
 unfold oF;rw [e];exact h
def JM (b:Expr):Prop:=∀o i,subscripted b false o i=operate [o,i] (getItem o i)
def CT (X:Cx)(r:R2):Prop:=
 ∀(value slice:Expr) (pins:List (Addr×Obj)) (s:Shared) (σ:St) (H:Hp) (x y:V) (v u:Value) (Q:VK),au X pins σ H s->ax x v->ax y u->r x y H Q->
  subscripted slice false v u=operate [v,u] (getItem v u)->wpAny @d X.A (subscriptTail value slice v u) @u X.xe s
def xS (X:Cx)(id:String)(r:V->List V->Hp->VK->Prop):Prop:=
 ∀(pins:List (Addr×Obj)) (s:Shared) (σ:St) (H:Hp) (x:V) (xs:List V) (v:Value) (us:List Value) (Q:VK),au X pins σ H s->ax x v->aH xs us->r x xs H Q->
  wpAny @d X.A (call (.builtin id) (v::us)) @u X.xe s
section
variable {X:Cx}{a b:Expr}{ta tb:TE}{pos:Pos}
theorem sG {r:R2}(Y:CT X r)(j:PE X a ta)(B:PE X b tb)(hs:JM b):PE X (.Subscript a b pos) @eR:=by
 intro pins s σ H Q I h;exact Subscript_ (Nx j B I h λv u R x y H2 O J z q=>Y a b pins R σ H2 x y v u Q O J z q (hs _ _))
def RP (K:Fg):R2:=λx y H Q=>∃p xs i v,x= .ref p/\y= .int i/\az K H p xs/\oF xs i=some v/\Q v H
def RN (K:Fg):R2:=λx y H Q=>∃p xs i v,x= .ref p/\y= .int i/\aD K H p xs/\oF xs i=some v/\Q v H
def RO:R2:=λx y H Q=>∃z i c,x= .str z/\y= .int i/\z.length<=sizeLine/\oF z.cps.toList i=some c/\Q (.str ⟨#[c]⟩) H
theorem Jk:CT X (RP X.K):=by
 intro value J pins s σ H x y v u Q I Y R h hs;obtain ⟨p,xs,i,z,rfl,rfl,U,he,q⟩:=h;cases Y;obtain ⟨t,rfl⟩:=R;obtain ⟨its,r,pl,hz⟩:=I.list U;obtain ⟨j,h1,h2,h3,h4,S⟩:=vG he;obtain ⟨w,O,F⟩:=r.get h2;have W:=r.length;have hn:=iq;have B:EP X pins σ Q w s:=⟨z,H,I,F,q⟩;by_cases L:0<=i
 ·have Z:i.toNat=j:=by
   rw [seqIndex_of L S] at h1;exact Option.some.inj h1
  exact item_listR pl.isList L @c (by rw [Z];simpa using O) B hs
 ·have Z:(i+(its.toArray.size:Int)).toNat=j:=by
   rw [seqIndex_neg @c h4] at h1;rw [size_toArray,<-W];exact Option.some.inj h1
  exact subscriptTail_builtinR (x:=w) pl.isList.typeIs slot_list_getitem.lookup
   (wpAny_getItem_list_neg (Q:=λr s'=>r=w/\EP X pins σ Q r s') pl.isList @c (by rw [size_toArray]<;>lia) @c (by rw [Z];simpa using O) ⟨rfl,B⟩) hs
theorem M7:CT X (RN X.K):=by
 intro value J pins s σ H x y v u Q I R L h hs;obtain ⟨p,xs,i,z,rfl,rfl,O,U,q⟩:=h;cases R;obtain ⟨t,rfl⟩:=L;obtain ⟨its,r,pl,hz⟩:=I.tuple O;obtain ⟨j,h1,h2,Z,h4,Y⟩:=vG U;obtain ⟨w,S,F⟩:=r.get h2;have W:=r.length;have hn:=iq;have B:EP X pins σ Q w s:=⟨z,H,I,F,q⟩
 exact subscriptTail_builtinR (x:=w) pl.typeIs slot_tuple_getitem.lookup
  (getItem_tuple (j:=j) (Q:=λr s'=>r=w/\EP X pins σ Q r s') pl @c @c (by rw [size_toArray,<-W];exact h1) (by simpa using S) ⟨rfl,B⟩) hs
theorem M8:CT X RO:=by
 intro value J pins s σ H x y v u Q I L B h hs;obtain ⟨z,i,c,rfl,rfl,hz,U,q⟩:=h;obtain ⟨t,rfl⟩:=L;obtain ⟨Y,rfl⟩:=B;obtain ⟨j,h1,h2,Z,O,S⟩:=vG U
 have W:z.cps.toList.length=z.length:=by simp [Str.length]
 rw [W] at h1 O S;have hn:=iq
 exact tail_any @es slot_str_getitem.lookup (getItem_str (c:=c) (by
  have F:decide (i< -(2^63:Int))=false:=decide_eq_false @c;have R:decide (i≥2^63)=false:=decide_eq_false @c
  rw [F,R,Bool.or_false]) (by rw [h1];simpa using h2) ⟨.str ⟨#[c]⟩,H,I.tok _,⟨_,rfl⟩,q⟩) hs
theorem zp (its:List Value)(n j:Nat)(u:Value):Obj.mapSeq (·.setIfInBounds j u) {cls:= .type "list",data:= .seq its.toArray n}= {cls:= .type "list",data:= .seq (its.set j u).toArray n}:=by
 simp [Obj.mapSeq]
theorem au.lst {pins:List (Addr×Obj)}{σ:St}{H:Hp}{s:Shared}{p:Addr}{xs:List V}(I:au X pins σ H s)(h:H p=some (.lst xs)):
 ∃(its:List Value) (n:Nat),aH xs its/\s.heap.get? p=some {cls:= .type "list",data:= .seq its.toArray n}/\xs.length<=sizeLine:=by
 obtain ⟨z,its,n,r,e⟩:=I.hok p _ h;exact ⟨its,n,r,e,z⟩
theorem au.lstUpd {pins:List (Addr×Obj)}{σ:St}{H:Hp}{s:Shared}{p:Addr}{xs ys:List V}{its its':List Value}{n B:Nat}{f:Obj->Obj}(I:au X pins σ H s)(h:H p=some (.lst xs))
(F:s.heap.get? p=some {cls:= .type "list",data:= .seq its.toArray n})(j:f {cls:= .type "list",data:= .seq its.toArray n}= {cls:= .type "list",data:= .seq its'.toArray B})(r:aH ys its')(z:ys.length<=sizeLine)(t:Nat):
 au X pins σ @S {s with heap:=s.heap.update p f,toks:=t}:=by
 have e:(s.heap.update p f).get? p=some {cls:= .type "list",data:= .seq its'.toArray B}:=by
  rw [Heap.get?_update_self f F (by rw [j]<;>rfl),j]
 rwa[I.write (x:=p) (e:=p) (by rw [h];trivial) (.inl rfl) (λb u J q=>(Heap.get?_update_other _ _ (Ne.symm J)).trans q) ⟨_,e⟩ ?_];exact ⟨z,its',B,r,e⟩
def OS:V->V->V->Hp->(Hp->Prop)->Prop:=λo i v H Q=>∃p xs k j,o= .ref p/\i= .int k/\H p=some (.lst xs)/\zA xs.length k=some j/\Q @bB
theorem DW:CM X OS:=by
 intro pins s σ H o i v ov iv u Q I ro Z U h;obtain ⟨p,xs,k,j,rfl,rfl,O,hj,q⟩:=h;cases ro;obtain ⟨t,rfl⟩:=Z;obtain ⟨its,n,r,z,Y⟩:=I.lst O;obtain ⟨h1,h2,L,S⟩:=AM hj;have B:=r.length;have hn:=iq
 have J:au X pins σ @bB {s with heap:=s.heap.update p (Obj.mapSeq (·.setIfInBounds j u))}:=
  I.lstUpd O z (zp its n j u) (r.set U j) (by rw [length_set];exact Y) s.toks
 by_cases F:0<=k
 ·have R:k.toNat=j:=by
   rw [seqIndex_of F S] at h1;exact Option.some.inj h1
  exact W.ki_setAt z F @c (by rw [size_toArray,<-B];exact S) (by rw [R];exact ⟨_,J,q⟩)
 ·have R:(k+(its.toArray.size:Int)).toNat=j:=by
   rw [seqIndex_neg @c L] at h1;rw [size_toArray,<-B];exact Option.some.inj h1
  exact W.ki_setBack z @c (by rw [size_toArray,<-B];exact L) @c (by rw [R];exact ⟨_,J,q⟩)
theorem uy (lo hi:Option Int)(n:Nat):(sliceBounds lo hi none n).1=((HT.sIx n 0 lo:Nat):Int)/\(sliceBounds lo hi none n).2.1=((HT.sIx n n hi:Nat):Int)/\(sliceBounds lo hi none n).2.2=1:=by
 rwa[⟨?_,?_,rfl⟩]
 ·cases lo with
  |none=>simp [sliceBounds,HT.sIx]
  |some i=>
   simp only [sliceBounds,HT.sIx,Option.getD_none,show (1:Int)>0 by decide,if_true];by_cases h:i<0
   ·simp only [h,if_true]<;>lia
   ·simp only [h,if_false]<;>lia
 ·cases hi with
  |none=>simp [sliceBounds,HT.sIx]
  |some i=>
   simp only [sliceBounds,HT.sIx,Option.getD_none,show (1:Int)>0 by decide,if_true];by_cases h:i<0
   ·simp only [h,if_true]<;>lia
   ·simp only [h,if_false]<;>lia
theorem rH (its:List Value)(lo hi:Option Int):slicePick its.toArray lo hi none=((its.drop (HT.sIx its.length 0 lo)).take (HT.sIx its.length its.length hi - HT.sIx its.length 0 lo)).toArray:=by
 obtain ⟨h1,h2,L⟩:=uy lo hi its.toArray.size;unfold slicePick;rw [h1,h2,L];simp only [sliceRange_one,pick_run,size_toArray]<;>rfl
def RM (K:Fg):V->Option Int->Option Int->Hp->VK->Prop:=λx lo hi H Q=>∃a xs,x= .ref a/\az K H a xs/\∀p,H p=none->Q (.ref p) (upd H p (.lst @cF))
theorem HP:NC X (RM X.K):=by
 intro pins s σ H x v R S lo hi sl Q I B hs pl F h;obtain ⟨a,xs,rfl,j,q⟩:=h;cases B;obtain ⟨its,r,J,L⟩:=I.list j;have z:=r.length;rwa[⟨"list",_,slot_list_getitem.lookup,J.isList.typeIs,?_⟩];rwa[wpAny_getItem_list_slice J.isList hs pl F .none @f ?_ (by rw [size_toArray]<;>lia)];rw [rH,<-z];rwa[⟨.ref s.heap.objs.size,_,I.laid (t':=s.toks) (o:= .lst @cF) (λb O q=>Heap.get?_push_of_some _ q) @e ?_,rfl,q _ @bp⟩];exact ⟨Nat.le_trans (nU xs lo hi) L,_,0,(r.drop @dw).take (HT.sIx xs.length xs.length hi - HT.sIx xs.length 0 lo),Heap.get?_push_size _ rfl⟩
noncomputable def c5:V->Bool
 | .non=>true
 | .bl _=>true
 | .int _=>true
 | .str _=>true
 |_=>false
noncomputable def Ki:V->V->Bool
 | .non,.non=>true
 | .bl a,.bl b=>a==b
 | .bl a,.int b=>(if a then 1 else 0)==b
 | .int a,.bl b=>a==(if b then 1 else 0)
 | .int a,.int b=>a==b
 | .str a,.str b=>a==b
 |_,_=>false
theorem fE {A:Around}{s:Shared}{y x:V}{u v:Value}(z:ax y u)(J:ax x v)(F:c5 y=true)(j:c5 x=true):SeqAt.EqAt A s u v (Ki y x):=by
 cases y with
 |non=>
  cases z
  cases x with
  |non=>cases J;exact SeqAt.EqAt.same _
  |bl b=>cases J;exact SeqAt.EqAt.none_bool b
  |int b=>obtain ⟨t,rfl⟩:=J;exact SeqAt.EqAt.none_int b t
  |str b=>obtain ⟨t,rfl⟩:=J;exact SeqAt.EqAt.none_str b t
  |_=>exact absurd (show false=true from j) Bool.false_ne_true
 |bl a=>
  cases z
  cases x with
  |non=>cases J;exact SeqAt.EqAt.bool_none a
  |bl b=>cases J;exact SeqAt.EqAt.bool_bool a b
  |int b=>obtain ⟨t,rfl⟩:=J;exact SeqAt.EqAt.bool_int a b t
  |str b=>obtain ⟨t,rfl⟩:=J;exact SeqAt.EqAt.bool_str a b t
  |_=>exact absurd (show false=true from j) Bool.false_ne_true
 |int a=>
  obtain ⟨B,rfl⟩:=z
  cases x with
  |non=>cases J;exact SeqAt.EqAt.int_none a B
  |bl b=>cases J;exact SeqAt.EqAt.int_bool a B b
  |int b=>obtain ⟨t,rfl⟩:=J;exact SeqAt.EqAt.int_int a B b t
  |str b=>obtain ⟨t,rfl⟩:=J;exact SeqAt.EqAt.int_str a B b t
  |_=>exact absurd (show false=true from j) Bool.false_ne_true
 |str a=>
  obtain ⟨B,rfl⟩:=z
  cases x with
  |non=>cases J;exact SeqAt.EqAt.str_none a B
  |bl b=>cases J;exact SeqAt.EqAt.str_bool a B b
  |int b=>obtain ⟨t,rfl⟩:=J;exact SeqAt.EqAt.str_int a B b t
  |str b=>obtain ⟨t,rfl⟩:=J;exact SeqAt.EqAt.str_str a B b t
  |_=>exact absurd (show false=true from j) Bool.false_ne_true
 |_=>exact absurd (show false=true from F) Bool.false_ne_true
noncomputable def zL (x:V)(u:Value):Bool:=match u with
 | .none=>Ki .non x
 | .bool b=>Ki (.bl b) x
 | .int i _=>Ki (.int i) x
 | .str z _=>Ki (.str z) x
 |_=>false
theorem F9 {x y:V}{u:Value}(r:ax y u)(f:c5 y=true):zL x u=Ki y x:=by
 cases y with
 |non=>cases r;rfl
 |bl b=>cases r;rfl
 |int i=>obtain ⟨t,rfl⟩:=r;rfl
 |str z=>obtain ⟨t,rfl⟩:=r;rfl
 |_=>exact absurd (show false=true from f) Bool.false_ne_true
theorem lv {x:V}:∀ {xs:List V} {us:List Value},aH xs us->xs.all c5=true->us.any (zL x)=xs.any λy=>Ki y x
 |_,_,.nil,_=>rfl
 |y::xs,u::us,.cons r t,f=>by
  rw [all_cons,Bool.and_eq_true] at f;rw [any_cons,any_cons,F9 r f.1,lv t f.2]
theorem ip {A:Around}{s:Shared}{x:V}{v:Value}(J:ax x v)(j:c5 x=true):∀ {xs:List V} {us:List Value},aH xs us->xs.all c5=true->∀u∈us,SeqAt.EqAt A s u v (zL x u)
 |_,_,.nil,_=>λu z=>by cases z
 |y::xs,u::us,.cons r t,f=>λB z=>by
  rw [all_cons,Bool.and_eq_true] at f
  rcases mem_cons.mp z with rfl|z
  ·rw [F9 r f.1];exact fE r J f.1 j
  ·exact ip J j t f.2 B z
noncomputable def vn (x:V)(xs:List V):Bool:=xs.any λy=>Ki y x
def QC (K:Fg)(neg:Bool):R2:=λx y H Q=>∃p xs,y= .ref p/\(az K H p xs\/aD K H p xs)/\c5 x=true/\xs.all c5=true/\Q (.bl (if neg then !vn x xs else vn x xs)) H
theorem BR:cL X @cj (QC X.K false):=by
 intro pins s σ H x y v u Q I J z h;obtain ⟨p,xs,rfl,L,j,fs,q⟩:=h;cases z
 rcases L with L|L
 ·obtain ⟨its,r,pl,F⟩:=I.list L;rwa[SeqAt.in_listAt (zL x) pl.isList (λw B=>ip J j r fs w (by simpa using B)) ⟨.bl _,H,I,rfl,?_⟩];rw [show its.toArray.any (zL x)=its.any (zL x) by simp,lv r fs];exact q
 ·obtain ⟨its,r,pl,F⟩:=I.tuple L;rwa[SeqAt.in_tupleAt (zL x) pl (λw B=>ip J j r fs w (by simpa using B)) ⟨.bl _,H,I,rfl,?_⟩];rw [show its.toArray.any (zL x)=its.any (zL x) by simp,lv r fs];exact q
theorem u7:cL X @ck (QC X.K true):=by
 intro pins s σ H x y v u Q I J z h;obtain ⟨p,xs,rfl,L,j,fs,q⟩:=h;cases z
 rcases L with L|L
 ·obtain ⟨its,r,pl,F⟩:=I.list L;rwa[SeqAt.notIn_listAt (zL x) pl.isList (λw B=>ip J j r fs w (by simpa using B)) ⟨.bl _,H,I,rfl,?_⟩];rw [show its.toArray.any (zL x)=its.any (zL x) by simp,lv r fs];exact q
 ·obtain ⟨its,r,pl,F⟩:=I.tuple L;rwa[SeqAt.notIn_tupleAt (zL x) pl (λw B=>ip J j r fs w (by simpa using B)) ⟨.bl _,H,I,rfl,?_⟩];rw [show its.toArray.any (zL x)=its.any (zL x) by simp,lv r fs];exact q
theorem vx:bc X (.builtin "len") (λxs H Q=>∃p ys,xs=[.ref p]/\(az X.K H p ys\/aD X.K H p ys)/\Q (.int ys.length) H):=by
 intro pins s σ H xs F Q I r h;obtain ⟨p,ys,rfl,L,q⟩:=h;obtain ⟨u,rfl,J⟩:=fg r;cases J;have j:=iq
 rcases L with L|L
 ·obtain ⟨its,O,pl,B⟩:=I.list L;have z:=O.length;exact Calls.call_len_list pl.isList (by simp only [size_toArray]<;>lia) ⟨.int ys.length,H,I.tok _,⟨s.toks+1,by rw [size_toArray,z]⟩,q⟩
 ·obtain ⟨its,O,pl,B⟩:=I.tuple L;have z:=O.length;exact len_tuple pl (by simp only [size_toArray]<;>lia) ⟨.int ys.length,H,I.tok _,⟨s.toks+1,by rw [size_toArray,z]⟩,q⟩
theorem vw:bc X (.builtin "len") (λxs H Q=>∃z,xs=[.str z]/\z.length<=sizeLine/\Q (.int z.length) H):=by
 intro pins s σ H xs j Q I r h;obtain ⟨z,rfl,B,q⟩:=h;obtain ⟨u,rfl,t,rfl⟩:=fg r;have F:=iq;exact len_str @c ⟨.int z.length,H,I.tok _,⟨_,rfl⟩,q⟩
theorem bc.or {f:Value}{r O:List V->Hp->VK->Prop}(h:bc X f r)(h':bc X f O):bc X f (λxs H Q=>r xs H Q\/O xs H Q):=by
 intro pins s σ H xs z Q I j q
 rcases q with q|q
 ·exact h pins s σ H xs z Q I j q
 ·exact h' pins s σ H xs z Q I j q
theorem vv:bc X (.type "list") (λxs H Q=>∃p ys,xs=[.ref p]/\(az X.K H p ys\/aD X.K H p ys)/\∀l,H l=none->Q (.ref l) @bX):=by
 intro pins s σ H xs Y Q I r h;obtain ⟨p,ys,rfl,L,q⟩:=h;obtain ⟨u,rfl,W⟩:=fg r;cases W
 have z:∀(its:List Value),aH ys its->ys.length<=sizeLine->∀(h':Heap) (j:Nat),(∀b o',s.heap.get? b=some o'->h'.get? b=some o')->
  h'.get? s.heap.objs.size=some {cls:= .type "list",dict:=none,data:= .seq its.toArray j,slots:= #[]}->EP X pins σ Q (.ref s.heap.objs.size) {s with heap:=h'}:=λits O F h' j J e=>
  ⟨.ref s.heap.objs.size,_,I.laid (t':=s.toks) J @e (show bb X.prog X.w _ h' _ (.lst ys) from ⟨F,its,j,O,e⟩),rfl,q _ @bp⟩
 rcases L with L|L
 ·obtain ⟨its,O,pl,F⟩:=I.list L;have B:=O.length;obtain ⟨o,S,R,n,U⟩:=pl.isList;exact call_list_seq p (.inl rfl) S R U (λh' j J e=>z its O F h' j J e) (by simp only [size_toArray]<;>lia)
 ·obtain ⟨its,O,pl,F⟩:=I.tuple L;have B:=O.length;obtain ⟨o,S,R,n,U⟩:=pl;exact call_list_seq p (.inr rfl) S R U (λh' j J e=>z its O F h' j J e) (by simp only [size_toArray]<;>lia)
theorem rW:bc X (.type "tuple") (λxs H Q=>∃p ys,xs=[.ref p]/\((az X.K H p ys/\∀l,H l=none->Q (.ref l) @cK)\/(aD X.K H p ys/\Q (.ref p) H))):=by
 intro pins s σ H xs S Q I r h;obtain ⟨p,ys,rfl,h⟩:=h;obtain ⟨u,rfl,j⟩:=fg r;cases j
 rcases h with ⟨L,q⟩|⟨L,q⟩
 ·obtain ⟨its,O,pl,B⟩:=I.list L;have z:=O.length;rwa[call_tuple_list pl.isList (λh' R=> ?_) (by simp only [size_toArray]<;>lia)];have J:au X pins σ H {s with heap:=h'}:=I.kept (t':=s.toks) R
  have F:au X pins σ (upd H h'.objs.size (.tup ys)) {s with heap:=h'.push {cls:= .type "tuple",data:= .seq its.toArray}}:=
   J.laid (t':=s.toks) (λb o e=>Heap.get?_push_of_some _ e) @e (show bb X.prog X.w _ _ _ (.tup ys) from ⟨B,its,O,IsTup.new _ _⟩)
  exact ⟨.ref h'.objs.size,_,F,rfl,q _ @bW⟩
 ·obtain ⟨its,O,pl,B⟩:=I.tuple L;exact call_tuple_same pl ⟨.ref p,H,I,rfl,q⟩
def Qu (K:Fg)(T:String)(x:V)(H:Hp):Prop:=match x with
 | .str _=>T="str"
 | .int _=>T="int"
 | .ref p=>(T="list"/\∃xs,az K H p xs)\/(T="tuple"/\∃o,K.lookup p=some o/\o.cls= .type "tuple"/\o.dict=none)\/
    (T="dict"/\((∃kvs,H p=some (.dK kvs))\/∃kvs,H p=some (.dT kvs)))\/(T="set"/\∃S n,H p=some (.set S n))
 |_=>False
theorem Di {pins:List (Addr×Obj)}{σ:St}{H:Hp}{s:Shared}{T:String}{x:V}{v:Value}(I:au X pins σ H s)(r:ax x v)(ty:Qu X.K T x H):
 s.TypeIs v T/\∀a,v= .ref a->∃ob,s.heap.get? a=some ob/\ob.dict=none:=by
 cases x with
 |str z=>
  obtain ⟨t,rfl⟩:=r;cases (show T="str" from ty);exact ⟨typeIs_str s z t,λ_ e=>nomatch e⟩
 |int i=>
  obtain ⟨t,rfl⟩:=r;cases (show T="int" from ty);exact ⟨typeIs_int s i t,λ_ e=>nomatch e⟩
 |ref p=>
  cases r
  rcases ty with ⟨rfl,xs,L⟩|⟨rfl,o,R,B,J⟩|⟨rfl,R⟩|⟨rfl,S,n,R⟩
  ·obtain ⟨its,_,pl,_⟩:=I.list L;rwa[⟨pl.isList.typeIs,λa e=> ?_⟩];cases e;obtain ⟨o,n,e,c,J,_⟩:=pl;exact ⟨o,e,J⟩
  ·rwa[⟨⟨o,I.kIn p o R,B⟩,λa e=> ?_⟩];cases e;exact ⟨o,I.kIn _ o R,J⟩
  ·have z:∃o,s.heap.get? p=some o/\o.ExactDict:=by
    rcases R with ⟨kvs,R⟩|⟨kvs,R⟩
    ·obtain ⟨_,_,_,_,o,_,_,e,ex,_⟩:=I.hok p _ R;exact ⟨o,e,ex⟩
    ·obtain ⟨_,_,_,_,o,_,_,e,ex,_⟩:=I.hok p _ R;exact ⟨o,e,ex⟩
   obtain ⟨o,e,ex⟩:=z;rwa[⟨⟨o,e,ex.1⟩,λa j=> ?_⟩];cases j;exact ⟨o,e,ex.2.1⟩
  ·obtain ⟨o,_,_,_,e,ex,_⟩:=I.hok p _ R;rwa[⟨⟨o,e,ex.1⟩,λa j=> ?_⟩];cases j;exact ⟨o,e,ex.2.1⟩
 |_=>exact False.elim ty
variable {o e:Expr}{es:List Expr}{to:TE}{t:TA}{name:Str}{apos cpos:Pos}{T id:String}{r:V->List V->Hp->VK->Prop}
end
def Su (X:Cx)(id:String)(r:V->List V->Hp->VK->Prop):Prop:=
 ∀(pins:List (Addr×Obj)) (s:Shared) (σ:St) (H:Hp) (x:V) (xs:List V) (v:Value) (us:List Value) (Q:VK),au X pins σ H s->ax x v->aH xs us->r x xs H Q->
  wpAny @d X.A (call (.builtin id) (v::us)) @u X.xe s
theorem aH.one:∀ {x:V} {us:List Value},aH [x] us->∃u,us=[u]/\ax x u
 |_,_,.cons r .nil=>⟨_,rfl,r⟩
section
variable {X:Cx}{pins:List (Addr×Obj)}{σ:St}{H:Hp}{s:Shared}{l b:Addr}{xs ys zs:List V}
theorem au.lset {its its':List Value}{n:Nat}{f:Array Value->Array Value}{t':Nat}(I:au X pins σ H s)(j:H l=some (.lst xs))
(e:s.heap.get? l=some {cls:= .type "list",data:= .seq its.toArray n})(z:f its.toArray=its'.toArray)(W:aH ys its')(B:ys.length<=sizeLine):
 au X pins σ @bX {s with heap:=s.heap.update l (Obj.mapSeq f),toks:=t'}:=by
 have q:=PySem.IsL.update e f;rw [z] at q;rwa[I.write (x:=l) (e:=l) (by rw [j];exact trivial) (.inl rfl) (λL u J F=>(Heap.get?_update_other s.heap (Obj.mapSeq f) (Ne.symm J)).trans F) ⟨_,q⟩ ?_];exact ⟨B,its',_,W,q⟩
theorem au.lnew {its:List Value}{t':Nat}(I:au X pins σ H s)(W:aH ys its)(B:ys.length<=sizeLine):
 au X pins σ (upd H s.heap.objs.size (.lst ys)) {s with heap:=s.heap.push {cls:= .type "list",data:= .seq its.toArray},toks:=t'}:=
 I.laid (λ_ _ q=>Heap.get?_push_of_some _ q) @e ⟨B,its,0,W,Heap.get?_push_size _ rfl⟩
theorem au.fresh (I:au X pins σ H s):H s.heap.objs.size=none:=I.hok.fresh @e
theorem au.lstM (I:au X pins σ H s)(j:H l=some (.lst xs)):xs.length<=sizeLine/\∃(its:List Value) (n:Nat),aH xs its/\xs.length=its.length/\s.heap.get? l=some {cls:= .type "list",data:= .seq its.toArray n}:=by
 obtain ⟨z,its,n,r,e⟩:=I.hok l _ j;exact ⟨z,its,n,r,r.length,e⟩
theorem qq {n:Nat}(h:n<=sizeLine):Builtin.List.listTooLong n=false:=by
 unfold Builtin.List.listTooLong;exact decide_eq_false @c
end
section
variable {X:Cx}
def Ij:V->List V->Hp->VK->Prop:=λx vs H Q=>∃l xs y,x= .ref l/\vs=[y]/\H l=some (.lst xs)/\xs.length<sizeLine/\Q .non (upd H l (.lst (xs++[y])))
theorem B6:Su X "list.append" Ij:=by
 intro pins s σ H x R v O Q I J B h;obtain ⟨l,xs,y,rfl,rfl,j,S,q⟩:=h;cases J;obtain ⟨u,rfl,L⟩:=B.one;obtain ⟨z,its,n,r,W,e⟩:=I.lstM j;rwa[call_meets F.slot_list_append ⟨_,e,rfl⟩ F.entry_list_append (F.args_list_append_2 _ _) (PySem.list_append l its.toArray n u (by rw [size_toArray];lia)) ⟨e,?_⟩];rwa[⟨.non,_,I.lset (its':=its++[u]) j e @f (r.append (.cons L .nil)) ?_,rfl,q⟩];rw [length_append,length_singleton];lia
def Ii:V->List V->Hp->VK->Prop:=λx vs H Q=>∃l b xs zs,x= .ref l/\vs=[.ref b]/\H l=some (.lst xs)/\H b=some (.lst zs)/\xs.length+zs.length<=sizeLine/\Q .non (upd H l (.lst (xs++zs)))
theorem B5:Su X "list.extend" Ii:=by
 intro pins s σ H x vs v us Q I rx O h;obtain ⟨l,b,xs,zs,rfl,rfl,L,U,hz,q⟩:=h;cases rx;obtain ⟨u,rfl,S⟩:=O.one;cases S;obtain ⟨z,its,n,r,hl,e⟩:=I.lstM L;obtain ⟨z2,j,Y,W,Z,R⟩:=I.lstM U
 have J:its.toArray.size+j.toArray.size<=sizeLine:=by rw [size_toArray,size_toArray];lia
 have B: ¬(!its.toArray.isEmpty&&Builtin.List.listTooLong (its.toArray.size+j.toArray.size))=true:=by
  rw [qq J,Bool.and_false];exact Bool.false_ne_true
 refine call_meets F.slot_list_extend ⟨_,e,rfl⟩ F.entry_list_extend (F.args_list_extend_2 _ _)
  (AutoSeq1.list_extend_list_list_0 l its.toArray n b j.toArray Y B (by rw [size_toArray];lia) @c) ⟨e,R,?_⟩
 rwa[⟨.non,_,I.lset (its':=its++j) L e @f (r.append W) ?_,rfl,q⟩];rw [length_append];lia
def RR:R2:=λx y H Q=>∃l b xs zs,x= .ref l/\y= .ref b/\H l=some (.lst xs)/\H b=some (.lst zs)/\xs.length+zs.length<=sizeLine/\∀p,H p=none->Q (.ref p) (upd H p (.lst (xs++zs)))
theorem Md:cL X @bt RR:=by
 intro pins s σ H x y v u Q I J j h;obtain ⟨l,b,xs,zs,rfl,rfl,L,U,O,q⟩:=h;cases J;cases j;obtain ⟨z,its,n,r,hl,e⟩:=I.lstM L;obtain ⟨S,F,Y,W,Z,R⟩:=I.lstM U;rwa[PySem.P.add_list e R ?_ (by rw [size_toArray,size_toArray];lia)]
 have B:its.toArray++F.toArray=(its++F).toArray:=by simp
 rw [B];exact ⟨.ref _,_,I.lnew (t':=s.toks) (r.append W) (by rw [length_append];lia),rfl,q _ I.fresh⟩
end
end L2
namespace Att
open PySem PySem.W PySem.Calls PyProof.Rows
theorem oC {P:Params}{h:Heap}:∀(ns:List Int) (vs:List Value),WellAll P h vs @et->IntsAre vs ns:=by
 intro ns
 induction ns with
 |nil=>
  intro vs w;rw [map_nil] at w;cases w;exact .nil
 |cons n ns ih=>
  intro vs w;rw [map_cons] at w
  cases w with
  |cons a b=>
   cases a;exact .cons _ _ (ih _ b)
theorem Bs {l:OpenLaw}{n:Nat}(U:l.most=some n){P:Params}{h:Heap}{z:List WData}{j:List Value}
(B:l.row.toRowW.claim.pre z=true)(L:WellAll P h j z):
 ∃a vs ns,j=[Value.ref a]/\z=[WData.list @et]/\h.get? a=some {cls:= .type "list",data:= .seq vs.toArray}/\IntsAre vs ns/\ns.length<=n:=by
 have J:WShape.hasAll [] z [.list .int]=true:=(pre_splitW B).1;have O:l.pre.holds [] {args:=z}=true:=(pre_splitW B).2;obtain ⟨d,r,rfl,h1,h2⟩:=hasAllW_cons J;obtain rfl:=hasAllW_nil h2;obtain ⟨xs,rfl,R⟩:=hasW_list h1;obtain ⟨ns,rfl⟩:=items_int R
 have F:ns.length<=n:=by
  unfold OpenLaw.pre at O
  have I:(WTm.not (.lt (.lit (.int (n:Int))) (.len (.arg 0)))).holds [] {args:=[.list (ns.map .int)]}=true:=by
   have I:=(holds_andW O).1;rw [U] at I;exact I
  have S:=condW_of I (w_not (w_lt w_lit (w_len_list (w_arg rfl))));rw [length_map] at S;rwa[Nat.le_of_not_lt λq=> ?_]
  have W:(n:Int)<((ns.length:Nat):Int):=by lia
  first
   |(rw [decide_eq_true W] at S;exact absurd S @b)
   |(simp at S;lia)
 cases L with
 |cons w1 w2=>
  cases w2
  cases w1 with
  |list ho hall=>exact ⟨_,_,ns,rfl,rfl,ho,oC ns _ hall,F⟩
theorem BO (l:OpenLaw)(z:List WData):l.row.toRowW.claim.post z (.bool true) z=true:=
 postW_of (r:=l.row.toRowW) (X:=(true==true))
  (show WShape.has [] (.bool true) .bool=true by first|rfl|decide|simp [WShape.has,WShape.arms,WShape.armsAll])
  (show (WTm.eq .res (.lit (.bool true))).value [] {args:=z,res:=some (.bool true),after:=z}=some (.bool (true==true)) from w_eq_bool (w_res rfl) w_lit) rfl
end Att
namespace L2
open PySem PySem.Spec PyProof.Rows
theorem sd:∀ {vs:List Value} {ns:List Int},IntsAre vs ns->aH @bF vs
 |_,_,.nil=> .nil
 |_,_,.cons n t h=> .cons ⟨t,rfl⟩ (sd h)
noncomputable def bS (s:Stmt):Arguments:=match s with
 | .FunctionDef _ a _ _ _ _ _ _ _ _=>a
 |_=> {posonlyargs:=[],args:=[],vararg:=none,kwonlyargs:=[],kw_defaults:=[],kwarg:=none,defaults:=[]}
noncomputable def bt (s:Stmt):List Stmt:=match s with
 | .FunctionDef _ _ b _ _ _ _ _ _ _=>b
 |_=>[]
noncomputable def ae (s:Stmt):Scope:=match s with
 | .FunctionDef _ _ _ _ _ _ sc _ _ _=>sc
 |_=> {kind:= .function,names:=[],isGenerator:=false,isCoroutine:=false}
abbrev aQ:nh:=λ_ _ _ _ _ _=>False
abbrev E0:XK:=λ_ _ _=>False
theorem gS {X:Cx}:fG aQ X E0:=λ_ _ _ _ _ _ _ h=>h.elim
structure bh (K:Fg)(x qual:Str)(st:Stmt)(f:Addr)(fd:FuncData):Prop where
 ex:∃(oc:Value) (od:Option Addr) (kV doc pm:Value) (an:Option Addr) (cdv ct:Value) (osl:Array @J),
  fd=W.fnOf x qual @dN @cP @bK .none kV doc pm an cdv ct/\K.lookup f=some ⟨oc,od,.func fd,osl⟩/\W.codeIn K cdv qual=true
 kp:W.keepIn K (.ref f)=true
section
variable {P:Program}{w:World}{K:Fg}{mg:Str->Option Value}{base:Heap}
theorem bh.ok {x qual:Str}{st:Stmt}{f:Addr}{fd:FuncData}{N ps:List Str}{k:Nat}{sp:Sp}(F:bh K x qual st f fd)(S:ai N ps @bK)(Y:∀vs H Q E,sp vs H Q E->vs.length=ps.length)
(L:∀(cdv:Value) (A:Around) (outer:List Env) (s:Shared) (H:Hp) (vs:List V) (Q:VK) (E:XK),bC k (A.deeper (envOfC qual @bK s.heap.objs.size f cdv))->sp vs H Q E->
   ∃t,rj (qP aQ P w K mg base N qual @bK f cdv A outer s H E).nox @cP t/\t {nx:=λ_ H'=>Q .non H',rt:=Q} @cz H):ar P w K mg base aQ (k+1) f fd ps sp:=by
 obtain ⟨oc,J,Z,O,I,W,cdv,U,aa,rfl,j,B⟩:=F.ex;rwa[F6 j B S Y λA outer s H vs Q E z R=> ?_];obtain ⟨t,h,q⟩:=L cdv A outer s H vs Q E z R;exact ⟨t,h.nox,q⟩
theorem bh.binds {x qual:Str}{st:Stmt}{f:Addr}{fd:FuncData}{ps:List Str}(F:bh K x qual st f fd)
(h:∀(kV doc pm:Value) (an:Option Addr) (cdv ct:Value) (us:List Value),us.length=ps.length->bindArgs (W.fnOf x qual @dN @cP @bK .none kV doc pm an cdv ct) ⟨us,[]⟩=pure @cs):d6 K fd ps []:=by
 obtain ⟨z,j,kV,doc,pm,an,cdv,ct,aa,rfl,I,B⟩:=F.ex;exact .all (h kV doc pm an cdv ct)
theorem vq {x qual:Str}{st:Stmt}{f:Addr}{B:Value}{od z:Option Addr}{aa:Array @J}{Z O I j U:Value}(l:K.lookup f=some ⟨B,od,.func (W.fnOf x qual @dN @cP @bK .none Z O I z j U),aa⟩)
(c:W.codeIn K j qual=true)(k:W.keepIn K (.ref f)=true):bh K x qual st f (W.fnOf x qual @dN @cP @bK .none Z O I z j U):=⟨⟨B,od,Z,O,I,z,j,U,aa,rfl,l,c⟩,k⟩
end
theorem Ke {A:Around}{k:Nat}(Y:bC k A):A.units+1<cLine:=Nat.lt_of_le_of_lt (Nat.add_le_add_left (by decide:1<=64) _) Y.units
def ak (H H':Hp):Prop:=∀b o,H b=some o->H' b=some o
theorem ak.refl (H:Hp):ak H H:=λ_ _ h=>h
theorem ak.trans {H H1 H2:Hp}(a:ak H H1)(b:ak H1 H2):ak H H2:=λc o h=>b c o (a c o h)
theorem ak.free {H H':Hp}(e:ak H H'){l:Addr}(h:H' l=Option.none):H l=Option.none:=by
 cases q:H l with
 |none=>rfl
 |some o=>
  rw [e l o q] at h;cases h
theorem ak.seq {K:Fg}{H H':Hp}{a:Addr}{xs:List V}(e:ak H H')(h:az K H a xs):az K H' a xs:=by
 rcases h with (h|⟨o,h⟩)|h
 ·exact .inl (.inl (e _ _ h))
 ·exact .inl (.inr ⟨o,e _ _ h⟩)
 ·exact .inr h
noncomputable def dR (cells:List (Str×Addr)):List (Str×NameKind)->List (Str×Addr)->List (Str×Addr)
 |[],cs=>cs
 |(n,.free)::r,cs=>dR cells r (match cells.lookup n with|some a=>(n,a)::cs|none=>cs)
 |(_,_)::r,cs=>dR cells r cs
theorem mX {j:List (Str×Addr)}{n:Str}{r:List (Str×NameKind)}{cs:List (Str×Addr)}{a:Addr}(h:j.lookup n=some a):dR j ((n,.free)::r) cs=dR j r ((n,a)::cs):=by
 show dR j r (match j.lookup n with|some a=>(n,a)::cs|none=>cs)=_;rw [h]
theorem gJ {j:List (Str×Addr)}{n:Str}{k:NameKind}{r:List (Str×NameKind)}{cs:List (Str×Addr)}(h:k≠ .free):dR j ((n,k)::r) cs=dR j r cs:=by
 cases k<;>first|rfl|exact absurd rfl h
theorem kU {j:List (Str×Addr)}:∀ {l:List (Str×NameKind)} {cs:List (Str×Addr)},(∀p∈cs,j.lookup p.1=some p.2)->∀p∈dR j l cs,j.lookup p.1=some p.2
 |[],_,h=>h
 |(n,k)::r,cs,h=>by
  by_cases R:k= .free
  ·subst R
   cases e:j.lookup n with
   |none=>
    have:dR j ((n,.free)::r) cs=dR j r cs:=by
     show dR j r (match j.lookup n with|some a=>(n,a)::cs|none=>cs)=_;rw [e]
    rw [this];exact kU h
   |some a=>
    rw [mX e];rwa[kU λp F=> ?_]
    rcases mem_cons.mp F with rfl|F
    ·exact e
    ·exact h p F
  ·rw [gJ R];exact kU h
theorem gK {j:List (Str×Addr)}:∀ {l:List (Str×NameKind)} {cs:List (Str×Addr)} {p:Str×Addr},p∈cs->p∈dR j l cs
 |[],_,_,h=>h
 |(n,k)::r,cs,p,h=>by
  by_cases R:k= .free
  ·subst R;show p∈dR j r (match j.lookup n with|some a=>(n,a)::cs|none=>cs)
   cases e:j.lookup n with
   |none=>exact gK h
   |some a=>exact gK (mem_cons_of_mem _ h)
  ·rw [gJ R];exact gK h
theorem qS {j:List (Str×Addr)}{x:Str}{c:Addr}(I:j.lookup x=some c):∀ {l:List (Str×NameKind)} {cs:List (Str×Addr)},(x,NameKind.free)∈l->(x,c)∈dR j l cs
 |(n,k)::r,cs,h=>by
  rcases mem_cons.mp h with e|h2
  ·cases e;rw [mX I];exact gK mem_cons_self
  ·by_cases R:k= .free
   ·subst R;show (x,c)∈dR j r (match j.lookup n with|some a=>(n,a)::cs|none=>cs);exact qS I h2
   ·rw [gJ R];exact qS I h2
theorem i8 {α β:Type}[BEq α][LawfulBEq α]{x:α}{c:β}:∀ {l:List (α×β)},(x,c)∈l->∃d,l.lookup x=some d
 |(n,a)::r,h=>by
  cases e:x==n with
  |true=>exact ⟨a,by simp only [lookup_cons,e]⟩
  |false=>
   rcases mem_cons.mp h with q|q
   ·cases q;simp at e
   ·obtain ⟨d,J⟩:=i8 q;exact ⟨d,by simp only [lookup_cons,e];exact J⟩
theorem mW {j:List (Str×Addr)}{l:List (Str×NameKind)}{x:Str}{c:Addr}(h:(dR j l []).lookup x=some c):j.lookup x=some c:=
 kU (l:=l) (cs:=[]) (λ_ F=>absurd F @f) (x,c) @dv
theorem Gs {j:List (Str×Addr)}{l:List (Str×NameKind)}{x:Str}{c:Addr}(I:j.lookup x=some c)(h:(x,NameKind.free)∈l):(dR j l []).lookup x=some c:=by
 obtain ⟨d,J⟩:=i8 (qS (cs:=[]) I h);rw [J,<-I,mW J]
theorem jb {scope:Scope}{env:Env}(h:∀n,(n,NameKind.free)∈scope.names->∃c,env.cells.lookup n=some c):closureFor scope env=pure @cD:=by
 have L:∀(l:List (Str×NameKind)) (j:List (Str×Addr)),(∀n,(n,NameKind.free)∈l->∃c,env.cells.lookup n=some c)->
  (forIn l j (λ(x:Str×NameKind) (r:List (Str×Addr))=>match x with
    |(name,kind)=>if (kind==NameKind.free)=true then (do let c<-cellOf env name;pure (ForInStep.yield ((name,c)::r))) else (do pure PUnit.unit;pure (ForInStep.yield r))):Sem (List (Str×Addr)))=pure (dR env.cells l j):=by
  intro l
  induction l with
  |nil=>intro j _;rfl
  |cons p r ih=>
   intro j W;obtain ⟨n,k⟩:=p;have Y:=ih;by_cases R:k= .free
   ·subst R;obtain ⟨c,I⟩:=W n mem_cons_self;rw [mX I];rw [<-ih ((n,c)::j) λm B=>W m @cy];rw [forIn_cons];simp only [cellOf,I,beq_self_eq_true,if_true];rfl
   ·rw [gJ R];rw [<-ih j λm B=>W m @cy];rw [forIn_cons]
    have z:(k==NameKind.free)=false:=by simpa using R
    simp only [z,Bool.false_eq_true,if_false];rfl
 have e:=L scope.names [] h;unfold closureFor
 first
  |exact congrArg (λm=>m>>=pure) e
  |(simp only [bind_pure];exact e)
  |(rw [show (pure @cD:Sem (List (Str×Addr)))=(pure @cD>>=pure) from rfl,<-e];rfl)
noncomputable def aZ (X:Cx)(scope:Scope)(N':List Str)(C:Addr)(s:Shared)(H:Hp)(ex:List Addr):Cx where
 prog:=X.prog
 w:=X.w
 K:=X.K
 mg:=X.mg
 base:=X.base
 A:=X.A
 N:=N'
 s₀:=s
 H₀:=H
 env:=compEnvC scope @be C X.env
 outer:=X.stack
 stack:=X.stack
 ex:=ex
 fn:=λ_=>false
 calm:=X.calm
 pn:=[]
 xe:=λ_ _=>False
structure cy (X:Cx)(scope:Scope)(N':List Str)(pk:List @l):Prop where
 kind:scope.kind= .function
 nocell:∀y∈scope.names,y.2≠ .cell
 loc:∀y∈scope.names,y.2= .local->scope.names.lookup y.1=some .local
 free:∀n,(n,NameKind.free)∈scope.names->X.env.kindOf n=some .cell\/X.env.kindOf n=some .free
 nofl:∀n,(n,NameKind.free)∈scope.names->scope.names.lookup n≠some .local
 pl:pk.length=N'.length
 pn:∀(j i:Nat) (x:Str),pk[j]? =some (some i)->N'[j]? =some x->X.N[i]? =some x/\(x,NameKind.free)∈scope.names
noncomputable def cj (pk:List @l)(σ:St):St:=pk.map λo=>o.bind λi=>(σ[i]?).join
theorem qv {scope:Scope}{env:Env}{x:Str}(S:∀y∈scope.names,y.2≠ .cell)(h:(relabel scope env).names.lookup x=some .cell\/(relabel scope env).names.lookup x=some .free):(x,NameKind.free)∈scope.names:=by
 have L:∀k,(relabel scope env).names.lookup x=some k->(k= .cell\/k= .free)->(x,NameKind.free)∈scope.names:=λk e j=>by
  have m:=PySem.mem_of_lookup e;obtain ⟨p,F,R⟩:=mem_map.mp m;obtain ⟨n,B⟩:=p;dsimp only at R;by_cases I:(B==NameKind.free&&env.scope.kind== .function&&env.kindOf n==some .cell)=true
  ·rw [if_pos I] at R
   have z:B= .free:=by
    simp only [Bool.and_eq_true] at I;simpa using I.1.1
   have J:n=x:=(Prod.mk.inj R).1;rw [<-J,<-z];exact F
  ·rw [if_neg I] at R;have J:n=x:=(Prod.mk.inj R).1;have O:B=k:=(Prod.mk.inj R).2
   rcases j with j|j
   ·exact absurd (O.trans j) (S _ F)
   ·rw [<-J,<-j,<-O];exact F
 rcases h with h|h
 ·exact L _ h (.inl rfl)
 ·exact L _ h (.inr rfl)
section
variable {X:Cx}{pins:List (Addr×Obj)}{σ:St}{H:Hp}{s:Shared}{scope:Scope}{N':List Str}{pk:List @l}{fp:List Addr}
theorem JA (I:au X pins σ H s)(S:cy X scope N' pk){C:Addr}(J:s.heap.objs.size<=C)(j:∀b∈fp,iI X pins H b)(F:∀b∈fp,b<s.heap.objs.size):(aZ X scope N' C s H fp).Ok where
 mod:=I.ok.mod
 kind:=S.kind
 glob:=I.ok.glob
 blt:=I.ok.blt
 above:=J
 inj:=λx y c h1 h2=>I.ok.inj x y c (mW h1) (mW h2)
 has:=λx h=>by
  have m:(x,NameKind.free)∈scope.names:=qv S.nocell h;obtain ⟨c,L⟩:=I.ok.has x (S.free x m);exact ⟨c,Gs L m⟩
 cab:=λx c h _=>nomatch h
 hd:=I.ok.hd
 frames:=I.ok.frames
 stk:= .inl rfl
 exf:=λb B=>⟨Nat.ne_of_lt (Nat.lt_of_lt_of_le (F b B) J),λx c e=>(j b B).2.2.2.2.1 x c (mW e)⟩
 bs:=I.bs
 bsz:=Nat.le_trans I.ok.bsz I.sz
 noex:=λb o e B=>by
  rcases (j b B).2.2.2.1 with z|z
  ·exact I.ok.noex b o e z
  ·exact absurd (Nat.lt_of_lt_of_le @bV (Nat.le_trans I.ok.bsz z)) @G
 exfs:=λb B z=>by
  rcases mem_cons.mp @fv with e|e
  ·exact (j b B).2.1 e
  ·exact (j b B).2.2.1 e
 funs:=I.stack
 frf:=I.stkFree
theorem Ex {pk:List @l}{σ:St}{j:Nat}{v:V}(h:(cj pk σ)[j]? =some @bq):∃i,pk[j]? =some (some i)/\σ[i]? =some @bq:=by
 unfold cj at h;rw [getElem?_map] at h
 cases e:pk[j]? with
 |none=>rw [e] at h;cases h
 |some o=>
  rw [e] at h
  cases o with
  |none=>cases h
  |some i=>
   rwa[⟨i,rfl,?_⟩];have h':(σ[i]?).join=some v:=Option.some.inj h
   cases q:σ[i]? with
   |none=>rw [q] at h';cases h'
   |some z=>rw [q] at h';rw [show z=some v from h']
theorem Go {Z:Shared}{C D:Addr}{od:Obj}(I:au X pins σ H s)(S:cy X scope N' pk)(hC:s.heap.objs.size<=C)(hf:∀b∈fp,iI X pins H b)(W:∀b∈fp,b<s.heap.objs.size)
(U:Z.os=s.os)(hg:Z.gens=s.gens)(F:∀b o,s.heap.get? b=some o->Z.heap.get? b=some o)(aa:Z.heap.Ns C λ_=>none)(hD:s.heap.objs.size<=D)(Y:D≠C)(ac:Z.heap.get? D=some od)(ab:∀v,od.data≠ .cell v):
 au @fD [(D,od)] @L H Z where
 ok:=JA I S hC hf W
 os:=U
 bare:=by rw [hg];exact I.bare
 base:=Un.kept F
 loc:=⟨_,aa,λj x v h1 h2 L=>by
  obtain ⟨i,e1,e2⟩:=Ex h2;obtain ⟨hN,hm⟩:=S.pn j i x e1 h1;obtain ⟨m,hn,hl⟩:=I.loc;have hk:=S.free x hm;obtain ⟨c,hc⟩:=I.ok.has x hk
  have hv:NJ X.env.scope x:=by
   rcases hk with k|k
   ·exact .inr (.inl k)
   ·exact .inr (.inr k)
  obtain ⟨u,r,l⟩:=hl i x v hN e2 hv;rwa[⟨u,r,.inr ⟨?_,c,Gs hc hm,?_⟩⟩]
  ·rcases L with L|L|L
   ·exfalso;have R:(relabel scope X.env).names.lookup x=some .local:=L;obtain ⟨p,hp,e⟩:=mem_map.mp (PySem.mem_of_lookup R);obtain ⟨n,O⟩:=p;dsimp only at e;by_cases B:(O==NameKind.free&&X.env.scope.kind== .function&&X.env.kindOf n==some .cell)=true
    ·rw [if_pos B] at e;exact nomatch (Prod.mk.inj e).2
    ·rw [if_neg B] at e;have en:n=x:=(Prod.mk.inj e).1;have ek:O= .local:=(Prod.mk.inj e).2;have q:=S.loc _ hp ek;have q2:(relabel scope X.env).names.lookup x=some .local:=R;exact S.nofl x hm (by rw [<-en];exact q)
   ·exact .inl L
   ·exact .inr L
  ·rcases l with ⟨k,_⟩|⟨_,c',e,z⟩
   ·rcases hk with O|O<;>(rw [O] at k;cases k)
   ·rw [hc] at e;cases e;obtain ⟨o,J,hd⟩:=z
    exact ⟨o,F _ _ J,hd⟩⟩
 cell:=λx c h=>by
  obtain ⟨v,o,J,hd⟩:=I.cell x c (mW h);exact ⟨v,o,F _ _ J,hd⟩
 free:=I.hok.fresh hC
 freeC:=λx c h=>I.freeC x c (mW h)
 pin:=λp hp=>by
  have e:p=(D,od):=by simpa using (show p∈([]:List (Addr×Obj))++[(D,od)] from hp)
  subst e;rwa[⟨ac,I.hok.fresh hD,Y,λz=> ?_,ab⟩];obtain ⟨_,o,J,_⟩:=I.stack.mem z;exact absurd (Nat.lt_of_lt_of_le (Heap.lt_size J) hD) @G
 hok:=I.hok.kept F
 len:=by unfold cj;rw [length_map];exact S.pl
end
theorem z7 {prog:Program}{w:World}{A:Around}{E:Value->Shared->Prop}{s:Shared}{l:Addr}{its:Array Value}{n:Nat}{x:Value}{Q:Value->Shared->Prop}
(e:s.heap.get? l=some {cls:= .type "list",data:= .seq its n})(hsz:its.size<=sizeLine)
(z:∀h' n',h'.get? l=some {cls:= .type "list",data:= .seq (its.push x) n'}->Heap.SameBut l s.heap h'->Q .none {s with heap:=h'}):
 wpAny @i A (call (.builtin "list.append") [.ref l,x]) Q E s:=by
 have W:s.heap.IsList l its:=PySem.IsL.isList e;rwa[wpAny_call_entry slot_list_append W.typeIs entry_list_append ?_ (args_list_append _ _)];show wpAny _ _ (updateSeq l (·.push x)>>=λ_=>ret .none) _ _ s;rwa[wpAny_bind ?_];have q:(s.heap.update l (Obj.mapSeq (·.push x))).get? l=some (Obj.mapSeq (·.push x) {cls:= .type "list",data:= .seq its n}):=Heap.get?_update_self _ e rfl;exact wpAny_updateSeq e rfl (wpAny_pure ⟨.none,rfl,z _ _ q (Heap.SameBut.update ..)⟩)
section
variable {X:Cx}{pins:List (Addr×Obj)}{σ:St}{H H':Hp}{s s':Shared}{scope:Scope}{N':List Str}{pk:List @l}{fp:List Addr}
theorem fA.track {P:Program}{w:World}{H:Hp}{h:Heap}{a:Addr}{o:HO}(x:fA P w H h)(z:H a=none)(j:bb P w @bn h a o):fA P w @bn h:=λb u e=>by
 by_cases B:b=a
 ·subst B;rw [af] at e;cases e;exact j
 ·rw [ag B] at e
  exact (x b u e).stay (λc v _ q=>q) (λc q=>by rw [ag @eq];exact q) λc xs q=>by rw [ag @eq];exact q
theorem fA.but {P:Program}{w:World}{H:Hp}{h h':Heap}{a:Addr}(x:fA P w H h)(j:H a=none)(k:∀b o,b≠a->h.get? b=some o->h'.get? b=some o):fA P w H h':=λb u e=>
 (x b u e).stay (λc v I q=>k c v (by
   rcases I with rfl|I
   ·exact λz=>by rw [z,j] at e;cases e
   ·exact bp I j) q) @dJ λ_ _ q=>q
theorem Gn {C D:Addr}{h':Heap}{ys:List V}{its:List Value}{n:Nat}{Z:St}{O:List (Addr×Obj)}(I:au X pins σ H s)(S:∀b∈fp,iI X pins H b)
(J:au @fD O Z H' s')(W:s.heap.objs.size<=C)(hD:s.heap.objs.size<=D)(Y:D≠C)(L:H' D=none)(e:s'.heap.get? D=some {cls:= .type "list",data:= .seq its.toArray n})(r:aH ys its)
(hz:ys.length<=sizeLine)(sb:Heap.SameBut C s'.heap h'):au X pins σ @bR {s' with heap:=h'}:=by
 have u:Un @dL fp H H' s.heap s'.heap:=J.base;have j:∀b o,b≠C->s'.heap.get? b=some o->h'.get? b=some o:=λb o B q=>(sb.2 b B).trans q;have F:∀b o,s.heap.get? b=some o->b≠C/\b≠D:=λb o q=>⟨Nat.ne_of_lt (Nat.lt_of_lt_of_le @eV W),Nat.ne_of_lt (Nat.lt_of_lt_of_le @eV hD)⟩;have U:H' C=none:=J.free
 have af:fA X.prog X.w @bR h':=by
  rwa[fA.but (a:=C) (fA.track (h:=s'.heap) J.hok L ⟨hz,its,n,r,e⟩) ?_ j];rw [ag (Ne.symm Y)];exact U
 rwa[I.call' (s':= {s' with heap:=h'}) (ch:=fp) J.os ?_ af J.bare λb B=>⟨(S b B).2.2.2.1,(S b B).2.1,(S b B).2.2.2.2.1,(S b B).2.2.2.2.2⟩];rwa[⟨λb o q n B R=> ?_,λb o q n B R=> ?_,λb o q n R=> ?_,λb o q R=> ?_,λb xs q=> ?_,λb o xs q=> ?_,λb ps q=> ?_⟩]
 ·exact j b o (F b o q).1 (u.keep b o q n B R)
 ·obtain ⟨sl,z⟩:=u.slot b o q n B R;exact ⟨sl,j b _ (F b o q).1 z⟩
 ·rw [ag (F b o q).2];exact u.free b o q n R
 ·obtain ⟨o',z⟩:=u.there b o q R;exact ⟨o',j b o' (F b o q).1 z⟩
 ·have z:=u.tups b xs q;rw [ag (bp z L)];exact z
 ·have z:=u.frzs b o xs q;rw [ag (bp z L)];exact z
 ·obtain ⟨m,z⟩:=u.tbls b ps q;exact ⟨m,by rw [ag (bp z L)];exact z⟩
end
def G9 (X:Cx)(es:List Expr)(t:TT):Prop:=
 ∀(pins:List (Addr×Obj)) (s:Shared) (σ:St) (H:Hp) (Q:Bool->Hp->Prop),au X pins σ H s->t σ H Q->
  wpAny @d X.A (forIn es true λc r=>if r=true then do let ok<-isTrue c X.env (eval c X.env);pure (ForInStep.yield ok) else pure (ForInStep.yield r)) @dD X.xe s
def Rp:TT:=λ_ H Q=>Q true H
theorem bw {X:Cx}:G9 X [] Rp:=λpins s σ H Q I h=>wpAny_tests_nil ⟨H,I,h⟩
theorem d7 {X:Cx}{c:Expr}{t:TT}(h:PT X c t):G9 X [c] t:=λpins s σ H Q I L=>wpAny_tests_one (h pins s σ H Q I L)
def rZ (σ σ':St):Prop:=σ'.length=σ.length/\∀(i:Nat) v,σ[i]? =some @bq->σ'[i]? =some @bq
def Dt (pk:List @l)(wi:TI)(g:TG)(tt:TT)(te:TE):TE:=λσ H Q=>wi σ H λJ H1=>∃W:Nat->Nat->List V->Hp->Prop,(∃m,W 0 m [] H1)/\∀i m ys H,W i m ys H->
 (J.stop i H/\ys.length<=sizeLine/\∀p,H p=none->Q (.ref p) @S)\/
 (J.go i H/\ys.length<sizeLine/\∃N:List V->Hp->Prop,(∀zs H',N zs H'->∃m',m'<m/\W (i+1) m' zs H')/\∀x H',J.yld i H x H'->g x @L H' λσ2 H2=>rZ @L σ2/\tt σ2 H2 λb H3=>
   if b=true then te σ2 H3 λv H4=>N (ys++[v]) H4 else N ys H3)
structure GL (P:Program)(w:World)(K:Fg)(A₀:Around)(c:Bool)(tg:Expr)(J:It)(fp:List Addr)(it:Addr)(tn:Nat->Heap->Prop):Prop where
 mem:it∈fp
 obj:∀i h,tn i h->∀b∈fp,∃o,h.get? b=some o/\∀v,o.data≠ .cell v
 keep:∀i h h',tn i h->(∀b∈fp,∀o,h.get? b=some o->h'.get? b=some o)->tn i h'
 item:∀(X:Cx),X.prog=P->X.w=w->X.K=K->X.A=A₀->X.calm=c->∀(i:Nat) (pins:List (Addr×Obj)) (s:Shared) (σ:St) (H:Hp) (E:Value->Shared->Prop),au X pins σ H s->(∀b∈fp,iI X pins H b)->tn i s.heap->J.go i H->
  wpAny @X X.A @cX (λr s1=>∃u,r=some u/\
   wpAny @X X.A @ci (λ_ s2=>∃x H',au X pins σ H' s2/\ax x u/\J.yld i H x H'/\tn (i+1) s2.heap/\∀b∈fp,H' b=none) E s1) E s
 done:∀(X:Cx),X.prog=P->X.w=w->X.K=K->X.A=A₀->X.calm=c->∀(i:Nat) (pins:List (Addr×Obj)) (s:Shared) (σ:St) (H:Hp) (E:Value->Shared->Prop),au X pins σ H s->(∀b∈fp,iI X pins H b)->tn i s.heap->J.stop i H->
  wpAny @X X.A @cX (λr s1=>r=none/\au X pins σ H s1) E s
 self:∀(A:Around) (i:Nat) (s:Shared) (Q:Value->Shared->Prop) (E:Value->Shared->Prop),tn i s.heap->Q (.ref it) s->wpAny @X A (pyIter (.ref it)) Q E s
theorem vH.toA {P:Program}{w:World}{K:Fg}{z:Around}{c:Bool}{tg:Expr}{J:It}{fp:List Addr}{it:Addr}{j:Nat->Heap->Prop}(T:vH P w K tg J fp it j)(I:c=true):GL P w K z c tg J fp it j:=
 ⟨T.mem,T.obj,T.keep,λX h1 h2 L _ S=>T.item X h1 h2 L (S.trans I),λX h1 h2 L _ S=>T.done X h1 h2 L (S.trans I),T.self⟩
def Sj (X:Cx)(pins:List (Addr×Obj))(σ:St)(tg:Expr)(R:It->Hp->Prop)(itv:Value)(s2:Shared):Prop:=
 ∃(it:Addr) (fp:List Addr) (tn:Nat->Heap->Prop) (J:It) (H':Hp),itv= .ref it/\au X pins σ H' s2/\GL X.prog X.w X.K X.A X.calm tg J fp it tn/\tn 0 s2.heap/\(∀b∈fp,iI X pins H' b)/\R J H'
def Ss (X:Cx)(tg iter:Expr)(t:TI):Prop:=
 ∀(pins:List (Addr×Obj)) (s:Shared) (σ:St) (H:Hp) (R:It->Hp->Prop),au X pins σ H s->t σ H R->
  wpAny @d X.A @eH (λv s1=>wpAny @d X.A (pyIter v) (Sj X pins σ tg R) X.xe s1) X.xe s
theorem PI.toA {X:Cx}{tg iter:Expr}{t:TI}(h:PI X tg iter t)(j:X.calm=true):Ss X tg iter t:=λpins s σ H R I q=>
 bj (h pins s σ H R I q) λv F h1=>bj h1 λag L ⟨B,fp,z,J,H2,e,O,T,r⟩=>⟨B,fp,z,J,H2,e,O,T.toA j,r⟩
set_option maxHeartbeats 4000000 in
theorem qQ {X:Cx}{pins:List (Addr×Obj)}{σ:St}{H:Hp}{B:Shared}{scope:Scope}{N':List Str}{pk:List @l}{fp:List Addr}{tg elt iter:Expr}{ifs:List Expr}{pos:Pos}{g:TG}{tt:TT}{te:TE}
{J:It}{it:Addr}{tn:Nat->Heap->Prop}{R:Value->Addr->Result->Shared->Prop}{E:Value->Shared->Prop}{Q:VK}
(S:cy X scope N' pk)(hg:∀C s H ex,PG @k tg g)(ht:∀C s H ex,G9 @k ifs tt)(he:∀C s H ex,PE @k elt te)
(I:au X pins σ H B)(T:GL X.prog X.w X.K X.A X.calm tg J fp it tn)(st:tn 0 B.heap)(hf:∀b∈fp,iI X pins H b)
(hW:∃W:Nat->Nat->List V->Hp->Prop,(∃m,W 0 m [] H)/\∀i m ys H,W i m ys H->
   (J.stop i H/\ys.length<=sizeLine/\∀p,H p=none->Q (.ref p) @S)\/
   (J.go i H/\ys.length<sizeLine/\∃N:List V->Hp->Prop,(∀zs H',N zs H'->∃m',m'<m/\W (i+1) m' zs H')/\∀x H',J.yld i H x H'->g x @L H' λσ2 H2=>rZ @L σ2/\tt σ2 H2 λb H3=>
     if b=true then te σ2 H3 λv H4=>N (ys++[v]) H4 else N ys H3))
(hR:∀(C D:Addr) (s':Shared) (ys:List V) (H':Hp),(∃m,s'.heap.Ns C m)->Q (.ref D) @bR->(∀h',Heap.SameBut C s'.heap h'->au X pins σ @bR {s' with heap:=h'})->B.heap.objs.size<=C->upd H' D (.lst ys) C=none->
   R (.ref D) C (.ok .next) s'):
 wpAny @d X.A (newList []) (λacc s₃=>wpAny @d X.A (newFunctionEnv scope X.env.globals @be [] X.env.qual none .none (some X.env)) (λcenv s₄=>
  codeAny @d X.A (.compStart (.ListComp elt [⟨tg,iter,ifs,0⟩] scope pos) 0 (.ref it) acc {cenv with scope:=relabel scope X.env}) (R acc cenv.locals) s₄) E s₃) E B:=by
 obtain ⟨W,⟨m0,w0⟩,ax⟩:=hW;rwa[wpAny_newObj_type (wpAny_newFunctionEnv S.nocell (by intro y hy;simp at hy) (λh₁ ae Z=> ?_) S.kind)];dsimp only at ae Z ⊢;generalize aj:B.heap.push {cls:= .type "list",dict:=none,data:= .seq ([]:List Value).toArray}=H2 at ae Z ⊢
 have hC:H2.objs.size=B.heap.objs.size+1:=by rw [<-aj,Heap.size_push]
 have aa:B.heap.objs.size≠H2.objs.size:=by rw [hC];exact Nat.ne_of_lt @bT
 have U:B.heap.objs.size<=H2.objs.size:=by rw [hC];exact Nat.le_succ _
 have ap:∀b o,B.heap.get? b=some o->h₁.get? b=some o:=λb o e=>
  Z.extBut b o (Nat.ne_of_lt (Nat.lt_of_lt_of_le @bV U)) (Heap.get?_push_of_some _ (aj▸Heap.get?_push_of_some _ e))
 have ay:h₁.get? B.heap.objs.size=some {cls:= .type "list",data:= .seq ([]:List Value).toArray}:=
  Z.extBut _ _ aa (Heap.get?_push_of_some _ (aj▸Heap.get?_push_size _ rfl))
 have al:∀b∈fp,b<B.heap.objs.size:=λb L=>by
  obtain ⟨o,e,_⟩:=T.obj 0 _ st b L;exact Heap.lt_size e
 have aw:tn 0 h₁:=T.keep 0 _ _ st λb _ o e=>ap b o e;have aF:X.env.locals≠H2.objs.size:=Nat.ne_of_lt (Nat.lt_of_lt_of_le I.lt U);generalize aE:H2.objs.size=C at *;generalize ai:B.heap.objs.size=D at *
 have Y:B.heap.objs.size<=D:=by rw [ai];exact Nat.le_refl _
 have ac:B.heap.objs.size<=C:=by rw [ai];exact U
 have af:∀s₃:Shared,s₃= {B with heap:=h₁,toks:=B.toks+([]:List (Str×Value)).length}->
  codeAny @d X.A (.compLoop (.ListComp elt [⟨tg,iter,ifs,0⟩] scope pos) 0 (.ref it) (.ref D) @cG) (R (.ref D) C) s₃:=by
  rintro s₃ rfl
  refine codeAny_loop rfl (λn s'=>∃i H' ys its k,au @M [(D,{cls:= .type "list",data:= .seq its k})] @L H' s'/\aH ys its.toList/\tn i s'.heap/\(∀b∈fp,H' b=none)/\W i n ys H') ?_ m0
   ⟨0,H,[],#[],0,Go I S ac hf (λb L=>by rw [ai];exact al b L) rfl rfl ap (by simpa using ae) Y aa ay (λv z=>nomatch z),.nil,aw,λb L=>(hf b L).1,w0⟩
  rintro n s3 ⟨i,H3,ys,its,k,I3,ad,ao,av,w3⟩;show wpAny _ _ ((compTurn (.ListComp elt [⟨tg,iter,ifs,0⟩] scope pos) 0 (.ref it) (.ref D) @cG).onRaise (λx=>do noteFrame x @cG;theTreesLotGoes x)) _ _ s3;rwa[wpAny_noted ?_];rw [compTurn_list];have F:∀ {α:Type} {t:Sem α} {Q':α->Shared->Prop} {E':Value->Shared->Prop} {s':Shared},wpAny @d X.A t Q' @dE s'->wpAny @d X.A t Q' E' s':=λh=>wpAny_mono h (λ_ _ x=>x) λ_ _ x=>x.elim
  have am:∀ {H':Hp} {j},(∀b∈fp,H' b=none)->(∀p∈j,p.1=D)->∀b∈fp,iI @M j H' b:=λ{H' j} hn hp b L=>
   ⟨hn b L,(I3.ok.exf b L).1,I3.ok.exfs b L,.inl L,(I3.ok.exf b L).2,λp aC z=>by
     have aA:p∈j:=by simpa using (show p∈([]:List (Addr×Obj))++j from aC)
     have q:=al b L;rw [<-z,hp p aA] at q
     exact Nat.lt_irrefl _ q⟩
  have O:∀p∈[(D,({cls:= .type "list",data:= .seq its k}:Obj))],p.1=D:=λp hp=>by
   have e:p=(D,({cls:= .type "list",data:= .seq its k}:Obj)):=by simpa using hp
   rw [e]
  have ab:∀ {j:List (Addr×Obj)} {σ' H' s'},au @M j σ' H' s'->(D,({cls:= .type "list",data:= .seq its k}:Obj))∈j->s'.heap.get? D=some {cls:= .type "list",data:= .seq its k}/\H' D=none:=λ{j σ' H' s'} J hm=>by
   obtain ⟨a1,a2,_⟩:=J.pin _ (show (D,({cls:= .type "list",data:= .seq its k}:Obj))∈([]:List (Addr×Obj))++j by simpa using hm);exact ⟨a1,a2⟩
  rwa[wpAny_bind (wpAny_standAt @fh)]
  rcases ax i n ys H3 w3 with ⟨as,hz,qn⟩|⟨go,hz,N,hN,an⟩
  ·rwa[F (bj (T.done @M rfl rfl rfl rfl rfl i _ s3 _ H3 @dE I3 (am av O) ao as) λr s4 ⟨hr,I4⟩=> ?_)];subst hr;rwa[wpAny_pure ?_];obtain ⟨a1,a2⟩:=ab I4 @f;obtain ⟨mC,az,_⟩:=I4.loc;exact hR C D s4 ys H3 ⟨mC,az⟩ (qn D a2) (λh' sb=>Gn I hf I4 ac Y aa a2 (its:=its.toList) (n:=k) (by simpa using a1) ad hz sb) U (by rw [ag (Ne.symm aa)];exact I4.free)
  ·rwa[F (bj (T.item @M rfl rfl rfl rfl rfl i _ s3 _ H3 @dE I3 (am av O) ao go) λr s4 ⟨u,hr,h4⟩=> ?_)];subst hr;rwa[wpAny_bind (F (bj h4 λ_ s5 ⟨x,H5,I5,r5,y5,ak,aD⟩=> ?_))];have I5':=I5.pinned (am aD O) (T.obj _ _ ak);rwa[wpAny_bind (F (bj (hg C B H fp _ s5 _ H5 x u _ I5' r5 (an x H5 y5)) λ_ s6 ⟨σ6,H6,I6,aq,q6⟩=> ?_))];rwa[wpAny_bind (F (bj (ht C B H fp _ s6 σ6 H6 _ I6 q6) λb s7 ⟨H7,I7,q7⟩=> ?_))]
   have ah:∀ {H':Hp} {s':Shared},au @M ([(D,{cls:= .type "list",data:= .seq its k})]++qj fp s5.heap) σ6 H' s'->
    au @M [(D,{cls:= .type "list",data:= .seq its k})] @L H' s'/\tn (i+1) s'.heap/\∀b∈fp,H' b=none:=λ{H' s'} I7=>by
    rwa[⟨I7.unpinned.weak aq.1.symm aq.2,T.keep _ _ _ ak λb L o e=>(I7.pin (b,o) (mem_append_right _ (mem_append_right _ (gB L e)))).1,λb L=> ?_⟩];obtain ⟨o,e,d⟩:=T.obj _ _ ak b L;exact (I7.pin (b,o) (mem_append_right _ (mem_append_right _ (gB L e)))).2.1
   cases b with
   |false=>
    rw [if_neg Bool.false_ne_true] at q7;obtain ⟨m',hm,w7⟩:=hN _ _ q7;obtain ⟨J7,t7,f7⟩:=ah I7;rw [if_neg Bool.false_ne_true]
    first
     |exact wpAny_pure ⟨rfl,m',hm,i+1,H7,ys,its,k,J7,ad,t7,f7,w7⟩
     |exact wpAny_bind (wpAny_pure (wpAny_pure ⟨rfl,m',hm,i+1,H7,ys,its,k,J7,ad,t7,f7,w7⟩))
   |true=>
    rw [if_pos rfl] at q7;rw [if_pos rfl];rwa[wpAny_bind (wpAny_bind (F (bj (he C B H fp _ s7 σ6 H7 _ I7 q7) λy s8 ⟨v,H8,I8,r8,n8⟩=> ?_)))];obtain ⟨m',hm,w8⟩:=hN _ _ n8;obtain ⟨J8,t8,f8⟩:=ah I8;obtain ⟨a1,a2⟩:=ab J8 @f
    have aB:its.size<=sizeLine:=by
     have e:=ad.length
     have e2:its.toList.length=its.size:=by simp
     lia
    rwa[wpAny_bind (z7 a1 aB λh' k' e' sb=> ?_)]
    have J9:au @M [] @L H8 {s8 with heap:=h'}:=
     au.turned (t':=s8.toks) (it:=D) (J8.pins_of λp hp=>nomatch hp) (λb o L e=>(sb.2 b L).trans e) a2 aa (.inr Y) (λx c e z=>by
      obtain ⟨w',o,ho,hd⟩:=J8.cell x c e
      rw [z,a1] at ho;cases ho;cases hd) λp hp=>nomatch (show p∈([]:List (Addr×Obj))++[] from hp)
    have J10:au @M [(D,{cls:= .type "list",data:= .seq @gF k'})] @L H8 {s8 with heap:=h'}:=
     J9.pins_of λp hp=>by
      have e:p=(D,({cls:= .type "list",data:= .seq @gF k'}:Obj)):=by simpa using hp
      subst e;rwa[⟨e',a2,aa,λz=> ?_,λv z=>nomatch z⟩];obtain ⟨_,o,ho,_⟩:=I.stack.mem z;exact absurd (Nat.lt_of_lt_of_le (Heap.lt_size ho) Y) @G
    have t9:tn (i+1) h':=T.keep _ _ _ t8 λb L o e=>(sb.2 b (λz=>Nat.lt_irrefl D (by have:=al b L;rw [z] at this;exact this))).trans e
    have ar:aH (ys++[v]) (its.push y).toList:=by
     rw [Array.toList_push];exact aH.append ad (.cons r8 .nil)
    first
     |exact wpAny_pure (wpAny_pure ⟨rfl,m',hm,i+1,H8,ys++[v],its.push y,k',J10,ar,t9,f8,w8⟩)
     |exact wpAny_bind (wpAny_pure (wpAny_pure ⟨rfl,m',hm,i+1,H8,ys++[v],its.push y,k',J10,ar,t9,f8,w8⟩))
 exact codeAny_compStart_list (af _ rfl) (T.self _ 0 _ _ _ aw (af _ rfl))
section
variable {X:Cx}{scope:Scope}{N':List Str}{pk:List @l}{tg elt iter:Expr}{ifs:List Expr}{pos:Pos}{wi:TI}{g:TG}{tt:TT}{te:TE}
theorem EI (S:cy X scope N' pk)(hi:Ss X tg iter wi)(B:∀C s H ex,PG @k tg g)(ht:∀C s H ex,G9 @k ifs tt)
(Z:∀C s H ex,PE @k elt te)(hs:∀x,foldedSetIterable iter X.env x=pure x:=by intro _;rfl):PE X (.ListComp elt [⟨tg,iter,ifs,0⟩] scope pos) @eu:=by
 intro pins s σ H Q I h;rw [eval_ListComp];rwa[wpAny_comprehension_free (use:=none) rfl hs (jb λn z=>I.ok.has n (S.free n z)) S.kind S.loc ?_];rwa[bj @cr λv s1 h1=>bj h1 λag s2 h2=> ?_];obtain ⟨it,fp,tn,J,H2,e,O,T,ae,Y,F⟩:=h2;subst e;rwa[qQ (R:=λj C=>compPost @d X.A X.xe none @u j C) S B ht Z O T ae Y F ?_];intro C D s' ys H' z q W _ _;obtain ⟨m,L⟩:=z;exact ⟨m,L,λh' U=>⟨.ref D,_,W h' U,rfl,q⟩⟩
theorem Ix (I:X.calm=true)(S:cy X scope N' pk)(hi:PI X tg iter wi)(W:∀C s H ex,PG @k tg g)(J:∀C s H ex,G9 @k ifs tt)
(j:∀C s H ex,PE @k elt te)(hs:∀x,foldedSetIterable iter X.env x=pure x:=by intro _;rfl):PE X (.ListComp elt [⟨tg,iter,ifs,0⟩] scope pos) @eu:=EI S (hi.toA I) W J j hs
theorem Ik {i:Nat}{x:Str}{B j:Pos}(hc:X.calm=true)(hN:X.N.Nodup)(hx:X.N[i]? =some x)(hl:JN X.env.scope x)(S:cy X scope N' pk)(hi:PI X tg iter wi)(hg:∀C s H ex,PG @k tg g)
(ht:∀C s H ex,G9 @k ifs tt)(he:∀C s H ex,PE @k elt te)(hs:∀x,foldedSetIterable iter X.env x=pure x:=by intro _;rfl)
(Z:swapsWith (.ListComp elt [⟨tg,iter,ifs,0⟩] scope pos) (some (.Name x B)) j.line X.env=pure true:=by rfl)(hf:X.fn x=true\/X.env.scope.names.lookup x=some .local:=by first|exact .inl rfl|exact .inr rfl|assumption):
 PS X (.Assign [.Name x B] (.ListComp elt [⟨tg,iter,ifs,0⟩] scope pos) j) (Du @eu (ja i)):=by
 intro pins s σ H D0 I h;rw [exec_Assign_Name_used _ _ _ _ Z];rwa[wpAny_bind (wpAny_standAt @fh)];show wpAny _ _ (comprehension (.ListComp elt [⟨tg,iter,ifs,0⟩] scope pos) scope X.env (firstIterPos [⟨tg,iter,ifs,0⟩] pos) (newList []) false @eH (some @cQ)>>=λ_=>pure ()) _ _ s;rwa[wpAny_bind (wpAny_comprehension_free (use:=some @cQ) rfl hs (jb λn hn=>I.ok.has n (S.free n hn)) S.kind S.loc ?_)];rwa[bj ((hi.toA hc) pins s σ H _ I h) λv s1 h1=>bj h1 λag s2 h2=> ?_];obtain ⟨it,fp,tn,J,H2,e,O,T,ae,f2,hW⟩:=h2;subst e;rwa[qQ (Q:=λx H1=>ja i x σ H1 D0.nx) (R:=λL C=>compPost @d X.A X.xe (some @cQ) _ L C) S hg ht he O T ae f2 hW ?_];intro C D s' ys H' hn q hv U ab;obtain ⟨m,hm⟩:=hn;have I':au X pins σ @bR s':=hv s'.heap (Heap.SameBut.refl ..);rwa[wpAny_assign_Name (sj (v:= .ref D) I' hN hx hl rfl (λY I'' ch=> ?_) hf)];obtain ⟨a,sb,F⟩:=ch
 have aa:C≠a:=by
  rcases F with F|F
  ·rw [F];exact Nat.ne_of_gt (Nat.lt_of_lt_of_le O.lt U)
  ·obtain ⟨v,z⟩:=O.cell x a F;exact Nat.ne_of_gt (Nat.lt_of_lt_of_le z.lt U)
 rwa[⟨m,hm.sameBut sb aa,λh' W=>wpAny_pure (wpAny_pure ⟨_,_,?_,q⟩)⟩];rwa[au.turned (t':=Y.toks) (it:=C) I'' (λb o hb e=>(W.2 b hb).trans e) ab (Nat.ne_of_gt (Nat.lt_of_lt_of_le O.lt U)) (.inr (Nat.le_trans O.sz U)) (λy c e z=> ?_) λp hp z=> ?_]
 ·obtain ⟨v,q⟩:=O.cell y c e;exact absurd (Nat.lt_of_lt_of_le q.lt U) (by rw [z];exact Nat.lt_irrefl _)
 ·exact absurd (Nat.lt_of_lt_of_le (Heap.lt_size (O.pin p hp).1) U) (by rw [z];exact Nat.lt_irrefl _)
end
theorem bQ {pk:List @l}{σ:St}{x:V}:rZ (cj (none::pk) σ) ((cj (none::pk) σ).set 0 (some x)):=by
 rwa[⟨by simp,λi v h=> ?_⟩]
 cases i with
 |zero=>exact nomatch (show (none:Option V)=some v from Option.some.inj h)
 |succ i=>simpa [cj] using h
section
variable {X:Cx}
noncomputable def cV:V->Option Value
 | .ty n=>some (.type n)
 | .ref C=>some (.ref C)
 |_=>none
theorem Kp {c:V}{t u:Value}(h:cV c=some t)(r:ax c u):u=t:=by
 cases c with
 |ty n=>cases h;exact r
 |ref C=>cases h;exact r
 |_=>cases h
theorem xA:bc X (.builtin "isinstance") (λxs H Q=>∃x c cv t b,xs=[x,c]/\cV c=some cv/\iA X.K H x t/\W.kitOne X.K t cv=some b/\Q (.bl b) H):=by
 intro pins s σ H xs J Q I r h;obtain ⟨x,c,cv,t,b,rfl,j,ty,e,q⟩:=h;obtain ⟨u,F,rfl,z,B⟩:=JY r;cases Kp j B;exact Cj I z ty e λtk=>⟨.bl b,H,I.tok _,rfl,q⟩
theorem xN {bs:List Bool}:∀ {us:List Value},aH @bg us->LSm.BoolsAre us bs:=by
 induction bs with
 |nil=>intro us r;rw [map_nil] at r;cases r;exact .nil
 |cons b bs ih=>
  intro us r;rw [map_cons] at r
  cases r with
  |cons r1 r2=>cases r1;exact .cons b (ih r2)
theorem CI (F:X.calm=true):bc X (.builtin "all") (λxs H Q=>∃(a:Addr) (bs:List Bool),xs=[.ref a]/\az X.K H a @bg/\Q (.bl @gh) H):=by
 intro pins s σ H xs Y Q I r h;obtain ⟨a,bs,rfl,O,q⟩:=h;obtain ⟨u,rfl,S⟩:=fg r;cases S;obtain ⟨its,J,pl,Z⟩:=I.list O;have W:s.heap.IsList a its.toArray:=pl.isList;have B:=xN J
 have z:a<s.heap.objs.size:=by obtain ⟨_,e,_⟩:=W;exact Heap.lt_size e
 rwa[call_all_walk (wpAny_pyIter_list W ?_)]
 refine ⟨s.heap.objs.size,[s.heap.objs.size,a],[s.heap.objs.size],its.toArray.size,_,_,λi=>(bs[i]?).getD true,rfl,Walks.list (A:=X.A.in1) @gg _ a (Nat.ne_of_lt z) its.toArray,
  ⟨⟨_,Heap.get?_push_size _ rfl,rfl,rfl⟩,W.push _⟩,λi v s' Q' U L j=> ?_,λh' tk R=> ?_⟩
 ·obtain ⟨b,e,rfl⟩:=B.get i v (by simpa using L);simp only [e,Option.getD_some] at j;exact wpAny_truthy_bool j
 ·have e:((List.range its.toArray.size).all λi=>(bs[i]?).getD true)=bs.all id:=by
   rw [size_toArray,B.length];exact LSm.range_all bs
  rw [e];exact ⟨.bl _,H,I.kept (LSm.kept_iter R),rfl,q⟩
noncomputable def QN (x:Str):It:=⟨λi _=>i<x.cps.size,λi H v H'=>H'=H/\∃c,x.cps[i]? =some c/\v= .str ⟨#[c]⟩,λi _=>x.cps.size<=i⟩
theorem sh {P:Program}{w:World}{K:Fg}{tg:Expr}{it:Addr}{x:Str}{t:Tok}{T:String}(O:T="str_ascii_iterator"\/T="str_iterator"):
 vH P w K tg (QN x) [it] it (λi h=>i<=x.cps.size/\h.IsStrIter it T x t i) where
 mem:=by simp
 obj:=λi h st b B=>by
  have e:b=it:=by simpa using B
  subst e;obtain ⟨o,F,j,hd⟩:=st.2;exact ⟨o,F,λv z=>by rw [hd] at z;cases z⟩
 keep:=λi h h' st k=>⟨st.1,let ⟨o,F,r⟩:=st.2;⟨o,k it @f o F,r⟩⟩
 item:=by
  intro X S hw hK j i pins s σ H E I R st L;subst S hw hK;obtain ⟨U,Y,f2,Z,f4,f5⟩:=R it @f
  have W:Walks X.prog X.w X.A it [it] [it] x.cps.size (SignAt x) (λi h=>h.IsStrIter it T x t i):=by
   rcases O with rfl|rfl
   ·exact Walks.strAscii @eg it x t
   ·exact Walks.strWide @eg it x t
  rwa[W.item i s _ _ L st.2 λv h' tk hv J kk=> ?_];obtain ⟨c,u,hx,rfl⟩:=hv;have I1:au X pins σ H {s with heap:=h',toks:=tk}:=I.turned (λb o B e=>kk b o (by simpa using B) e) U Y Z f4 f5;obtain ⟨o,F,aa,hd⟩:=id J;exact ⟨_,rfl,AU (s:= {s with heap:=h',toks:=tk}) F aa hd (by rcases O with rfl|rfl<;>decide) ⟨.str ⟨#[c]⟩,H,I1,⟨_,rfl⟩,⟨rfl,c,hx,rfl⟩,⟨L,J⟩,λb B=>(R b B).1⟩⟩
 done:=by
  intro X S hw hK j i pins s σ H E I R st L;subst S hw hK;obtain ⟨U,Y,f2,Z,f4,f5⟩:=R it @f
  have W:Walks X.prog X.w X.A it [it] [it] x.cps.size (SignAt x) (λi h=>h.IsStrIter it T x t i):=by
   rcases O with rfl|rfl
   ·exact Walks.strAscii @eg it x t
   ·exact Walks.strWide @eg it x t
  have e:i=x.cps.size:=Nat.le_antisymm st.1 L;subst e;exact W.done s _ _ st.2 λh' tk kk=>⟨rfl,I.turned (λb o B e=>kk b o (by simpa using B) e) U Y Z f4 f5⟩
 self:=λA i s Q E st h=>by
  rcases O with rfl|rfl
  ·exact wpAny_pyIter_striter_ascii st.2 h
  ·exact wpAny_pyIter_striter_wide st.2 h
theorem Hz {ts:List Str}:∀ {us:List Value},aH @df us->∃l:List (Str×Tok),us=strValues l/\l.map (·.1)=ts:=by
 induction ts with
 |nil=>intro us r;rw [map_nil] at r;cases r;exact ⟨[],rfl,rfl⟩
 |cons b bs ih=>
  intro us r;rw [map_cons] at r
  cases r with
  |cons r1 r2=>
   obtain ⟨t,rfl⟩:=r1;obtain ⟨l,rfl,e⟩:=ih r2;exact ⟨(b,t)::l,rfl,by rw [map_cons,e]⟩
theorem Fn:xS X "str.join" (λx xs H Q=>∃z a ts,x= .str z/\xs=[.ref a]/\az X.K H a @df/\(ts.toArray.foldl (· + ·.length+z.length) 0)<=sizeLine/\(Builtin.Str.glued z ts).length<=sizeLine/\Q (.str @cc) H):=by
 intro pins s σ H x xs v U Q I J R h;obtain ⟨z,a,ts,rfl,rfl,L,O,j,q⟩:=h;obtain ⟨t,rfl⟩:=J;obtain ⟨u,rfl,S⟩:=fg R;cases S;obtain ⟨its,B,pl,_⟩:=I.list L;obtain ⟨l,rfl,W⟩:=Hz B;rwa[call_meets F.slot_str_join @es F.entry_str_join (F.args_str_join_2 _ _) (meets_str_join_list z t a l ?_) ⟨pl.isList,?_⟩]
 ·rw [W];exact qq O
 ·subst W
  cases l with
  |nil=>exact ⟨j,.str _,H,I.tok _,⟨_,rfl⟩,q⟩
  |cons p r=>
   cases r with
   |nil=>exact ⟨.str _,H,I,⟨p.2,rfl⟩,q⟩
   |cons p2 r=>exact ⟨j,.str _,H,I.tok _,⟨_,rfl⟩,q⟩
theorem CD:bc X (.type "int") (λxs H Q=>∃x n,xs=[.str x]/\PySem.intText? x=some n/\x.length<=640/\Q (.int n) H):=by
 intro pins s σ H xs B Q I r h;obtain ⟨x,n,rfl,z,j,q⟩:=h;obtain ⟨u,rfl,t,rfl⟩:=fg r;exact PySem.W.KIN.call_text z j ⟨.int n,H,I.tok _,⟨_,rfl⟩,q⟩
theorem za:cL X @eW (λx y H Q=>∃z n,x= .str z/\y= .int n/\1<n/\n<=1000/\0<z.length/\z.length<=1000/\Q (.str ⟨(List.replicate n.toNat z.cps).foldl (· ++ ·) #[]⟩) H):=by
 intro pins s σ H x y v u Q I O J h;obtain ⟨z,n,rfl,rfl,h1,h2,S,U,q⟩:=h;obtain ⟨t,rfl⟩:=O;obtain ⟨R,rfl⟩:=J;have W:(z.length:Int)*n<=1000*1000:=Int.mul_le_mul @c h2 @c @b
 have Y:z.length*n.toNat<=1000000:=by
  have e:((z.length*n.toNat:Nat):Int)=(z.length:Int)*n:=by rw [Int.natCast_mul,Int.toNat_of_nonneg @c]
  lia
 have hs:sizeLine=16777216:=sizeLine_eq;have F:(n==1)=false:=beq_eq_false_iff_ne.mpr @c;have B:(z.length==0)=false:=beq_eq_false_iff_ne.mpr @c;rwa[PySem.P.mul_str ?_ (λ_ _=> ?_) (λ_ _=>qq @c) ?_]
 ·rw [decide_eq_false @c,decide_eq_false @c];rfl
 ·have:=Int.le_ediv_of_mul_le (a:=(z.length:Int)) (b:=2^63 - 1) (c:=n) @c @c;lia
 ·rw [if_neg @c,F,B];rwa[⟨?_,.str _,H,I.tok _,⟨_,rfl⟩,q⟩];show ((List.replicate n.toNat z.cps).foldl (· ++ ·) #[]).size<=sizeLine
  have L:∀(k:Nat) (j:Array Nat),((List.replicate k z.cps).foldl (· ++ ·) j).size=j.size+z.length*k:=by
   intro k
   induction k with
   |zero=>intro j;simp
   |succ k ih=>
    intro j;rw [replicate_succ,foldl_cons,ih,Array.size_append,Nat.mul_succ];have e:z.cps.size=z.length:=rfl;lia
  rw [L];simp only [size_toArray,length_nil];lia
theorem Ja:xS X "int.bit_length" (λx xs H Q=>∃i,x= .int i/\xs=[]/\Q (.int (Builtin.Int.intBits i)) H):=by
 intro pins s σ H x xs v z Q I J j h;obtain ⟨i,rfl,rfl,q⟩:=h;obtain ⟨t,rfl⟩:=J;cases j;exact call_int_bit_length ⟨.int _,H,I.tok _,⟨_,rfl⟩,q⟩
end
structure aS (P:Program)(w:World)(K:Fg)(mg:Str->Option Value)(base:Heap)(n:Nat)(x:Str)(ps:List Str)(sp:Sp):Prop where
 ex:∃f fd,ar P w K mg base aQ n f fd ps sp/\d6 K fd ps []/\W.keepIn K (.ref f)=true/\mg x=some (.ref f)
section
variable {X:Cx}{x:Str}{p pos:Pos}{e:Expr}{es:List Expr}{t:TA}{ps:List Str}{sp:Sp}{n m:Nat}
theorem O2 (c:aS X.prog X.w X.K X.mg X.base n x ps sp)(Y:bC m X.A)(J:n<=m)(W:Gl X x)(B:PA X (e::es) t)(z:(x==("__debug__":Str))=false:=by decide)
(S:starEach (e::es) X.env=(false,eval e X.env)::starEach es X.env:=by rfl)(j:(backTo pos @P).any (·.1)=false:=by rfl):
 PE X (.Call (.Name x p) (e::es) [] pos) (Ao sp [] E0 t):=by
 obtain ⟨f,fd,F,b,k,I⟩:=c.ex;exact Iy (F.mono J) Y W I k b .nil gS B z S j
end
noncomputable def qR (sc:Scope)(N:List Str)(scope:Scope)(N':List Str)(pk:List @l):Bool:=
 (scope.kind== .function)&&scope.names.all (λy=>y.2 != .cell)&&scope.names.all (λy=> !(y.2== .local)||scope.names.lookup y.1==some .local)&&
 scope.names.all (λy=> !(y.2== .free)||((sc.names.lookup y.1==some .cell||sc.names.lookup y.1==some .free)&&scope.names.lookup y.1 != some .local))&&
 (pk.length==N'.length)&&(List.range pk.length).all λj=>match pk[j]?,N'[j]? with
   |some (some i),some x=>N[i]? ==some x&&scope.names.contains (x,NameKind.free)
   |_,_=>true
theorem aB {X:Cx}{scope:Scope}{N':List Str}{pk:List @l}(h:qR X.env.scope X.N scope N' pk=true):cy X scope N' pk:=by
 unfold qR at h;simp only [Bool.and_eq_true] at h;obtain ⟨⟨⟨⟨⟨h1,h2⟩,O⟩,F⟩,I⟩,J⟩:=h;rwa[⟨by simpa using h1,λy R=> ?_,λy R W=> ?_,λn B=> ?_,λn B=> ?_,by simpa using I,λj i x S L=> ?_⟩]
 ·have:=all_eq_true.mp h2 y R;simpa using this
 ·have:=all_eq_true.mp O y R;rw [W] at this;simpa using this
 ·have:=all_eq_true.mp F _ B;simp only [beq_self_eq_true,Bool.not_true,Bool.false_or,Bool.and_eq_true,Bool.or_eq_true] at this
  rcases this.1 with z|z
  ·exact .inl (show X.env.scope.names.lookup n=_ by simpa using z)
  ·exact .inr (show X.env.scope.names.lookup n=_ by simpa using z)
 ·have:=all_eq_true.mp F _ B;simp only [beq_self_eq_true,Bool.not_true,Bool.false_or,Bool.and_eq_true,Bool.or_eq_true] at this;simpa using this.2
 ·have Z:j<pk.length:=(List.getElem?_eq_some_iff.mp S).1;have:=all_eq_true.mp J j (mem_range.mpr Z);rw [S,L] at this;simp only [Bool.and_eq_true] at this;exact ⟨by simpa using this.1,by simpa using this.2⟩
section
variable {X:Cx}
theorem CA:bc X (.builtin "len") (λxs H Q=>∃x,xs=[x]/\((∃z,x= .str z/\z.length<=sizeLine/\Q (.int z.length) H)\/∃p,x= .ref p/\∃ys,(az X.K H p ys\/aD X.K H p ys)/\Q (.int ys.length) H)):=by
 intro pins s σ H xs j Q I r h;obtain ⟨x,rfl,h⟩:=h
 rcases h with ⟨z,rfl,B,q⟩|⟨p,rfl,ys,L,q⟩
 ·exact vw pins s σ H _ j Q I r ⟨z,rfl,B,q⟩
 ·exact vx pins s σ H _ j Q I r ⟨p,ys,rfl,L,q⟩
def OU (K:Fg):R2:=λx y H Q=>∃i,y= .int i/\((∃z,x= .str z/\z.length<=sizeLine/\∃c,oF z.cps.toList i=some c/\Q (.str ⟨#[c]⟩) H)\/∃p,x= .ref p/\∃xs,(az K H p xs\/aD K H p xs)/\∃v,oF xs i=some v/\Q v H)
theorem M9:CT X (OU X.K):=by
 intro value J pins s σ H x y v u Q I B j h hs;obtain ⟨i,rfl,h⟩:=h
 rcases h with ⟨z,rfl,R,c,O,q⟩|⟨p,rfl,xs,L|L,F,W,q⟩
 ·exact M8 value J pins s σ H _ _ v u Q I B j ⟨z,i,c,rfl,rfl,R,O,q⟩ hs
 ·exact Jk value J pins s σ H _ _ v u Q I B j ⟨p,xs,i,F,rfl,rfl,L,W,q⟩ hs
 ·exact M7 value J pins s σ H _ _ v u Q I B j ⟨p,xs,i,F,rfl,rfl,L,W,q⟩ hs
theorem GJ {R:List Int}{k:Int}(B:0<=k)(h1:k<R.length):oF @ev k=some (.int (R.getD k.toNat 0)):=by
 obtain ⟨j,rfl⟩:=Int.eq_ofNat_of_zero_le B;rwa[bz ?_]
 have Z:j<R.length:=by lia
 rw [getElem?_map,getElem?_eq_getElem Z];simp [List.getD,getElem?_eq_getElem Z]
def rV (J:It)(pk:List @l)(g:TG)(tt:TT)(te:TE)(σ:St)(H:Hp)(Q:VK):Prop:=∃W:Nat->Nat->List V->Hp->Prop,(∃m,W 0 m [] H)/\∀i m ys H,W i m ys H->
 (J.stop i H/\ys.length<=sizeLine/\∀p,H p=none->Q (.ref p) @S)\/
 (J.go i H/\ys.length<sizeLine/\∃N:List V->Hp->Prop,(∀zs H',N zs H'->∃m',m'<m/\W (i+1) m' zs H')/\∀x H',J.yld i H x H'->g x @L H' λσ2 H2=>rZ @L σ2/\tt σ2 H2 λb H3=>
   if b=true then te σ2 H3 λv H4=>N (ys++[v]) H4 else N ys H3)
def zJ (J:It)(g:TG)(tb:TS)(D:m9)(σ:St)(H:Hp):Prop:=∃W:Nat->Nat->St->Hp->Prop,(∃m,W 0 m σ H)/\∀i m σ H,W i m σ H->
 (J.stop i H/\D.nx σ H)\/(J.go i H/\∃N:St->Hp->Prop,(∀σ' H',N σ' H'->∃m',m'<m/\W (i+1) m' σ' H')/\∀x H',J.yld i H x H'->g x σ H' λσ2 H2=>tb {D with nx:=N,ct:=N,bk:=D.nx} σ2 H2)
section
variable {K:Fg}{a:Addr}{xs:List V}{g:TG}{tb:TS}{D:m9}{σ:St}{H:Hp}
theorem cx (j:Nat->St->Hp->Prop)(B:j 0 σ H)(W:∀i σ H,i<=xs.length->j i σ H->az K H a xs)
(hs:∀i x σ H,xs[i]? =some x->j i σ H->g x σ H λσ2 H2=>tb {D with nx:=j (i+1),ct:=j (i+1),bk:=D.nx} σ2 H2)(J:∀σ H,j xs.length σ H->D.nx σ H):zJ @gz g tb D σ H:=F5 j B W hs J
theorem xk (j:Nat->St->Hp->Prop)(B:j 0 σ H)(W:∀i σ H,i<=xs.length->j i σ H->aD K H a xs)
(hs:∀i x σ H,xs[i]? =some x->j i σ H->g x σ H λσ2 H2=>tb {D with nx:=j (i+1),ct:=j (i+1),bk:=D.nx} σ2 H2)(J:∀σ H,j xs.length σ H->D.nx σ H):zJ @gA g tb D σ H:=Jt j B W hs J
theorem eM {lo:Int}{n:Nat}(j:Nat->St->Hp->Prop)(B:j 0 σ H)
(hs:∀i σ H,i<n->j i σ H->g (.int (lo+i)) σ H λσ2 H2=>tb {D with nx:=j (i+1),ct:=j (i+1),bk:=D.nx} σ2 H2)(J:∀σ H,j n σ H->D.nx σ H):zJ @gt g tb D σ H:=Cq j B hs J
end
theorem gI {lo:Int}{n:Nat}{pk:List @l}{g:TG}{tt:TT}{te:TE}{σ:St}{H:Hp}{Q:VK}(j:Nat->List V->Hp->Prop)(L:n<=sizeLine)(B:∀i ys H,j i ys H->ys.length<=i)(F:j 0 [] H)
(hs:∀i ys H,i<n->j i ys H->g (.int (lo+i)) @L H λσ2 H2=>rZ @L σ2/\tt σ2 H2 λb H3=>if b=true then te σ2 H3 λv H4=>j (i+1) (ys++[v]) H4 else j (i+1) ys H3)
(J:∀ys H,j (n) ys H->∀p,H p=none->Q (.ref p) @S):
 rV @gt pk g tt te σ H Q:=by
 rwa[⟨λi m ys H=>m=n - i/\i<=n/\j i ys H,⟨n,by simp,Nat.zero_le _,F⟩,?_⟩];rintro i m ys H ⟨rfl,hi,p⟩;have W:=B _ _ _ p;by_cases z:i<n
 ·rwa[.inr ⟨z,by lia,j (i+1),λzs H' I=>⟨n - (i+1),by lia,rfl,z,I⟩,λx H' y=> ?_⟩];obtain ⟨e,y⟩:=y;subst e y;exact hs i ys _ z p
 ·have e:i=n:=by lia
  subst e;exact .inl ⟨Nat.le_refl _,by lia,J ys H p⟩
theorem bx {K:Fg}{a:Addr}{xs:List V}{pk:List @l}{g:TG}{tt:TT}{te:TE}{σ:St}{H:Hp}{Q:VK}(j:Nat->List V->Hp->Prop)(O:xs.length<=sizeLine)(B:∀i ys H,j i ys H->ys.length<=i)(I:j 0 [] H)(F:∀i ys H,i<=xs.length->j i ys H->az K H a xs)
(hs:∀i x ys H,xs[i]? =some x->j i ys H->g x @L H λσ2 H2=>rZ @L σ2/\tt σ2 H2 λb H3=>if b=true then te σ2 H3 λv H4=>j (i+1) (ys++[v]) H4 else j (i+1) ys H3)
(L:∀ys H,j @fj ys H->∀p,H p=none->Q (.ref p) @S):
 rV @gz pk g tt te σ H Q:=by
 rwa[⟨λi m ys H=>m=xs.length - i/\i<=xs.length/\j i ys H,⟨xs.length,by simp,Nat.zero_le _,I⟩,?_⟩];rintro i m ys H ⟨rfl,hi,p⟩;have W:=B _ _ _ p;by_cases z:i<xs.length
 ·rwa[.inr ⟨⟨xs,xs[i],F i ys H hi p,by simp [z]⟩,by lia,j (i+1),λzs H' J=>⟨xs.length - (i+1),by lia,rfl,z,J⟩,λx H' y=> ?_⟩];obtain ⟨e,y⟩:=y;subst e;exact hs i x ys _ (y xs (F i ys _ hi p)) p
 ·have e:i=xs.length:=by lia
  subst e;exact .inl ⟨⟨xs,F _ ys H @e p,Nat.le_refl _⟩,by lia,L ys H p⟩
theorem cQ {K:Fg}{a:Addr}{xs:List V}{pk:List @l}{g:TG}{tt:TT}{te:TE}{σ:St}{H:Hp}{Q:VK}(j:Nat->List V->Hp->Prop)(O:xs.length<=sizeLine)(B:∀i ys H,j i ys H->ys.length<=i)(I:j 0 [] H)(F:∀i ys H,i<=xs.length->j i ys H->aD K H a xs)
(hs:∀i x ys H,xs[i]? =some x->j i ys H->g x @L H λσ2 H2=>rZ @L σ2/\tt σ2 H2 λb H3=>if b=true then te σ2 H3 λv H4=>j (i+1) (ys++[v]) H4 else j (i+1) ys H3)
(L:∀ys H,j @fj ys H->∀p,H p=none->Q (.ref p) @S):
 rV @gA pk g tt te σ H Q:=by
 rwa[⟨λi m ys H=>m=xs.length - i/\i<=xs.length/\j i ys H,⟨xs.length,by simp,Nat.zero_le _,I⟩,?_⟩];rintro i m ys H ⟨rfl,hi,p⟩;have W:=B _ _ _ p;by_cases z:i<xs.length
 ·rwa[.inr ⟨⟨xs,xs[i],F i ys H hi p,by simp [z]⟩,by lia,j (i+1),λzs H' J=>⟨xs.length - (i+1),by lia,rfl,z,J⟩,λx H' y=> ?_⟩];obtain ⟨e,y⟩:=y;subst e;exact hs i x ys _ (y xs (F i ys _ hi p)) p
 ·have e:i=xs.length:=by lia
  subst e;exact .inl ⟨⟨xs,F _ ys H @e p,Nat.le_refl _⟩,by lia,L ys H p⟩
theorem Gm {z:Str}{pk:List @l}{g:TG}{tt:TT}{te:TE}{σ:St}{H:Hp}{Q:VK}(j:Nat->List V->Hp->Prop)(R:z.cps.size<=sizeLine)(F:∀i ys H,j i ys H->ys.length<=i)(J:j 0 [] H)
(hs:∀i c ys H,z.cps[i]? =some c->j i ys H->g (.str ⟨#[c]⟩) @L H λσ2 H2=>rZ @L σ2/\tt σ2 H2 λb H3=>if b=true then te σ2 H3 λv H4=>j (i+1) (ys++[v]) H4 else j (i+1) ys H3)
(O:∀ys H,j (z.cps.size) ys H->∀p,H p=none->Q (.ref p) @S):
 rV (QN z) pk g tt te σ H Q:=by
 rwa[⟨λi m ys H=>m=z.cps.size - i/\i<=z.cps.size/\j i ys H,⟨z.cps.size,by simp,Nat.zero_le _,J⟩,?_⟩];rintro i m ys H ⟨rfl,hi,p⟩;have S:=F _ _ _ p;by_cases B:i<z.cps.size
 ·rwa[.inr ⟨B,by lia,j (i+1),λzs H' L=>⟨z.cps.size - (i+1),by lia,rfl,B,L⟩,λx H' y=> ?_⟩];obtain ⟨e,c,I,W⟩:=y;subst e W;exact hs i c ys _ I p
 ·have e:i=z.cps.size:=by lia
  subst e;exact .inl ⟨Nat.le_refl _,by lia,O ys H p⟩
end
section
variable {X:Cx}{K:Fg}
theorem zb (j:X.K=K):cL X @cj (QC K false):=j▸BR
theorem rP (j:X.K=K):cL X @ck (QC K true):=j▸u7
theorem Jl (j:X.K=K):CT X (OU K):=j▸M9
def OT (K:Fg):List V->Hp->VK->Prop:=λxs H Q=>∃x,xs=[x]/\((∃z,x= .str z/\z.length<=sizeLine/\Q (.int z.length) H)\/∃p,x= .ref p/\∃ys,(az K H p ys\/aD K H p ys)/\Q (.int ys.length) H)
theorem CB (j:X.K=K):bc X (.builtin "len") (OT K):=j▸CA
def OV (K:Fg):List V->Hp->VK->Prop:=λxs H Q=>∃x c cv t b,xs=[x,c]/\cV c=some cv/\iA K H x t/\W.kitOne K t cv=some b/\Q (.bl b) H
theorem CC (j:X.K=K):bc X (.builtin "isinstance") (OV K):=j▸xA
def OY (K:Fg):List V->Hp->VK->Prop:=λxs H Q=>∃(a:Addr) (bs:List Bool),xs=[.ref a]/\az K H a @bg/\Q (.bl @gh) H
theorem CH (j:X.K=K)(I:X.calm=true):bc X (.builtin "all") (OY K):=j▸CI I
def Ih (K:Fg):List V->Hp->VK->Prop:=λxs H Q=>∃p ys,xs=[.ref p]/\(az K H p ys\/aD K H p ys)/\∀l,H l=none->Q (.ref l) @bX
theorem zV (j:X.K=K):bc X (.type "list") (Ih K):=j▸vv
def En (K:Fg):List V->Hp->VK->Prop:=λxs H Q=>∃p ys,xs=[.ref p]/\((az K H p ys/\∀l,H l=none->Q (.ref l) @cK)\/(aD K H p ys/\Q (.ref p) H))
theorem xz (j:X.K=K):bc X (.type "tuple") (En K):=j▸rW
def LR (K:Fg):V->List V->Hp->VK->Prop:=λx xs H Q=>∃z a ts,x= .str z/\xs=[.ref a]/\az K H a @df/\(ts.toArray.foldl (· + ·.length+z.length) 0)<=sizeLine/\(Builtin.Str.glued z ts).length<=sizeLine/\Q (.str @cc) H
theorem Fo (j:X.K=K):xS X "str.join" (LR K):=j▸Fn
theorem Iv (B:X.K=K){es:List Expr}{k:Nat}{t:Bf}{n:Nat}{pos:Pos}(I:X.calm=true)(h:CN X es t)
(z:(assignEach es X.env).length=n:=by rfl)(j:(assignEach es X.env).findIdx? (·.1)=none:=by rfl):PG X (.Tuple es k pos) (PF K n t):=B▸LX I h z j
end
theorem rZ.refl (σ:St):rZ σ σ:=⟨rfl,λ_ _ h=>h⟩
theorem rZ.cons {σ j:St}{o o':Option V}(h:o=none\/o=o')(s:rZ σ j):rZ (o::σ) (o'::j):=by
 rwa[⟨by simp [s.1],λi v e=> ?_⟩]
 cases i with
 |zero=>
  rcases h with rfl|rfl
  ·exact nomatch (show (none:Option V)=some v from Option.some.inj e)
  ·exact e
 |succ i=>exact s.2 i v (by simpa using e)
theorem RD {σ:St}{x:V}:rZ (none::σ) (some x::σ):= .cons (.inl rfl) (.refl _)
noncomputable def bJ:Expr->Bool
 | .Starred _ _=>false
 |_=>true
theorem aW {e:Expr}{es:List Expr}{env:Env}(h:bJ e=true):starEach (e::es) env=(false,eval e env)::starEach es env:=by
 cases e<;>first|rfl|cases h
noncomputable def aT:List Expr->Bool
 |[]=>true
 |e::es=>bJ e&&aT es
theorem bV {pos:Pos}{env:Env}:∀ {es:List Expr},aT es=true->(backTo pos @bN).any (·.1)=false
 |[],_=>rfl
 |e::es,h=>by
  have h':(bJ e&&aT es)=true:=h;rw [Bool.and_eq_true] at h';rw [aW h'.1];show (false||(backTo pos @bN).any (·.1))=false;rw [bV h'.2];rfl
theorem my {pos:Pos}{env:Env}:∀ {es:List Expr},aT es=true->(backTo pos @bN).all (λx=> !x.1)=true
 |[],_=>rfl
 |e::es,h=>by
  have h':(bJ e&&aT es)=true:=h;rw [Bool.and_eq_true] at h';rw [aW h'.1];show (true&&(backTo pos @bN).all (λx=> !x.1))=true;rw [my h'.2];rfl
noncomputable def dO:Expr->Bool
 | .Call _ [] [] _=>false
 |_=>true
theorem vD {o:Expr}{name:Str}{env:Env}{z:Sem Value}(h:dO o=true):attributeBase o name env z=z:=by
 unfold attributeBase;split
 ·cases h
 ·rfl
noncomputable def sv:Expr->Bool
 | .UnaryOp _ _ _=>false
 | .BoolOp _ _ _=>false
 | .IfExp _ _ _ _=>false
 | .Compare _ _ _ _=>false
 |_=>true
theorem FI {e:Expr}{env:Env}{z:Sem Value}(h:sv e=true):isTrue e env z=(do let v<-z;standAt e.pos;holding [v] (truthy v)):=by
 cases e<;>first|rfl|cases h
section
variable {X:Cx}{K:Fg}{x:Str}{p pos apos cpos:Pos}{e o a:Expr}{es:List Expr}{t:TA}{te to ta:TE}{ps:List Str}{sp:Sp}{n m:Nat}{id T:String}{r:List V->Hp->VK->Prop}{name:Str}{rm:V->List V->Hp->VK->Prop}
theorem av (j:PE X e te)(Y:PA X es t)(hs:bJ e=true:=by rfl):PA X (e::es) (Ds te t):=Iz j Y (aW hs)
theorem cR (c:aS X.prog X.w X.K X.mg X.base n x ps sp)(Y:bC m X.A)(j:n<=m)(W:Gl X x)(B:PA X (e::es) t)(z:(x==("__debug__":Str))=false:=by decide)(F:aT (e::es)=true:=by rfl):
 PE X (.Call (.Name x p) (e::es) [] pos) (Ao sp [] E0 t):=by
 have h':(bJ e&&aT es)=true:=F;rw [Bool.and_eq_true] at h';exact O2 c Y j W B z @fk @fl
theorem cu (I:bc X (.builtin id) r)(L:Gl X x)(B:X.mg x=none)(W:bootBuiltins x=some (.builtin id))(j:PA X (e::es) t)(J:x≠"__name__":=by decide)(z:(x==("__debug__":Str))=false:=by decide)
(F:aT (e::es)=true:=by rfl):PE X (.Call (.Name x p) (e::es) [] pos) (QA r t):=by
 have h':(bJ e&&aT es)=true:=F;rw [Bool.and_eq_true] at h';exact EK I L B W j J z @fk @fl
theorem aJ (I:bc X (.type T) r)(L:Gl X x)(B:X.mg x=none)(W:bootBuiltins x=some (.type T))(j:PA X (e::es) t)(J:x≠"__name__":=by decide)(z:(x==("__debug__":Str))=false:=by decide)
(F:aT (e::es)=true:=by rfl):PE X (.Call (.Name x p) (e::es) [] pos) (QA r t):=by
 have h':(bJ e&&aT es)=true:=F;rw [Bool.and_eq_true] at h';exact BP I L B W j J z @fk @fl
end
def rB (b:Bool)(A B:Prop):Prop:=if b=true then A else B
theorem vo {b:Bool}{A B:Prop}(h1:b=true->A)(h2:b=false->B):rB b A B:=by
 cases b with
 |true=>exact h1 rfl
 |false=>exact h2 rfl
theorem bG {b:Bool}{A B:Prop}(e:b=true)(h:A):rB b A B:=by subst e;exact h
theorem bf {b:Bool}{A B:Prop}(e:b=false)(h:B):rB b A B:=by subst e;exact h
theorem iy {c:Prop}[Decidable c]{A B:Prop}(h1:c->A)(h2: ¬c->B):rB (decide c) A B:=vo (λh=>h1 (of_decide_eq_true h)) (λh=>h2 (of_decide_eq_false h))
theorem kJ {c:Prop}[Decidable c]{A B:Prop}(I:c)(h:A):rB (decide c) A B:=bG (decide_eq_true I) h
theorem hU {c:Prop}[Decidable c]{A B:Prop}(I: ¬c)(h:B):rB (decide c) A B:=bf (decide_eq_false I) h
theorem R1 {c:Prop}[Decidable c]{A B:Prop}(h1: ¬c->A)(h2:c->B):rB (!decide c) A B:=by
 by_cases h:c
 ·rw [decide_eq_true h];exact bf rfl (h2 h)
 ·rw [decide_eq_false h];exact bG rfl (h1 h)
theorem PE.imp {X:Cx}{e:Expr}{t t':TE}(h:PE X e t)(i:∀σ H Q,t' σ H Q->t σ H Q):PE X e t':=λpins s σ H Q I q=>h pins s σ H Q I (i σ H Q q)
theorem cL.imp {X:Cx}{f:Value->Value->Sem Value}{r O:R2}(h:cL X f r)(i:∀x y H Q,O x y H Q->r x y H Q):cL X f O:=λpins s σ H x y v u Q I J z q=>h pins s σ H x y v u Q I J z @fK
theorem CT.imp {X:Cx}{r O:R2}(h:CT X r)(i:∀x y H Q,O x y H Q->r x y H Q):CT X O:=λvalue J pins s σ H x y v u Q I j z q=>h value J pins s σ H x y v u Q I j z @fK
theorem bc.imp {X:Cx}{f:Value}{r O:List V->Hp->VK->Prop}(h:bc X f r)(i:∀xs H Q,O xs H Q->r xs H Q):bc X f O:=λpins s σ H xs j Q I J q=>h pins s σ H xs j Q I J (i _ _ _ q)
theorem xS.imp {X:Cx}{id:String}{r O:V->List V->Hp->VK->Prop}(h:xS X id r)(i:∀x xs H Q,O x xs H Q->r x xs H Q):xS X id O:=λpins s σ H x xs v z Q I J j q=>h pins s σ H x xs v z Q I J j @fK
def Hn (i:Nat):TE:=λσ H Q=>match σ[i]? with|some @bq=>Q v H|_=>False
theorem wv {X:Cx}(i:Nat){x:Str}{pos:Pos}(z:X.N[i]? =some x:=by rfl)(W:NJ X.env.scope x:=by first|exact Or.inl rfl|exact Or.inr @o|exact Or.inr @fR)(J:(x==("__debug__":Str))=false:=by decide)
(B:(x==("__classdict__":Str))=false:=by decide):PE X (.Name x pos) (Hn i):=
 (EB z W J B).imp λσ H Q h=>by
   unfold Hn at h
   cases e:σ[i]? with
   |none=>rw [e] at h;exact h.elim
   |some o=>
    cases o with
    |none=>rw [e] at h;exact h.elim
    |some v=>rw [e] at h;exact ⟨v,e,h⟩
def wI (g:Int->Int->V):R2:=λx y H Q=>match x,y with| .int i,.int j=>Q @cO H|_,_=>False
def wC (C:Int->Int->Prop)(g:Int->Int->V):R2:=λx y H Q=>match x,y with| .int i,.int j=>C i j/\Q @cO H|_,_=>False
theorem jm {g:Int->Int->V}:∀x y H Q,wI g x y H Q->Eo g x y H Q:=λx y H Q h=>by
 cases x with
 |int i=>cases y with
  |int j=>exact ⟨i,j,rfl,rfl,h⟩
  |_=>exact False.elim h
 |_=>exact False.elim h
theorem yj {C:Int->Int->Prop}{g:Int->Int->V}:∀x y H Q,wC C g x y H Q->rI C g x y H Q:=λx y H Q h=>by
 cases x with
 |int i=>cases y with
  |int j=>exact ⟨i,j,rfl,rfl,h⟩
  |_=>exact False.elim h
 |_=>exact False.elim h
section
variable {X:Cx}{K:Fg}
theorem Ah:cL X (binaryOp .Sub) (wI λi j=> .int (i - j)):=L7.imp jm
theorem KW:cL X (binaryOp .FloorDiv) (wC CO λi j=> .int (i / j)):=IA.imp yj
def Ra:R2:=λx y H Q=>match x,y with| .int i,.int j=>0<j/\Q (.int (i% j)) H|_,_=>False
theorem N2:cL X (binaryOp .Mod) Ra:=Ma.imp λx y H Q h=>yj (C:=λ_ j=>0<j) (g:=λi j=> .int (i% j)) x y H Q (by
 cases x with
 |int i=>cases y with
  |int j=>exact h
  |_=>exact False.elim h
 |_=>exact False.elim h)
theorem N0:cL X (binaryOp .LShift) (wC G7 λi j=> .int (i*2^j.toNat)):=L8.imp yj
theorem N9:cL X (binaryOp .BitAnd) (wI λi j=> .int (Builtin.bitAnd i j)):=Me.imp jm
theorem Q0:cL X (binaryOp .BitOr) (wI λi j=> .int (Builtin.bitOr i j)):=O4.imp jm
theorem w_lt:cL X (compareOp .Lt) (wI λi j=> .bl (decide (i<j))):=O6.imp jm
theorem wb:cL X (compareOp .LtE) (wI λi j=> .bl (decide (i<=j))):=O7.imp jm
theorem KS:cL X (compareOp .Gt) (wI λi j=> .bl (decide (j<i))):=O8.imp jm
theorem N7:cL X (compareOp .GtE) (wI λi j=> .bl (decide (j<=i))):=O9.imp jm
def JC (p q:Addr)(H:Hp)(Q:VK):Prop:=∃xs ys,H p=some (.lst xs)/\H q=some (.lst ys)/\xs.length+ys.length<=sizeLine/\∀l,H l=none->Q (.ref l) (upd H l (.lst (xs++ys)))
def Rn:R2:=λx y H Q=>match x,y with
 | .int i,.int j=>Q (.int (i+j)) H
 | .str a,.str b=>a.length+b.length<=sizeLine/\Q (.str (a++b)) H
 | .ref p,.ref q=>JC p q H Q
 |_,_=>False
theorem Ob:cL X @bt Rn:=(Mf.or (zc.or Md)).imp λx y H Q h=>by
 cases x with
 |int i=>cases y with
  |int j=>exact .inl ⟨i,j,rfl,rfl,h⟩
  |_=>exact False.elim h
 |str a=>cases y with
  |str b=>exact .inr (.inl ⟨a,b,rfl,rfl,h⟩)
  |_=>exact False.elim h
 |ref p=>cases y with
  |ref q=>obtain ⟨xs,ys,h1,h2,L,z⟩:=h;exact .inr (.inr ⟨p,q,xs,ys,rfl,rfl,h1,h2,L,z⟩)
  |_=>exact False.elim h
 |_=>exact False.elim h
def Q9:R2:=λx y H Q=>match x,y with
 | .int i,.int j=>rA i j/\Q (.int (i*j)) H
 | .str z,.int n=>(1<n/\n<=1000/\0<z.length/\z.length<=1000)/\Q (.str ⟨(List.replicate n.toNat z.cps).foldl (· ++ ·) #[]⟩) H
 |_,_=>False
theorem Ai:cL X @eW Q9:=(L9.or za).imp λx y H Q h=>by
 cases x with
 |int i=>cases y with
  |int j=>exact .inl ⟨i,j,rfl,rfl,h⟩
  |_=>exact False.elim h
 |str z=>cases y with
  |int n=>exact .inr ⟨z,n,rfl,rfl,h.1.1,h.1.2.1,h.1.2.2.1,h.1.2.2.2,h.2⟩
  |_=>exact False.elim h
 |_=>exact False.elim h
def Q8:V->Hp->VK->Prop:=λx H Q=>match x with| .int i=>Q (.int (-i)) H|_=>False
theorem N1:NK X (unaryOp .USub) Q8:=λpins s σ H x v Q I J h=>by
 cases x with
 |int i=>exact K7 pins s σ H _ v Q I J ⟨i,rfl,h⟩
 |_=>exact False.elim h
noncomputable def PN:V->V->Option Bool
 | .non,.non=>some true
 | .int i,.int j=>some (decide (i=j))
 | .str a,.str b=>some (decide (a=b))
 | .bl a,.bl b=>some (decide (a=b))
 | .non,.int _=>some false| .int _,.non=>some false| .non,.str _=>some false| .str _,.non=>some false| .non,.bl _=>some false| .bl _,.non=>some false
 | .int _,.str _=>some false| .str _,.int _=>some false| .bl _,.str _=>some false| .str _,.bl _=>some false
 |_,_=>none
theorem Ga {x y:V}{b:Bool}(h:PN x y=some b):Lz x y=true/\decide (x=y)=b:=by
 cases x<;>cases y<;>first|cases h|skip
 all_goals first
  |exact ⟨rfl,by simp⟩
  |(refine ⟨rfl,?_⟩;simp)
def Rc (neg:Bool):R2:=λx y H Q=>match y with
 | .non=>(match x with| .non=>Q (.bl (!neg)) H|_=>Q (.bl neg) H)
 |_=>False
theorem Da:cL X (compareOp .Is) (Rc false):=Mb.imp λx y H Q h=>by
 cases y with
 |non=>cases x<;>exact ⟨rfl,h⟩
 |_=>exact False.elim h
def pK (K:Fg)(neg:Bool)(x:V)(p:Addr)(H:Hp)(Q:VK):Prop:=∃xs,(az K H p xs\/aD K H p xs)/\c5 x=true/\xs.all c5=true/\Q (.bl (if neg then !vn x xs else vn x xs)) H
noncomputable def np (a b:Str):Bool:= !(Builtin.Str.occurrences b a 0 b.length 1).isEmpty
def Sn (K:Fg)(neg:Bool):R2:=λx y H Q=>match y with
 | .str b=>(match x with| .str a=>Q (.bl (if neg then !np a b else np a b)) H|_=>False)
 | .ref p=>pK K neg x p H Q
 |_=>False
theorem N6 (z:X.K=K):cL X @cj (Sn K false):=(BQ.or (zb z)).imp λx y H Q h=>by
 cases y with
 |str b=>cases x with
  |str a=>exact .inl ⟨a,b,rfl,rfl,h⟩
  |_=>exact False.elim h
 |ref p=>obtain ⟨xs,h1,h2,L,j⟩:=h;exact .inr ⟨p,xs,rfl,h1,h2,L,j⟩
 |_=>exact False.elim h
theorem oK (z:X.K=K):cL X @ck (Sn K true):=(u6.or (rP z)).imp λx y H Q h=>by
 cases y with
 |str b=>cases x with
  |str a=>exact .inl ⟨a,b,rfl,rfl,h⟩
  |_=>exact False.elim h
 |ref p=>obtain ⟨xs,h1,h2,L,j⟩:=h;exact .inr ⟨p,xs,rfl,h1,h2,L,j⟩
 |_=>exact False.elim h
def kj (K:Fg)(p:Addr)(i:Int)(H:Hp)(Q:VK):Prop:=∃xs,(az K H p xs\/aD K H p xs)/\∃v,oF xs i=some v/\Q v H
def uA (z:Str)(i:Int)(H:Hp)(Q:VK):Prop:=z.length<=sizeLine/\∃c,oF z.cps.toList i=some c/\Q (.str ⟨#[c]⟩) H
def Sx (K:Fg):R2:=λx y H Q=>match x,y with
 | .str z,.int i=>uA z i H Q
 | .ref p,.int i=>kj K p i H Q
 |_,_=>False
theorem Bj (j:X.K=K):CT X (Sx K):=(Jl j).imp λx y H Q h=>by
 cases x with
 |str z=>cases y with
  |int i=>obtain ⟨h1,h2⟩:=h;exact ⟨i,rfl,.inl ⟨z,rfl,h1,h2⟩⟩
  |_=>exact False.elim h
 |ref p=>cases y with
  |int i=>obtain ⟨xs,h1,h2⟩:=h;exact ⟨i,rfl,.inr ⟨p,rfl,xs,h1,h2⟩⟩
  |_=>exact False.elim h
 |_=>exact False.elim h
def ie (K:Fg)(p:Addr)(H:Hp)(Q:VK):Prop:=∃ys,(az K H p ys\/aD K H p ys)/\Q (.int ys.length) H
def Rb (K:Fg):List V->Hp->VK->Prop:=λxs H Q=>match xs with
 |[.str z]=>z.length<=sizeLine/\Q (.int z.length) H
 |[.ref p]=>ie K p H Q
 |_=>False
theorem N3 (j:X.K=K):bc X (.builtin "len") (Rb K):=(CB j).imp λxs H Q h=>by
 match xs,h with
 |[.str z],h=>exact ⟨_,rfl,.inl ⟨z,rfl,h⟩⟩
 |[.ref p],h=>exact ⟨_,rfl,.inr ⟨p,rfl,h⟩⟩
def FK (x:Str)(H:Hp)(Q:VK):Prop:=∃n,PySem.intText? x=some n/\x.length<=640/\Q (.int n) H
def Re:List V->Hp->VK->Prop:=λxs H Q=>match xs with
 |[.int i]=>Q (.int i) H
 |[.bl k]=>Q (.int (if k then 1 else 0)) H
 |[.str x]=>FK x H Q
 |_=>False
theorem wc:bc X (.type "int") Re:=(CF.or CD).imp λxs H Q h=>by
 match xs,h with
 |[.int i],h=>exact .inl (.inl ⟨i,rfl,h⟩)
 |[.bl k],h=>exact .inl (.inr ⟨k,rfl,h⟩)
 |[.str x],h=>obtain ⟨n,h1,h2,L⟩:=h;exact .inr ⟨x,n,rfl,h1,h2,L⟩
noncomputable def Jm:V->String->Option Bool
 | .non,T=>some (T=="NoneType")
 | .bl _,T=>some (T=="bool"||T=="int")
 | .int _,T=>some (T=="int")
 | .str _,T=>some (T=="str")
 |_,_=>none
def jI (K:Fg)(x c:V)(H:Hp)(Q:VK):Prop:=∃cv t b,cV c=some cv/\iA K H x t/\W.kitOne K t cv=some b/\Q (.bl b) H
noncomputable def u2 (T:String):Bool:=T=="int"||T=="str"||T=="bool"||T=="list"||T=="tuple"||T=="dict"
def K1 (K:Fg):List V->Hp->VK->Prop:=λxs H Q=>match xs with
 |[x,.ty T]=>(match Jm x T with|some b=>u2 T=true/\Q (.bl b) H|none=>jI K x (.ty T) H Q)
 |[x,c]=>jI K x c H Q
 |_=>False
end
theorem Cg {K:Fg}{H:Hp}{x:V}{T:String}{b:Bool}(h:Jm x T=some b)(F:u2 T=true):∃t,iA K H x t/\W.kitOne K t (.type T)=some b:=by
 have I:T="int"\/T="str"\/T="bool"\/T="list"\/T="tuple"\/T="dict":=by
  unfold u2 at F;simp only [Bool.or_eq_true,beq_iff_eq] at F
  rcases F with ((((h|h)|h)|h)|h)|h<;>simp [h]
 cases x with
 |non=>refine ⟨_,.non,?_⟩;rcases I with rfl|rfl|rfl|rfl|rfl|rfl<;>(cases h;rfl)
 |bl y=>refine ⟨_,.bl y,?_⟩;rcases I with rfl|rfl|rfl|rfl|rfl|rfl<;>(cases h;rfl)
 |int y=>refine ⟨_,.int y,?_⟩;rcases I with rfl|rfl|rfl|rfl|rfl|rfl<;>(cases h;rfl)
 |str y=>refine ⟨_,.str y,?_⟩;rcases I with rfl|rfl|rfl|rfl|rfl|rfl<;>(cases h;rfl)
 |_=>cases h
section
variable {X:Cx}{K:Fg}{a b c e:Expr}{ta tb te:TE}{tA tB':TT}{eJ:List Expr}{pos:Pos}
theorem N4 (B:X.K=K):bc X (.builtin "isinstance") (K1 K):=(CC B).imp λxs H Q h=>by
 have j:∀x c,jI K x c H Q->OV K [x,c] H Q:=λx c ⟨F,t,b,h1,h2,L,z⟩=>⟨x,c,F,t,b,rfl,h1,h2,L,z⟩
 match xs,h with
 |[x,.ty T],h=>
  have h':(match Jm x T with|some b=>u2 T=true/\Q (.bl b) H|none=>jI K x (.ty T) H Q):=h
  cases e:Jm x T with
  |none=>rw [e] at h';exact j _ _ h'
  |some b=>
   rw [e] at h';obtain ⟨t,h1,h2⟩:=Cg (K:=K) (H:=H) e h'.1;exact ⟨x,.ty T,_,t,b,rfl,rfl,h1,h2,h'.2⟩
 |[x,.ref C],h=>exact j _ _ h
 |[x,.non],h=>exact j _ _ h
 |[x,.bl _],h=>exact j _ _ h
 |[x,.int _],h=>exact j _ _ h
 |[x,.str _],h=>exact j _ _ h
 |[x,.byt _],h=>exact j _ _ h
 |[x,.flt _],h=>exact j _ _ h
def Of (t:TE):TT:=λσ H Q=>t σ H λx H'=>match x with| .bl k=>Q k H'|_=>False
theorem cB {j:CmpOp}{r:R2}(B:cL X @er r)(ha:PE X a ta)(hb:PE X b tb)(L:behindInMarks j b=false):PT X (.Compare a [j] [b] pos) (Of @eR):=by
 intro pins s σ H Q I h
 refine wpAny_isTrue_Compare1 (bj @dH λv Y ⟨x,H1,Z,U,q1⟩=>bj (hb pins Y σ H1 _ Z q1) λu R ⟨y,H2,O,W,q2⟩=>
  bj (B pins R σ H2 x y v u _ O U W q2) λcv s3 ⟨z,F,I3,J,S⟩=> ?_) L
 cases z with
 |bl k=>cases J;exact wpAny_truthy_bool ⟨F,I3,S⟩
 |_=>exact False.elim S
def pH (K:Fg)(p:Addr)(H:Hp)(Q:Bool->Hp->Prop):Prop:=(∃xs,(az K H p xs\/aD K H p xs)/\Q (!xs.isEmpty) H)\/∃kvs,H p=some (.dK kvs)/\Q (!kvs.isEmpty) H
def Oe (K:Fg)(ta:TE):TT:=λσ H Q=>ta σ H λx H'=>match x with
 | .bl k=>Q k H'
 | .non=>Q false H'
 | .int i=>Q (i != 0) H'
 | .str y=>y.length<=sizeLine/\Q ((y.length:Int) != 0) H'
 | .ref p=>pH K p H' Q
 |_=>False
theorem r9 (B:X.K=K)(j:PE X a ta)(R:sv a=true:=by rfl):PT X a (Oe K ta):=by
 subst B;intro pins s σ H Q I h;rwa[isTrue_plain (bj @O λv O ⟨x,H1,J,z,F⟩=> ?_) (FI R)]
 cases x with
 |bl k=>exact ia pins O σ H1 _ v Q J z ⟨k,rfl,F⟩
 |non=>exact ia pins O σ H1 _ v Q J z ⟨false,rfl,F⟩
 |int i=>exact ia pins O σ H1 _ v Q J z ⟨_,rfl,F⟩
 |str y=>exact ia pins O σ H1 _ v Q J z ⟨_,⟨F.1,rfl⟩,F.2⟩
 |ref p=>
  rcases F with ⟨xs,L|L,q⟩|⟨kvs,L,q⟩
  ·exact ia pins O σ H1 _ v Q J z ⟨_,.inl ⟨xs,L,rfl⟩,q⟩
  ·exact ia pins O σ H1 _ v Q J z ⟨_,.inr (.inl ⟨xs,L,rfl⟩),q⟩
  ·exact ia pins O σ H1 _ v Q J z ⟨_,.inr (.inr ⟨kvs,L,rfl⟩),q⟩
 |_=>exact False.elim F
def Rl (t u:TT):TT:=λσ H Q=>t σ H λc H1=>rB c (u σ H1 Q) (Q false H1)
def Sw (t u:TT):TT:=λσ H Q=>t σ H λc H1=>rB c (Q true H1) (u σ H1 Q)
theorem yd (j:PT X a tA)(B:PW X (.BoolOp .And (b::eJ) pos) tB'):PW X (.BoolOp .And (a::b::eJ) pos) (Rl tA tB'):=LS j B
theorem v5 (j:PT X a tA)(B:PW X (.BoolOp .Or (b::eJ) pos) tB'):PW X (.BoolOp .Or (a::b::eJ) pos) (Sw tA tB'):=OZ j B
def Ow (ta tb:TE):TE:=λσ H Q=>ta σ H λx H1=>match x with| .bl c=>rB c @fS (Q (.bl false) H1)|_=>False
def Q6 (ta tb:TE):TE:=λσ H Q=>ta σ H λx H1=>match x with| .bl c=>rB c (Q (.bl true) H1) @fS|_=>False
theorem tX (j:PE X a ta)(B:PE X (.BoolOp .And (b::eJ) pos) tb):PE X (.BoolOp .And (a::b::eJ) pos) (Ow ta tb):=by
 intro pins s σ H Q I h;rwa[BoolOp_and (bj @O λv O ⟨x,H1,J,z,F⟩=> ?_)]
 cases x with
 |bl c=>
  cases z;rwa[wpAny_truthy_bool ?_]
  cases c with
  |true=>exact B pins O σ H1 Q J F
  |false=>exact ⟨.bl false,H1,J,rfl,F⟩
 |_=>exact False.elim F
theorem NY (j:PE X a ta)(B:PE X (.BoolOp .Or (b::eJ) pos) tb):PE X (.BoolOp .Or (a::b::eJ) pos) (Q6 ta tb):=by
 intro pins s σ H Q I h;rwa[BoolOp_or (bj @O λv O ⟨x,H1,J,z,F⟩=> ?_)]
 cases x with
 |bl c=>
  cases z;rwa[wpAny_truthy_bool ?_]
  cases c with
  |false=>exact B pins O σ H1 Q J F
  |true=>exact ⟨.bl true,H1,J,rfl,F⟩
 |_=>exact False.elim F
def Q7 (K:Fg)(ta:TE):TE:=λσ H Q=>ta σ H λx H'=>match x with
 | .bl k=>Q (.bl (!k)) H'
 | .non=>Q (.bl true) H'
 | .int i=>Q (.bl (!(i != 0))) H'
 | .str y=>y.length<=sizeLine/\Q (.bl (!((y.length:Int) != 0))) H'
 | .ref p=>pH K p H' λk H2=>Q (.bl (!k)) H2
 |_=>False
theorem C1 (B:X.K=K)(z:PE X a ta):PE X (.UnaryOp .Not a pos) (Q7 K ta):=by
 subst B;intro pins s σ H Q I h;rwa[UnaryOp_ (bj (z pins s σ H _ I h) λv O ⟨x,H1,S,R,F⟩=> ?_)]
 have L:(∃k,Qd X.K x H1 k/\Q (.bl (!k)) H1)->wpAny @d X.A (unaryOp .Not v) @u X.xe O:=λh=>
  not_of (bj (ia pins O σ H1 x v (λk H2=>Q (.bl (!k)) H2) S R h) λk W ⟨H2,J,U⟩=>⟨.bl (!k),H2,J,rfl,U⟩)
 cases x with
 |bl k=>exact L ⟨k,rfl,F⟩
 |non=>exact L ⟨false,rfl,F⟩
 |int i=>exact L ⟨_,rfl,F⟩
 |str y=>exact L ⟨_,⟨F.1,rfl⟩,F.2⟩
 |ref p=>
  rcases F with ⟨xs,j|j,q⟩|⟨kvs,j,q⟩
  ·exact L ⟨_,.inl ⟨xs,j,rfl⟩,q⟩
  ·exact L ⟨_,.inr (.inl ⟨xs,j,rfl⟩),q⟩
  ·exact L ⟨_,.inr (.inr ⟨kvs,j,rfl⟩),q⟩
 |_=>exact False.elim F
def Rg (t:TT)(ta tb:TE):TE:=λσ H Q=>t σ H λc H1=>rB c (ta σ H1 Q) @fS
theorem C4 (I:PT X c tA)(j:PE X a ta)(B:PE X b tb):PE X (.IfExp c a b pos) (Rg tA ta tb):=EF I j B
def Rf (c:TT)(t u:TS):TS:=λD σ H=>c σ H λb H1=>rB b (t D σ H1) (u D σ H1)
theorem ay {t u:TS}{p q:List Stmt}(I:PT X c tA)(j:rj X p t)(B:rj X q u):PS X (.If c p q pos) (Rf tA t u):=O0 I j B
def Au (K:Fg)(p:Addr)(lo hi:Option Int)(H:Hp)(Q:VK):Prop:=(∃xs,az K H p xs/\∀l,H l=none->Q (.ref l) (upd H l (.lst @cF)))\/
 ∃xs,aD K H p xs/\ ¬(HT.sIx xs.length 0 lo=0/\HT.sIx xs.length xs.length hi=xs.length)/\∀l,H l=none->Q (.ref l) (upd H l (.tup @cF))
def Sv (K:Fg):V->Option Int->Option Int->Hp->VK->Prop:=λx lo hi H Q=>match x with| .ref p=>Au K p lo hi H Q|_=>False
theorem QZ (z:X.K=K):NC X (Sv K):=by
 subst z;intro pins s σ H x v F B lo hi sl Q I J hs pl j h
 cases x with
 |ref p=>
  rcases h with ⟨xs,h1,h2⟩|⟨xs,h1,h2,L⟩
  ·exact HP pins s σ H _ v F B lo hi sl Q I J hs pl j ⟨p,xs,rfl,h1,h2⟩
  ·exact Lu pins s σ H _ v F B lo hi sl Q I J hs pl j ⟨p,xs,rfl,h1,h2,L⟩
 |_=>exact False.elim h
def Oh (t:TE):TO:=λσ H Q=>t σ H λx H1=>match x with| .int i=>Q (some i) H1|_=>False
theorem Hj (h:PE X e te):PO X (some e) (Oh te):=by
 intro pins s σ H Q I B;rw [evalPart_some];rwa[bj (h pins s σ H _ I B) λu O ⟨x,H1,J,z,F⟩=> ?_]
 cases x with
 |int i=>obtain ⟨t,rfl⟩:=z;exact ⟨some i,H1,J,.int i t,F⟩
 |_=>exact False.elim F
def Dc (K:Fg)(T:String)(x:V)(H:Hp)(P:Prop):Prop:=match x with
 | .str _=>T="str"/\P
 | .int _=>T="int"/\P
 | .ref _=>Qu K T x H/\P
 |_=>False
def Sz (K:Fg)(T:String)(r:V->List V->Hp->VK->Prop)(to:TE)(t:TA):TE:=λσ H Q=>to σ H λx H1=>Dc K T x H1 (t σ H1 λxs H2=>r x xs H2 Q)
end
section
variable {X:Cx}{K:Fg}{o e:Expr}{es:List Expr}{to:TE}{t:TA}{name:Str}{apos cpos:Pos}{T id:String}{r:V->List V->Hp->VK->Prop}
theorem wg {x:V}{H:Hp}{P:Prop}(h:Dc K T x H P):Qu K T x H/\P:=by
 cases x with
 |str z=>exact h
 |int i=>exact h
 |ref p=>exact h
 |_=>exact False.elim h
theorem gQ (hK:X.K=K)(pa:PlainAttrs T)(U:Slot T name id)(F:typeOf (.builtin id)=pure (.type "method_descriptor"))(hm:xS X id r)(W:PE X o to)(ha:PA X (e::es) t)
(hb:dO o=true:=by rfl)(R:aT (e::es)=true:=by rfl)(hl:(e::es).length<29:=by decide)(z:(apos.endLine==cpos.line)=true:=by rfl):
 PE X (.Call (.Attribute o name apos) (e::es) [] cpos) (Sz K T r to t):=by
 subst hK;have h':(bJ e&&aT es)=true:=R;rw [Bool.and_eq_true] at h';have hs:starEach (e::es) X.env=(false,eval e X.env)::starEach es X.env:=aW h'.1;have j:(backTo cpos @P).any (·.1)=false:=bV h'.2
 have B:((backTo cpos (starEach (e::es) X.env)).all (λx=> !x.1)&&(backToKw cpos @dx).all @eh
  &&decide ((e::es).length+([]:List Keyword).length+(if ([]:List Keyword).isEmpty then 0 else 1)<30))=true:=by
  rw [my R,arm_keywordEach_nil];show (true&&true&&decide ((e::es).length+0+0<30))=true;rw [decide_eq_true @c];rfl
 intro pins s σ H Q I h;rwa[wpAny_Call_method_late (vD hb) B z rfl (bj @cB λv s1 ⟨x,H1,O,L,J⟩=> ?_)];obtain ⟨ty,J⟩:=wg J;obtain ⟨h1,h2⟩:=Di O L ty;rwa[⟨T,id,pa,U,F,h1,h2,?_⟩];have S:=ha cpos pins s1 σ H1 _ O J;rw [hs] at S ⊢;rwa[Calls.callWith_builtin (by show (false||(backTo cpos @P).any (·.1))=false;rw [j]<;>rfl) (Calls.evalArgs_plain ?_)];exact bj S λus Y ⟨Z,H2,I2,r2,q2⟩=>hm pins Y σ H2 x Z v us Q I2 L r2 q2
def Rj (K:Fg)(T:String)(r:V->List V->Hp->VK->Prop)(to:TE):TE:=λσ H Q=>to σ H λx H1=>Dc K T x H1 (r x [] H1 Q)
theorem C5 (R:X.K=K)(O:PlainAttrs T)(U:Slot T name id)(F:typeOf (.builtin id)=pure (.type "method_descriptor"))(S:xS X id r)(L:PE X o to)
(Y:dO o=true:=by rfl)(z:(apos.endLine==cpos.line)=true:=by rfl):PE X (.Call (.Attribute o name apos) [] [] cpos) (Rj K T r to):=by
 subst R;intro pins s σ H Q I h;rwa[wpAny_Call_method0_late (vD Y) z (bj @dO λv W ⟨x,H1,J,B,j⟩=> ?_)];obtain ⟨ty,j⟩:=wg j;obtain ⟨h1,h2⟩:=Di J B ty;exact ⟨T,id,O,U,F,h1,h2,Calls.callWith_builtin rfl (PySem.evalArgs_none (S pins W σ H1 x [] v [] Q J B .nil j))⟩
noncomputable def F8 (z y:Str):Int:=match Builtin.Str.occurrences z y 0 z.length 1 with|i::_=>(i:Int)|[]=> -1
def AK (K:Fg)(z:Str)(a:Addr)(H:Hp)(Q:VK):Prop:=∃ts:List Str,az K H a @df/\(ts.toArray.foldl (· + ·.length+z.length) 0)<=sizeLine/\(Builtin.Str.glued z ts).length<=sizeLine/\Q (.str @cc) H
def Op (K:Fg):V->List V->Hp->VK->Prop:=λx xs H Q=>match x,xs with| .str z,[.ref a]=>AK K z a H Q|_,_=>False
theorem yh (B:X.K=K):xS X "str.join" (Op K):=(Fo B).imp λx xs H Q h=>by
 match x,xs,h with
 | .str z,[.ref a],h=>obtain ⟨j,h1⟩:=h;exact ⟨z,a,j,rfl,rfl,h1⟩
def Ou:V->List V->Hp->VK->Prop:=λx xs H Q=>match x,xs with| .int i,[]=>Q (.int (Builtin.Int.intBits i)) H|_,_=>False
theorem Db:xS X "int.bit_length" Ou:=Ja.imp λx xs H Q h=>by
 match x,xs,h with
 | .int i,[],h=>exact ⟨i,rfl,rfl,h⟩
def JG (a:Addr)(y:V)(H:Hp)(Q:VK):Prop:=∃xs,H a=some (.lst xs)/\xs.length<sizeLine/\Q .non (upd H a (.lst (xs++[y])))
def Hr:V->List V->Hp->VK->Prop:=λx xs H Q=>match x,xs with| .ref a,[y]=>JG a y H Q|_,_=>False
theorem pf:xS X "list.append" Hr:=by
 intro pins s σ H x xs v z Q I J j h
 match x,xs,h with
 | .ref a,[y],h=>
   obtain ⟨ys,h1,h2,L⟩:=h;exact B6 pins s σ H _ _ v z Q I J j ⟨a,ys,y,rfl,rfl,h1,h2,L⟩
def JK (K:Fg)(a:Addr)(H:Hp)(Q:VK):Prop:=∃bs:List Bool,az K H a @bg/\Q (.bl (bs.all _root_.id)) H
def Rm (K:Fg):List V->Hp->VK->Prop:=λxs H Q=>match xs with|[.ref a]=>JK K a H Q|_=>False
theorem Oa (j:X.K=K)(I:X.calm=true):bc X (.builtin "all") (Rm K):=(CH j I).imp λxs H Q h=>by
 match xs,h with
 |[.ref a],h=>obtain ⟨z,h1⟩:=h;exact ⟨a,z,rfl,h1⟩
def w9 (K:Fg)(p:Addr)(H:Hp)(Q:VK):Prop:=∃ys,(az K H p ys\/aD K H p ys)/\∀l,H l=none->Q (.ref l) @bX
def On (K:Fg):List V->Hp->VK->Prop:=λxs H Q=>match xs with|[.ref a]=>w9 K a H Q|_=>False
theorem jj (j:X.K=K):bc X (.type "list") (On K):=(zV j).imp λxs H Q h=>by
 match xs,h with
 |[.ref a],h=>obtain ⟨ys,h1⟩:=h;exact ⟨a,ys,rfl,h1⟩
def Bm (K:Fg)(p:Addr)(H:Hp)(Q:VK):Prop:=∃ys,(az K H p ys/\∀l,H l=none->Q (.ref l) @cK)\/(aD K H p ys/\Q (.ref p) H)
def KZ (K:Fg):List V->Hp->VK->Prop:=λxs H Q=>match xs with|[.ref a]=>Bm K a H Q|_=>False
theorem gf (j:X.K=K):bc X (.type "tuple") (KZ K):=(xz j).imp λxs H Q h=>by
 match xs,h with
 |[.ref a],h=>obtain ⟨ys,h1⟩:=h;exact ⟨a,ys,rfl,h1⟩
def xg (K:Fg)(p:Addr)(H:Hp)(R:It->Hp->Prop):Prop:=(∃xs,az K H p xs/\R (GZ K p) H)\/∃xs,aD K H p xs/\R (GY K p) H
def Q4 (K:Fg)(te:TE):TI:=λσ H R=>te σ H λx H1=>match x with| .str z=>R (QN z) H1| .ref p=>xg K p H1 R|_=>False
end
theorem ye {X:Cx}{K:Fg}(W:X.K=K){tg e:Expr}{te:TE}(Z:PE X e te):PI X tg e (Q4 K te):=by
 subst W;intro pins s σ H R I h;rwa[bj (Z pins s σ H _ I h) λv O ⟨x,H1,J,F,q⟩=> ?_];have aa:∀ {t:TE},True:=λ{_}=>trivial
 have L:((∃z,x= .str z/\R (QN z) H1)\/(∃a,x= .ref a/\(∃xs,az X.K H1 a xs)/\R (GZ X.K a) H1)\/(∃a,x= .ref a/\(∃xs,aD X.K H1 a xs)/\R (GY X.K a) H1))->
  wpAny @d X.A (pyIter v) @ef X.xe O:=λq=>by
  rcases q with ⟨z,rfl,q⟩|⟨a,rfl,⟨xs,j⟩,q⟩|⟨a,rfl,⟨xs,j⟩,q⟩
  ·obtain ⟨t,rfl⟩:=F
   have fp:∀b∈[O.heap.objs.size],iI X pins H1 b:=λb B=>by
    have e:b=O.heap.objs.size:=by simpa using B
    subst e;exact J.fpOk @e @bW
   cases S:z.cps.all (· <128)
   ·exact wpAny_pyIter_wide S ⟨O.heap.objs.size,[O.heap.objs.size],_,_,H1,rfl,J.kept (t':=O.toks) λb o e=>Heap.get?_push_of_some _ e,sh (.inr rfl),⟨Nat.zero_le _,_,Heap.get?_push_size _ rfl,rfl,rfl⟩,fp,q⟩
   ·exact wpAny_pyIter_ascii S ⟨O.heap.objs.size,[O.heap.objs.size],_,_,H1,rfl,J.kept (t':=O.toks) λb o e=>Heap.get?_push_of_some _ e,sh (.inl rfl),⟨Nat.zero_le _,_,Heap.get?_push_size _ rfl,rfl,rfl⟩,fp,q⟩
  ·cases F;obtain ⟨its,U,p,Y⟩:=J.list j;rwa[wpAny_pyIter_list p.isList ?_];rwa[⟨O.heap.objs.size,[O.heap.objs.size],_,_,H1,rfl,J.kept (t':=O.toks) λb o e=>Heap.get?_push_of_some _ e,Bl a _,⟨_,Heap.get?_push_size _ rfl,rfl,rfl⟩,λb B=> ?_,q⟩]
   have e:b=O.heap.objs.size:=by simpa using B
   subst e;exact J.fpOk @e @bW
  ·cases F;obtain ⟨its,U,p,Y⟩:=J.tuple j;rwa[wpAny_pyIter_tuple (show O.heap.IsTuple a its.toArray from p) ?_];rwa[⟨O.heap.objs.size,[O.heap.objs.size],_,_,H1,rfl,J.kept (t':=O.toks) λb o e=>Heap.get?_push_of_some _ e,ym a _,⟨_,Heap.get?_push_size _ rfl,rfl,rfl⟩,λb B=> ?_,q⟩]
   have e:b=O.heap.objs.size:=by simpa using B
   subst e;exact J.fpOk @e @bW
 cases x with
 |str z=>exact L (.inl ⟨z,rfl,q⟩)
 |ref p=>
  rcases q with ⟨xs,h1,h2⟩|⟨xs,h1,h2⟩
  ·exact L (.inr (.inl ⟨p,rfl,⟨xs,h1⟩,h2⟩))
  ·exact L (.inr (.inr ⟨p,rfl,⟨xs,h1⟩,h2⟩))
 |_=>exact False.elim q
section
variable {X:Cx}{tg:Expr}
def Og (ta:TA):TI:=λσ H R=>ta σ H λvs H1=>match vs with|[.int j]=>(-4611686018427387904<=j/\j<4611686018427387904)/\R (JP 0 j.toNat) H1|_=>False
theorem cq {a:Expr}{ta:TA}{p pos:Pos}(W:Gl X "range")(B:X.mg "range"=none)(z:PA X [a] ta)(hs:bJ a=true:=by rfl):PI X tg (.Call (.Name "range" p) [a] [] pos) (Og ta):=by
 intro pins s σ H R I h;rwa[Call_ (iw I W B boot_range (PyProof.Rows.callWith_type1 (bj (z pos pins s σ H _ I h) λS U ⟨L,H1,O,J,F⟩=> ?_) (aW hs) rfl))]
 match L,F with
 |[.int j],F=>
  cases J with
  |cons r rr=>
   cases rr;obtain ⟨t,rfl⟩:=r;have h1: -4611686018427387904<=j:=F.1.1;have h2:j<4611686018427387904:=F.1.2;exact call_range_1 (Em O @c @c @c @c (by simpa using F.2))
def setL (p:Addr)(k:Int)(v:V)(H:Hp)(Q:Hp->Prop):Prop:=∃xs j,H p=some (.lst xs)/\zA xs.length k=some j/\Q @bB
def Q3:V->V->V->Hp->(Hp->Prop)->Prop:=λo i v H Q=>match o,i with| .ref p,.int k=>setL p k v H Q|_,_=>False
theorem pc:CM X Q3:=by
 intro pins s σ H o i v B F u Q I J Z z h
 match o,i,h with
 | .ref p,.int k,h=>
   obtain ⟨xs,j,h1,h2,L⟩:=h;exact DW pins s σ H _ _ v B F u Q I J Z z ⟨p,xs,k,j,rfl,rfl,h1,h2,L⟩
def Bk (K:Fg)(n:Nat)(a:Addr)(H:Hp)(P:List V->Prop):Prop:=∃xs,aD K H a xs/\xs.length=n/\P xs
def Q1 (K:Fg)(n:Nat)(t:Bf):TG:=λv σ H Q=>match v with| .ref a=>Bk K n a H λxs=>t xs σ H Q|_=>False
def yf (t:TG)(u:Bf):Bf:=λvs σ H Q=>match vs with|v::r=>t v σ H λσ' H'=>u r σ' H' Q|[]=>False
def JT:Bf:=λvs σ H Q=>match vs with|[]=>Q σ H|_=>False
theorem cc:CN X [] JT:=λpins s σ H L j Q I r h=>by
 match L,h with
 |[],h=>exact Iu pins s σ H [] j Q I r ⟨rfl,h⟩
theorem aA {e:Expr}{es:List Expr}{t:TG}{u:Bf}(h1:PG X e t)(h2:CN X es u)(hs:bJ e=true:=by rfl):CN X (e::es) (yf t u):=λpins s σ H L j Q I r h=>by
 match L,h with
 |v::vr,h=>exact Ez h1 h2 (by cases e<;>first|rfl|cases hs) pins s σ H _ j Q I r ⟨v,vr,rfl,h⟩
theorem dh {K:Fg}(F:X.K=K){es:List Expr}{k:Nat}{t:Bf}{n:Nat}{pos:Pos}(z:X.calm=true)(h:CN X es t)
(B:(assignEach es X.env).length=n:=by rfl)(j:(assignEach es X.env).findIdx? (·.1)=none:=by rfl):PG X (.Tuple es k pos) (Q1 K n t):=λpins s σ H v u Q I r q=>by
 match v,q with
 | .ref a,⟨xs,h1,h2,h3⟩=>exact Iv F z h B j pins s σ H _ u Q I r ⟨a,xs,rfl,h1,h2,h3⟩
end
def JW (pk:List @l)(wi:TI)(g:TG)(tt:TT)(te:TE):TE:=λσ H Q=>wi σ H λJ H1=>rV J pk g tt te σ H1 Q
def Rh (wi:TI)(g:TG)(tb:TS):TS:=λD σ H=>wi σ H λJ H1=>zJ J g tb D σ H1
section
variable {X:Cx}{scope:Scope}{N':List Str}{pk:List @l}{tg elt iter:Expr}{ifs:List Expr}{pos:Pos}{wi:TI}{g:TG}{tt:TT}{te:TE}
noncomputable def u9:Expr->Bool
 | .Set _ _ _=>false
 |_=>true
theorem iz {e:Expr}{env:Env}(h:u9 e=true)(x:Value):foldedSetIterable e env x=pure x:=by
 unfold foldedSetIterable
 cases e<;>first|rfl|cases h
theorem bD (I:X.calm=true)(S:cy X scope N' pk)(hi:PI X tg iter wi)(W:∀C s H ex,PG @k tg g)(J:∀C s H ex,G9 @k ifs tt)
(j:∀C s H ex,PE @k elt te)(hs:u9 iter=true:=by rfl):PE X (.ListComp elt [⟨tg,iter,ifs,0⟩] scope pos) (JW pk wi g tt te):=
 Ix I S hi W J j (iz hs)
theorem dN {i:Nat}{x:Str}{B j:Pos}(I:X.calm=true)(F:X.N.Nodup)(z:X.N[i]? =some x)(W:JN X.env.scope x)(S:cy X scope N' pk)(hi:PI X tg iter wi)(R:∀C s H ex,PG @k tg g)
(O:∀C s H ex,G9 @k ifs tt)(J:∀C s H ex,PE @k elt te)(hs:u9 iter=true:=by rfl)
(Z:swapsWith (.ListComp elt [⟨tg,iter,ifs,0⟩] scope pos) (some (.Name x B)) j.line X.env=pure true:=by rfl)(L:X.fn x=true\/X.env.scope.names.lookup x=some .local:=by first|exact .inl rfl|exact .inr rfl|assumption):
 PS X (.Assign [.Name x B] (.ListComp elt [⟨tg,iter,ifs,0⟩] scope pos) j) (Du (JW pk wi g tt te) (ja i)):=
 Ik I F z W S hi R O J (iz hs) Z L
theorem b9 {j:List Stmt}{tb:TS}(F:PassesOwn @d X.A X.env X.xe)(I:X.calm=true)(hi:PI X tg iter wi)(W:PG X tg g)(B:rj X j tb)
(hs:u9 iter=true:=by rfl):PS X (.For tg iter j [] pos) (Rh wi g tb):=LV F I hi W B (iz hs)
end
def tZ (c:TT)(tb:TS):TS:=λD σ H=>∃W:Nat->St->Hp->Prop,(∃m,W m σ H)/\∀m σ H,W m σ H->
 c σ H λb H1=>rB b (∃N:St->Hp->Prop,(∀σ' H',N σ' H'->∃m',m'<m/\W m' σ' H')/\tb {D with nx:=N,ct:=N,bk:=D.nx} σ H1) (D.nx σ H1)
theorem v7 {X:Cx}{pos:Pos}{c:Expr}{j:List Stmt}{tc:TT}{tb:TS}(F:PassesOwn @d X.A X.env X.xe)(I:PT X c tc)(B:rj X j tb):PS X (.While c j [] pos) (tZ tc tb):=Es F I B
def Hx (t u:TS):TS:=λD σ H=>∃M:St->Hp->Prop,t {D with nx:=M} σ H/\∀σ' H',M σ' H'->u D σ' H'
theorem fm {X:Cx}{st:Stmt}{eJ:List Stmt}{t u:TS}(h1:PS X st t)(h2:rj X eJ u):rj X (st::eJ) (Hx t u):=by
 intro pins s σ H D I h;obtain ⟨M,J,z⟩:=h;rwa[wpAny_execs_cons (bj (h1 pins s σ H {D with nx:=M} I J) λf O q=> ?_)]
 cases f with
 |next=>
  obtain ⟨j,H',B,q⟩:=q;exact h2 pins O j H' D B (z j H' q)
 |ret v=>exact q
 |brk=>exact q
 |cont=>exact q
theorem xw {t u:TS}{D:m9}{σ:St}{H:Hp}(M:St->Hp->Prop)(h1:t {D with nx:=M} σ H)(h2:∀σ' H',M σ' H'->u D σ' H'):Hx t u D σ H:=⟨M,h1,h2⟩
section
variable {K:Fg}{H:Hp}{p q:Addr}{xs ys:List V}{Q:VK}
theorem cf (h:az K H p ys)(g:Q (.int ys.length) H):ie K p H Q:=⟨ys,.inl h,g⟩
theorem gm (h:aD K H p ys)(g:Q (.int ys.length) H):ie K p H Q:=⟨ys,.inr h,g⟩
theorem bd {i:Int}{v:V}(h:az K H p xs)(e:oF xs i=some v)(g:Q v H):kj K p i H Q:=⟨xs,.inl h,v,e,g⟩
theorem ao {i:Int}{v:V}(h:aD K H p xs)(e:oF xs i=some v)(g:Q v H):kj K p i H Q:=⟨xs,.inr h,v,e,g⟩
theorem uz {z:Str}{i:Int}{c:Nat}(B:z.length<=sizeLine)(e:oF z.cps.toList i=some c)(g:Q (.str ⟨#[c]⟩) H):uA z i H Q:=⟨B,c,e,g⟩
theorem pJ {x:V}(h:az K H p xs)(h1:c5 x=true)(h2:xs.all c5=true)(g:Q (.bl (vn x xs)) H):pK K false x p H Q:=⟨xs,.inl h,h1,h2,g⟩
theorem Ly {x:V}(h:aD K H p xs)(h1:c5 x=true)(h2:xs.all c5=true)(g:Q (.bl (vn x xs)) H):pK K false x p H Q:=⟨xs,.inr h,h1,h2,g⟩
theorem Br {x:V}(h:az K H p xs)(h1:c5 x=true)(h2:xs.all c5=true)(g:Q (.bl (!vn x xs)) H):pK K true x p H Q:=⟨xs,.inl h,h1,h2,g⟩
theorem sr {x:V}(h:aD K H p xs)(h1:c5 x=true)(h2:xs.all c5=true)(g:Q (.bl (!vn x xs)) H):pK K true x p H Q:=⟨xs,.inr h,h1,h2,g⟩
theorem HR {R:Bool->Hp->Prop}(h:az K H p xs)(g:R (!xs.isEmpty) H):pH K p H R:= .inl ⟨xs,.inl h,g⟩
theorem FG {z:Str}{ts:List Str}(h:az K H p @df)(h1:(ts.toArray.foldl (· + ·.length+z.length) 0)<=sizeLine)(h2:(Builtin.Str.glued z ts).length<=sizeLine)(g:Q (.str @cc) H):AK K z p H Q:=⟨ts,h,h1,h2,g⟩
theorem dY {y:V}(h:H p=some (.lst xs))(B:xs.length<sizeLine)(g:Q .non (upd H p (.lst (xs++[y])))):JG p y H Q:=⟨xs,h,B,g⟩
theorem P8 {bs:List Bool}(h:az K H p @bg)(g:Q (.bl @gh) H):JK K p H Q:=⟨bs,h,g⟩
theorem OB (h:az K H p ys)(g:∀l,H l=none->Q (.ref l) @cK):Bm K p H Q:=⟨ys,.inl ⟨h,g⟩⟩
theorem OA (h:aD K H p ys)(g:Q (.ref p) H):Bm K p H Q:=⟨ys,.inr ⟨h,g⟩⟩
theorem bF {R:It->Hp->Prop}(h:az K H p xs)(g:R (GZ K p) H):xg K p H R:= .inl ⟨xs,h,g⟩
theorem d3 {R:It->Hp->Prop}(h:aD K H p xs)(g:R (GY K p) H):xg K p H R:= .inr ⟨xs,h,g⟩
theorem pG {k:Int}{j:Nat}{v:V}{R:Hp->Prop}(h:H p=some (.lst xs))(Z:zA xs.length k=some j)(g:R @bB):setL p k v H R:=⟨xs,j,h,Z,g⟩
theorem fh {n:Nat}{P:List V->Prop}(h:aD K H p xs)(W:xs.length=n)(g:P xs):Bk K n p H P:=⟨xs,h,W,g⟩
end
theorem fF {i j:Int}(h1: -18446744073709551616<i)(h2:i<18446744073709551616):rA i j:= .inl ⟨h1,h2⟩
theorem Gq {i j:Int}(h1: -18446744073709551616<j)(h2:j<18446744073709551616):rA i j:= .inr ⟨h1,h2⟩
theorem PZ {i j:Int}(h1:0<j)(h2:j<1073741824):CO i j:=⟨h1,h2⟩
theorem PY {i j:Int}(h1:0<=j)(h2:j<=1000000)(L:i.natAbs<18446744073709551616):G7 i j:=⟨h1,h2,L⟩
theorem aP (x:Str):x.cps.toList.length=x.length:=by simp [Str.length]
theorem At {n:Nat}(h:n<=9000):n<sizeLine:=by rw [sizeLine_eq];lia
def GQ (K:Fg)(H:Hp)(a:Addr)(ns:List Int):Prop:=az K H a @bF/\ns.length<=63
inductive D where
 |non|bl (b:Bool)|int (i:Int)|str (x:Str)|lst (ds:List D)|tup (ds:List D)
mutual
noncomputable def gE:D->D->Bool
 | .non,.non=>true
 | .bl a,.bl b=>a==b
 | .bl a,.int b=>(if a then 1 else 0)==b
 | .int a,.bl b=>a==(if b then 1 else 0)
 | .int a,.int b=>a==b
 | .str a,.str b=>a==b
 | .lst xs,.lst ys=>eqDs xs ys
 | .tup xs,.tup ys=>eqDs xs ys
 |_,_=>false
noncomputable def eqDs:List D->List D->Bool
 |[],[]=>true
 |x::xs,y::ys=>gE x y&&eqDs xs ys
 |_,_=>false
end
mutual
theorem fR:∀d:D,gE d d=true
 | .non=>rfl
 | .bl a=>by simp [gE]
 | .int a=>by simp [gE]
 | .str a=>by simp [gE]
 | .lst xs=>by rw [gE];exact eqDs_refl xs
 | .tup xs=>by rw [gE];exact eqDs_refl xs
theorem eqDs_refl:∀ds:List D,eqDs ds ds=true
 |[]=>rfl
 |d::ds=>by rw [eqDs,fR d,eqDs_refl ds];rfl
end
theorem kO:∀ {xs ys:List D},xs.length≠ys.length->eqDs xs ys=false
 |[],[],h=>absurd rfl h
 |[],_::_,_=>by simp [eqDs]
 |_::_,[],_=>by simp [eqDs]
 |x::xs,y::ys,h=>by
  rw [eqDs,kO (xs:=xs) (ys:=ys) (by simpa using h),Bool.and_false]
theorem kQ:∀ {xs ys:List D},xs.length=ys.length->((List.range xs.length).all λj=>gE (xs.getD j .non) (ys.getD j .non))=eqDs xs ys
 |[],[],_=>rfl
 |[],_::_,h=>by simp at h
 |_::_,[],h=>by simp at h
 |x::xs,y::ys,h=>by
  have z:=kQ (xs:=xs) (ys:=ys) (by simpa using h);rw [eqDs,<-z,length_cons,range_succ_eq_map,all_cons,all_map];rfl
inductive br (K:Fg)(H:Hp):V->D->Prop
 |non:br K H .non .non
 |bl (b:Bool):br K H (.bl b) (.bl b)
 |int (i:Int):br K H (.int i) (.int i)
 |str (x:Str):br K H (.str x) (.str x)
 |lst {a:Addr} {xs:List V} {ds:List D} (h:az K H a xs) (hl:xs.length=ds.length) (hi:∀(i:Nat) x d,xs[i]? =some x->ds[i]? =some d->br K H x d):br K H (.ref a) (.lst ds)
 |tup {a:Addr} {xs:List V} {ds:List D} (h:aD K H a xs) (hl:xs.length=ds.length) (hi:∀(i:Nat) x d,xs[i]? =some x->ds[i]? =some d->br K H x d):br K H (.ref a) (.tup ds)
mutual
noncomputable def gH:D->Nat
 | .lst ds=>deps ds+1
 | .tup ds=>deps ds+1
 |_=>0
noncomputable def deps:List D->Nat
 |[]=>0
 |d::ds=>max (gH d) (deps ds)
end
theorem mT:∀ {ds:List D} {i:Nat} {d:D},ds[i]? =some d->gH d<=deps ds
 |[],_,_,h=>by simp at h
 |d::ds,0,_,h=>by simp at h;subst h;rw [deps];exact Nat.le_max_left _ _
 |d::ds,i+1,e,h=>by
  have:=mT (ds:=ds) (i:=i) (d:=e) (by simpa using h);rw [deps];exact Nat.le_trans this (Nat.le_max_right _ _)
section
variable {X:Cx}{pins:List (Addr×Obj)}{σ:St}{H:Hp}{s:Shared}
theorem w4 {a:Addr}{xs ys:List V}(I:au X pins σ H s)(h:az X.K H a xs)(h':aD X.K H a ys):False:=by
 obtain ⟨its,_,p,_⟩:=I.list h;obtain ⟨F,_,p2,_⟩:=I.tuple h';obtain ⟨o,e,c,_⟩:=p.isList;obtain ⟨o',j,z,_⟩:=p2;rw [e] at j;cases j;rw [c] at z;injection z with c2;exact absurd c2 @b
theorem br.inj (I:au X pins σ H s){x:V}{d e:D}(h:br X.K H x d)(h':br X.K H x e):d=e:=by
 induction h generalizing e with
 |non=>cases h';rfl
 |bl b=>cases h';rfl
 |int i=>cases h';rfl
 |str z=>cases h';rfl
 | @lst a xs ds hq hl hi ih=>
   cases h' with
   | @lst _ ys es hq' hl' hi'=>
     have j:=I.list_inj hq hq';subst j;congr 1;rwa[ext_getElem @c λi h1 h2=> ?_];exact ih i xs[i] _ @f (by simp [h1]) (hi' i xs[i] _ @f (by simp [h2]))
   |tup hq' _ _=>exact (w4 I hq hq').elim
 | @tup a xs ds hq hl hi ih=>
   cases h' with
   | @tup _ ys es hq' hl' hi'=>
     have j:=I.tuple_inj hq hq';subst j;congr 1;rwa[ext_getElem @c λi h1 h2=> ?_];exact ih i xs[i] _ @f (by simp [h1]) (hi' i xs[i] _ @f (by simp [h2]))
   |lst hq' _ _=>exact (w4 I hq' hq).elim
theorem Gc {ds es:List D}{n m:Nat}(h:n=ds.length)(h':m=es.length):eqDs ds es=((List.range (min n m)).all (λj=>gE @eX @eY)&&n==m):=by
 subst h h';by_cases z:ds.length=es.length
 ·rw [<-z,Nat.min_self,kQ z];simp
 ·rw [kO z,beq_eq_false_iff_ne.mpr z,Bool.and_false]
open PySem.SeqAt in
theorem vF {A:Around}{xs ys:List V}{ds es:List D}{us vs:List Value}(F:aH xs us)(W:aH ys vs)(U:xs.length=ds.length)(J:ys.length=es.length)(g:∀(j:Nat) x d y e u v,xs[j]? =some x->ds[j]? =some d->ys[j]? =some y->es[j]? =some e->ax x u->ax y v->EqAt A s u v @ew)(j:Nat)(h1:j<us.toArray.size)(h2:j<vs.toArray.size):EqAt A s us.toArray[j] vs.toArray[j] (gE @eX @eY):=by
 have l1:=F.length
 have l2:=W.length
 have z:j<xs.length:=by rw [size_toArray] at h1;lia
 have B:j<ys.length:=by rw [size_toArray] at h2;lia
 obtain ⟨O,S,I⟩:=F.get (getElem?_eq_getElem z)
 obtain ⟨Y,R,L⟩:=W.get (getElem?_eq_getElem B)
 rw [List.getElem_toArray,List.getElem_toArray,(List.getElem?_eq_some_iff.mp S).2,(List.getElem?_eq_some_iff.mp R).2]
 exact g j _ _ _ _ _ _ (getElem?_eq_getElem z) (by simp [List.getD,getElem?_eq_getElem (show j<ds.length by lia)]) (getElem?_eq_getElem B) (by simp [List.getD,getElem?_eq_getElem (show j<es.length by lia)]) I L
open PySem.SeqAt in
theorem OR {A:Around}{a b:Addr}{xs ys:List V}{ds es:List D}(I:au X pins σ H s)(S:az X.K H a xs)(Y:az X.K H b ys)(R:xs.length=ds.length)(J:ys.length=es.length)(z:A.units<cLine)(g:∀(j:Nat) x d y e u v,xs[j]? =some x->ds[j]? =some d->ys[j]? =some y->es[j]? =some e->ax x u->ax y v->EqAt A.in1 s u v @ew):RcAt A s (.ref a) (.ref b) (eqDs ds es)/\RcNeAt A s (.ref a) (.ref b) (!eqDs ds es):=by
 obtain ⟨F,L,U,_⟩:=I.list S
 obtain ⟨O,W,p2,_⟩:=I.list Y
 have l1:=L.length
 have l2:=W.length
 by_cases h:ds.length=es.length
 ·rw [<-kQ h,show ds.length=F.toArray.size by rw [size_toArray];lia]
  have B:F.toArray.size=O.toArray.size:=by rw [size_toArray,size_toArray];lia
  exact ⟨RcAt.lists U.isList p2.isList B z (vF L W R J g),RcNeAt.lists U.isList p2.isList B z (vF L W R J g)⟩
 ·rw [kO h]
  have B:(F.toArray.size != O.toArray.size)=true:=by rw [size_toArray,size_toArray,bne_iff_ne];lia
  exact ⟨RcAt.lists_lengths U.isList p2.isList B z,RcNeAt.lists_lengths U.isList p2.isList B z⟩
open PySem.SeqAt in
theorem OQ {A:Around}{a b:Addr}{xs ys:List V}{ds es:List D}(I:au X pins σ H s)(O:aD X.K H a xs)(S:aD X.K H b ys)(W:xs.length=ds.length)(J:ys.length=es.length)(F:A.units<cLine)(g:∀(j:Nat) x d y e u v,xs[j]? =some x->ds[j]? =some d->ys[j]? =some y->es[j]? =some e->ax x u->ax y v->EqAt A.in1 s u v @ew):RcAt A s (.ref a) (.ref b) (eqDs ds es)/\RcNeAt A s (.ref a) (.ref b) (!eqDs ds es):=by
 obtain ⟨L,z,U,_⟩:=I.tuple O
 obtain ⟨R,B,p2,_⟩:=I.tuple S
 rw [Gc (n:=L.toArray.size) (m:=R.toArray.size) (by rw [size_toArray,<-z.length,W]) (by rw [size_toArray,<-B.length,J])]
 exact ⟨RcAt.tuples U p2 F (vF z B W J g),RcNeAt.tuples U p2 F (vF z B W J g)⟩
open PySem.SeqAt in
theorem qK (I:au X pins σ H s){x:V}{d:D}(h:br X.K H x d):∀ {y:V} {e:D} {u v:Value} {A:Around},br X.K H y e->ax x u->ax y v->A.units+gH d<cLine->EqAt A s u v @ew:=by
 induction h with
 | @lst a xs ds hq hl hi ih=>
   intro y e u v A R F B O
   rw [gH] at O
   cases F
   obtain ⟨Z,L,U,z1⟩:=I.list hq
   cases R with
   |non=>cases B;exact EqAt.list_none U.isList @c
   |bl b=>cases B;exact EqAt.list_bool b U.isList @c
   |int j=>obtain ⟨t,rfl⟩:=B;exact EqAt.list_int j t U.isList @c
   |str z=>obtain ⟨t,rfl⟩:=B;exact EqAt.list_str z t U.isList @c
   |tup hq' _ _=>cases B;obtain ⟨_,_,p2,_⟩:=I.tuple hq';exact EqAt.list_tuple U.isList p2 @c
   | @lst b ys es hq' hl' hi'=>
     cases B
     by_cases J:a=b
     ·subst J
      rw [<-br.inj I (.lst hq hl hi) (.lst hq' hl' hi'),fR]
      exact EqAt.same _
     exact EqAt.of_refs J (OR I hq hq' hl hl' @c λj x d y e u v h1 h2 S W L Y=>ih j x d h1 h2 (hi' j y e S W) L Y (by have:=mT h2;show A.units+1+_<_;lia)).1
 | @tup a xs ds hq hl hi ih=>
   intro y e u v A R F B O
   rw [gH] at O
   cases F
   obtain ⟨Z,L,U,z1⟩:=I.tuple hq
   cases R with
   |non=>cases B;exact EqAt.tuple_none U @c
   |bl b=>cases B;exact EqAt.tuple_bool b U @c
   |int j=>obtain ⟨t,rfl⟩:=B;exact EqAt.tuple_int j t U @c
   |str z=>obtain ⟨t,rfl⟩:=B;exact EqAt.tuple_str z t U @c
   |lst hq' _ _=>cases B;obtain ⟨_,_,p2,_⟩:=I.list hq';exact EqAt.tuple_list U p2.isList @c
   | @tup b ys es hq' hl' hi'=>
     cases B
     by_cases J:a=b
     ·subst J
      rw [<-br.inj I (.tup hq hl hi) (.tup hq' hl' hi'),fR]
      exact EqAt.same _
     exact EqAt.of_refs J (OQ I hq hq' hl hl' @c λj x d y e u v h1 h2 S W L Y=>ih j x d h1 h2 (hi' j y e S W) L Y (by have:=mT h2;show A.units+1+_<_;lia)).1
 |_=>
  intro y e u v A R F B O
  cases R with
  |lst hq _ _=>
   cases B;obtain ⟨_,_,p,_⟩:=I.list hq
   first
    |(cases F;exact EqAt.none_list p.isList @c)
    |(cases F;exact EqAt.bool_list _ p.isList @c)
    |(obtain ⟨t,rfl⟩:=F;exact EqAt.int_list _ t p.isList @c)
    |(obtain ⟨t,rfl⟩:=F;exact EqAt.str_list _ t p.isList @c)
  |tup hq _ _=>
   cases B;obtain ⟨_,_,p,_⟩:=I.tuple hq
   first
    |(cases F;exact EqAt.none_tuple p @c)
    |(cases F;exact EqAt.bool_tuple _ p @c)
    |(obtain ⟨t,rfl⟩:=F;exact EqAt.int_tuple _ t p @c)
    |(obtain ⟨t,rfl⟩:=F;exact EqAt.str_tuple _ t p @c)
  |_=>exact fE F B rfl rfl
end
def RG:D->D->Bool
 | .lst _,.lst _=>true
 | .tup _,.tup _=>true
 |_,_=>false
def xp (K:Fg)(x y:V)(H:Hp)(P:Bool->Prop):Prop:=∃d e,br K H x d/\br K H y e/\RG d e=true/\gH d<=60/\P @ew
theorem Gb {K:Fg}{x y:V}{H:Hp}{P:Bool->Prop}{d:D}(h1:br K H x d)(h2:br K H y d)(J:gH d<=60)(g:P true)(hs:RG d d=true:=by rfl):xp K x y H P:=⟨d,d,h1,h2,hs,J,by rw [fR];exact g⟩
def Ot (K:Fg):R2:=λx y H Q=>match PN x y with|some b=>Q (.bl b) H|none=>xp K x y H λb=>Q (.bl b) H
def Oi (K:Fg):R2:=λx y H Q=>match PN x y with|some b=>Q (.bl (!b)) H|none=>xp K x y H λb=>Q (.bl (!b)) H
section
variable {X:Cx}{K:Fg}{m:Nat}
theorem Dh {d:D}(Y:bC m X.A)(J:gH d<=60):X.A.units+gH d<cLine:=by have:=Y.un;lia
open PySem.SeqAt in
theorem El {pins:List (Addr×Obj)}{σ:St}{H:Hp}{s:Shared}{x y:V}{d e:D}{u v:Value}(I:au X pins σ H s)(Y:bC m X.A)(h1:br X.K H x d)(h2:br X.K H y e)(hs:RG d e=true)(R:gH d<=60)(O:ax x u)(F:ax y v):RcAt X.A s u v @ew/\RcNeAt X.A s u v (!gE d e):=by
 have J:=Dh (X:=X) Y R
 cases h1 with
 |lst hq hl hi=>cases h2 with
  |lst hq' hl' hi'=>cases O;cases F;rw [gH] at J;exact OR I hq hq' hl hl' @c λj x d y e u v h1 h2 L z B W=>qK I (hi j x d h1 h2) (hi' j y e L z) B W (by have:=mT h2;show X.A.units+1+_<_;lia)
  |_=>cases hs
 |tup hq hl hi=>cases h2 with
  |tup hq' hl' hi'=>cases O;cases F;rw [gH] at J;exact OQ I hq hq' hl hl' @c λj x d y e u v h1 h2 L z B W=>qK I (hi j x d h1 h2) (hi' j y e L z) B W (by have:=mT h2;show X.A.units+1+_<_;lia)
  |_=>cases hs
 |_=>cases hs
theorem we (B:X.K=K)(Y:bC m X.A):cL X (compareOp .Eq) (Ot K):=by
 subst B;intro pins s σ H x y v u Q I J z h;unfold Ot at h
 cases e:PN x y with
 |some b=>
  rw [e] at h;obtain ⟨h1,h2⟩:=Ga e;exact Pa pins s σ H x y v u Q I J z ⟨h1,by rw [h2];exact h⟩
 |none=>
  rw [e] at h;obtain ⟨d,F,h1,h2,hs,j,q⟩:=h;exact (El I Y h1 h2 hs j J z).1 _ _ _ _ ⟨.bl _,H,I,rfl,q⟩
theorem C8 (B:X.K=K)(Y:bC m X.A):cL X (compareOp .NotEq) (Oi K):=by
 subst B;intro pins s σ H x y v u Q I J z h;unfold Oi at h
 cases e:PN x y with
 |some b=>
  rw [e] at h;obtain ⟨h1,h2⟩:=Ga e;exact O5 pins s σ H x y v u Q I J z ⟨h1,by rw [h2];exact h⟩
 |none=>
  rw [e] at h;obtain ⟨d,F,h1,h2,hs,j,q⟩:=h;exact (El I Y h1 h2 hs j J z).2 _ _ _ _ ⟨.bl _,H,I,rfl,q⟩
end
structure NA (h:Heap)(a T:Addr)(cls:Value)(dd:Option Addr)(fl:Value):Prop where
 ex:∃oe vs oT ts,h.get? a=some oe/\oe.cls=cls/\oe.dict=dd/\oe.data= .fields vs/\vs[1]? =some (.ref T)/\vs[2]? =some .none/\T≠a/\h.get? T=some oT/\oT.data= .fields ts/\ts[3]? =some fl
structure Pass (fs:List Addr)(ch:List Addr)(h h':Heap):Prop where
 keep:∀b o,b∉ch->b∉fs->h.get? b=some o->h'.get? b=some o
 slot:∀b o,b∉ch->h.get? b=some o->∃sl,h'.get? b=some {o with slots:=sl}
theorem Jf {o:Obj}{vs:Array Value}(J:o.data= .fields vs)(f:Array Value->Array Value):Obj.mapFields f o= {o with data:= .fields (f vs)}:=by
 obtain ⟨c,d,j,sl⟩:=o;cases J;rfl
section
variable {M:Model}{A:Around}{E:Value->Shared->Prop}{s:Shared}
theorem sW {base:Heap}{env:Env}{outer:List Env}{L e:Addr}{Z:Obj}{vs:Array Value}{B:Value}{F:Bool}{Q:Unit->Shared->Prop}
(ag:A.frames=some (env::outer))(hl:s.heap.FunFrames base (env::outer))(hf:env.frame=some L)(he:s.heap.get? e=some Z)(hd:Z.data= .fields vs)(hsz:1<vs.size)(h2:vs[2]? =some .none)
(h:∀h' T,Pass (vT (env::outer)) [e] s.heap h'->s.heap.get? T=none->NA h' e T Z.cls Z.dict (rawInt L)->Q () {s with heap:=h'}):
 wpAny M A (do let a<-frameOf env;let pl<-entryPlaceOf L F;let b<-EntryCells.newEntry B a .none (rawInt L) .none pl;setField (.ref e) 1 b) Q E s:=by
 have Y:e∉(env::outer).filterMap (·.frame):=λhm=>by
  obtain ⟨_,o,U,ad⟩:=hl.mem hm;rw [he] at U;cases U;exact ad vs hd
 rwa[wpAny_bind (wpAny_frameOf_fun ag hl hf λj I=>wpAny_bind (wpAny_entryPlaceOf λpl R=> ?_))];unfold EntryCells.newEntry newFields;rwa[wpAny_bind (wpAny_newObj_type ?_ (R.sizeOk5 _ _ _ _ _))];have W:j.get? e=some Z:=(I.2.1 e Y).trans he;generalize U:({cls:= .type "traceback",dict:=none,data:= .fields ([B,.ref L,.none,rawInt L,.none]++(if pl.isEmpty then List.replicate 6 Value.none else pl)).toArray}:Obj)=o
 have af:o.data= .fields ([B,.ref L,.none,rawInt L,.none]++(if pl.isEmpty then List.replicate 6 Value.none else pl)).toArray:=by rw [<-U]
 have aj:o.isFreed=false:=by rw [<-U];rfl
 have aa:=Heap.get?_push_of_some (h:=j) o W;rwa[wpAny_setField aa hd hsz ?_];have S:j.objs.size≠e:=Nat.ne_of_gt (Heap.lt_size W);have ab:=Obj.data_mapFields hd (·.setIfInBounds 1 @cl);have ai:=Heap.get?_update_self (Obj.mapFields (·.setIfInBounds 1 @cl)) aa (Obj.isFreed_of_fields ab);have ae:=(Heap.get?_update_other (j.push o) (Obj.mapFields (·.setIfInBounds 1 @cl)) (Ne.symm S)).trans (Heap.get?_push_size j aj)
 have J:∀b u,b≠e->j.get? b=some u->((j.push o).update e (Obj.mapFields (·.setIfInBounds 1 @cl))).get? b=some u:=λb u ah hb=>by
  rw [Heap.get?_update_other _ _ @fT];exact Heap.get?_push_of_some _ hb
 rwa[h _ j.objs.size ⟨λb u hb ac O=> ?_,λb u hb O=> ?_⟩ (Heap.get?_none_of_le (by rw [I.1];exact Nat.le_refl _)) ⟨_,_,o,_,ai,?_,?_,ab,by simp [hsz],by rw [Array.getElem?_setIfInBounds_ne @b];exact h2,S,ae,af,?_⟩]
 ·exact J b u (λz=>hb (by simp [z])) ((I.2.1 b ac).trans O)
 ·obtain ⟨sl,hs⟩:=I.2.2 b u O;exact ⟨sl,J b _ (λz=>hb (by simp [z])) hs⟩
 ·exact Obj.cls_mapFields _ _
 ·rw [Jf hd]
 ·first|(simp;done)|(rcases R with rfl|⟨_,_,_,_,_,_,_,rfl⟩<;>simp)
theorem zK {a T:Addr}{B fl:Value}{dd:Option Addr}{f:Option Addr}{Q:Unit->Shared->Prop}(x:NA s.heap a T B dd fl)
(h:∀h',Pass [] [T] s.heap h'->NA h' a T B dd (f.elim .none λf=>rawInt f)->Q () {s with heap:=h'}):wpAny M A (setFlight (.ref a) f) Q E s:=by
 obtain ⟨oe,Z,oT,Y,h1,h2,h3,W,S,I,U,R,L,h9⟩:=x.ex;have J:3<Y.size:=(Array.getElem?_eq_some_iff.mp h9).1;unfold setFlight;rwa[wpAny_bind @dy];rw [if_pos (show (Value.ref T != Value.none)=true from by simp)];have j:∀b,b≠T->∀g,(s.heap.update T g).get? b=s.heap.get? b:=λb F g=>Heap.get?_update_other _ _ (Ne.symm F);rwa[wpAny_setField R L J (h _ ⟨λb o F _ O=>(j b (λz=>F (by simp [z])) _).trans O,λb o F O=>⟨o.slots,(j b (λz=>F (by simp [z])) _).trans O⟩⟩ ?_)];exact ⟨oe,Z,_,_,(j a (Ne.symm U) _).trans h1,h2,h3,W,S,I,U,Heap.get?_update_self _ R (Obj.isFreed_of_fields (Obj.data_mapFields L _)),Obj.data_mapFields L _,by simp [J]⟩
end
theorem Pass.more {fs fs' ch:List Addr}{h h1:Heap}(a:Pass fs ch h h1)(hs:∀b∈fs,b∈fs'):Pass fs' ch h h1:=⟨λb o B j e=>a.keep b o B (λz=>j (hs b z)) e,a.slot⟩
def Nw (X:Cx)(pins:List (Addr×Obj))(H:Hp)(b:Addr):Prop:=H b=none/\b≠X.env.locals/\b∉X.fs/\(b∈X.ex\/X.s₀.heap.get? b=none)/\(∀x c,X.env.cells.lookup x=some c->c≠b)/\∀p∈X.pn++pins,p.1≠b
theorem bb.here {P:Program}{w:World}{H:Hp}{h:Heap}{a:Addr}{o:HO}(x:bb P w H h a o):∃u,h.get? a=some u:=by
 cases o with
 |lst xs=>obtain ⟨_,_,_,_,e⟩:=x;exact ⟨_,e⟩
 |tup xs=>obtain ⟨_,_,_,o,e,_⟩:=x;exact ⟨_,e⟩
 |dK kvs=>obtain ⟨_,_,_,_,o,_,_,e,_⟩:=x;exact ⟨_,e⟩
 |dT kvs=>obtain ⟨_,_,_,_,o,_,_,e,_⟩:=x;exact ⟨_,e⟩
 |set S n=>obtain ⟨o,_,_,_,e,_⟩:=x;exact ⟨_,e⟩
 |ins C dx fs=>obtain ⟨_,_,_,e,_⟩:=x;exact ⟨_,e⟩
 |own y=>obtain ⟨_,e⟩:=x;exact ⟨_,e⟩
 |xd fs=>obtain ⟨_,⟨_,_,_,e,_⟩,_⟩:=x;exact ⟨_,e⟩
 |rng lo hi=>obtain ⟨_,_,_,e⟩:=x;exact ⟨_,e⟩
 |frz ob u=>obtain ⟨e,_⟩:=x;exact ⟨_,e⟩
 |tbl ps=>exact ⟨_,show h.get? a=some _ from x⟩
 |met f y=>exact ⟨_,show h.get? a=some _ from x⟩
 |ext φ=>obtain ⟨_,e,_⟩:=x;exact e
theorem fA.none_of {P:Program}{w:World}{H:Hp}{h:Heap}{a:Addr}(x:fA P w H h)(e:h.get? a=none):H a=none:=by
 cases q:H a with
 |none=>rfl
 |some o=>obtain ⟨u,z⟩:=(x a o q).here;rw [e] at z;cases z
section
variable {X:Cx}{pins:List (Addr×Obj)}{σ:St}{H:Hp}{s:Shared}
theorem au.nw {H':Hp}{b:Addr}(I:au X pins σ H s)(B:s.heap.get? b=none)(J:H' b=none):Nw X pins H' b:=by
 rwa[⟨J,λz=> ?_,λz=> ?_,?_,λx c e z=> ?_,λp L z=> ?_⟩]
 ·obtain ⟨m,⟨o,_,_,j,_⟩,_⟩:=I.loc;rw [<-z,B] at j;cases j
 ·obtain ⟨_,o,j,_⟩:=I.funs.mem z;rw [B] at j;cases j
 ·by_cases F:b∈X.ex
  ·exact .inl F
  ·rwa[.inr ?_]
   cases q:X.s₀.heap.get? b with
   |none=>rfl
   |some o=>obtain ⟨o',e⟩:=I.base.there b o q F;rw [B] at e;cases e
 ·obtain ⟨v,o,j,_⟩:=I.cell x c e;rw [z,B] at j;cases j
 ·have e:=(I.pin p L).1;rw [z,B] at e;cases e
theorem au.pass {ch:List Addr}{h':Heap}(I:au X pins σ H s)(p:Pass @dL ch s.heap h')(F:∀b∈ch,Nw X pins H b):au X pins σ H {s with heap:=h'}:=by
 have U:∀b u,H b=some u->b∉ch:=λb u e z=>by rw [(F b z).1] at e;cases e
 have J:∀b u,H b=some u->b∉vT X.stack:=λb u e z=>by rw [I.stkFree b z] at e;cases e
 have R:∀b o,X.s₀.heap.get? b=some o->b∉X.ex->b∉ch:=λb o e j B=>by
  rcases (F b B).2.2.2.1 with z|z
  ·exact j z
  ·rw [e] at z;cases z
 have ac:∀b o,X.s₀.heap.get? b=some o->b≠X.env.locals:=λb o e=>Nat.ne_of_lt @I
 have Z:∀b o,X.s₀.heap.get? b=some o->b∉X.fs->b∉vT X.stack:=λb o e B z=>by
  rcases mem_cons.mp @fv with q|q
  ·exact ac b o e q
  ·exact B q
 have ab:X.env.locals∉ch:=λz=>(F _ z).2.1 rfl;have aa:∀x c,X.env.cells.lookup x=some c->c∉ch:=λx c e z=>(F c z).2.2.2.2.1 x c e rfl
 have O:∀x c,X.env.cells.lookup x=some c->∀v,s.heap.IsCell c v->h'.IsCell c v:=λx c e v ⟨o,Y,hd⟩=>by
  obtain ⟨sl,q⟩:=p.slot c o (aa x c e) Y;exact ⟨_,q,hd⟩
 rwa[⟨I.ok,I.os,I.bare,⟨λb o e n B j=> ?_,λb o e n B j=> ?_,I.base.free,λb o e j=> ?_,I.base.tups,I.base.frzs,I.base.tbls⟩,?_,λx c e=> ?_,I.free,I.freeC,λq hq=> ?_,λb u e=> ?_,I.len⟩]
 ·exact p.keep b o @cN (Z b o e B) (I.base.keep b o e n B j)
 ·obtain ⟨sl,W⟩:=I.base.slot b o e n B j;obtain ⟨ae,L⟩:=p.slot b _ @cN W;exact ⟨ae,L⟩
 ·obtain ⟨o',W⟩:=I.base.there b o e j;obtain ⟨ae,L⟩:=p.slot b _ @cN W;exact ⟨_,L⟩
 ·obtain ⟨m,⟨o,es,ep,Y,r⟩,hl⟩:=I.loc;obtain ⟨sl,hL⟩:=p.slot _ o ab Y;rwa[⟨m,⟨_,es,ep,hL,r⟩,λi x v W L e3=> ?_⟩];obtain ⟨u,rv,l⟩:=hl i x v W L e3;rwa[⟨u,rv,?_⟩]
  rcases l with l|⟨k,c,e,z⟩
  ·exact .inl l
  ·exact .inr ⟨k,c,e,O x c e _ z⟩
 ·obtain ⟨v,z⟩:=I.cell x c e;exact ⟨v,O x c e v z⟩
 ·obtain ⟨e,n,ne,nf,d⟩:=I.pin q hq;rwa[⟨p.keep q.1 q.2 (λz=>(F _ z).2.2.2.2.2 q hq rfl) @t e,n,ne,nf,d⟩]
  rcases mem_cons.mp (I.stkSub _ z) with y|y
  ·exact ne y
  ·exact nf y
 ·rwa[(I.hok b u e).stay (λc v S q=>p.keep c v ?_ ?_ q) @dJ λ_ _ q=>q]
  ·rcases S with z|z
   ·rw [z];exact U b u e
   ·exact U c _ z
  ·rcases S with z|z
   ·rw [z];exact J b u e
   ·exact J c _ z
def Qb (X:Cx)(pins:List (Addr×Obj))(H:Hp)(h:Heap)(a:Addr)(cls:Value)(dd:Option Addr):Prop:=Nw X pins H a/\
 ((∃oe vs,h.get? a=some oe/\oe.cls=cls/\oe.dict=dd/\oe.data= .fields vs/\vs[1]? =some .none/\vs[2]? =some .none)\/∃T fl,NA h a T cls dd fl/\Nw X pins H T/\(fl= .none\/∃L,X.env.frame=some L/\fl=rawInt L))
theorem Fj {A:Around}{M:Model}{E:Value->Shared->Prop}{a:Addr}{U:Value}{dd:Option Addr}{Q:Unit->Shared->Prop}{L:Addr}(I:au X pins σ H s)(x:Qb X pins H s.heap a U dd)
(hA:A.frames=some X.stack)(B:X.stack=X.env::X.outer)(hf:X.env.frame=some L)
(h:∀h' T,au X pins σ H {s with heap:=h'}->Nw X pins H T->NA h' a T U dd (rawInt L)->Q () {s with heap:=h'}):wpAny M A (noteFrame (.ref a) X.env) Q E s:=by
 obtain ⟨fa,x⟩:=x
 have ag:A.frames=some (X.env::X.outer):=by rw [<-B];exact hA
 have hl:s.heap.FunFrames X.base (X.env::X.outer):=by rw [<-B];exact I.stack
 unfold noteFrame;simp only [hf]
 rcases x with ⟨oe,vs,h1,h2,h3,W,S,F⟩|⟨T,fl,x,fT,aa⟩
 ·rwa[wpAny_bind @dy];rw [if_neg @b];rwa[sW ag hl hf h1 W (Array.getElem?_eq_some_iff.mp S).1 F λh' T p R x=> ?_];rw [<-B] at p;have J:=I.pass p (by simpa using fa);exact h h' T J (I.nw R (I.hok.none_of R)) (by rw [<-h2,<-h3];exact x)
 ·obtain ⟨oe,vs,oT,ts,h1,h2,h3,W,S,F,h6,h7,h8,h9⟩:=id x.ex;rwa[wpAny_bind @dy];rw [if_pos (show (Value.ref T != Value.none)=true from by simp)];rwa[wpAny_bind (wpAny_field h7 h8 h9 ?_)]
  rcases aa with rfl|⟨L',Y,rfl⟩
  ·rw [if_neg (show ¬((Value.none==rawInt L)=true) from by simp [rawInt])];have ab:3<ts.size:=(Array.getElem?_eq_some_iff.mp h9).1;rwa[wpAny_bind (wpAny_setField h7 h8 ab ?_)];have j:∀b,b≠T->∀g,(s.heap.update T g).get? b=s.heap.get? b:=λb Z g=>Heap.get?_update_other _ _ @fg
   have p1:Pass @dL [T] s.heap (s.heap.update T (Obj.mapFields (·.setIfInBounds 3 Value.none))):=
    ⟨λb o Z _ O=>(j b (λz=>Z (by simp [z])) _).trans O,λb o Z O=>⟨o.slots,(j b (λz=>Z (by simp [z])) _).trans O⟩⟩
   have J1:=I.pass p1 (by simpa using fT);rwa[sW (s:= {s with heap:=s.heap.update T (Obj.mapFields (·.setIfInBounds 3 Value.none))}) ag (base:=X.base) (by rw [<-B];exact J1.stack) hf ((j a (Ne.symm h6) _).trans h1) W (Array.getElem?_eq_some_iff.mp S).1 F λh' T' p R x'=> ?_];rw [<-B] at p;have J:=J1.pass p (by simpa using fa);exact h h' T' J (J1.nw R (J1.hok.none_of R)) (by rw [<-h2,<-h3];exact x')
  ·rw [hf] at Y;cases Y;rw [if_pos (show (rawInt L==rawInt L)=true from by simp)];exact wpAny_pure (h s.heap T I fT x)
theorem Ce {A:Around}{M:Model}{E:Value->Shared->Prop}{a:Addr}{B:Value}{dd:Option Addr}{Q:Unit->Shared->Prop}{L:Addr}(I:au X pins σ H s)(x:Qb X pins H s.heap a B dd)
(S:A.frames=some X.stack)(j:X.stack=X.env::X.outer)(R:X.env.frame=some L)
(h:∀h' T,au X pins σ H {s with heap:=h'}->Nw X pins H T->NA h' a T B dd .none->Q () {s with heap:=h'}):wpAny M A (leaving X.env (.ref a)) Q E s:=by
 unfold leaving;rwa[wpAny_bind (Fj I x S j R λh1 T J F U=>zK (s:= {s with heap:=h1}) U λh2 p O=> ?_)];exact h h2 T (J.pass (p.more λ_ z=>nomatch z) (by simpa using F)) F O
end
def Ag (P:Program)(w:World):nh:=λouter H s E e s'=>∃(a T:Addr) (cls:Value) (dd:Option Addr) (H':Hp),e= .ref a/\s'.os=s.os/\AllBare s'.gens/\Un (vT outer) [] H H' s.heap s'.heap/\fA P w H' s'.heap/\
 s.heap.get? a=none/\s.heap.get? T=none/\H' a=none/\H' T=none/\NA s'.heap a T cls dd .none/\E cls dd H'
def Fl (X:Cx)(E:XK):Prop:=∀(pins:List (Addr×Obj)) (σ:St) (H:Hp) (s:Shared) (a:Addr) (cls:Value) (dd:Option Addr),au X pins σ H s->Qb X pins H s.heap a cls dd->E cls dd H->X.xe (.ref a) s
theorem au.afterE {X:Cx}{pins:List (Addr×Obj)}{σ:St}{H:Hp}{s s':Shared}{E:XK}{e:Value}(I:au X pins σ H s)(h:Ag X.prog X.w X.stack H s E e s'):
 ∃a cls dd H',e= .ref a/\au X pins σ H' s'/\Qb X pins H' s'.heap a cls dd/\E cls dd H':=by
 obtain ⟨a,T,cls,dd,H',rfl,os,j,un,af,J,O,F,B,x,q⟩:=h;rwa[⟨a,cls,dd,H',rfl,I.call' os un af j (λb z=>nomatch z),⟨I.nw J F,.inr ⟨T,_,x,I.nw O B,.inl rfl⟩⟩,q⟩]
theorem Fl.passes {X:Cx}{E:XK}(f:Fl X E):fG (Ag X.prog X.w) X E:=λpins σ H s e s' I h=>by
 obtain ⟨a,B,U,H',rfl,J,x,q⟩:=I.afterE h;exact f pins σ H' s' a B U J x q
section
variable {P:Program}{w:World}{K:Fg}{mg:Str->Option Value}{base:Heap}{N:List Str}{qual:Str}{scope:Scope}{f:Addr}{cd:Value}{A:Around}{outer:List Env}{s:Shared}{H:Hp}{E:XK}
theorem Ju:Fl (qP @cm P w K mg base N qual scope f cd A outer s H E) E:=by
 intro pins σ H' s' a B U I x q;show wpAny _ _ _ _ _ _;rwa[Ce I x I.ok.frames rfl rfl λh' T J F L=> ?_];have j:=x.1;rwa[⟨a,T,B,U,H',rfl,J.os,J.bare,J.base,J.hok,?_,?_,j.1,F.1,L,q⟩]
 ·rcases j.2.2.2.1 with z|z
  ·exact absurd (show a∈([]:List Addr) from z) @f
  ·exact z
 ·rcases F.2.2.2.1 with z|z
  ·exact absurd (show T∈([]:List Addr) from z) @f
  ·exact z
end
theorem bh.okX {P:Program}{w:World}{K:Fg}{mg:Str->Option Value}{base:Heap}{x qual:Str}{st:Stmt}{f:Addr}{fd:FuncData}{N ps:List Str}{k:Nat}{sp:Sp}(F:bh K x qual st f fd)(S:ai N ps @bK)(Y:∀vs H Q E,sp vs H Q E->vs.length=ps.length)
(L:∀(cdv:Value) (A:Around) (outer:List Env) (s:Shared) (H:Hp) (vs:List V) (Q:VK) (E:XK),bC k (A.deeper (envOfC qual @bK s.heap.objs.size f cdv))->sp vs H Q E->
   ∃t,rj (qP @cm P w K mg base N qual @bK f cdv A outer s H E) @cP t/\t {nx:=λ_ H'=>Q .non H',rt:=Q} @cz H):ar P w K mg base @cm (k+1) f fd ps sp:=by
 obtain ⟨oc,J,Z,O,I,W,cdv,U,aa,rfl,j,B⟩:=F.ex;exact F6 j B S Y λA outer s H vs Q E z R=>L cdv A outer s H vs Q E z R
structure JQ (P:Program)(w:World)(K:Fg)(mg:Str->Option Value)(base:Heap)(n:Nat)(x:Str)(ps:List Str)(sp:Sp):Prop where
 ex:∃f fd,ar P w K mg base @cm n f fd ps sp/\d6 K fd ps []/\W.keepIn K (.ref f)=true/\mg x=some (.ref f)
structure Exc0 (K:Fg)(C:Addr):Prop where
 ex:∃bmB newId,W.excIn K C bmB newId=true/\bmB.contains (.type "BaseException")=true
def XP (X:Cx)(pins:List (Addr×Obj))(σ:St)(E:XK)(e:Value)(s':Shared):Prop:=∃a cls dd H',e= .ref a/\au X pins σ H' s'/\Qb X pins H' s'.heap a cls dd/\E cls dd H'
open PySem.W
section
variable {prog:Program}{w:World}{A:Around}{E:Value->Shared->Prop}{s:Shared}{K:Frag}{x D:Addr}{ox:Obj}{odo:Option Obj}{name:Str}
theorem Ni {R:Result->Shared->Prop}{tk:Tok}(X:K.In s.heap)(I:PySem.W.InstAt s.heap x ox D odo)
(aa:findIn K (.ref D) "__class__"=some (some (.builtin "object.__class__")))(B:mroIn K D (.type "BaseException")=some true)(z:mroIn K D (.type "object")=some true)
(h:R (.ok (.ret (.ref D))) s):codeAny @i A (.call (.builtin "BaseException.__getattribute__") ⟨[.ref x,.str "__class__" tk],[]⟩) R s:=by
 obtain ⟨S,g,d,t,os⟩:=s;have J:=I.type (M:=model prog w);have O:=looks_findIn (M:=model prog w) X aa;have U:=looks_mroIn (M:=model prog w) X B;rwa[codeAny_call_builtin PySem.F.attr_ValueError.ga.plain PySem.F.entry_bexc_ga ?_]
 have L:builtinKind "BaseException.__getattribute__"=some .slot:=by decide+kernel
 have j:splitId "BaseException.__getattribute__"=some ("BaseException","__getattribute__"):=by decide+kernel
 have Z:=PySem.F.args_bexc_ga (.ref x) (.str "__class__" tk);simp only [checkBuiltinCall,L,j];rwa[wpAny_bind ?_];unfold isInstance;rwa[wpAny_bind (J.at (U.at ?_))];have f5:=KF.type_class;have f6:=PySem.F.slot_gs_get.lookup;have Y:=PySem.F.slot_gs_set.lookup
 repeat (any_goals (first|assumption|with_reducible refine J.at ?_|with_reducible refine O.at ?_|wp_step))
 rwa[class_get (s:=⟨S,g,d,t,os⟩) (ox:=ox) (od:=odo) X I z ?_]
 repeat (any_goals (first|assumption|wp_step))
theorem Jw {Q:Option Value->Shared->Prop}(X:K.In s.heap)(I:PySem.W.InstAt s.heap x ox D odo)(J:findIn K (.ref D) "__getattribute__"=some (some (.builtin "BaseException.__getattribute__")))
(j:findIn K (.ref D) "__getattr__"=some none)(aa:findIn K (.ref D) "__class__"=some (some (.builtin "object.__class__")))(B:mroIn K D (.type "BaseException")=some true)(z:mroIn K D (.type "object")=some true)
(h:Q (some (.ref D)) {s with toks:=s.toks+1}):wpAny @i A (getAttr? (.ref x) "__class__") Q E s:=by
 obtain ⟨U,g,d,t,os⟩:=s;have L:=I.type (M:=model prog w);have O:=looks_findIn (M:=model prog w) X J;have L2':=looks_findIn (M:=model prog w) X j;have S:=looks_findIn (M:=model prog w) X aa;have Z:=looks_mroIn (M:=model prog w) X B;have Y:=PySem.F.attr_ValueError.ga.bind (.ref x);unfold getAttr? getAttrBy? getAttrBy;rwa[wpAny_bind (wpAny_mkText (wpAny_bind (wpAny_attempt (wpAny_holding (wpAny_bind (L.at (wpAny_bind (O.at ?_))))))))]
 have R:(Value.builtin "BaseException.__getattribute__"==Value.builtin "object.__getattribute__")=false:=by decide+kernel
 repeat (any_goals (first|assumption|wp_step))
 rwa[L2'.at ?_]
 repeat (any_goals (first|assumption|wp_step))
 rwa[Ni X I aa B z ?_];exact handed_on rfl (wpAny_pure h)
end
noncomputable def Nj (a:Addr)(cls:Value)(dd:Option Addr):HO:= .ext λh=>∃oe vs,h.get? a=some oe/\oe.cls=cls/\oe.dict=dd/\oe.data= .fields vs/\vs[2]? =some .none
structure Qr (K:Frag)(D:Addr):Prop where
 ga:findIn K (.ref D) "__getattribute__"=some (some (.builtin "BaseException.__getattribute__"))
 gr:findIn K (.ref D) "__getattr__"=some none
 cl:findIn K (.ref D) "__class__"=some (some (.builtin "object.__class__"))
 mB:mroIn K D (.type "BaseException")=some true
 mO:mroIn K D (.type "object")=some true
theorem xf {K:Frag}{x D:Addr}{ox:Obj}{odo:Option Obj}(k:Qr K D):KitX K (.ref x) (.ref D) (λh=>PySem.W.InstAt h x ox D odo) where
 ty:=λ_ _ _ I=>I.type
 it:=λM h X _=>by
  obtain ⟨cd,j,_⟩:=Option.bind_eq_some_iff.mp k.mO;unfold clsIn at j;split at j
  ·rename_i O S F ae B;intro A' Z Y s' R q;unfold isType loadHead;exact wpAny_bind (wpAny_loadPart (R _ _ (X _ _ B)) (wpAny_pure q))
  ·cases j
 ne:=λh L U its n sl X J=>by
  obtain ⟨cd,j,_⟩:=Option.bind_eq_some_iff.mp k.mO;rwa[Bool.eq_false_iff.mpr λq=> ?_];have e:D=L:=Value.ref.inj (beq_iff_eq.mp q);subst e;unfold clsIn at j;split at j
  ·rename_i O S F ae B;have z:=(X _ _ B).symm.trans J;cases z
  ·cases j
 ca:=λX I q=>Jw X I k.ga k.gr k.cl k.mB k.mO q
section
variable {X:Cx}
def zB (K:Fg)(a:Addr)(c:V)(H:Hp)(Q:VK):Prop:=∃D dd cv b,H a=some (Nj a (.ref D) dd)/\Qr K D/\(dd=none\/∃d fs,dd=some d/\H d=some (.xd fs))/\cV c=some cv/\W.kitOne K (.ref D) cv=some b/\Q (.bl b) H
end
structure Qe (k:Nat)(A:Around)(a:Addr):Prop where
 hd:A.handled=some (.ref a)
 dp:A.depth+3*k+5<recursionLimit
 un:A.units+16*k+200<cLine
structure Qq (P:Program)(w:World)(K:Fg)(mg:Str->Option Value)(base:Heap)(k:Nat)(f:Addr)(fd:FuncData)(ps:List Str)(sp:Addr->Sp):Prop where
 len:∀a vs H Q E,sp a vs H Q E->vs.length=ps.length
 run:∀(a:Addr) (A:Around) (outer:List Env) (s:Shared) (H:Hp) (args:Args) (us:List Value) (vs:List V) (Q:VK) (E:XK),Qe k A a->m8 P w K mg base A outer s H->BindsTo s fd args @cs->aH vs us->sp a vs H Q E->
  codeAny @X A (.call (.ref f) args) @dg s
structure CalH (P:Program)(w:World)(K:Fg)(mg:Str->Option Value)(base:Heap)(n:Nat)(x:Str)(ps:List Str)(sp:Addr->Sp):Prop where
 ex:∃f fd,Qq P w K mg base n f fd ps sp/\d6 K fd ps []/\W.keepIn K (.ref f)=true/\mg x=some (.ref f)
def qD (K:Fg)(a:Addr)(c:V)(H:Hp)(Q:VK):Prop:=jI K (.ref a) c H Q\/zB K a c H Q
def Oq (K:Fg):List V->Hp->VK->Prop:=λxs H Q=>match xs with
 |[.ref a,c]=>qD K a c H Q
 |xs=>K1 K xs H Q
theorem yi {X:Cx}{K:Fg}(J:X.K=K):bc X (.builtin "isinstance") (Oq K):=by
 intro pins s σ H xs j Q I r h;have F:K1 K xs H Q->wpAny @d X.A (call (.builtin "isinstance") j) @u X.xe s:=λh=>N4 J pins s σ H xs j Q I r h
 match xs,h with
 |[.ref a,c],h=>
  rcases h with h|⟨D,dd,U,b,e,k,B,hc,S,q⟩
  ·subst J;obtain ⟨U,t,b,h1,h2,h3,h4⟩:=h;exact xA pins s σ H _ j Q I r ⟨.ref a,c,U,t,b,rfl,h1,h2,h3,h4⟩
  ·subst J;obtain ⟨u,w',rfl,r1,r2⟩:=JY r;cases Kp hc r2;obtain rfl:u=Value.ref a:=r1;obtain ⟨⟨Z,vs,O,Y,R,L,k5⟩,_,_⟩:=I.hok a _ e
   rcases B with rfl|⟨d,fs,rfl,ed⟩
   ·rwa[W.kia_one (xf (ox:=Z) (odo:=none) k) I.kIn ⟨O,Y,?_,?_⟩ S (λz=>nomatch z) λtk=>⟨.bl b,H,I.tok _,rfl,q⟩]
    ·unfold W.notCls;rw [L]
    ·rw [R];trivial
   ·obtain ⟨mA,⟨od,es,ep,e',_⟩,_⟩:=I.hok d _ ed;rwa[W.kia_one (xf (ox:=Z) (odo:=some od) k) I.kIn ⟨O,Y,?_,?_⟩ S (λz=>nomatch z) λtk=>⟨.bl b,H,I.tok _,rfl,q⟩]
    ·unfold W.notCls;rw [L]
    ·rw [R];exact e'
 |[],h=>exact F h
 |[.non],h=>exact F h
 |[.bl _],h=>exact F h
 |[.int _],h=>exact F h
 |[.str _],h=>exact F h
 |[.byt _],h=>exact F h
 |[.flt _],h=>exact F h
 |[.ty _],h=>exact F h
 |[.ref _],h=>exact F h
 |[.non,c],h=>exact F h
 |[.bl _,c],h=>exact F h
 |[.int _,c],h=>exact F h
 |[.str _,c],h=>exact F h
 |[.byt _,c],h=>exact F h
 |[.flt _,c],h=>exact F h
 |[.ty _,c],h=>exact F h
 |x::y::z::r,h=>exact F (by cases x<;>exact h)
theorem vk {K:Fg}{H:Hp}{a:Addr}{c:V}{F t:Value}{b:Bool}{Q:VK}(h1:cV c=some F)(h2:iA K H (.ref a) t)(L:W.kitOne K t F=some b)(g:Q (.bl b) H):qD K a c H Q:= .inl ⟨F,t,b,h1,h2,L,g⟩
theorem sJ {M:Model}{A:Around}{E:Value->Shared->Prop}{s:Shared}{env:Env}{o:Expr}{m:Str}{apos pos:Pos}{es:List Expr}{Q:Value->Shared->Prop}(j:dO o=true)(F:aT es=true)(W:es.length<29)(z:(apos.endLine==pos.line)=true)
(h:wpAny M A (eval o env) (λov s₁=>wpAny M A (getMethod ov m (do return (<-importBound o env).getD true)) (λfx s₂=>wpAny M A (callWith pos fx.1 fx.2 @gq (backToKw pos (keywordEach [] env))) Q E s₂) E s₁) E s):
 wpAny M A (eval (.Call (.Attribute o m apos) es [] pos) env) Q E s:=by
 have B:methodCallForm (es.length+([]:List Keyword).length) @gq (backToKw pos (keywordEach [] env))=true:=by
  unfold methodCallForm;rw [my F,arm_keywordEach_nil];show (true&&true&&decide (es.length+0+0<30))=true;rw [decide_eq_true @c];rfl
 rw [arm_eval_Call,vD j];rwa[wpAny_bind (bj h λov O h1=>wpAny_bind (wpAny_standAt ?_))];unfold methodCall;rw [B];rwa[wpAny_bind (wpAny_holding ?_)];unfold calleeOf;rw [if_pos rfl];rwa[bj h1 λfx R h2=> ?_];rwa[wpAny_bind ?_];unfold methodCallPos;rw [z];exact wpAny_pure h2
structure iE (P:Program)(w:World)(K:Fg)(mg:Str->Option Value)(base:Heap)(CX:nh)(n:Nat)(m:Str)(C:Addr)(sp:Sp):Prop where
 ex:∃f fd ps,tS K C/\GR K C m f/\ar P w K mg base CX n f fd ps sp/\d6 K fd ps []
def vd (P:Program)(w:World)(K:Fg)(mg:Str->Option Value)(base:Heap)(CX:nh)(n:Nat)(m:Str)(a:Addr)(E:XK)(H:Hp)(k:Sp->Prop):Prop:=∃C dx fs sp,H a=some (.ins C dx fs)/\fs.lookup m=none/\iE P w K mg base CX n m C sp/\k sp
def De (P:Program)(w:World)(K:Fg)(mg:Str->Option Value)(base:Heap)(CX:nh)(n:Nat)(m:Str)(E:XK)(to:TE)(t:TA):TE:=λσ H Q=>to σ H λx H1=>match x with
 | .ref a=>vd P w K mg base CX n m a E H1 λsp=>t σ H1 λvs H2=>sp (.ref a::vs) H2 Q E
 |_=>False
section
variable {X:Cx}{CX:nh}{o e:Expr}{es:List Expr}{to:TE}{t:TA}{m:Str}{apos pos:Pos}{n k:Nat}{E:XK}
theorem oJ (R:fG CX X E)(Y:bC k X.A)(hn:n<=k)(L:PE X o to)(ha:PA X (e::es) t)(hb:dO o=true:=by rfl)(j:aT (e::es)=true:=by rfl)(U:(e::es).length<29:=by decide)
(z:(apos.endLine==pos.line)=true:=by rfl):PE X (.Call (.Attribute o m apos) (e::es) [] pos) (De X.prog X.w X.K X.mg X.base CX n m E to t):=by
 have h':(bJ e&&aT es)=true:=j;rw [Bool.and_eq_true] at h';intro pins s σ H Q I h;rwa[sJ hb j U z (bj @dO λu Z ⟨x,H1,J,rx,q⟩=> ?_)]
 match x,q with
 | .ref a,⟨C,dx,fs,sp,ea,l,c,q⟩=>
   obtain rfl:u=Value.ref a:=rx;obtain ⟨f,fd,ps,cl,B,F,b⟩:=c.ex;rwa[qF J ea cl B l ?_];rwa[W.callWith_K (first:=[.ref a]) (h₀:=X.base) I.ok.mod.kin B.kp (bj (ha pos pins Z σ H1 _ J q) λus s2 ⟨S,H2,O,r,q2⟩=>⟨O.kIn,?_⟩) @fk @fl];exact yW (us:= .ref a::us) (vs:= .ref a::S) (F.mono hn) Y b .nil R O (.cons rfl r) (by rw [append_nil];exact q2)
theorem C3 (O:fG CX X E)(Y:bC k X.A)(S:n<=k)(L:PE X o to)(U:dO o=true:=by rfl)(z:(apos.endLine==pos.line)=true:=by rfl):
 PE X (.Call (.Attribute o m apos) [] [] pos) (De X.prog X.w X.K X.mg X.base CX n m E to Li):=by
 intro pins s σ H Q I h;rwa[sJ U rfl @b z (bj @dO λu Z ⟨x,H1,J,R,q⟩=> ?_)]
 match x,q with
 | .ref a,⟨C,dx,fs,sp,ea,l,c,q⟩=>
   obtain rfl:u=Value.ref a:=R;obtain ⟨f,fd,ps,j,B,F,b⟩:=c.ex;rwa[qF J ea j B l ?_];exact W.callWith_K0 (first:=[.ref a]) J.kIn B.kp (yW (us:=[.ref a]) (vs:=[.ref a]) (F.mono S) Y b .nil O J (.cons rfl .nil) q)
def xo (K:Fg)(f:Str)(a:Addr)(H:Hp)(Q:VK):Prop:=∃C dx fs v,H a=some (.ins C dx fs)/\tS K C/\aK K C f/\fs.lookup f=some v/\Q v H
def Ri (K:Fg)(f:Str)(to:TE):TE:=λσ H Q=>to σ H λx H1=>match x with| .ref a=>xo K f a H1 Q|_=>False
theorem KQ {K:Fg}{f:Str}(z:X.K=K)(j:PE X o to)(L:dO o=true:=by rfl):PE X (.Attribute o f pos) (Ri K f to):=by
 subst z;intro pins s σ H Q I h;rwa[JF (vD L) (bj @O λu S ⟨x,H1,F,J,q⟩=> ?_)]
 match x,q with
 | .ref a,⟨C,dx,fs,v,ea,c,n,l,q⟩=>
   obtain rfl:u=Value.ref a:=J;exact zF F ea c n l λU R O B=>⟨v,H1,O,B,q⟩
def putAt (K:Fg)(f:Str)(a:Addr)(y:V)(H:Hp)(R:Hp->Prop):Prop:=∃C dx fs,H a=some (.ins C dx fs)/\tS K C/\aK K C f/\fs.length<1000/\R @bU
def Q5 (K:Fg)(f:Str)(to tv:TE):TS:=λD σ H=>tv σ H λy H1=>to σ H1 λx H2=>match x with| .ref a=>putAt K f a y H2 λH3=>D.nx σ H3|_=>False
theorem cE {K:Fg}{f:Str}{value:Expr}{tv:TE}{pos':Pos}(B:X.K=K)(j:PE X o to)(W:PE X value tv)(hs:swapsWith value (some (.Attribute o f pos')) pos.line X.env=pure false:=by rfl):PS X (.Assign [.Attribute o f pos'] value pos) (Q5 K f to tv):=by
 subst B;intro pins s σ H D I h;rwa[plainObj_wpAny_Assign_Attribute (bj @cB λu R ⟨y,H1,S,z,q⟩=>bj (j pins R σ H1 _ S q) λL Y ⟨x,H2,O,J,U⟩=> ?_) hs]
 match x,U with
 | .ref a,⟨C,dx,fs,ea,c,n,l,q⟩=>
   obtain rfl:L=Value.ref a:=J;exact yB O ea c n l z λZ F=>⟨σ,_,F,q⟩
theorem iL {P:Program}{w:World}{K:Fg}{mg:Str->Option Value}{base:Heap}{a C dx:Addr}{fs:List (Str×V)}{sp:Sp}{H:Hp}{R:Sp->Prop}(h1:H a=some (.ins C dx fs))(h2:fs.lookup m=none)(L:iE P w K mg base CX n m C sp)(g:R sp):vd P w K mg base CX n m a E H R:=⟨C,dx,fs,sp,h1,h2,L,g⟩
theorem dG {K:Fg}{f:Str}{a C dx:Addr}{fs:List (Str×V)}{v:V}{H:Hp}{Q:VK}(h1:H a=some (.ins C dx fs))(h2:tS K C)(L:aK K C f)(j:fs.lookup f=some v)(g:Q v H):xo K f a H Q:=⟨C,dx,fs,v,h1,h2,L,j,g⟩
theorem cI {K:Fg}{f:Str}{a C dx:Addr}{fs:List (Str×V)}{y:V}{H:Hp}{R:Hp->Prop}(h1:H a=some (.ins C dx fs))(h2:tS K C)(L:aK K C f)(j:fs.length<1000)(g:R @bU):putAt K f a y H R:=⟨C,dx,fs,h1,h2,L,j,g⟩
end
structure iC (P:Program)(w:World)(K:Fg)(mg:Str->Option Value)(base:Heap)(CX:nh)(n:Nat)(x:Str)(C:Addr)(sp:Sp):Prop where
 ex:∃f fd ps,Mk K C f/\ar P w K mg base CX n f fd ps sp/\d6 K fd ps []/\mg x=some (.ref C)
section
variable {X:Cx}{CX:nh}{e:Expr}{es:List Expr}{t:TA}{x:Str}{p pos:Pos}{n k:Nat}{E:XK}{C:Addr}{sp:Sp}
def fO (C:Addr)(sp:Sp)(E:XK)(vs:List V)(H:Hp)(Q:VK):Prop:=∀a dx,H a=none->H dx=none->dx≠a->sp (.ref a::(vs++[])) @p (λv H2=>v= .non/\Q (.ref a) H2) E
def Ol (C:Addr)(sp:Sp)(E:XK)(t:TA):TE:=λσ H Q=>t σ H λvs H1=>fO C sp E vs H1 Q
theorem ge (c:iC X.prog X.w X.K X.mg X.base CX n x C sp)(j:fG CX X E)(Y:bC k X.A)(L:n+1<=k)(W:Gl X x)(B:PA X (e::es) t)(z:(x==("__debug__":Str))=false:=by decide)(I:aT (e::es)=true:=by rfl):
 PE X (.Call (.Name x p) (e::es) [] pos) (Ol C sp E t):=by
 obtain ⟨f,fd,ps,M,F,b,J⟩:=c.ex;have h':(bJ e&&aT es)=true:=I;rw [Bool.and_eq_true] at h';rwa[(Iw M F (Y.mono L) W J b .nil j B z @fk @fl).imp λσ H Q h=> ?_];exact h
end
section
variable {X:Cx}{K:Fg}{a b c:Expr}{ta tb tc:TE}{pos:Pos}
def Gv (K:Fg)(p q:Addr)(H:Hp)(Q:VK):Prop:=JC p q H Q\/∃xs ys,aD K H p xs/\aD K H q ys/\xs≠[]/\xs.length+ys.length<=sizeLine/\(ys=[]->Q (.ref p) H)/\(ys≠[]->∀l,H l=none->Q (.ref l) (upd H l (.tup (xs++ys))))
def Oy (K:Fg):R2:=λx y H Q=>match x,y with
 | .int i,.int j=>Q (.int (i+j)) H
 | .str a,.str b=>a.length+b.length<=sizeLine/\Q (.str (a++b)) H
 | .ref p,.ref q=>Gv K p q H Q
 |_,_=>False
theorem KY (B:X.K=K):cL X @bt (Oy K):=by
 subst B;rwa[(Ob.or IB).imp λx y H Q h=> ?_]
 cases x with
 |int i=>cases y with
  |int j=>exact .inl h
  |_=>exact False.elim h
 |str a=>cases y with
  |str b=>exact .inl h
  |_=>exact False.elim h
 |ref p=>cases y with
  |ref q=>
   rcases h with h|⟨xs,ys,h1,h2,L,z,S,J⟩
   ·exact .inl h
   ·exact .inr ⟨p,q,xs,ys,rfl,rfl,h1,h2,L,z,S,J⟩
  |_=>exact False.elim h
 |_=>exact False.elim h
theorem P1 {p q:Addr}{H:Hp}{Q:VK}{xs ys:List V}(h1:H p=some (.lst xs))(h2:H q=some (.lst ys))(B:xs.length+ys.length<=sizeLine)(g:∀l,H l=none->Q (.ref l) (upd H l (.lst (xs++ys)))):Gv K p q H Q:= .inl ⟨xs,ys,h1,h2,B,g⟩
def K4 (r r':R2)(ta tb tc:TE):TE:=λσ H Q=>ta σ H λx H1=>tb σ H1 λy H2=>r x y H2 λz H3=>match z with| .bl k=>rB k (tc σ H3 λw' H4=>r' y w' H4 Q) (Q (.bl false) H3)|_=>False
theorem v8 {F j:CmpOp}{r O:R2}(U:cL X (compareOp F) r)(B:cL X @er O)(ha:PE X a ta)(hb:PE X b tb)(R:PE X c tc)
(hm:lastMarks [F,j] [b,c]=false:=by with_unfolding_all rfl):PE X (.Compare a [F,j] [b,c] pos) (K4 r O ta tb tc):=by
 intro pins s σ H Q I h
 refine Compare_chain (bj @dH λv s1 ⟨x,H1,I1,r1,q1⟩=>chain_link (bj (hb pins s1 σ H1 _ I1 q1) λu Y ⟨y,H2,Z,W,q2⟩=>
  bj (U pins Y σ H2 x y v u _ Z r1 W q2) λd s3 ⟨z,J,L,r3,S⟩=> ?_)) hm
 match z,S with
 | .bl k,S=>
   cases r3;rwa[wpAny_truthy_bool ?_]
   cases k with
   |false=>exact ite_ff ⟨.bl false,J,L,rfl,S⟩
   |true=>exact ite_tt (chain_last (bj (R pins s3 σ J _ L S) λw' s4 ⟨z',H4,I4,r4,q4⟩=>B pins s4 σ H4 y z' u w' Q I4 W r4 q4))
def Ho (r r':R2)(ta tb tc:TE):TT:=λσ H Q=>ta σ H λx H1=>tb σ H1 λy H2=>r x y H2 λz H3=>match z with| .bl k=>rB k (tc σ H3 λw' H4=>r' y w' H4 λv H5=>match v with| .bl c=>Q c H5|_=>False) (Q false H3)|_=>False
theorem v6 {F j:CmpOp}{r O:R2}(U:cL X (compareOp F) r)(B:cL X @er O)(ha:PE X a ta)(hb:PE X b tb)(R:PE X c tc)
(Z:lastMarks [F,j] [b,c]=false:=by with_unfolding_all rfl):PT X (.Compare a [F,j] [b,c] pos) (Ho r O ta tb tc):=by
 intro pins s σ H Q I h
 refine isTrue_chain (bj @dH λv s1 ⟨x,H1,I1,r1,q1⟩=>test_link (bj (hb pins s1 σ H1 _ I1 q1) λu s2 ⟨y,H2,I2,W,q2⟩=>
  bj (U pins s2 σ H2 x y v u _ I2 r1 W q2) λd s3 ⟨z,J,L,r3,S⟩=> ?_)) Z
 match z,S with
 | .bl k,S=>
   cases r3;rwa[wpAny_truthy_bool ?_]
   cases k with
   |false=>exact ite_ff ⟨J,L,S⟩
   |true=>
    rwa[ite_tt (test_last (bj (R pins s3 σ J _ L S) λw' s4 ⟨z',H4,I4,r4,q4⟩=>bj (B pins s4 σ H4 y z' u w' _ I4 W r4 q4) λd' s5 ⟨z2,H5,I5,r5,Y⟩=> ?_))]
    match z2,Y with
    | .bl c,Y=>
      cases r5;exact wpAny_truthy_bool ⟨H5,I5,Y⟩
def Jv (a b:Addr)(H:Hp)(Q:VK):Prop:=∃xs zs,H a=some (.lst xs)/\H b=some (.lst zs)/\xs.length+zs.length<=sizeLine/\Q .non (upd H a (.lst (xs++zs)))
def Hq:V->List V->Hp->VK->Prop:=λx xs H Q=>match x,xs with| .ref a,[.ref b]=>Jv a b H Q|_,_=>False
theorem pe:xS X "list.extend" Hq:=by
 intro pins s σ H x xs v z Q I J j h
 match x,xs,h with
 | .ref a,[.ref b],⟨ys,zs,h1,h2,h3,h4⟩=>exact B5 pins s σ H _ _ v z Q I J j ⟨a,b,ys,zs,rfl,rfl,h1,h2,h3,h4⟩
theorem Kh {a b:Addr}{H:Hp}{Q:VK}{xs zs:List V}(h:H a=some (.lst xs))(h2:H b=some (.lst zs))(B:xs.length+zs.length<=sizeLine)(g:Q .non (upd H a (.lst (xs++zs)))):Jv a b H Q:=⟨xs,zs,h,h2,B,g⟩
end
open Builtin Builtin.Str
section
variable {X:Cx}{K:Fg}
theorem HG {l:List (Str×Tok)}:aH ((l.map (·.1)).map V.str) (strValues l):=by
 induction l with
 |nil=>exact .nil
 |cons p r ih=>exact .cons ⟨p.2,rfl⟩ ih
def K0:V->List V->Hp->VK->Prop:=λx xs H Q=>match x,xs with
 | .str z,[.str y]=>((y.length==0)=false/\z.length+2<=sizeLine)/\∀l,H l=none->Q (.ref l) (upd H l (.lst ((Txt.split z y).map V.str)))
 |_,_=>False
theorem Hk:xS X "str.split" K0:=by
 intro pins s σ H x xs v U Q I J B h
 match x,xs,h with
 | .str x,[.str y],⟨⟨hy,hsz⟩,q⟩=>
   obtain ⟨t,rfl⟩:=J
   cases B with
   |cons r rr=>
    cases rr;obtain ⟨u,rfl⟩:=r
    have z:(partsBetween x (occurrences x y 0 x.length (x.length+1)) y.length).length<=sizeLine:=by
     have S:=StrLaws.occ_length_le x y 0 x.length (x.length+1);rw [length_partsBetween];lia
    have L:∀(l:List (Str×Tok)) (k:Nat),l.map (·.1)=Txt.split x y->l.length<=sizeLine->EP X pins σ Q (.ref s.heap.objs.size) {s with heap:=s.heap.push {cls:= .type "list",data:= .seq (strValues l).toArray},toks:=k}:=λl k e W=>by
     rwa[⟨.ref s.heap.objs.size,_,I.laid (t':=k) (o:= .lst ((Txt.split x y).map V.str)) (λb O q=>Heap.get?_push_of_some _ q) @e ?_,rfl,q _ @bp⟩];rw [<-e];exact ⟨by simpa using W,strValues l,0,HG,Heap.get?_push_size _ rfl⟩
    have aa:1<=sizeLine:=by lia
    cases h1:(decide (x.length<y.length)||decide (strKind x<strKind y))
    ·cases j:(occurrences x y 0 x.length (x.length+1)).isEmpty
     ·rwa[call_meets F.slot_str_split @ex F.entry_str_split @dn (meets_str_split_sep x y t u h1 hy j @c z) ?_];show wants _ _ _ {s with toks:=_,heap:=s.heap.push {cls:= .type "list",data:= .seq (strsFrom s.toks (partsBetween x (occurrences x y 0 x.length (x.length+1)) y.length)).toArray}};rw [strsFrom_eq];have e:(numbered s.toks (partsBetween x (occurrences x y 0 x.length (x.length+1)) y.length)).map (·.1)=Txt.split x y:=(numbered_texts _ _).trans ((if_neg (ne_true_of_eq_false h1)).trans (if_neg (ne_true_of_eq_false j))).symm;rwa[L _ _ e ?_];have R:=congrArg List.length (numbered_texts s.toks (partsBetween x (occurrences x y 0 x.length (x.length+1)) y.length));rw [length_map] at R;lia
     ·exact call_meets F.slot_str_split @ex F.entry_str_split @dn (meets_str_split_not_found x y t u h1 hy j)
       (L [(x,t)] s.toks ((if_neg (ne_true_of_eq_false h1)).trans (if_pos j)).symm aa)
    ·exact call_meets F.slot_str_split @ex F.entry_str_split @dn (meets_str_split_cannot_occur x y t u h1)
      (L [(x,t)] s.toks (if_pos h1).symm aa)
def Q2 (K:Fg):V->Option Int->Option Int->Hp->VK->Prop:=λx lo hi H Q=>match x with
 | .ref p=>Au K p lo hi H Q
 | .str z=>z.length<=sizeLine/\Q (.str (Txt.slice z lo hi)) H
 |_=>False
theorem NZ (S:X.K=K):NC X (Q2 K):=by
 intro pins s σ H x v U W lo hi sl Q I R hs pl O h
 cases x with
 |ref p=>exact QZ S pins s σ H _ v U W lo hi sl Q I R hs pl O h
 |str z=>
  obtain ⟨t,rfl⟩:=R;obtain ⟨J,q⟩:=h;rwa[⟨"str",_,F.slot_str_getitem.lookup,typeIs_str _ _ _,?_⟩];have B:∀L k,EP X pins σ Q (.str (Txt.slice z lo hi) L) {s with toks:=k}:=λL k=>⟨.str _,H,I.tok k,⟨L,rfl⟩,q⟩
  cases pl with
  |none=>cases O with
   |none=>exact wpAny_getItem_str_slice (l:=none) (u:=none) (st:=none) hs rfl @K
   |int j tj=>exact wpAny_getItem_str_slice (l:=none) (u:=some (j,tj)) (st:=none) hs rfl @K
  |int i ti=>cases O with
   |none=>exact wpAny_getItem_str_slice (l:=some (i,ti)) (u:=none) (st:=none) hs rfl @K
   |int j tj=>exact wpAny_getItem_str_slice (l:=some (i,ti)) (u:=some (j,tj)) (st:=none) hs rfl @K
 |_=>exact False.elim h
theorem ky {x:Str}{C:Addr}{pos:Pos}(W:Gl X x)(B:X.mg x=some (.ref C))(z:(x==("__debug__":Str))=false:=by decide):PE X (.Name x pos) (tC (.ref C)):=Az (v:=V.ref C) W B rfl z
end
theorem ak.seqT {K:Fg}{H H':Hp}{a:Addr}{xs:List V}(e:ak H H')(h:aD K H a xs):aD K H' a xs:=by
 rcases h with (h|⟨o,h⟩)|h
 ·exact .inl (.inl (e _ _ h))
 ·exact .inl (.inr ⟨o,e _ _ h⟩)
 ·exact .inr h
theorem ak.upd {H:Hp}{p:Addr}{o:HO}(F:H p=none):ak H @ei:=λb u z=>by rw [ag (bp z F)];exact z
theorem ak.any {K:Fg}{H H':Hp}{a:Addr}{xs:List V}(e:ak H H')(h:az K H a xs\/aD K H a xs):az K H' a xs\/aD K H' a xs:=h.imp e.seq e.seqT
section
variable {K:Fg}{H H':Hp}{x:V}
theorem J5 {α β:Type}{F:α->β->Prop}:∀ {xs:List α} {ds:List β} {i:Nat} {x:α},Paired F xs ds->xs[i]? =some x->∃d,ds[i]? =some d/\F x d
 |_,_,0,_,.cons r _,h=>⟨_,rfl,by simp at h;exact h▸r⟩
 |_,_,i+1,_,.cons _ t,h=>by simpa using J5 t (by simpa using h)
 |_,_,i,_,.nil,h=>by simp at h
theorem J4 {α β:Type}{F:α->β->Prop}:∀ {xs:List α} {ds:List β} {i:Nat} {d:β},Paired F xs ds->ds[i]? =some d->∃x,xs[i]? =some x/\F x d
 |_,_,0,_,.cons r _,h=>⟨_,rfl,by simp at h;exact h▸r⟩
 |_,_,i+1,_,.cons _ t,h=>by simpa using J4 t (by simpa using h)
 |_,_,i,_,.nil,h=>by simp at h
theorem _root_.PySem.Paired.len {α β:Type}{F:α->β->Prop}{xs:List α}{ds:List β}(h:Paired F xs ds):xs.length=ds.length:=by
 induction h with
 |nil=>rfl
 |cons _ _ ih=>simp [ih]
theorem So {α β:Type}{F:α->β->Prop}:∀ {xs:List α} {ds:List β},xs.length=ds.length->(∀(i:Nat) x d,xs[i]? =some x->ds[i]? =some d->F x d)->Paired F xs ds
 |[],[],_,_=> .nil
 |x::xs,d::ds,hl,h=> .cons (h 0 x d rfl rfl) (So (by simpa using hl) λi y e h1 h2=>h (i+1) y e (by simpa using h1) (by simpa using h2))
 |[],_::_,hl,_=>by simp at hl
 |_::_,[],hl,_=>by simp at hl
theorem _root_.PySem.Paired.get1 {α β:Type}{F:α->β->Prop}{xs:List α}{ds:List β}{i:Nat}{x:α}(h:Paired F xs ds)(e:xs[i]? =some x):∃d,ds[i]? =some d/\F x d:=J5 h e
theorem _root_.PySem.Paired.get2 {α β:Type}{F:α->β->Prop}{xs:List α}{ds:List β}{i:Nat}{d:β}(h:Paired F xs ds)(e:ds[i]? =some d):∃x,xs[i]? =some x/\F x d:=J4 h e
theorem _root_.PySem.Paired.of {α β:Type}{F:α->β->Prop}{xs:List α}{ds:List β}(W:xs.length=ds.length)(h:∀(i:Nat) x d,xs[i]? =some x->ds[i]? =some d->F x d):Paired F xs ds:=So W h
theorem _root_.PySem.Paired.app {α β:Type}{F:α->β->Prop}{xs z:List α}{ds j:List β}(h:Paired F xs ds)(h':Paired F z j):Paired F (xs++z) (ds++j):=by
 induction h with
 |nil=>exact h'
 |cons r _ ih=>exact .cons r ih
abbrev aC (K:Fg)(H:Hp):List V->List D->Prop:=Paired (br K H)
theorem eO {a:Addr}{xs:List V}{ds:List D}(h:aD K H a xs)(p:aC K H xs ds):br K H (.ref a) (.tup ds):=
 .tup h p.len λi x d h1 h2=>by obtain ⟨e,L,r⟩:=p.get1 h1;rw [h2] at L;cases L;exact r
theorem xu {a:Addr}{xs:List V}{ds:List D}(h:az K H a xs)(p:aC K H xs ds):br K H (.ref a) (.lst ds):=
 .lst h p.len λi x d h1 h2=>by obtain ⟨e,L,r⟩:=p.get1 h1;rw [h2] at L;cases L;exact r
theorem br.outT {ds:List D}(h:br K H x (.tup ds)):∃a xs,x= .ref a/\aD K H a xs/\aC K H xs ds:=by
 cases h with
 |tup h hl hi=>exact ⟨_,_,rfl,h,PySem.Paired.of hl hi⟩
theorem br.outL {ds:List D}(h:br K H x (.lst ds)):∃a xs,x= .ref a/\az K H a xs/\aC K H xs ds:=by
 cases h with
 |lst h hl hi=>exact ⟨_,_,rfl,h,PySem.Paired.of hl hi⟩
theorem br.isInt {i:Int}(h:br K H x (.int i)):x= .int i:=by cases h;rfl
theorem br.isStr {i:Str}(h:br K H x (.str i)):x= .str i:=by cases h;rfl
theorem br.same {d:D}(h:br K H x d)(s:ak H H'):br K H' x d:=by
 induction h with
 |non=>exact .non
 |bl b=>exact .bl b
 |int i=>exact .int i
 |str z=>exact .str z
 |lst h hl hi ih=>exact .lst (s.seq h) hl ih
 |tup h hl hi ih=>exact .tup (s.seqT h) hl ih
theorem aC.same {xs:List V}{ds:List D}(h:aC K H xs ds)(s:ak H H'):aC K H' xs ds:=Paired.imp' (λ_ _ z=>br.same z s) h
mutual
noncomputable def noL:D->Bool
 | .lst _=>false
 | .tup ds=>noLs ds
 |_=>true
noncomputable def noLs:List D->Bool
 |[]=>true
 |d::ds=>noL d&&noLs ds
end
theorem eL:∀ {ds:List D} {i:Nat} {d:D},noLs ds=true->ds[i]? =some d->noL d=true
 |[],_,_,_,h=>by simp at h
 |e::ds,0,d,hn,h=>by
  rw [noLs,Bool.and_eq_true] at hn;simp at h;exact h▸hn.1
 |e::ds,i+1,d,hn,h=>by
  rw [noLs,Bool.and_eq_true] at hn;exact eL hn.2 (by simpa using h)
theorem aD.noL {a p:Addr}{xs zs:List V}{o:HO}(h:aD K H a xs)(F:H p=some (.lst zs)):aD K @ei a xs:=by
 rcases h with (h|⟨u,h⟩)|h
 ·exact .inl (.inl (by rw [ag (λz=>by rw [z,F] at h;cases h)];exact h))
 ·exact .inl (.inr ⟨u,by rw [ag (λz=>by rw [z,F] at h;cases h)];exact h⟩)
 ·exact .inr h
theorem br.noL {d:D}{p:Addr}{zs:List V}{o:HO}(h:br K H x d)(j:L2.noL d=true)(F:H p=some (.lst zs)):br K (L2.upd H p o) x d:=by
 induction h with
 |non=>exact .non
 |bl b=>exact .bl b
 |int i=>exact .int i
 |str z=>exact .str z
 |lst h hl hi ih=>rw [L2.noL] at j;cases j
 |tup h hl hi ih=>
  rw [L2.noL] at j;exact .tup (h.noL F) hl λi x d h1 h2=>ih i x d h1 h2 @fU
theorem kR {xs zs:List V}{ds:List D}{p:Addr}{o:HO}(h:aC K H xs ds)(z:noLs ds=true)(F:H p=some (.lst zs)):aC K @ei xs ds:=
 PySem.Paired.of h.len λi x d h1 h2=>by
  obtain ⟨e,L,r⟩:=h.get1 h1;rw [h2] at L;cases L;exact r.noL (eL z h2) F
theorem Av {p:Addr}{ys:List V}{Q:VK}(h:az K H p ys\/aD K H p ys)(g:Q (.int ys.length) H):ie K p H Q:=⟨ys,h,g⟩
theorem DX {p:Addr}{ys:List V}{Q:VK}{i:Int}{v:V}(h:az K H p ys\/aD K H p ys)(e:oF ys i=some v)(g:Q v H):kj K p i H Q:=⟨ys,h,v,e,g⟩
theorem MV {p:Addr}{ys:List V}{Q:VK}(h:az K H p ys\/aD K H p ys)(g:∀l,H l=none->Q (.ref l) @bX):w9 K p H Q:=⟨ys,h,g⟩
end
section
variable {K:Fg}{H H':Hp}{x:V}{Q:VK}
theorem ak.get {b:Addr}{o:HO}(s:ak H H')(h:H b=some o):H' b=some o:=s b o h
def MN (xs:List V)(H:Hp)(Q:VK):Prop:=xs.length<=sizeLine/\∀p,H p=none->Q (.ref p) (upd H p (.tup xs))
def QE (xs:List V)(H:Hp)(Q:VK):Prop:=xs.length<=sizeLine/\∀p,H p=none->Q (.ref p) (upd H p (.lst xs))
def Od (t:TA):TE:=λσ H Q=>t σ H λxs H1=>MN xs H1 Q
def Om (t:TA):TE:=λσ H Q=>t σ H λxs H1=>QE xs H1 Q
theorem gc {X:Cx}{es:List Expr}{t:TA}{pos:Pos}{R}(h:PA X es t):PE X (.Tuple es R pos) (Od t):=LY h
theorem yg {X:Cx}{es:List Expr}{t:TA}{pos:Pos}(h:PA X es t):PE X (.List es pos) (Om t):=LZ h
theorem bZ {xs:List V}(B:xs.length<=sizeLine)(g:∀p H',ak H H'->H p=none->H' p=some (.tup xs)->Q (.ref p) H'):MN xs H Q:=
 ⟨B,λp n=>g p _ (.upd n) n af⟩
theorem fP {xs:List V}(B:xs.length<=sizeLine)(g:∀p H',ak H H'->H p=none->H' p=some (.lst xs)->Q (.ref p) H'):QE xs H Q:=
 ⟨B,λp n=>g p _ (.upd n) n af⟩
theorem jo {p:Addr}{ys:List V}(h:az K H p ys)(g:∀p H',ak H H'->H p=none->H' p=some (.tup ys)->Q (.ref p) H'):Bm K p H Q:=OB h λp n=>g p _ (.upd n) n af
theorem gC {p:Addr}{ys:List V}(h:az K H p ys\/aD K H p ys)(g:∀p H',ak H H'->H p=none->H' p=some (.lst ys)->Q (.ref p) H'):w9 K p H Q:=MV h λp n=>g p _ (.upd n) n af
theorem aC.via {xs:List V}{ds:List D}(s:ak H H')(h:aC K H xs ds):aC K H' xs ds:=aC.same h s
theorem bq {n:Nat}(h:n<=1000000):n<=sizeLine:=by rw [sizeLine_eq];lia
theorem aG {α:Type}{f:α->D}{xs:List V}{j:List α}(h:aC K H xs (j.map f)):xs.length=j.length:=by rw [h.len];simp
theorem bE {α:Type}{f:α->D}{xs:List V}{j:List α}{i:Nat}{x:V}(h:aC K H xs (j.map f))(e:xs[i]? =some x):∃a,j[i]? =some a/\br K H x (f a):=by
 obtain ⟨d,J,dx⟩:=h.get1 e;rw [getElem?_map] at J
 cases z:j[i]? with
 |none=>rw [z] at J;cases J
 |some l=>rw [z] at J;exact ⟨l,rfl,Option.some.inj J▸dx⟩
end
end L2
local macro_rules | `(tactic| walk_at "l3sq") => `(tactic| first
  | assumption
  | (show L2.aD _ _ _ _; first | exact L2.aD.of (by assumption) | exact L2.ak.seqT (by assumption) (by walk_at "l3sq"))
  | (show L2.az _ _ _ _; first | exact L2.az.of (by assumption) | exact L2.ak.seq (by assumption) (by walk_at "l3sq"))
  | (show L2.GQ _ _ _ _; exact L2.GQ.via (by assumption) (by walk_at "l3sq"))
  | (show L2.aC _ _ _ _; exact L2.aC.via (by assumption) (by walk_at "l3sq"))
  | (show L2.br _ _ _ _; exact L2.br.via (by assumption) (by walk_at "l3sq"))
  | (show _ = some _; exact L2.ak.get (by assumption) (by walk_at "l3sq")))
namespace L2
theorem Px {c:Prop}[Decidable c]{A B:Prop}(I: ¬c)(h:A):rB (!decide c) A B:=R1 (λ_=>h) (λz=>absurd z I)
theorem FM {c:Prop}[Decidable c]{A B:Prop}(I:c)(h:B):rB (!decide c) A B:=R1 (λz=>absurd I z) (λ_=>h)
end L2
set_option hygiene false in
local macro_rules|`(tactic|walk_at "l3gs")=>do
 let r←("gH gI gJ;gK gL gM;gN gO;gP gQ;gR gS gT;gU gV gW gX gY gZ ha;hb hc;hd he;hf hg".splitOn ";").toArray.mapM λx=>do let i:Array Lean.Term:=(x.splitOn " ").toArray.map λs=>⟨Lean.mkIdent (.mkSimple s)⟩;let p:=i[0]!;let e:=i.extract 1 i.size;`(Lean.Parser.Tactic.tacticSeq|(show @$p;first $[|refine @$e]*))
 `(tactic|((conv=>whnf);first $[|$r]*))
local macro_rules | `(tactic| walk_at "l3go") => `(tactic| ((repeat (walk_at "l3gs")); conv => whnf))
local macro_rules | `(tactic| walk_at "l3gc") => `(tactic| (walk_at "l3go"; refine L2.cutE (by walk_at "l3go"; exact ⟨rfl, rfl⟩) ?_))
local macro_rules | `(tactic| walk_at "l3gr") => `(tactic| first | refine L2.bf rfl ?_ | refine L2.bG rfl ?_)
namespace L2
open PySem PySem.Spec PyProof.Rows
section
variable {X:Cx}{K:Fg}{H:Hp}{Q:VK}
theorem Gu {prog:Program}{w:World}{A:Around}{E:Value->Shared->Prop}{s:Shared}{t b:Addr}{ws:List Value}{Q:Value->Shared->Prop}(ht:IsTup s.heap t (#[]:Array Value))(hb:IsTup s.heap b ws.toArray)(h:Q (.ref b) s):wpAny @i A (binaryOp .Add (.ref t) (.ref b)) Q E s:=by
 obtain ⟨⟨Y,W,S,sl⟩,O,L,n,U⟩:=id ht;obtain ⟨⟨aa,z,R,J⟩,j,B,Z,I⟩:=id hb;simp only at L U B I;subst L U B I;exact concat_meets ⟨_,O,rfl⟩ ⟨_,j,rfl⟩ noFill_tuple_add seq_tuple_add PySem.F.slot_tuple_add PySem.F.entry_tuple_add @cA (tuple_addW0 t b #[] ws.toArray n Z W z sl J @f) ⟨O,j,h⟩
def OX (K:Fg):R2:=λx y H Q=>∃a b ys,x= .ref a/\y= .ref b/\aD K H a []/\aD K H b ys/\Q (.ref b) H
theorem IC:cL X @bt (OX X.K):=by
 intro pins s σ H x y v u Q I J z h;obtain ⟨a,b,ys,rfl,rfl,j,L,q⟩:=h;cases J;cases z;obtain ⟨its,B,U,_⟩:=I.tuple j;obtain ⟨F,W,p2,_⟩:=I.tuple L;cases B;exact Gu U p2 ⟨.ref b,H,I,rfl,q⟩
def JD (K:Fg)(p q:Addr)(H:Hp)(Q:VK):Prop:=Gv K p q H Q\/∃ys,aD K H p []/\aD K H q ys/\Q (.ref q) H
def Ox (K:Fg):R2:=λx y H Q=>match x,y with
 | .int i,.int j=>Q (.int (i+j)) H
 | .str a,.str b=>a.length+b.length<=sizeLine/\Q (.str (a++b)) H
 | .ref p,.ref q=>JD K p q H Q
 |_,_=>False
theorem gh (z:X.K=K):cL X @bt (Ox K):=by
 subst z;rwa[((KY rfl).or IC).imp λx y H Q h=> ?_]
 cases x with
 |int i=>cases y with
  |int j=>exact .inl h
  |_=>exact False.elim h
 |str a=>cases y with
  |str b=>exact .inl h
  |_=>exact False.elim h
 |ref p=>cases y with
  |ref q=>
   rcases h with h|⟨ys,h1,h2,L⟩
   ·exact .inl h
   ·exact .inr ⟨p,q,ys,rfl,rfl,h1,h2,L⟩
  |_=>exact False.elim h
 |_=>exact False.elim h
theorem A4 {p q:Addr}{xs ys:List V}(h1:H p=some (.lst xs))(h2:H q=some (.lst ys))(B:xs.length+ys.length<=sizeLine)(g:∀l H',ak H H'->H l=none->H' l=some (.lst (xs++ys))->Q (.ref l) H'):JD K p q H Q:= .inl (P1 h1 h2 B λl n=>g l _ (.upd n) n af)
theorem fI {pk:List @l}{σ:St}{x y:V}:rZ (cj (none::none::pk) σ) (((cj (none::none::pk) σ).set 0 (some x)).set 1 (some y)):=
 rZ.cons (.inl rfl) (.cons (.inl rfl) (.refl _))
theorem jV {pk:List @l}{σ:St}{x y z u:V}:rZ (cj (none::none::none::none::pk) σ) (((((cj (none::none::none::none::pk) σ).set 0 (some x)).set 1 (some y)).set 2 (some z)).set 3 @fb):=
 rZ.cons (.inl rfl) (.cons (.inl rfl) (.cons (.inl rfl) (.cons (.inl rfl) (.refl _))))
end
abbrev TJ:=Str->St->Hp->(Str->Hp->Prop)->Prop
def QQ (x:Str):Prop:=∀c∈x.cps.toList,c<128
section
variable {X:Cx}{K:Fg}
theorem BM (bs:List Bool):((List.range bs.length).any λi=>(bs[i]?).getD true)=bs.any id:=by
 rw [Bool.eq_iff_iff,any_eq_true,any_eq_true];constructor
 ·rintro ⟨i,hi,e⟩;have hi:=mem_range.mp hi;rw [getElem?_eq_getElem hi] at e;exact ⟨_,getElem_mem hi,e⟩
 ·rintro ⟨b,B,e⟩;obtain ⟨i,hi,rfl⟩:=mem_iff_getElem.mp B;exact ⟨i,mem_range.mpr hi,by rw [getElem?_eq_getElem hi];exact e⟩
theorem CG (F:X.calm=true):bc X (.builtin "any") (λxs H Q=>∃(a:Addr) (bs:List Bool),xs=[.ref a]/\az X.K H a @bg/\Q (.bl (bs.any id)) H):=by
 intro pins s σ H xs Y Q I r h;obtain ⟨a,bs,rfl,O,q⟩:=h;obtain ⟨u,rfl,S⟩:=fg r;cases S;obtain ⟨its,J,pl,Z⟩:=I.list O;have W:s.heap.IsList a its.toArray:=pl.isList;have B:=xN J
 have z:a<s.heap.objs.size:=by obtain ⟨_,e,_⟩:=W;exact Heap.lt_size e
 rwa[call_any_walk (wpAny_pyIter_list W ?_)]
 refine ⟨s.heap.objs.size,[s.heap.objs.size,a],[s.heap.objs.size],its.toArray.size,_,_,λi=>(bs[i]?).getD true,rfl,Walks.list (A:=X.A.in1) @gg _ a (Nat.ne_of_lt z) its.toArray,
  ⟨⟨_,Heap.get?_push_size _ rfl,rfl,rfl⟩,W.push _⟩,λi v s' Q' U L j=> ?_,λh' tk R=> ?_⟩
 ·obtain ⟨b,e,rfl⟩:=B.get i v (by simpa using L);simp only [e,Option.getD_some] at j;exact wpAny_truthy_bool j
 ·have e:((List.range its.toArray.size).any λi=>(bs[i]?).getD true)=bs.any id:=by
   rw [size_toArray,B.length];exact BM bs
  rw [e];exact ⟨.bl _,H,I.kept (LSm.kept_iter R),rfl,q⟩
def JH (K:Fg)(a:Addr)(H:Hp)(Q:VK):Prop:=∃bs:List Bool,az K H a @bg/\Q (.bl (bs.any _root_.id)) H
def Ov (K:Fg):List V->Hp->VK->Prop:=λxs H Q=>match xs with|[.ref a]=>JH K a H Q|_=>False
theorem N8 (j:X.K=K)(I:X.calm=true):bc X (.builtin "any") (Ov K):=by
 subst j;rwa[(CG I).imp λxs H Q h=> ?_];unfold Ov at h;split at h
 ·obtain ⟨z,h1,h2⟩:=h;exact ⟨_,z,rfl,h1,h2⟩
 ·exact h.elim
theorem P7 {K:Fg}{p:Addr}{H:Hp}{Q:VK}{bs:List Bool}(h:az K H p @bg)(g:Q (.bl (bs.any id)) H):JH K p H Q:=⟨bs,h,g⟩
noncomputable def uc (x y:Str):Bool:=decide (0+y.length<=x.length)&&Builtin.Str.subAt x y 0
def Aj:V->List V->Hp->VK->Prop:=λx xs H Q=>match x,xs with| .str z,[.str y]=>Q (.bl (uc z y)) H|_,_=>False
theorem C7:xS X "str.startswith" Aj:=by
 intro pins s σ H x xs v L Q I J j h;unfold Aj at h;split at h
 ·rename_i z y;obtain ⟨t,rfl⟩:=J;obtain ⟨u,rfl,B,rfl⟩:=fg j;exact call_gives F.slot_str_startswith @es F.entry_str_startswith (F.args_str_startswith_2 _ _) (gives_str_startswith z y t B) ⟨.bl _,H,I,rfl,h⟩
 ·exact h.elim
end
noncomputable def eU:Stmt->Nat->Stmt
 | .ClassDef _ _ _ body _ _ _ _ _ _ _,j=>body.getD j (.Pass ⟨0,0,0,0⟩)
 |s,_=>s
structure fW (K:Fg)(C:Addr):Prop where
 cl:tS K C
 ha:W.findIn K (.ref C) "__class__"=some (some (.builtin "object.__class__"))
 hn:W.specialIn K (.builtin "object.__class__") "__get__"=some (some (.builtin "getset_descriptor.__get__"))
 htk:W.takesIn K (.builtin "object.__class__")=some true
 hm:W.mroIn K C (.type "object")=some true
structure Ku (K:Fg)(C:Addr):Prop where
 makes:W.makesIn K C=true
 init:W.findIn K (.ref C) "__init__"=some (some (.builtin "object.__init__"))
 kp:W.keepIn K (.ref C)=true
section
variable {X:Cx}{C:Addr}{x:Str}{p pos:Pos}
def Dq (C:Addr):TE:=λ_ H Q=>∀a dx,H a=none->H dx=none->dx≠a->Q (.ref a) @p
theorem Ie {pins:List (Addr×Obj)}{σ:St}{H:Hp}{s:Shared}{Q:VK}(M:Ku X.K C)(I:au X pins σ H s)(h:Dq C σ H Q):wpAny @d X.A (call (.ref C) []) @u X.xe s:=by
 have F:=h (s.heap.objs.size+1) s.heap.objs.size (I.hok.fresh @dM) @bp (Nat.ne_of_lt @bT);have O:=au.made (C:=C) I;have Y:=W.makes_of (M:=model X.prog X.w) I.kIn M.makes
 have R:((s.heap.push W.emptyDict).push @w).get? (s.heap.objs.size+1)=some @w:=by
  have:=Heap.get?_push_size @eI (o:=W.instObj C s.heap.objs.size) rfl;rwa [Heap.size_push] at this
 have z:PySem.W.Looks @d ((s.heap.push W.emptyDict).push @w) (typeOf (.ref (s.heap.objs.size+1))) (.ref C):=(PySem.W.Looks.ld R).andThen .now;have B:PySem.W.Looks @d ((s.heap.push W.emptyDict).push @w) (isInstance (.ref (s.heap.objs.size+1)) (.type "object")) true:=z.andThen (Y.top.keeps λb o e=>Heap.get?_push_of_some _ (Heap.get?_push_of_some _ e));rwa[wpAny_call (B8 I.kIn M.makes M.init (λj=>PySem.W.Looks.of_pure (W.oi_bind j)) ?_)];obtain ⟨L,g,d,t,os⟩:=s;rwa[codeAny_call_builtin W.oi_plain W.entry_oi (@W.check_slot @d _ _ _ "object.__init__" "object" "__init__" (.ref (L.objs.size+1)) [] [] _ W.oi_kind W.oi_split B (W.oi_args (.ref (L.objs.size+1))) ?_)];rw [W.oi_run];exact wpAny_pure (And.intro rfl ⟨V.ref (L.objs.size+1),_,O,rfl,F⟩)
theorem y8 (M:Ku X.K C)(j:Gl X x)(B:X.mg x=some (.ref C))(z:(x==("__debug__":Str))=false:=by decide):PE X (.Call (.Name x p) [] [] pos) (Dq C):=by
 intro pins s σ H Q I h;rwa[wpAny_Call_Name_kw (oU I j B ?_ z)];exact W.callWith_K0 I.kIn M.kp (Ie M I h)
end
theorem d9 {H:Hp}{a dx:Addr}{o:HO}(h1:H a=none)(h2:H dx=none):ak H (upd (upd H dx (.own a)) a o):=λb u z=>by
 rw [ag (λe=>by rw [e,h1] at z;cases z),ag (λe=>by rw [e,h2] at z;cases z)];exact z
theorem MO {C:Addr}{σ:St}{H:Hp}{Q:VK}(g:∀a dx H',ak H H'->H a=none->H' a=some (.ins C dx [])->Q (.ref a) H'):Dq C σ H Q:=λa dx h1 h2 _=>g a dx _ (d9 h1 h2) h1 af
noncomputable def Sf:Value->Option V
 | .none=>some .non
 | .bool b=>some (.bl b)
 | .int i _=>some (.int i)
 | .str x _=>some (.str x)
 | .bytes b _=>some (.byt b)
 | .float b _=>some (.flt b)
 | .ref a=>some (.ref a)
 | .type n=>some (.ty n)
 |_=>none
theorem Bd {x:V}{u:Value}(h:ax x u):Sf u=some x:=by
 cases x with
 |non=>cases h;rfl
 |bl b=>cases h;rfl
 |int i=>obtain ⟨t,rfl⟩:=h;rfl
 |str i=>obtain ⟨t,rfl⟩:=h;rfl
 |byt i=>obtain ⟨t,rfl⟩:=h;rfl
 |flt i=>obtain ⟨t,rfl⟩:=h;rfl
 |ref i=>cases h;rfl
 |ty i=>cases h;rfl
theorem Ek {x y:V}{u:Value}(h:ax x u)(h':ax y u):x=y:=by
 have e:=(Bd h).symm.trans (Bd h');exact Option.some.inj e
section
variable {X:Cx}{K:Fg}
open Classical in
noncomputable def mQ (K:Fg)(H:Hp)(e:D)(u:Value):Bool:=if h:∃d,∃x,ax x u/\br K H x d then gE h.choose e else false
theorem AX {pins:List (Addr×Obj)}{σ:St}{H:Hp}{s:Shared}(I:au X pins σ H s){e d:D}{x:V}{u:Value}(r:ax x u)(h:br X.K H x d):mQ X.K H e u=gE d e:=by
 have z:∃d,∃x,ax x u/\br X.K H x d:=⟨d,x,r,h⟩;unfold mQ;rw [dif_pos z];obtain ⟨y,j,B⟩:=z.choose_spec;have:=Ek r j;subst this;rw [br.inj I B h]
theorem lq {pins:List (Addr×Obj)}{σ:St}{H:Hp}{s:Shared}(I:au X pins σ H s){e:D}:∀ {xs:List V} {ds:List D} {us:List Value},aH xs us->aC X.K H xs ds->us.any @bA=ds.any λd=>gE d e
 |_,_,_,.nil,.nil=>rfl
 |_,_,_,.cons r t,.cons h p=>by rw [any_cons,any_cons,AX I r h,lq I t p]
theorem iM {pins:List (Addr×Obj)}{σ:St}{H:Hp}{s:Shared}{A:Around}(I:au X pins σ H s){y:V}{e:D}{v:Value}(j:ax y v)(R:br X.K H y e):∀ {xs:List V} {ds:List D} {us:List Value},aH xs us->aC X.K H xs ds->(∀d∈ds,A.units+gH d<cLine)->∀u∈us,SeqAt.EqAt A s u v (mQ X.K H e u)
 |_,_,_,.nil,_,_=>λu z=>by cases z
 |_,_,_,.cons r t,.cons h p,hd=>λF z=>by
  rcases mem_cons.mp z with rfl|z
  ·rw [AX I r h];exact qK I h R r j (hd _ (.head _))
  ·exact iM I j R t p (λd B=>hd d (.tail _ B)) F z
def RQ (K:Fg):R2:=λx y H Q=>∃p xs ds e,y= .ref p/\(az K H p xs\/aD K H p xs)/\aC K H xs ds/\br K H x e/\(∀d∈ds,gH d<=50)/\Q (.bl @dF) H
theorem Mc {m:Nat}(Y:bC m X.A):cL X @cj (RQ X.K):=by
 intro pins s σ H x y v u Q I J R h;obtain ⟨p,xs,ds,e,rfl,L,dx,O,U,q⟩:=h;cases R
 have z:∀d∈ds,X.A.units+1+gH d<cLine:=λd B=>by have:=Y.un;have:=U d B;lia
 have j:∀d∈ds,X.A.units+gH d<cLine:=λd B=>by have:=z d B;lia
 rcases L with L|L
 ·obtain ⟨its,r,pl,S⟩:=I.list L;rwa[SeqAt.in_listAt @bA pl.isList (λw F=>iM I J O r dx (by first|exact j|exact z) w (by simpa using F)) ⟨.bl _,H,I,rfl,?_⟩];rw [show its.toArray.any @bA=its.any @bA by simp,lq I r dx];exact q
 ·obtain ⟨its,r,pl,S⟩:=I.tuple L;rwa[SeqAt.in_tupleAt @bA pl (λw F=>iM I J O r dx (by first|exact j|exact z) w (by simpa using F)) ⟨.bl _,H,I,rfl,?_⟩];rw [show its.toArray.any @bA=its.any @bA by simp,lq I r dx];exact q
def uC (K:Fg)(x:V)(p:Addr)(H:Hp)(Q:VK):Prop:=∃xs ds e,(az K H p xs\/aD K H p xs)/\aC K H xs ds/\br K H x e/\(∀d∈ds,gH d<=50)/\Q (.bl @dF) H
def Os (K:Fg):R2:=λx y H Q=>match y with| .ref p=>uC K x p H Q|_=>False
theorem N5 {m:Nat}(z:X.K=K)(Y:bC m X.A):cL X @cj (Os K):=by
 subst z;rwa[(Mc Y).imp λx y H Q h=> ?_];unfold Os at h;split at h
 ·obtain ⟨xs,ds,e,h1,h2,L,j,S⟩:=h;exact ⟨_,xs,ds,e,rfl,h1,h2,L,j,S⟩
 ·exact h.elim
theorem HS {x:V}{p:Addr}{H:Hp}{Q:VK}{xs:List V}{ds:List D}{e:D}(h:az K H p xs)(h1:aC K H xs ds)(h2:br K H x e)(L:∀d∈ds,gH d<=50)(g:Q (.bl @dF) H):uC K x p H Q:=⟨xs,ds,e,.inl h,h1,h2,L,g⟩
end
section
variable {X:Cx}{CX:nh}{o e:Expr}{es:List Expr}{to:TE}{t:TA}{m:Str}{apos pos:Pos}{n k:Nat}{E:XK}{P:Program}{w:World}{K:Fg}{mg:Str->Option Value}{base:Heap}
theorem C2 (h1:X.prog=P)(h2:X.w=w)(L:X.K=K)(J:X.mg=mg)(S:X.base=base)(j:fG CX X E)(Y:bC k X.A)(O:n<=k)(I:PE X o to)(B:PA X (e::es) t)(R:dO o=true:=by rfl)(F:aT (e::es)=true:=by rfl)(W:(e::es).length<29:=by decide)
(z:(apos.endLine==pos.line)=true:=by rfl):PE X (.Call (.Attribute o m apos) (e::es) [] pos) (De P w K mg base CX n m E to t):=by
 subst h1 h2 L J S;exact oJ j Y O I B R F W z
end
theorem AL (xs:Array Nat)(a:Nat):∀m,a+m<=xs.size->((List.range m).map λk=>a+k).filterMap (λi=>xs[i]?)=(xs.toList.drop a).take m
 |0,_=>by simp
 |m+1,h=>by
  have j:=AL xs a m @c;rw [range_succ,map_append,filterMap_append,j,take_succ,getElem?_drop,Array.getElem?_toList]
  have:a+m<xs.size:=by lia
  simp [Array.getElem?_eq_getElem this]
theorem wR {start stop:Int}{n:Nat}{x:Str}(z:x.length=n)(B:0<=start)(h1:start<=stop)(h2:stop<=n):(sliceRange start stop 1).filterMap (λi=>x.cps[i]?)=(x.cps.toList.drop start.toNat).take (stop - start).toNat/\(sliceRange start stop 1).length=(stop - start).toNat:=by
 have e:sliceRange start stop 1=(List.range (stop - start).toNat).map λk=>start.toNat+k:=by
  unfold sliceRange;simp only [show (1:Int)>0 by decide,if_true]
  have c:(if start<stop then (stop - start+1 - 1) / 1 else 0)=stop - start:=by split<;>lia
  rw [c];rwa[map_congr_left λk _=> ?_];lia
 have hs:x.cps.size=n:=z;rw [e];exact ⟨AL x.cps start.toNat _ @c,by simp⟩
theorem fj {x:Str}{l u:Option Int}{start stop:Int}(hi:Builtin.Str.strSliceIndices l u 1 x.length=sliceRange start stop 1)(B:0<=start)(h1:start<=stop)(h2:stop<=x.length):(Txt.slice x l u).cps.toList=(x.cps.toList.drop start.toNat).take (stop - start).toNat:=by
 obtain ⟨z,W⟩:=wR (x:=x) rfl B h1 h2;unfold Txt.slice;rw [hi];split
 ·rename_i h
  have L:(stop - start).toNat=x.length:=by simpa [W] using h
  have j:start.toNat=0:=by lia
  rw [j,drop_zero,L,take_of_length_le (by rw [aP];exact Nat.le_refl _)]
 ·exact z
theorem kg {x:Str}{n:Int}(h:0<=n):(Txt.slice x none (some n)).cps.toList=x.cps.toList.take n.toNat:=by
 by_cases z:n<=x.length
 ·rw [fj (start:=0) (stop:=n) ?_ @b h z]
  ·simp
  ·unfold Builtin.Str.strSliceIndices;simp only [show (1:Int)>0 by decide,if_true,if_neg (show ¬n<0 by lia)];congr 1;lia
 ·rw [fj (start:=0) (stop:=x.length) ?_ @b @c @dP]
  ·rw [take_of_length_le (by rw [length_drop,aP];lia),take_of_length_le (by rw [aP];lia)];rfl
  ·unfold Builtin.Str.strSliceIndices;simp only [show (1:Int)>0 by decide,if_true,if_neg (show ¬n<0 by lia)];congr 1;lia
theorem jt {x:Str}{n:Int}(h:0<=n):(Txt.slice x (some n) none).cps.toList=x.cps.toList.drop n.toNat:=by
 by_cases z:n<=x.length
 ·rw [fj (start:=n) (stop:=x.length) ?_ h z @dP]
  ·rw [take_of_length_le (by rw [length_drop,aP];lia)]
  ·unfold Builtin.Str.strSliceIndices;simp only [show (1:Int)>0 by decide,if_true,if_neg (show ¬n<0 by lia)];congr 1;lia
 ·rw [fj (start:=x.length) (stop:=x.length) ?_ @c @dP @dP]
  ·rw [show ((x.length:Int) - x.length).toNat=0 by lia,take_zero,drop_of_length_le (by rw [aP];lia)]
  ·unfold Builtin.Str.strSliceIndices;simp only [show (1:Int)>0 by decide,if_true,if_neg (show ¬n<0 by lia)];congr 1;lia
theorem m6 (x y:Str):(x++y).cps.toList=x.cps.toList++y.cps.toList:=by
 show (x.cps++y.cps).toList=_;simp
theorem ub {x y:Str}(h:x.cps.toList=y.cps.toList):x=y:=by
 cases x;cases y;congr 1;exact Array.toList_inj.mp h
open PySem.W
noncomputable def R7 (K:Frag)(C:Addr)(bmB:List Value)(newId:String):Bool:=match K.lookup C with
 |some ⟨.type "type",_,.cls cd,sl⟩=>(match cd.mro,sl.toList with
  | .ref C'::bm,[_,_,_,_,some (.builtin n),_]=>C'==C&&n==newId&& !cd.hasDel&&tailIn K bmB bm&&nsOkIn K cd.ns&&cd.hasDict
  |_,_=>false)
 |_=>false
abbrev SQ:List Value:=[.type "ValueError",.type "Exception",.type "BaseException",.type "object"]
noncomputable def PL (a:Addr)(cls:Value)(dd:Option Addr):HO:= .ext λh=>∃oe vs,h.get? a=some oe/\oe.cls=cls/\oe.dict=dd/\oe.data= .fields vs/\vs[1]? =some .none/\vs[2]? =some .none
structure BaseI (K:Frag)(B:Addr):Prop where
 rd:readsIn K B (.type "type")=true
 at_:findCls K (.ref B) (.type "type") "__init__"=some (.val (.builtin "ValueError.__init__"))
 ga:specialIn K (.ref B) "__getattribute__"=some (some (.builtin "type.__getattribute__"))
inductive RF (C:Addr)(fld:Str)(vs:List V)(H:Hp)(Q:VK)(_e:XK):Prop
 |mk (a v:_) (_:vs=[.ref a,v]) (_:H a=some (PL a (.ref C) none)) (_:∀d,H d=none->d≠a->Q .non (upd (upd H a (PL a (.ref C) (some d))) d (.xd [(fld,v)])))
structure XI (K:Frag)(C f:Addr):Prop where
 j:R7 K C SQ "ValueError.__new__"=true
 init:findIn K (.ref C) "__init__"=some @Y
 fn:isFn K (.ref f)=true
 kp:keepIn K (.ref C)=true
structure XMk (P:Program)(w:World)(K:Frag)(mg:Str->Option Value)(base:Heap)(n:Nat)(x:Str)(C:Addr)(fld:Str):Prop where
 ex:∃f fd ps,XI K C f/\ar P w K mg base aQ n f fd ps (RF C fld)/\d6 K fd ps []/\mg x=some (.ref C)
open PySem.Calls Att
theorem rg {i:Int}{n:Nat}(h:WData.weight (.int i)<=n):Builtin.Int.intBits i<=n:=by
 unfold WData.weight at h;unfold Builtin.Int.intBits;exact h
theorem oj:∀ {ns:List Int} {n:Nat},WData.weightAll @et<=n->∀i∈ns,Builtin.Int.intBits i<=n
 |[],_,_,_,hi=>nomatch hi
 |a::r,n,h,i,hi=>by
  have h':WData.weight (.int a)+1+WData.weightAll (r.map WData.int)<=n:=by simpa [WData.weightAll] using h
  rcases mem_cons.mp hi with rfl|hi
  ·exact rg @c
  ·exact oj @c i hi
theorem xP {R:List Int}(h:WData.layableAll [WData.list (List.map WData.int R)]=true):∀i∈R,Builtin.Int.intBits i<=2^20:=by
 have h1:WData.layable (WData.list (List.map WData.int R))=true:=by simpa [WData.layableAll] using h
 unfold WData.layable at h1;rw [Bool.and_eq_true,Bool.and_eq_true] at h1;have h2:=of_decide_eq_true h1.2;rwa[oj ?_];simpa [WData.weight] using h2
theorem vE {l:OpenLaw}{n:Nat}{q:Program}{j:List Str}{XP:(Str->Option Value)->Heap->Prop}{W:World->Heap->Prop}{d:DefRec}
(hn:l.most=some n)(O:d.params.defaults=[])
(L:∀(w:World) (s₀ s₁:Shared) (mg mb:Str->Option Value) (fa:Addr) (o:Obj) (pm cd doc:Value) (a:Addr) (vs:List Value) (ns:List Int),
   Ground q j [] XP w s₀ mg mb s₁.heap->W w s₁.heap->
   s₁.heap.get? fa=some o->o.data= .func (docDef d.name d.params d.body d.scope pm cd doc)->s₁.heap.CodeRec cd d.name->mg d.name=some (.ref fa)->
   s₁.heap.get? a=some {cls:= .type "list",data:= .seq vs.toArray}->IntsAre vs ns->ns.length<=n->(∀i∈ns,Builtin.Int.intBits i<=2^20)->s₁.gens= #[]->
   codeAny (model l.prog w) callerA (.call (.ref fa) ⟨[.ref a],[]⟩) (λr s'=>r= .ok (.ret (.bool true))/\OldK s₁.heap s'.heap/\s'.os=s₁.os/\AllBare s'.gens) s₁):
 WalkO q j XP W l.row.toRowW d [] @cR:=by
 intro w s₀ s₁ mg mb G Y fa o pm cd doc dV kV ho hd U hD R hg Z aa as I B ab S ac;obtain rfl:dV= .none:=Dflts.none hD O;obtain rfl:kV= .none:=Dflts.noKw hD;obtain ⟨a,vs,ns,rfl,rfl,J,z,F⟩:=Bs hn I S;rwa[enter_call (codeAny_mono (L w s₀ s₁ mg mb fa o pm cd doc a vs ns G Y ho (fd_plain hd) U R J z F (xP B) hg) λr s' hq=> ?_)];obtain ⟨rfl,h2,h3,h4⟩:=hq;exact ⟨.inl ⟨.bool true,.bool true,[],rfl,λ_=>rfl,.bool true,BO l _,λ_=>⟨List.Pairwise.nil,λ_ hm=>(nomatch hm)⟩⟩,h2,h3,h4⟩
open PySem.StrLaws Builtin.Str
noncomputable def jn (sp:List Nat):List @dp->List Nat
 |[]=>[]
 |[p]=>p
 |p::q::r=>p++sp++jn sp (q::r)
structure FunD (K:Fg)(x qual:Str)(st:Stmt)(T f:Addr)(fd:FuncData):Prop where
 ex:∃(oc:Value) (od:Option Addr) (kV doc pm:Value) (an:Option Addr) (cdv ct:Value) (osl:Array @J),
  fd=W.fnOf x qual @dN @cP @bK (.ref T) kV doc pm an cdv ct/\K.lookup f=some ⟨oc,od,.func fd,osl⟩/\W.codeIn K cdv qual=true
structure CalD (P:Program)(w:World)(K:Fg)(mg:Str->Option Value)(base:Heap)(n:Nat)(x:Str)(ps:List Str)(dvs:List V)(sp:Sp):Prop where
 ex:∃f fd ds,ar P w K mg base @cm n f fd ps sp/\d6 K fd ps ds/\aH dvs ds/\W.keepIn K (.ref f)=true/\mg x=some (.ref f)
def Sl (P:Program)(w:World)(K:Fg)(mg:Str->Option Value)(base:Heap)(n:Nat)(f:Addr)(ps:List Str)(sp:Sp):Prop:=
 ∃fd,ar P w K mg base aQ n f fd ps sp/\d6 K fd ps []/\W.keepIn K (.ref f)=true
theorem aS.fnv {P:Program}{w:World}{K:Fg}{mg:Str->Option Value}{base:Heap}{n:Nat}{x:Str}{ps:List Str}{sp:Sp}(c:aS P w K mg base n x ps sp):∃f,mg x=some (.ref f)/\Sl P w K mg base n f ps sp:=by
 obtain ⟨f,fd,F,b,k,B⟩:=c.ex;exact ⟨f,B,fd,F,b,k⟩
def jg (base:Heap)(mg:Str->Option Value):Prop:=∃bm o,mg "__builtins__"=some (.ref bm)/\bm≠builtinsNs/\bm≠mainGlobals/\base.get? bm=some o/\o.cls= .type "module"/\o.dict=some builtinsNs/\o.data= .plain
theorem Cf {P:Program}{w:World}{K:Frag}{mg mb:Str->Option Value}{CX:nh}{k:Nat}{fa a:Addr}{fd:FuncData}{x:Str}{sp:Sp}{j:Shared}{vs:List Value}{ns:List Int}{tabs:List (Addr×Addr)}
(R:∀q∈tabs,CodeHd j.heap q.1 q.2/\j.heap.get? q.2=some (tabObj #[]))(aj:noTabs K=true)(al:jg j.heap mg)
(KX:K.In j.heap)(ae:j.heap.Ns mainGlobals mg)(O:j.heap.Ns builtinsNs mb)(an:∀x:Str,x≠"__name__"->mb x=bootBuiltins x)(ac:j.heap.NoLimit)(hg:j.gens= #[])
(ha:j.heap.get? a=some {cls:= .type "list",data:= .seq vs.toArray})(hi:IntsAre vs ns)(hl:ns.length<=sizeLine)(hr:bC k callerA)
(F:∀base:Heap,K.In base->base.Ns mainGlobals mg->jg base mg->ar P w K mg base CX k fa fd [x] sp)(ab:∀(s:Shared) (u:Value),BindsTo s fd ⟨[u],[]⟩ [(x,u)])
(ap:∀H:Hp,(∀q∈tabs,H q.2=some (.tbl #[]))->az K H a @bF->sp [.ref a] H (λv _=>v= .bl true) λ_ _ _=>False)
(am:∀H e s',CX [] H j @ey e s'->False):
 codeAny @X callerA (.call (.ref fa) ⟨[.ref a],[]⟩) (λr s'=>r= .ok (.ret (.bool true))/\OldK j.heap s'.heap/\s'.os=j.os/\AllBare s'.gens) j:=by
 have rv:=sd hi;have af:=hi.length
 have ta:∀q∈tabs,q.2≠a:=λq L z=>by have:=(R q L).2;rw [z,ha] at this;cases this
 have aa:∀H:Hp,az K H a @bF->fA P w H j.heap->(∀q∈tabs,H q.2=some (.tbl #[]))->(∀b u,H b=some u->(∃q∈tabs,b=q.2)\/(b=a/\K.lookup a=none/\∃ob xs,u= .frz ob (.lst xs)))->
  codeAny @X callerA (.call (.ref fa) ⟨[.ref a],[]⟩) (λr s'=>r= .ok (.ret (.bool true))/\OldK j.heap s'.heap/\s'.os=j.os/\AllBare s'.gens) j:=by
  intro H hS ai ad hA;have B:∀ {b:Addr} {o:Obj},j.heap.get? b=some o->H b=none->(rT j.heap H).get? b=some o:=λe n=>FN e n
  have ak:∀ {b:Addr} {o:Obj},j.heap.get? b=some o->o.cls≠ .none->o.cls≠ .type "list"->H b=none:=λ{b o} e d1 d2=>by
   cases q:H b with
   |none=>rfl
   |some u=>
    rcases hA b u q with ⟨t,S,rfl⟩|⟨rfl,_,_⟩
    ·rw [(R t S).2] at e;cases e;exact absurd rfl d1
    ·rw [ha] at e;cases e;exact absurd rfl d2
  have ao:∀ {b:Addr} {o:Obj} {es:Array DictEntry} {ep:Nat},j.heap.get? b=some o->o.data= .dict es ep->H b=none:=λ{b o es ep} e d=>by
   cases q:H b with
   |none=>rfl
   |some u=>
    rcases hA b u q with ⟨t,S,rfl⟩|⟨rfl,_,_⟩
    ·rw [(R t S).2] at e;cases e;cases d
    ·rw [ha] at e;cases e;cases d
  have W:∀ {b:Addr} {m:Str->Option Value},j.heap.Ns b m->(rT j.heap H).Ns b m:=λ{b m} ⟨o,es,ep,e,d,r⟩=>⟨o,es,ep,B e (ao e d),d,r⟩
  have ag:K.In @ez:=λb o e=>B (KX b o e) (by
   cases q:H b with
   |none=>rfl
   |some u=>
    rcases hA b u q with ⟨t,S,rfl⟩|⟨rfl,hk,_⟩
    ·have e2:=KX _ _ e;rw [(R t S).2] at e2;have h2:=all_eq_true.mp aj (t.2,o) (mem_of_lookupK e);cases e2;exact absurd (show false=true from h2) Bool.false_ne_true
    ·rw [hk] at e;cases e)
  have hM:Mod K mg @ez:=⟨ag,W ae,⟨mb,W O,an⟩,let ⟨mc,h1,h2⟩:=ac;⟨mc,W h1,h2⟩⟩;have hB:jg @ez mg:=let ⟨bm,o,h1,h2,h3,h4,h5,h6,h7⟩:=al;⟨bm,o,h1,h2,h3,B h4 (ak h4 (by rw [h5];simp) (by rw [h5];simp)),h5,h6,h7⟩;have e0:m8 P w K mg @ez callerA [] j H:=⟨rfl,hM,λb o e=>I9 e,Nat.le_of_eq (Cn _ _),trivial,λb O=>absurd (show b∈([]:List Addr) from O) @f,ai,.of_eq hg⟩;rwa[codeAny_mono ((F _ ag (W ae) hB).run callerA [] j H ⟨[.ref a],[]⟩ [.ref a] [.ref a] _ _ hr e0 (ab j (.ref a)) (.cons rfl .nil) (ap H ad hS)) λr s' h=> ?_]
  cases r with
  |error e=>exact (am H e s' h).elim
  |ok fl=>
   cases fl with
   |next=>exact False.elim h
   |brk=>exact False.elim h
   |cont=>exact False.elim h
   |ret u=>
    obtain ⟨v,H',os,ah,un,Y,r',q⟩:=h;have q':v= .bl true:=q;subst q';obtain rfl:u=Value.bool true:=r';rwa[⟨rfl,⟨λb o e=> ?_,λb o e=>un.there b o e @f⟩,os,ah⟩]
    cases q:H b with
    |none=>exact .inl (un.keep b o e q (by intro z;exact absurd (show b∈([]:List Addr) from z) @f) @f)
    |some u=>
     rcases hA b u q with ⟨t,S,rfl⟩|⟨rfl,hk,ob,xs,rfl⟩
     ·obtain ⟨Z,e2⟩:=un.tbls _ _ (ad t S);have e3:s'.heap.get? t.2=some (tabObj (#[]++Z)):=Y _ _ e2;have e4:=(R t S).2;rw [e4] at e;cases e;exact .inr (.inl ⟨((R t S).1.tab e4).isCodeTable,rfl,#[],Z,rfl,e3⟩)
     ·have U:=un.frzs b ob _ q;obtain ⟨e1,_⟩:=ai b _ q;obtain ⟨e2,_⟩:=Y b _ U;rw [e] at e1;cases e1;exact .inl e2
 have aq:∀(H:Hp),(∀b u,H b=some u->u= .tbl #[]->∃q∈tabs,b=q.2)->∀b,H b=some (.tbl #[])->bb P w H j.heap b (.tbl #[]):=λH z b e=>by
  obtain ⟨q,L,rfl⟩:=z b _ e rfl;exact (R q L).2
 cases hk:K.lookup a with
 |some o=>
  have e:=KX a o hk;rw [ha] at e;cases e;rwa[aa (λb=>if b∈tabs.map (·.2) then some (.tbl #[]) else none) (.inr ⟨_,vs.toArray,_,hk,rfl,rfl,rfl,by rw [size_toArray,af];exact hl,by simpa using rv⟩) @dz (λq L=>if_pos (mem_map_of_mem L)) @dz]
  ·by_cases I:b∈tabs.map (·.2)
   ·have J:=(if_pos I).symm.trans z;cases J;obtain ⟨q,L,rfl⟩:=mem_map.mp I;exact (R q L).2
   ·have J:=(if_neg I).symm.trans z;cases J
  ·by_cases I:b∈tabs.map (·.2)
   ·obtain ⟨q,L,rfl⟩:=mem_map.mp I;exact .inl ⟨q,L,rfl⟩
   ·have J:=(if_neg I).symm.trans z;cases J
 |none=>
  have na:a∉tabs.map (·.2):=λz=>by obtain ⟨q,L,e⟩:=mem_map.mp z;exact ta q L e
  rwa[aa (λb=>if b∈tabs.map (·.2) then some (.tbl #[]) else if b=a then some (.frz {cls:= .type "list",data:= .seq vs.toArray} (.lst @bF)) else none) (.inl (.inr ⟨{cls:= .type "list",data:= .seq vs.toArray},(if_neg na).trans (if_pos rfl)⟩)) @dz (λq L=>if_pos (mem_map_of_mem L)) @dz]
  ·by_cases I:b∈tabs.map (·.2)
   ·have J:=(if_pos I).symm.trans z;cases J;obtain ⟨q,L,rfl⟩:=mem_map.mp I;exact (R q L).2
   ·have J:=(if_neg I).symm.trans z;by_cases O:b=a
    ·have U:=(if_pos O).symm.trans J;cases U;subst O;exact ⟨ha,by rw [length_map];exact hl,vs,_,rv,ha⟩
    ·have U:=(if_neg O).symm.trans J;cases U
  ·by_cases I:b∈tabs.map (·.2)
   ·obtain ⟨q,L,rfl⟩:=mem_map.mp I;exact .inl ⟨q,L,rfl⟩
   ·have J:=(if_neg I).symm.trans z;by_cases O:b=a
    ·have U:=(if_pos O).symm.trans J;cases U;exact .inr ⟨O,hk,_,_,rfl⟩
    ·have U:=(if_neg O).symm.trans J;cases U
theorem C6 {l:OpenLaw}{n k:Nat}{q:Program}{J:List Str}{XP:(Str->Option Value)->Heap->Prop}{YP:World->Heap->Prop}{d:DefRec}{K:Params->Frag}{CX:World->nh}{sp:World->Sp}{x:Str}{tabs:World->List (Addr×Addr)}
(hn:l.most=some n)(U:n<=sizeLine)(S:d.params.defaults=[])(hr:bC k callerA)
(hY:∀(w:World) (h:Heap),YP w h->(K w.params).In h/\∀t∈tabs w,h.get? t.2=some (tabObj #[]))(aj:∀w:World,noTabs @bL=true)(Z:∀w:World,∀t∈tabs w,codeHdIn @bL t.1 t.2=true)
(F:∀(w:World) (mg:Str->Option Value) (fa:Addr) (h:Heap),(K w.params).In h->h.Ns mainGlobals mg->mg d.name=some (.ref fa)->
   ∃fd:FuncData,(∀(s:Shared) (u:Value),BindsTo s fd ⟨[u],[]⟩ [(x,u)])/\
    ∀base:Heap,(K w.params).In base->base.Ns mainGlobals mg->jg base mg->ar l.prog w @bL mg base (CX w) k fa fd [x] (sp w))
(W:∀(w:World) (H:Hp) (a:Addr) (ns:List Int),ns.length<=n->(∀i∈ns,Builtin.Int.intBits i<=2^20)->(∀t∈tabs w,H t.2=some (.tbl #[]))->az @bL H a @bF->sp w [.ref a] H (λv _=>v= .bl true) λ_ _ _=>False)
(am:∀(w:World) (H:Hp) (s:Shared) (e:Value) (s':Shared),CX w [] H s @ey e s'->False):
 WalkO q J XP YP l.row.toRowW d [] @cR:=by
 rwa[vE hn S λw s₀ s₁ mg mb fa o pm cd ab a vs ns G Y ho hd aa R L I j B hg=> ?_];obtain ⟨KX,hT⟩:=hY w _ Y;obtain ⟨fd,hb,hF⟩:=F w mg fa _ KX G.T.g R
 have al:jg s₁.heap mg:=by
  obtain ⟨bm,ob,h1,h2,h3,h4,h5,O⟩:=G.T.bmain;rwa[⟨bm,ob,h1,h2,λz=> ?_,h3,h4,h5,O⟩];obtain ⟨o',es,ep,e',d',_⟩:=G.T.g;rw [z,e'] at h3;cases h3;rw [d'] at O;cases O
 exact Cf (tabs:=tabs w) (λt ht=>⟨codeHd_of_K KX (Z w t ht),hT t ht⟩) (aj w) al KX G.T.g G.T.b G.T.builtins G.T.nolimit hg L I (Nat.le_trans j U) hr hF hb (λH ad hS=>W w H a ns j B ad hS) λH e s'=>am w H s₁ e s'
noncomputable def xX (c:Addr)(q:Str):HO:= .ext λh=>h.CodeRec (.ref c) q
noncomputable def Ae (a:Addr)(o:Obj):HO:= .ext λh=>h.get? a=some o
section
variable {P:Program}{w:World}{H:Hp}{h:Heap}
theorem JB {c:Addr}{q:Str}(e:h.CodeRec (.ref c) q):bb P w H h c (xX c q):=by
 obtain ⟨Y,O,W,tq,I,ab,Z,U⟩:=id e;cases I
 exact ⟨e,⟨O,ab⟩,λh1 h2 z k=>by
  obtain ⟨c1,j,R,F,L,S,J,B⟩:=z;cases L
  exact ⟨_,j,R,F,rfl,k _ S,J,B⟩⟩
theorem AG {a:Addr}{o:Obj}(e:h.get? a=some o):bb P w H h a (Ae a o):=⟨e,⟨o,e⟩,λh1 h2 z k=>k _ z⟩
end
def cA (H:Hp)(P:Addr)(q:Str):Prop:=∃ps,H P=some (.tbl ps)/\TriplesOk ps.toList/\∀pos cv,codeAmong pos ps.toList=some cv->∃c',cv= .ref c'/\H c'=some (xX c' q)
def eW (P:Addr)(H H':Hp):Prop:=∀b o,b≠P->H b=some o->H' b=some o
def aM (H H':Hp):Prop:=∀b o,(∀ps,o≠ .tbl ps)->H b=some o->H' b=some o
theorem aM.refl (H:Hp):aM H H:=λ_ _ _ e=>e
theorem aM.trans {H H1 H2:Hp}(a:aM H H1)(b:aM H1 H2):aM H H2:=λc o n e=>b c o n (a c o n e)
theorem ak.nt {H H':Hp}(s:ak H H'):aM H H':=λb o _ e=>s b o e
theorem eW.nt {P:Addr}{H H':Hp}{ps:Array Value}(s:eW P H H')(J:H P=some (.tbl ps)):aM H H':=λb o n e=>s b o (λz=>by rw [z,J] at e;cases e;exact n _ rfl) e
theorem cA.same {H H':Hp}{P:Addr}{q:Str}(t:cA H P q)(s:ak H H'):cA H' P q:=
 let ⟨ps,h1,h2,h3⟩:=t;⟨ps,s _ _ h1,h2,λpos F e=>let ⟨c',a,b⟩:=h3 pos F e;⟨c',a,s _ _ b⟩⟩
theorem cA.sameP {H H':Hp}{P B:Addr}{q:Str}{j:Array Value}(t:cA H P q)(s:eW B H H')(J:H B=some (.tbl j))(F:P≠B):cA H' P q:=
 let ⟨ps,h1,h2,h3⟩:=t;⟨ps,s _ _ F h1,h2,λpos I e=>let ⟨c',a,b⟩:=h3 pos I e;⟨c',a,s _ _ (λz=>by rw [z,J] at b;cases b) b⟩⟩
theorem jU {a b:Int}{t u:Tok}{c:Value}:∀ {l:List Value},TriplesOk l->TriplesOk (l++[.int a t,.int b u,c])
 |[],_=>trivial
 | .int _ _:: .int _ _::_::r,h=>jU (l:=r) h
theorem rh {a b:Int}{t u:Tok}{c:Value}{pos:Pos}{F:Value}:∀ {l:List Value},TriplesOk l->codeAmong pos (l++[.int a t,.int b u,c])=some F->codeAmong pos l=some F\/F=c
 |[],_,h=>by
  simp only [nil_append,codeAmong] at h;split at h
  ·cases h;exact .inr rfl
  ·cases h
 | .int x _:: .int y _::z::r,ok,h=>by
   have h:(if x==pos.line&&y==pos.col then some z else codeAmong pos (r++[.int a t,.int b u,c]))=some F:=h;show (if x==pos.line&&y==pos.col then some z else codeAmong pos r)=some F\/_;by_cases L:(x==pos.line&&y==pos.col)=true
   ·rw [if_pos L] at h ⊢;exact .inl h
   ·rw [if_neg L] at h ⊢;exact rh (l:=r) ok h
def Rx (P:Addr)(q:Str)(mk:Addr->Value->Obj):TE:=λσ H Q=>cA H P q/\∀f c' ctv H',eW P H H'->H f=none->H' f=some (Ae f (mk c' ctv))->H' c'=some (xX c' q)->cA H' P q->Q (.ref f) H'
theorem EE {X:Cx}{c P:Addr}{j:Arguments}{F:Expr}{scope:Scope}{B:List (Str×Addr)}{pos:Pos}(S:X.env.code= .ref c)(C:CodeHd X.base c P)(hB:jg X.base X.mg)(ae:defaultsOf j X.env=([],[]))(ad:closureFor scope X.env=pure B):
 PE X (.Lambda j F scope pos) (Rx P (X.env.qual++"<lambda>") λc' ctv=>kla_obj "<lambda>" (X.env.qual++"<lambda>") j F scope B ((X.mg "__name__").getD .none) c' ctv):=by
 intro pins s σ H Q I ⟨T,h⟩;rwa[kla_eval ae ?_];obtain ⟨ps,O,ht,hc⟩:=id T;have ah:s.heap.get? P=some (tabObj ps):=I.hok P _ O;have C':=C.keeps I.bk;have hg:s.heap.Ns mainGlobals X.mg:=I.ok.mod.glob.keeps I.bk
 have nb:∀ {b:Addr} {o:Obj},X.base.get? b=some o->b≠P:=λ{b o} e z=>by have:=(I.bs b o e).2;rw [z,O] at this;cases this
 have an:mainGlobals≠P:=by
  obtain ⟨o,es,ep,e,_⟩:=I.ok.mod.glob;exact nb e
 have hb:s.heap.BuiltinsAt X.mg P:=by
  obtain ⟨bm,o,h1,h2,h3,h4,h5,h6,h7⟩:=hB;exact ⟨bm,o,h1,h2,h3,nb h4,I.bk _ _ h4,h5,h6,h7⟩
 cases hm:codeAmong pos ps.toList with
 |none=>
  rwa[kla_makeFunction ad I.ok.glob hg S C' ah ht hm an hb λc' ctv h' tk hx R ab ac Y=> ?_];generalize Z:kla_obj "<lambda>" (X.env.qual++"<lambda>") j F scope B ((X.mg "__name__").getD .none) c' ctv=L;generalize aa:ps++ #[rawInt pos.line,rawInt pos.col,.ref c']=U at Y;have J:s.heap.objs.size<=h'.objs.size:=Nat.le_trans R (Nat.le_of_lt ab);have lt:∀ {b:Addr} {u:HO},H b=some u->b<s.heap.objs.size:=λe=>I.hok.lt e;have al:c'≠P:=Nat.ne_of_gt (Nat.lt_of_lt_of_le (lt O) R);have aj:h'.objs.size≠P:=Nat.ne_of_gt (Nat.lt_of_lt_of_le (lt O) J);have ai:h'.objs.size≠c':=Nat.ne_of_gt ab;have ap:H c'=none:=I.hok.fresh R;have W:H h'.objs.size=none:=I.hok.fresh J
  let H':Hp:=upd (upd (upd H P (.tbl U)) c' (xX c' (X.env.qual++"<lambda>"))) h'.objs.size (Ae h'.objs.size L)
  have ne:∀ {b:Addr} {u:HO},b≠P->H b=some u->H' b=some u:=λ{b u} nP e=>by
   have l:=lt e;show upd @bD h'.objs.size _ b=_;rw [ag (Nat.ne_of_lt (Nat.lt_of_lt_of_le l J)),ag (Nat.ne_of_lt (Nat.lt_of_lt_of_le l R)),ag nP];exact e
  have eP:H' P=some (.tbl U):=by
   show upd @bD h'.objs.size _ P=_;rw [ag aj.symm,ag al.symm];exact af
  have ec:H' c'=some (xX c' (X.env.qual++"<lambda>")):=by
   show upd @bD h'.objs.size _ c'=_;rw [ag ai.symm];exact af
  have ef:H' h'.objs.size=some (Ae h'.objs.size L):=af;have kp:∀b o,b≠P->s.heap.get? b=some o->(h'.push L).get? b=some o:=λb o nP e=>Heap.get?_push_of_some _ (hx b o nP e);have tP:(h'.push L).get? P=some (tabObj U):=Heap.get?_push_of_some _ Y
  have nP:∀ {b:Addr},H b=none->b≠P:=λ{b} n z=>by rw [z,O] at n;cases n
  have un:Un X.fs [] H H' s.heap (h'.push L):=by
   rwa[⟨λb o e n _ _=>kp b o (nP n) e,λb o e n _ _=>⟨o.slots,kp b o (nP n) e⟩,λb o e n _=> ?_,λb o e _=> ?_,λb xs e=>ne (λz=>by rw [z,O] at e;cases e) e,λb o u e=>ne (λz=>by rw [z,O] at e;cases e) e,λb qs e=> ?_⟩]
   ·have l:=Heap.lt_size e;show upd @bD h'.objs.size _ b=_;rw [ag (Nat.ne_of_lt (Nat.lt_of_lt_of_le l J)),ag (Nat.ne_of_lt (Nat.lt_of_lt_of_le l R)),ag (nP n)];exact n
   ·by_cases z:b=P
    ·exact ⟨_,by rw [z];exact tP⟩
    ·exact ⟨o,kp b o z e⟩
   ·by_cases z:b=P
    ·rw [z,O] at e;cases e;exact ⟨#[rawInt pos.line,rawInt pos.col,.ref c'],by rw [z,eP,<-aa]⟩
    ·exact ⟨#[],by rw [ne z e];simp⟩
  have ao:fA X.prog X.w H' (h'.push L):=by
   intro b u e;by_cases z1:b=h'.objs.size
   ·rw [z1,ef] at e;cases e;rw [z1];exact AG (Heap.get?_push_size _ (by rw [<-Z];rfl))
   by_cases z2:b=c'
   ·rw [z2,ec] at e;cases e;rw [z2];exact JB (ac.keeps λb o e=>Heap.get?_push_of_some _ e)
   by_cases z3:b=P
   ·rw [z3,eP] at e;cases e;rw [z3];exact tP
   ·have e':H b=some u:=by
     have e:upd @bD h'.objs.size _ b=some u:=e;rw [ag z1,ag z2,ag z3] at e;exact e
    rwa[(I.hok b u e').stay (λd v hd r=> ?_) (λd r=>ne (λz=>by rw [z,O] at r;cases r) r) λd xs r=>ne (λz=>by rw [z,O] at r;cases r) r];rwa[kp d v @t r]
    rcases hd with hd|hd
    ·exact z3 (hd.symm.trans z)
    ·rw [z,O] at hd;cases hd
  rwa[⟨.ref h'.objs.size,H',I.un (t':=tk) un ao,rfl,h _ c' ctv H' (λb o n e=>ne n e) W (by rw [<-Z] at ef;exact ef) ec ⟨U,eP,?_,λpos' cv e=> ?_⟩⟩]
  ·rw [<-aa,Array.toList_append];exact jU ht
  ·rw [<-aa,Array.toList_append] at e
   rcases rh ht e with z|z
   ·obtain ⟨d,e1,e2⟩:=hc pos' cv z;exact ⟨d,e1,ne (λy=>by rw [y,O] at e2;cases e2) e2⟩
   ·exact ⟨c',z,ec⟩
 |some cv=>
  obtain ⟨c',rfl,am⟩:=hc pos cv hm;rwa[kla_makeFunctionHit ad I.ok.glob hg S C' ah ht hm hb λctv h' tk hk J=> ?_];have k2:∀b o,s.heap.get? b=some o->(h'.push (kla_obj "<lambda>" (X.env.qual++"<lambda>") j F scope B ((X.mg "__name__").getD .none) c' ctv)).get? b=some o:=λb o e=>Heap.get?_push_of_some _ (hk b o e);have W:H h'.objs.size=none:=I.hok.fresh J;have sm:ak H (upd H h'.objs.size (Ae h'.objs.size (kla_obj "<lambda>" (X.env.qual++"<lambda>") j F scope B ((X.mg "__name__").getD .none) c' ctv))):= .upd W;exact ⟨.ref h'.objs.size,_,I.laid (t':=tk) k2 J (AG (Heap.get?_push_size _ rfl)),rfl,h _ c' ctv _ (λb o _ e=>sm b o e) W af (sm _ _ am) (T.same sm)⟩
structure iF (ps fs:List Str)(sc:Scope):Prop where
 kind:sc.kind= .function
 co:sc.isCoroutine=false
 gen:sc.isGenerator=false
 nd:(ps++fs).Nodup
 par:∀x∈ps,sc.names.lookup x=some .local
 fre:∀x∈fs,sc.names.lookup x=some .free
 nocell:∀x∈sc.names,x.2≠ .cell
 only:∀y∈sc.names,y.2= .free->y.1∈fs
noncomputable def PX (P:Program)(w:World)(K:Frag)(mg:Str->Option Value)(base:Heap)(N:List Str)(qual:Str)(scope:Scope)(f:Addr)(cd:Value)(cl:List (Str×Addr))(A:Around)(outer:List Env)(s:Shared)(H:Hp):Cx where
 prog:=P
 w:=w
 K:=K
 mg:=mg
 base:=base
 A:=A.deeper (envX qual scope s.heap.objs.size f cd cl)
 N:=N
 s₀:=s
 H₀:=H
 env:=envX qual scope s.heap.objs.size f cd cl
 outer:=outer
 stack:=envX qual scope s.heap.objs.size f cd cl::outer
 ex:=[]
 calm:=true
 fn:=λ_=>false
 pn:=[]
 xe:=λ_ _=>False
theorem zx {ps:List Str}{us:List Value}{i:Nat}{x:Str}{u:Value}(L:ps.Nodup)(h1:ps[i]? =some x)(h2:us[i]? =some u):(ps.zip us).reverse.lookup x=some u:=by
 have I:(ps.zip us)[i]? =some (x,u):=by rw [getElem?_zip_eq_some];exact ⟨h1,h2⟩
 have J:(x,u)∈(ps.zip us).reverse:=mem_reverse.mpr (mem_of_getElem? I)
 have z:∀v,(x,v)∈(ps.zip us).reverse->v=u:=λv W=>by
  obtain ⟨j,Z⟩:=mem_iff_getElem?.mp (mem_reverse.mp W);obtain ⟨F,B⟩:=getElem?_zip_eq_some.mp Z;have:j=i:=qt L F h1;subst this;rw [h2] at B;exact (Option.some.inj B).symm
 cases e:(ps.zip us).reverse.lookup x with
 |none=>
  have:=lookup_eq_none_iff.mp e (x,u) J;simp at this
 |some v=>rw [z v (PySem.mem_of_lookup e)]
theorem Ji {P:Program}{w:World}{K:Frag}{mg:Str->Option Value}{base:Heap}{k:Nat}{f Y:Addr}{name qual:Str}{B:Arguments}{F:Expr}{scope:Scope}{L:List (Str×Addr)}{pm ae:Value}{ps fs:List Str}{A:Around}{outer:List Env}{s:Shared}{H:Hp}{us:List Value}{vs fvs:List V}{Q:VK}{E:XK}
(S:iF ps fs scope)(hf:s.heap.get? f=some (kla_obj name qual B F scope L pm Y ae))(al:s.heap.CodeRec (.ref Y) qual)(hr:bC (k+1) A)(U:m8 P w K mg base A outer s H)
(ad:bindArgs (kla_fn name qual B F scope L pm (.ref Y) ae) ⟨us,[]⟩=pure @cs)(r:aH vs us)(hl:vs.length=ps.length)(am:fvs.length=fs.length)
(j:∀(i:Nat) x v,fs[i]? =some x->fvs[i]? =some v->∃c u,L.lookup x=some c/\ax v u/\s.heap.IsCell c @fb)(af:∀x c,L.lookup x=some c->x∈fs)
(ag:∀x y c,L.lookup x=some c->L.lookup y=some c->x=y)(aa:∀x c,L.lookup x=some c->H c=none)
(Z:bC k (A.deeper (envX qual scope s.heap.objs.size f (.ref Y) L))->∃t,PE (PX P w K mg base (ps++fs) qual scope f (.ref Y) L A outer s H) F t/\t ((vs++fvs).map some) H Q):
 codeAny @X A (.call (.ref f) ⟨us,[]⟩) @dg s:=by
 have ul:us.length=ps.length:=by rw [<-r.length,hl]
 rwa[kla_callFunE hr.depth hf rfl S.co S.gen rfl al ?_];rw [ad];have aj:s.heap.NoLimit:=U.mod.nolimit.keeps λb o e=>(U.bs b o e).1;rwa[wpAny_pure (wpAny_newFunctionEnv S.nocell (λy W=>S.par _ (of_mem_zip W).1) (λh₁ ai ah=>⟨aj.fresh _ ah,?_⟩) S.kind)];show codeAny _ _ (.expr F (envX qual scope s.heap.objs.size f (.ref Y) L)) _ _;have hk:∀b o,s.heap.get? b=some o->h₁.get? b=some o:=λb o e=>ah.extBut b o (Nat.ne_of_lt @bV) (Heap.get?_push_of_some _ e);obtain ⟨t,ht,hq⟩:=Z (hr.deeper _)
 have O:∀x c,L.lookup x=some c->∃u,s.heap.IsCell c @fb:=λx c e=>by
  obtain ⟨i,hi⟩:=mem_iff_getElem?.mp (af x c e);have ak:i<fs.length:=(List.getElem?_eq_some_iff.mp hi).1;obtain ⟨c2,u,e2,_,hc⟩:=j i x _ hi (getElem?_eq_getElem @c);rw [e] at e2;cases e2;exact ⟨u,hc⟩
 have R:∀ {c:Addr} {v:Option Value},s.heap.IsCell c v->h₁.IsCell c v:=λ{c v} ⟨o,ho,hd⟩=>⟨o,hk _ _ ho,hd⟩;have ac:∀x,scope.names.lookup x=some .free->x∈fs:=λx e=>S.only _ (PySem.mem_of_lookup e) rfl
 have I:au (PX P w K mg base (ps++fs) qual scope f (.ref Y) L A outer s H) [] ((vs++fvs).map some) H {s with heap:=h₁,toks:=s.toks+(ps.zip us).length}:=by
  have ab:∀b:Addr,b∉(PX P w K mg base (ps++fs) qual scope f (.ref Y) L A outer s H).ex:=λb z=>absurd (show b∈([]:List Addr) from z) @f
  refine ⟨⟨U.mod,S.kind,rfl,rfl,Nat.le_refl _,ag,λy W=> ?_,λy c z _=>(nomatch (show false=true from z)),λ_=>hr.hd,Around.frames_deeper U.frames,.inr ⟨rfl,rfl⟩,λb z=>absurd z (ab b),U.bs,U.bsz,λb _ _=>ab b,λb z=>absurd z (ab b),U.funs,U.frf⟩,
   rfl,U.bare,Un.kept hk,⟨_,ai,λi y v h1 h2 h3=> ?_⟩,λy c h=> ?_,U.hok.fresh @e,aa,λp hp=>absurd (show p∈([]:List (Addr×Obj)) from hp) @f,U.hok.kept hk,?_⟩
  ·have W:scope.names.lookup y=some .cell\/scope.names.lookup y=some .free:=W
   rcases W with W|W
   ·exact absurd rfl (S.nocell _ (PySem.mem_of_lookup W))
   ·obtain ⟨i,hi⟩:=mem_iff_getElem?.mp (ac y W);have ak:i<fs.length:=(List.getElem?_eq_some_iff.mp hi).1;obtain ⟨c2,u,e2,_⟩:=j i y _ hi (getElem?_eq_getElem @c);exact ⟨c2,e2⟩
  ·have h1:(ps++fs)[i]? =some y:=h1;rw [getElem?_map] at h2;obtain ⟨v',hv,e⟩:=Option.map_eq_some_iff.mp h2;cases e;by_cases hi:i<ps.length
   ·rw [getElem?_append_left hi] at h1;rw [getElem?_append_left @c] at hv;obtain ⟨u,hu,rv⟩:=r.get hv;rwa[⟨u,rv,.inl ⟨S.par y (mem_of_getElem? h1),?_⟩⟩];exact zx (nodup_append.mp S.nd).1 h1 hu
   ·rw [getElem?_append_right @c] at h1;rw [getElem?_append_right @c,hl] at hv;obtain ⟨c,u,e2,rv,hc⟩:=j _ y _ h1 hv;exact ⟨u,rv,.inr ⟨.inr (S.fre y (mem_of_getElem? h1)),c,e2,R hc⟩⟩
  ·obtain ⟨u,hc⟩:=O y c h;exact ⟨_,R hc⟩
  ·show _=(ps++fs).length;rw [length_map,length_append,length_append];lia
 rwa[kla_codeExpr (wpAny_mono (ht [] _ _ H Q I hq) (λu s' hs=> ?_) λe s' hs=>False.elim hs)];obtain ⟨v,H',J,rv,q⟩:=hs;exact ⟨v,H',J.os,J.bare,J.base,J.hok,rv,q⟩
structure jP (P:Program)(w:World)(K:Frag)(mg:Str->Option Value)(base:Heap)(n:Nat)(f:Addr)(sp:Sp):Prop where
 run:∀(A:Around) (outer:List Env) (s:Shared) (H:Hp) (us:List Value) (vs:List V) (Q:VK) (E:XK),bC n A->m8 P w K mg base A outer s H->aH vs us->sp vs H Q E->codeAny @X A (.call (.ref f) ⟨us,[]⟩) @dg s
 keep:∀(vs:List V) (H:Hp) (Q:VK) (E:XK) (h:Heap),sp vs H Q E->fA P w H h->K.In h->∃k,(k=Keeper.frame\/k=Keeper.machine\/k=Keeper.boundFrame)/\Looks @X h @eb k
theorem Sl.cal {P:Program}{w:World}{K:Frag}{mg:Str->Option Value}{base:Heap}{n:Nat}{f:Addr}{ps:List Str}{sp:Sp}(F:Sl P w K mg base n f ps sp):jP P w K mg base n f sp:=by
 obtain ⟨fd,F,b,k⟩:=F;rwa[⟨λA outer s H j L Q E Y B r h=> ?_,λL H Q E h _ _ z=>keeps_K k h z⟩];have z:K.In s.heap:=B.mod.kin.keeps λb o e=>(B.bs b o e).1
 have W:aH L (j++[]):=by rw [append_nil];exact r
 have I:(j++[]).length=ps.length:=by rw [<-W.length];exact F.len _ _ _ _ h
 exact F.run A outer s H ⟨j,[]⟩ (j++[]) L Q E Y B (b s j z I) W h
section
variable {X:Cx}{x:Str}{p pos:Pos}{e:Expr}{es:List Expr}{t:TA}{n m:Nat}
def Ln (P:Program)(w:World)(K:Frag)(mg:Str->Option Value)(base:Heap)(m:Nat)(i:Nat)(t:TA):TE:=λσ H Q=>∃f n sp,σ[i]? =some @Y/\n<=m/\jP P w K mg base n f sp/\t σ H λvs H1=>sp vs H1 Q E0
theorem EJ (i:Nat)(hr:bC m X.A)(hN:X.N[i]? =some x)(Y:NJ X.env.scope x)(ha:PA X (e::es) t)(R:(x==("__debug__":Str))=false:=by decide)(U:(x==("__classdict__":Str))=false:=by decide)
(hp:aT (e::es)=true:=by rfl):PE X (.Call (.Name x p) (e::es) [] pos) (Ln X.prog X.w X.K X.mg X.base m i t):=by
 have h':(bJ e&&aT es)=true:=hp;rw [Bool.and_eq_true] at h';intro pins s σ H Q I h;obtain ⟨f,n,sp,hσ,hn,C,h⟩:=h;rwa[wpAny_Call_Name_kw (bj (EB (X:=X) hN Y R U pins s σ H (λv H1=>v= .ref f/\H1=H) I ⟨.ref f,hσ,rfl,rfl⟩) λu W ⟨v,H0,I0,B,ev,eH⟩=> ?_)];subst ev;subst eH;have B:u=Value.ref f:=B;subst B;have he:=aW (env:=X.env) (es:=es) h'.1;have F:(backTo pos @P).any (·.1)=false:=bV h'.2
 have j:wpAny @d X.A (spliced (backTo pos (starEach (e::es) X.env))) (λS O=>(∃k,(k=Keeper.frame\/k=Keeper.machine\/k=Keeper.boundFrame)/\Looks @d O.heap @eb k)/\wpAny @d X.A (call (.ref f) ([]++S)) @u X.xe O) X.xe W:=by
  rwa[bj (ha pos pins W σ H0 _ I0 h) λS O ⟨Z,H1,J,r,q⟩=>⟨C.keep _ _ _ _ _ q J.hok J.kIn,?_⟩];rwa[wpAny_call (codeAny_mono (C.run X.A X.stack O H1 S Z Q E0 (hr.mono hn) J.env0 r q) λr s' L=> ?_)]
  cases r with
  |error e=>exact False.elim L
  |ok fl=>
   cases fl with
   |ret u=>exact J.after L
   |next=>exact False.elim L
   |brk=>exact False.elim L
   |cont=>exact False.elim L
 rw [he] at j ⊢;exact callWith_of (P:=λh=>∃k,(k=Keeper.frame\/k=Keeper.machine\/k=Keeper.boundFrame)/\Looks @d h @eb k) (by show ((false||(backTo pos @P).any (·.1))||false)=false;rw [F];rfl) (λh z=>z) (evalArgs_plain j)
end
theorem ar.calm {P:Program}{w:World}{K:Frag}{mg:Str->Option Value}{base:Heap}{k:Nat}{f:Addr}{fd:FuncData}{ps:List Str}{sp:Sp}(F:ar P w K mg base @cm k f fd ps sp):ar P w K mg base aQ k f fd ps (λvs H Q _=>sp vs H Q E0):=by
 rwa[⟨λvs H Q E h=>F.len _ _ _ _ h,λA outer s H j B vs Q E Y J O r h=>codeAny_mono (F.run A outer s H j B vs Q E0 Y J O r h) λS s' L=> ?_⟩]
 cases S with
 |ok fl=>cases fl<;>exact L
 |error e=>obtain ⟨a,T,I,U,H',_,_,_,_,_,_,_,_,_,_,z⟩:=L;exact z.elim
theorem JQ.calm {P:Program}{w:World}{K:Frag}{mg:Str->Option Value}{base:Heap}{n:Nat}{x:Str}{ps:List Str}{sp:Sp}(c:JQ P w K mg base n x ps sp):aS P w K mg base n x ps (λvs H Q _=>sp vs H Q E0):=by
 obtain ⟨f,fd,F,b,k,B⟩:=c.ex;exact ⟨f,fd,F.calm,b,k,B⟩
def Jj (j:Int)(H:Hp)(Q:VK):Prop:=∃n:Nat,Builtin.Range.small 0 j 1=true/\Builtin.Range.rangeSize 0 j 1=n/\n<=1000/\∀l,H l=none->Q (.ref l) (upd H l (.lst ((List.range n).map λi:Nat=>V.int (i:Int))))
def Oo (te:TE):TE:=λσ H Q=>te σ H λx H1=>match x with
 | .int j=>Jj j H1 Q
 |_=>False
theorem Pt {j:Int}{n:Nat}{H:Hp}{Q:VK}(h1:Builtin.Range.small 0 j 1=true)(h2:Builtin.Range.rangeSize 0 j 1=n)(L:n<=1000)(g:∀l H',ak H H'->H l=none->H' l=some (.lst ((List.range n).map λi:Nat=>V.int (i:Int)))->Q (.ref l) H'):Jj j H Q:=⟨n,h1,h2,L,λl z=>g l _ (.upd z) z af⟩
theorem tW {X:Cx}{e:Expr}{te:TE}{p1 p2 B z:Pos}(hc:X.calm=true)(S:Gl X "list")(L:X.mg "list"=none)(U:Gl X "range")(J:X.mg "range"=none)(he:PE X e te)(hs:bJ e=true:=by rfl):
 PE X (.Call (.Name "list" p1) [.Call (.Name "range" p2) [e] [] z] [] B) (Oo te):=by
 intro pins s σ H Q I h;have aw:starEach [Expr.Call (.Name "range" p2) [e] [] z] X.env=[(false,eval (.Call (.Name "range" p2) [e] [] z) X.env)]:=aW (by rfl);have ae:starEach [e] X.env=[(false,eval e X.env)]:=aW hs;rwa[wpAny_Call_Name_kw (iw I S L boot_list ?_)];rwa[PyProof.Rows.callWith_type1 ?_ aw (bV (by rfl))];rw [aw];show wpAny _ _ (spliced ((false,eval (.Call (.Name "range" p2) [e] [] z) X.env)::backTo B @cH)) _ _ s;rwa[Calls.spliced_cons ?_];rwa[wpAny_Call_Name_kw (iw I U J boot_range ?_)];rwa[PyProof.Rows.callWith_type1 ?_ ae (bV (by rfl))];rw [ae];show wpAny _ _ (spliced ((false,eval e X.env)::backTo z @cH)) _ _ s;rwa[Calls.spliced_cons (bj @bG λu O ⟨x,H1,Y,r1,q1⟩=> ?_)];rwa[Calls.spliced_nil ?_]
 cases x with
 |int j=>
  obtain ⟨t,rfl⟩:=r1;obtain ⟨n,h1,h2,h3,q⟩:=q1;rwa[call_range_1 ?_];rwa[Calls.spliced_nil ?_];rwa[call_list_range (n:=n) (Y.ok.hd hc) (Heap.get?_push_size _ rfl) h1 h2 @c λh' tk F c' R hS ay=> ?_];have W:=Y.kept (t':=O.toks+1+1) (h':=O.heap.push {cls:= .type "range",data:= .fields #[.int 0 O.toks,.int j t,.int 1 (O.toks+1)]}) λb o e=>Heap.get?_push_of_some _ e
  have rv:aH ((List.range n).map λi:Nat=>V.int (i:Int)) F.toList:=by
   rwa[PySem.Paired.of (by rw [length_map,length_range,Array.length_toList,ay.1]) λi v d Z e2=> ?_];rw [getElem?_map] at Z;obtain ⟨k,R,rfl⟩:=Option.map_eq_some_iff.mp Z;obtain ⟨hi,R⟩:=List.getElem?_eq_some_iff.mp R;rw [List.getElem_range] at R;subst R;obtain ⟨t',e3⟩:=ay.2 i d (by rw [<-Array.getElem?_toList];exact e2);exact ⟨t',by rw [e3];congr 1;lia⟩
  have hl:((List.range n).map λi:Nat=>V.int (i:Int)).length<=sizeLine:=bq (by rw [length_map,length_range];lia);exact ⟨.ref _,_,W.laid (t':=tk) R @e (show bb X.prog X.w _ h' _ (.lst _) from ⟨hl,F.toList,c',rv,hS⟩),rfl,q _ (W.hok.fresh @e)⟩
 |_=>exact False.elim q1
section
variable {X:Cx}{pins:List (Addr×Obj)}{σ:St}{H:Hp}{s:Shared}{h':Heap}
theorem au.sub {j:List (Addr×Obj)}(I:au X pins σ H s)(h:∀p∈j,p∈pins):au X j σ H s:=I.pins_of λp F=>I.pin p (mem_append_right _ (h p F))
theorem au.repin {t':Nat}{a:Addr}{o o':Obj}(I:au X ((a,o)::pins) σ H s)(L:X.s₀.heap.objs.size<=a)(j:∀p∈X.pn++pins,p.1≠a)(k:∀b u,b≠a->s.heap.get? b=some u->h'.get? b=some u)(O:h'.get? a=some o')(S:∀v,o'.data≠ .cell v):
 au X ((a,o')::pins) σ H {s with heap:=h',toks:=t'}:=by
 obtain ⟨U,p2,B,W,Y⟩:=I.pin (a,o) @B;have R:au X pins σ H s:=I.sub λp F=> .tail _ F
 have J:au X pins σ H {s with heap:=h',toks:=t'}:=R.turned (it:=a) k p2 B (.inr L) (λx c e z=>by
  obtain ⟨v,Z,h1,h2⟩:=I.cell x c e;rw [z] at h1;have U:s.heap.get? a=some o:=U;rw [U] at h1;cases h1
  exact Y v h2) j
 rwa[J.pins_of λp F=> ?_]
 rcases mem_cons.mp F with rfl|F
 ·exact ⟨O,p2,B,W,S⟩
 ·exact J.pin p (mem_append_right _ F)
theorem au.pinNew {t':Nat}{a:Addr}{o:Obj}(I:au X pins σ H s)(F:s.heap.objs.size<=a)(k:∀b u,s.heap.get? b=some u->h'.get? b=some u)(j:h'.get? a=some o)(J:∀v,o.data≠ .cell v):au X ((a,o)::pins) σ H {s with heap:=h',toks:=t'}:=by
 rwa[(I.kept (t':=t') k).pins_of λp L=> ?_]
 rcases mem_cons.mp L with rfl|L
 ·exact ⟨j,I.hok.fresh F,Nat.ne_of_gt (Nat.lt_of_lt_of_le I.lt F),I.nofs F,J⟩
 ·exact (I.kept (t':=t') k).pin p (mem_append_right _ L)
end
def GX (X:Cx)(σ:St)(f:Addr)(xs:List V)(J:Hp->Prop)(kf:Nat->Int):Prop:=
 ∀(pins:List (Addr×Obj)) (s:Shared) (H:Hp) (i:Nat) (v:V) (u:Value),au X pins σ H s->J H->xs[i]? =some v->ax v u->
  wpAny @d X.A.in1 @dZ (λr s'=>∃H',au X pins σ H' s'/\ax (.int (kf i)) r/\J H') @dE s
def NI (xs:List V)(kf:Nat->Int)(i:Nat):Prop:=∀j,j<xs.length->kf i<=kf j/\(j<i->kf i<kf j)
theorem iN {X:Cx}{pins:List (Addr×Obj)}{σ:St}{H:Hp}{s:Shared}{l:Addr}{xs:List V}(I:au X pins σ H s)(e:H l=some (.lst xs)):∃us:List Value,aH xs us/\s.heap.IsList l us.toArray:=by
 obtain ⟨_,us,n,r,h1⟩:=(show bb X.prog X.w H s.heap l (.lst xs) from I.hok l _ e);exact ⟨us,r,_,h1,rfl,n,rfl⟩
theorem Jb {X:Cx}{pins:List (Addr×Obj)}{σ:St}{l S It f:Addr}{xs:List V}{dv:Value}{R:Result->Shared->Prop}(L:Nat->Int)(J:Hp->Prop)(hh:X.A.handled=none)(ae:∀H,J H->H l=some (.lst xs))
(aD:X.s₀.heap.objs.size<=It)(ar:X.s₀.heap.objs.size<=S)(ag:∀p∈X.pn++pins,p.1≠It)(ak:∀p∈X.pn++pins,p.1≠S)(aa:S≠It)(aB:GX X σ f xs J L)
(hR:∀i v u s' H,xs[i]? =some v->ax v u->NI xs L i->J H->au X pins σ H s'->R (.ok (.ret u)) s'):
 ∀(r j i:Nat) (s:Shared) (H:Hp) (v:V) (vb:Value) (tb:Tok) (c:Nat) (oI:Obj),xs.length - (j+1)=r->j+1<=xs.length->
  au X ((S,seqObj "list" #[vb,.int (L i) tb] c)::(It,oI)::pins) σ H s->J H->s.heap.IsListIter It l (j+1)->xs[i]? =some v->ax v vb->i<=j->(∀j',j'<=j->L i<=L j'/\(j'<i->L i<L j'))->
  codeAny @d X.A (.builtin "min.loop" ⟨[.ref It,.ref f,.ref S],[("default",dv)]⟩) R s:=by
 have Z:(toString "min"++toString ".loop":String)="min.loop":=by decide
 have ap:∀(o:Obj),∀p∈X.pn++(S,o)::pins,p.1≠It:=λo p B=>by
  rcases mem_append.mp B with B|B
  ·exact ag p (mem_append_left _ B)
  ·rcases mem_cons.mp B with rfl|B
   ·exact aa
   ·exact ag p (mem_append_right _ B)
 have ay:∀(o:Obj),∀p∈X.pn++(It,o)::pins,p.1≠S:=λo p B=>by
  rcases mem_append.mp B with B|B
  ·exact ak p (mem_append_left _ B)
  ·rcases mem_cons.mp B with rfl|B
   ·exact aa.symm
   ·exact ak p (mem_append_right _ B)
 have af:∀ {a b:Addr×Obj},∀p∈a::b::pins,p∈b::a::pins:=λ{a b} p B=>by
  rcases mem_cons.mp B with rfl|B
  ·exact .tail _ (.head _)
  ·rcases mem_cons.mp B with rfl|B
   ·exact .head _
   ·exact .tail _ (.tail _ B)
 intro r
 induction r with
 |zero=>
  intro j i s H v vb tb c oI hr hj I hJ aj hv rv aJ O;obtain ⟨us,ad,hl⟩:=iN I (ae H hJ)
  have am:us.toArray.size=xs.length:=by rw [size_toArray,ad.length]
  have nS:=I.pin (S,_) @B;have nI:=I.pin (It,oI) @T
  have al:l≠It:=λz=>by have:=nI.2.1;rw [<-z,ae H hJ] at this;cases this
  have W:=Walks.list (prog:=X.prog) (w:=X.w) (A:=X.A.in1) hh It l al us.toArray;rwa[codeAny_builtin PySem.F.entry_min_loop ?_];rw [Around.under_plainId PySem.F.plain_min_loop _];show wpAny _ X.A.in1 (seqItems? (.ref S)>>=_) _ _ _;rwa[wpAny_bind @cI];show wpAny _ X.A.in1 (tryCatch (pyNext (.ref It)) _>>=_) _ _ _;rwa[wpAny_bind (wpAny_tryCatch (W.done _ _ _ ⟨by rw [am,show xs.length=j+1 by lia];exact aj,hl⟩ λh1 ab U=> ?_))];have U:∀b u,b≠It->s.heap.get? b=some u->h1.get? b=some u:=λb u n e=>U b u (by simpa using n) e;have I0:au X pins σ H s:=I.sub λp B=> .tail _ (.tail _ B)
  have an:∀ {a:Addr} {o:Obj},s.heap.get? a=some o->(∀v,o.data≠ .cell v)->∀x c,X.env.cells.lookup x=some c->c≠a:=λ{a o} ho hd x c e z=>by
   obtain ⟨v,oc,h1,h2⟩:=I.cell x c e;rw [z,ho] at h1;cases h1;exact hd v h2
  have aI:=U S _ aa nS.1;have s1:=Heap.SameBut.update h1 S (Obj.mapSeq λ_=>(#[]:Array Value));have I1:au X pins σ H {s with heap:=h1,toks:=ab}:=I0.turned (it:=It) U nI.2.1 nI.2.2.1 (.inr aD) (an nI.1 nI.2.2.2.2) ag;have az:∀x c,X.env.cells.lookup x=some c->c≠S:=an nS.1 nS.2.2.2.2;show wpAny _ X.A.in1 (updateSeq S (λ_=> #[])>>=_) _ _ _;rwa[wpAny_bind ?_];rwa[wpAny_updateSeq aI rfl (wpAny_bind (wpAny_letGo @bu))];rwa[hR i v vb _ H hv rv (λj' aC=>O j' @c) hJ ?_];exact I1.turned (it:=S) (λb u n e=>(s1.2 b n).trans e) nS.2.1 nS.2.2.1 (.inr ar) az ak
 |succ r ih=>
  intro j i s H v vb tb c oI hr hj I hJ aj hv rv aJ O
  have ac:j+1<xs.length:=by lia
  obtain ⟨us,ad,hl⟩:=iN I (ae H hJ)
  have am:us.toArray.size=xs.length:=by rw [size_toArray,ad.length]
  have nS:=I.pin (S,_) @B;have nI:=I.pin (It,oI) @T
  have al:l≠It:=λz=>by have:=nI.2.1;rw [<-z,ae H hJ] at this;cases this
  have W:=Walks.list (prog:=X.prog) (w:=X.w) (A:=X.A.in1) hh It l al us.toArray;rwa[codeAny_builtin PySem.F.entry_min_loop ?_];rw [Around.under_plainId PySem.F.plain_min_loop _];show wpAny _ X.A.in1 (seqItems? (.ref S)>>=_) _ _ _;rwa[wpAny_bind @cI];show wpAny _ X.A.in1 (tryCatch (pyNext (.ref It)) _>>=_) _ _ _;rwa[wpAny_bind (wpAny_tryCatch (W.item (j+1) _ _ _ (by rw [am];exact ac) ⟨aj,hl⟩ λu h1 ab hP aE U=> ?_))]
  have hu:us[j+1]? =some u:=by simpa using hP
  obtain ⟨v1,ai⟩:∃v1,xs[j+1]? =some v1:=⟨_,getElem?_eq_getElem ac⟩
  have ao:ax v1 u:=by
   obtain ⟨u',av,ru⟩:=ad.get ai;rw [hu] at av;cases av;exact ru
  obtain ⟨Y,aH,aw,ah⟩:=id aE.1;have U:∀b u,b≠It->s.heap.get? b=some u->h1.get? b=some u:=λb u n e=>U b u (by simpa using n) e
  have I1:au X ((S,seqObj "list" #[vb,.int (L i) tb] c)::(It,Y)::pins) σ H {s with heap:=h1,toks:=ab}:=
   ((I.sub af).repin (t':=ab) aD (ap _) U aH λv e=>by rw [ah] at e;cases e).sub af
  show wpAny _ X.A.in1 (tryCatch (holding [u] @dZ) _>>=_) _ _ _;rwa[wpAny_bind (wpAny_tryCatch (wpAny_holding (wpAny_mono (aB _ _ H (j+1) v1 u I1 hJ ai ao) (λx s2 he=> ?_) λ_ _ hF=>hF.elim)))];obtain ⟨H2,I2,⟨t2,rfl⟩,aA⟩:=he;have as:=I2.pin (S,_) @B;have aF:=I2.pin (It,Y) @T;have aG:s2.heap.IsListIter It l (j+1+1):=⟨Y,aF.1,aw,ah⟩;show wpAny _ X.A.in1 (tryCatch (holding [u,.int (L (j+1)) t2] (richCompare .Lt (.int (L (j+1)) t2) (.int (L i) tb)>>=_)) _>>=_) _ _ _;rwa[wpAny_bind (wpAny_tryCatch (wpAny_holding (wpAny_bind (CmpOf.ints_lt (prog:=X.prog) (w:=X.w) (A:=X.A.in1) (P:=λi v=>∃t,v= .int (L i) t) L (λi v h=>h) (j+1) i _ _ _ _ _ ⟨t2,rfl⟩ ⟨tb,rfl⟩ ?_))))];rwa[wpAny_bind (wpAny_holding (wpAny_truthy_bool ?_))];rwa[wpAny_bind (wpAny_letGo @bu)];by_cases aq:L (j+1)<L i
  ·have s1:=Heap.SameBut.update s2.heap S (Obj.mapSeq λ_=> #[u,.int (L (j+1)) t2]);obtain ⟨c2,aL⟩:∃c2,(s2.heap.update S (Obj.mapSeq λ_=> #[u,.int (L (j+1)) t2])).get? S=some (seqObj "list" #[u,.int (L (j+1)) t2] c2):=⟨_,get?_update_seq as.1 λ_=> #[u,.int (L (j+1)) t2]⟩;simp only [aq,decide_true,if_true];rwa[wpAny_bind ?_];rwa[wpAny_updateSeq as.1 rfl (wpAny_bind (wpAny_letGo ?_))];rw [Z];rwa[wpAny_pure ⟨plainId_quiet PySem.F.plain_min_loop _,ih (j+1) (j+1) _ H2 v1 u t2 c2 Y @c ac (I2.repin (t':=s2.toks) ar (ay _) (λb u n e=>(s1.2 b n).trans e) aL λv e=>by cases e) aA ⟨Y,(s1.2 It aa.symm).trans aF.1,aw,ah⟩ ai ao @e λj' aC=> ?_⟩];by_cases e:j'=j+1
   ·subst e;exact ⟨by lia,λ_=>by lia⟩
   ·have aK:=O j' @c;have aM:=aK.1;exact ⟨by lia,λ_=>by lia⟩
  ·simp only [aq,decide_false,Bool.false_eq_true,if_false];rwa[wpAny_bind (wpAny_letGo ?_)];rw [Z];rwa[wpAny_pure ⟨plainId_quiet PySem.F.plain_min_loop _,ih (j+1) i _ H2 v vb tb c Y @c ac I2 aA aG hv rv @c λj' aC=> ?_⟩];by_cases e:j'=j+1
   ·subst e;exact ⟨by lia,λ_=>by lia⟩
   ·exact O j' @c
theorem GK (a v d:Value):argsOk "min" ⟨[a],[(s!"key",v),(s!"default",d)]⟩:=by unfold argsOk;kernel_rfl
theorem MK {X:Cx}{pins:List (Addr×Obj)}{σ:St}{H:Hp}{s:Shared}{l f:Addr}{xs:List V}{d:V}{dv:Value}{Q:VK}{E:Value->Shared->Prop}(hh:X.A.handled=none)(I:au X pins σ H s)(ay:H l=some (.lst xs))(rd:ax d dv)
(h0:xs=[]->Q d H)(h1:xs≠[]->∃(kf:Nat->Int) (J:Hp->Prop),J H/\(∀H,J H->H l=some (.lst xs))/\GX X σ f xs J kf/\∀i v H,xs[i]? =some v->NI xs kf i->J H->Q v H):
 wpAny @d X.A (call (.builtin "min") [.ref l] [(s!"key",.ref f),(s!"default",dv)]) @u E s:=by
 have Z:(toString "min"++toString ".loop":String)="min.loop":=by decide
 obtain ⟨us,ae,ad⟩:=iN I ay
 have aj:us.toArray.size=xs.length:=by rw [size_toArray,ae.length]
 obtain ⟨ol,ap,_⟩:=id ad;have aw:l<s.heap.objs.size:=Heap.lt_size ap;rwa[kmk_tree PySem.F.kind_min PySem.F.plain_min PySem.F.entry_min (GK _ _ _) ?_];show wpAny _ X.A.in1 (Builtin.Builtins.bindParams "min" ["key","default"] 0 ⟨[],[(s!"key",.ref f),(s!"default",dv)]⟩>>=_) _ _ s;rwa[wpAny_bind (wpAny_of_eq (show Builtin.Builtins.bindParams "min" ["key","default"] 0 ⟨[],[(s!"key",.ref f),(s!"default",dv)]⟩=pure [some (.ref f),some dv] from rfl) ?_)];rwa[wpAny_bind @bu];rwa[wpAny_bind (wpAny_pyIter_list ad ?_)];rwa[wpAny_bind (wpAny_newList ?_ @fm)];rw [Z];generalize L:s.heap.objs.size=B at *
 have I1:au X ((B,{cls:= .type "list_iterator",data:= .fields #[.ref l,.int 0 0]})::pins) σ H {s with heap:=s.heap.push {cls:= .type "list_iterator",data:= .fields #[.ref l,.int 0 0]}}:=
  I.pinNew (t':=s.toks) (a:=B) (by rw [L];exact Nat.le_refl _) (λb u e=>Heap.get?_push_of_some _ e) (by rw [<-L];exact Heap.get?_push_size _ rfl) λv e=>by cases e
 have hS:(s.heap.push {cls:= .type "list_iterator",data:= .fields #[.ref l,.int 0 0]}).objs.size=B+1:=by rw [size_push',L]
 generalize al:(s.heap.push {cls:= .type "list_iterator",data:= .fields #[.ref l,.int 0 0]}).objs.size=S at *
 have I2:=I1.pinNew (t':=s.toks) (h':=(s.heap.push {cls:= .type "list_iterator",data:= .fields #[.ref l,.int 0 0]}).push (seqObj "list" #[] 0)) (a:=S) (o:=seqObj "list" #[] 0) (Nat.le_of_eq al) (λb u e=>Heap.get?_push_of_some _ e) (by rw [<-al];exact Heap.get?_push_size _ rfl) λv e=>by cases e
 have aa:S≠B:=by rw [hS];exact Nat.ne_of_gt @bT
 have aD:X.s₀.heap.objs.size<=B:=by rw [<-L];exact I.sz
 have ar:X.s₀.heap.objs.size<=S:=by rw [hS];exact Nat.le_succ_of_le aD
 have ah:∀p∈X.pn++pins,p.1<B:=λp j=>by rw [<-L];exact Heap.lt_size (I.pin p j).1
 have ag:∀p∈X.pn++pins,p.1≠B:=λp j=>Nat.ne_of_lt (ah p j)
 have ak:∀p∈X.pn++pins,p.1≠S:=λp j=>by rw [hS];exact Nat.ne_of_lt (Nat.lt_succ_of_lt (ah p j))
 have aB:l≠B:=Nat.ne_of_lt aw;rwa[wpAny_pure ⟨plainId_quiet PySem.F.plain_min_loop _,?_⟩];generalize aq:({s with heap:=(s.heap.push {cls:= .type "list_iterator",data:= .fields #[.ref l,.int 0 0]}).push (seqObj "list" #[] 0)}:Shared)=s2 at I2;show codeAny _ _ (.builtin "min.loop" ⟨[.ref B,.ref f,.ref S],[("default",dv)]⟩) _ s2;have nS:=I2.pin (S,_) @B;have nI:=I2.pin (B,_) @T;have W:=Walks.list (prog:=X.prog) (w:=X.w) (A:=X.A.in1) hh B l aB us.toArray
 have O:s2.heap.IsList l us.toArray:=by
  obtain ⟨o,a,b⟩:=ad;rw [<-aq];exact ⟨o,Heap.get?_push_of_some _ (Heap.get?_push_of_some _ a),b⟩
 rwa[codeAny_builtin PySem.F.entry_min_loop ?_];rw [Around.under_plainId PySem.F.plain_min_loop _];show wpAny _ X.A.in1 (seqItems? (.ref S)>>=_) _ _ _;rwa[wpAny_bind @cI];show wpAny _ X.A.in1 (tryCatch (pyNext (.ref B)) _>>=_) _ _ _;by_cases hx:xs=[]
 ·rwa[wpAny_bind (wpAny_tryCatch (W.done _ _ _ ⟨by rw [aj,hx];exact ⟨_,nI.1,rfl,rfl⟩,O⟩ λh1 ab U=> ?_))]
  have I3:au X pins σ H {s2 with heap:=h1,toks:=ab}:=(I2.sub λp j=> .tail _ (.tail _ j)).turned (it:=B) (λb u n e=>U b u (by simpa using n) e) nI.2.1 nI.2.2.1 (.inr aD) (λx c e z=>by
   obtain ⟨v,oc,h1,h2⟩:=I2.cell x c e;rw [z,nI.1] at h1;cases h1
   exact nI.2.2.2.2 v h2) ag
  exact wpAny_bind (wpAny_rule (wpAny_pure ⟨d,H,I3,rd,h0 hx⟩))
 ·obtain ⟨kf,J,hJ,an,R,hQ⟩:=h1 hx;have ac:0<xs.length:=length_pos_iff.mpr hx;rwa[wpAny_bind (wpAny_tryCatch (W.item 0 _ _ _ (by rw [aj];exact ac) ⟨⟨_,nI.1,rfl,rfl⟩,O⟩ λu h1 ab hP aE U=> ?_))]
  have hu:us[0]? =some u:=by simpa using hP
  obtain ⟨v1,ai⟩:∃v1,xs[0]? =some v1:=⟨_,getElem?_eq_getElem ac⟩
  have ao:ax v1 u:=by
   obtain ⟨u',av,ru⟩:=ae.get ai;rw [hu] at av;cases av;exact ru
  obtain ⟨Y,aH,aA,am⟩:=id aE.1;have U:∀b u,b≠B->s2.heap.get? b=some u->h1.get? b=some u:=λb u n e=>U b u (by simpa using n) e
  have af:∀ {a b:Addr×Obj},∀p∈a::b::pins,p∈b::a::pins:=λ{a b} p j=>by
   rcases mem_cons.mp j with rfl|j
   ·exact .tail _ (.head _)
   ·rcases mem_cons.mp j with rfl|j
    ·exact .head _
    ·exact .tail _ (.tail _ j)
  have I3:au X ((S,seqObj "list" #[] 0)::(B,Y)::pins) σ H {s2 with heap:=h1,toks:=ab}:=
   ((I2.sub af).repin (t':=ab) aD (λp j=>by
     rcases mem_append.mp j with j|j
     ·exact ag p (mem_append_left _ j)
     ·rcases mem_cons.mp j with rfl|j
      ·exact aa
      ·exact ag p (mem_append_right _ j)) U aH λv e=>by rw [am] at e;cases e).sub af
  show wpAny _ X.A.in1 (tryCatch (holding [u] @dZ) _>>=_) _ _ _;rwa[wpAny_bind (wpAny_tryCatch (wpAny_holding (wpAny_mono (R _ _ H 0 v1 u I3 hJ ai ao) (λx s3 he=> ?_) λ_ _ hF=>hF.elim)))];obtain ⟨H3,I4,⟨t2,rfl⟩,aC⟩:=he;have as:=I4.pin (S,_) @B;have aF:=I4.pin (B,Y) @T;have s1:=Heap.SameBut.update s3.heap S (Obj.mapSeq λ_=> #[u,.int (kf 0) t2]);obtain ⟨c2,az⟩:∃c2,(s3.heap.update S (Obj.mapSeq λ_=> #[u,.int (kf 0) t2])).get? S=some (seqObj "list" #[u,.int (kf 0) t2] c2):=⟨_,get?_update_seq as.1 λ_=> #[u,.int (kf 0) t2]⟩;show wpAny _ X.A.in1 (updateSeq S (λ_=> #[u,.int (kf 0) t2])>>=_) _ _ _;rwa[wpAny_bind ?_];rwa[wpAny_updateSeq as.1 rfl ?_];rw [Z];rwa[wpAny_pure ⟨plainId_quiet PySem.F.plain_min_loop _,Jb kf J hh an aD ar ag ak aa R (λi v u s' H hv ru hb hJ I=>⟨v,H,I,ru,hQ i v H hv hb hJ⟩) _ 0 0 _ H3 v1 u t2 c2 Y rfl ac (I4.repin (t':=s3.toks) ar (λp j=> ?_) (λb u n e=>(s1.2 b n).trans e) az λv e=>by cases e) aC ⟨Y,(s1.2 _ aa.symm).trans aF.1,aA,am⟩ ai ao @e λj' aG=> ?_⟩]
  ·rcases mem_append.mp j with j|j
   ·exact ak p (mem_append_left _ j)
   ·rcases mem_cons.mp j with rfl|j
    ·exact aa.symm
    ·exact ak p (mem_append_right _ j)
  ·have e:j'=0:=by lia
   subst e;exact ⟨by lia,λh=>absurd h @G⟩
structure oq (X:Cx)(fs:List Str)(js:List Nat)(cl:List (Str×Addr)):Prop where
 at_:∀(i:Nat) x,fs[i]? =some x->∃j c,js[i]? =some j/\X.N[j]? =some x/\X.env.scope.names.lookup x=some .cell/\X.env.cells.lookup x=some c/\cl.lookup x=some c
 dom:∀x c,cl.lookup x=some c->x∈fs/\X.env.cells.lookup x=some c
theorem FC {X:Cx}{σ:St}{k:Nat}{f L:Addr}{name qual p0:Str}{B:Arguments}{F:Expr}{scope:Scope}{R:List (Str×Addr)}{pm ae:Value}{fs:List Str}{js:List Nat}{fvs:List V}{xs:List V}{J:Hp->Prop}{kf:Nat->Int}{t:TE}
(S:iF [p0] fs scope)(Y:oq X fs js R)(ab:∀u:Value,bindArgs (kla_fn name qual B F scope R pm (.ref L) ae) ⟨[u],[]⟩=pure [(p0,u)])(hr:bC (k+1) X.A.in1)
(U:js.map (λj=>σ[j]?)=fvs.map λv=>some @bq)(ak:js.length=fs.length)
(hJ:∀H,J H->H f=some (Ae f (kla_obj name qual B F scope R pm L ae))/\H L=some (xX L qual))
(hb:∀(s:Shared) (H:Hp),bC k (X.A.in1.deeper (envX qual scope s.heap.objs.size f (.ref L) R))->PE (PX X.prog X.w X.K X.mg X.base ([p0]++fs) qual scope f (.ref L) R X.A.in1 X.stack s H) F t)
(ht:∀i v H,xs[i]? =some v->J H->t (some v::fvs.map some) H λr H'=>r= .int (kf i)/\J H'):GX X σ f xs J kf:=by
 intro pins s H i v u I aa hv rv;obtain ⟨hf,hc⟩:=hJ H aa
 have ai:fvs.length=fs.length:=by
  have:=congrArg List.length U;rw [length_map,length_map] at this;lia
 have ah:s.heap.get? f=some (kla_obj name qual B F scope R pm L ae):=(I.hok f _ hf).1;have ad:s.heap.CodeRec (.ref L) qual:=(I.hok L _ hc).1;rwa[wpAny_call (codeAny_mono (Ji (Q:=λr H'=>r= .int (kf i)/\J H') (E:=E0) (fvs:=fvs) (vs:=[v]) (us:=[u]) S ah ad hr I.env0.in1 (ab u) (.cons rv .nil) rfl ai (λn x w h1 h2=> ?_) (λx c e=>(Y.dom x c e).1) (λx y c e1 e2=>I.ok.inj x y c (Y.dom x c e1).2 (Y.dom y c e2).2) (λx c e=>I.freeC x c (Y.dom x c e).2) λaj=>⟨t,hb s H aj,ht i v H hv aa⟩) λrr s' hq=> ?_)]
 ·obtain ⟨j,c,e1,e2,e3,e4,e5⟩:=Y.at_ n x h1;obtain ⟨m,hn,W⟩:=I.loc
  have hσ:σ[j]? =some (some w):=by
   have:=congrArg (λl=>l[n]?) U;simp only [getElem?_map,e1,h2,Option.map_some,Option.some.injEq] at this;exact this
  obtain ⟨u0,af,Z⟩:=W j x w e2 hσ (.inr (.inl e3))
  rcases Z with ⟨z,_⟩|⟨_,c2,e6,O⟩
  ·have z:X.env.scope.names.lookup x=some .local:=z;rw [e3] at z;cases z
  ·rw [e4] at e6;cases e6;exact ⟨c,u0,e5,af,O⟩
 ·cases rr with
  |error e=>exact False.elim hq
  |ok fl=>
   cases fl with
   |ret u=>
    obtain ⟨v',H',I',ac,rfl,ag⟩:=I.after hq;exact ⟨H',I',ac,ag⟩
   |next=>exact False.elim hq
   |brk=>exact False.elim hq
   |cont=>exact False.elim hq
def Rv (q:Str)(mk:Addr->Value->Obj)(js:List Nat)(te tl td tb:TE):TE:=λσ H Q=>te σ H λx H1=>tl σ H1 λfv H2=>td σ H2 λd H3=>
 ∃l f xs,x= .ref l/\fv= .ref f/\H3 l=some (.lst xs)/\(xs=[]->Q d H3)/\(xs≠[]->∃(c':Addr) (ctv:Value) (fvs:List V) (kf:Nat->Int) (J:Hp->Prop),js.map (λj=>σ[j]?)=fvs.map (λv=>some @bq)/\J H3/\
  (∀H,J H->H l=some (.lst xs)/\H f=some (Ae f (mk c' ctv))/\H c'=some (xX c' q))/\(∀i v H,xs[i]? =some v->J H->tb (some v::fvs.map some) H λr H'=>r= .int (kf i)/\J H')/\∀i v H,xs[i]? =some v->NI xs kf i->J H->Q v H)
theorem ED {X:Cx}{k:Nat}{p pos B aa ac:Pos}{e D:Expr}{te tl td tb:TE}{p0:Str}{R:Arguments}{L:Expr}{j:Scope}{O:List (Str×Addr)}{fs:List Str}{js:List Nat}(hc:X.calm=true)(hg:Gl X "min")(hm:X.mg "min"=none)(hr:bC (k+2) X.A)
(he:PE X e te)(hl:PE X (.Lambda R L j B) tl)(hd:PE X D td)(S:iF [p0] fs j)(LI:oq X fs js O)(ak:js.length=fs.length)
(ab:∀(c':Addr) (ctv u:Value),bindArgs (kla_fn "<lambda>" (X.env.qual++"<lambda>") R L j O ((X.mg "__name__").getD .none) (.ref c') ctv) ⟨[u],[]⟩=pure [(p0,u)])
(hb:∀(f c':Addr) (s:Shared) (H:Hp),bC k (X.A.in1.deeper (envX (X.env.qual++"<lambda>") j s.heap.objs.size f (.ref c') O))->PE (PX X.prog X.w X.K X.mg X.base ([p0]++fs) (X.env.qual++"<lambda>") j f (.ref c') O X.A.in1 X.stack s H) L tb)
(hs:bJ e=true:=by rfl):
 PE X (.Call (.Name "min" p) [e] [⟨some "key",.Lambda R L j B,aa⟩,⟨some "default",D,ac⟩] pos)
  (Rv (X.env.qual++"<lambda>") (λc' ctv=>kla_obj "<lambda>" (X.env.qual++"<lambda>") R L j O ((X.mg "__name__").getD .none) c' ctv) js te tl td tb):=by
 intro pins s σ H Q I h;have st:starEach [e] X.env=[(false,eval e X.env)]:=aW hs;rwa[wpAny_Call_Name_kw (iw I hg hm boot_min ?_)];rwa[callWith_kw (env:=X.env) ?_ (by rw [st];rfl) (by rw [st];rfl)];rw [st];show wpAny _ _ (spliced ((false,eval e X.env)::backTo pos @cH)) _ _ s;rwa[Calls.spliced_cons (bj @bG λu s1 ⟨x,H1,I1,Y,q1⟩=> ?_)];rwa[Calls.spliced_nil ?_];rwa[kws_cons (bj (hl pins s1 σ H1 _ I1 q1) λuf s2 ⟨fv,H2,I2,Z,q2⟩=> ?_)];rwa[kws_cons (bj (hd pins s2 σ H2 _ I2 q2) λud s3 ⟨d,H3,I3,r3,q3⟩=> ?_)];rwa[kws_nil ?_];obtain ⟨l,f,xs,rfl,rfl,W,h0,h1⟩:=q3;have Y:u=Value.ref l:=Y;have Z:uf=Value.ref f:=Z;subst Y Z;rwa[MK (f:=f) @bz I3 W r3 h0 λhx=> ?_];obtain ⟨c',ctv,ad,kf,J,U,hJ,F,ht,hQ⟩:=h1 hx;exact ⟨kf,J,hJ,λH z=>(F H z).1,FC S LI (ab c' ctv) hr.in1 U ak (λH z=>(F H z).2) (hb f c') ht,hQ⟩
section
variable {prog:Program}{w:World}{A:Around}{E:Value->Shared->Prop}{s:Shared}
theorem zn {it t:Addr}{i:Nat}{j:Array Value}{x:Value}{Q:Value->Shared->Prop}(aj:s.heap.IsTupleIter it t i)(R:s.heap.IsTuple t j)(O:j[i]? =some x)
(L:∀h',h'.IsTupleIter it t (i+1)->Heap.SameBut it s.heap h'->Q x {s with heap:=h'}):wpAny @i A (Builtin.SmallTypes.nextOf (.ref it)) Q E s:=by
 obtain ⟨o,I,B,J⟩:=id aj;obtain ⟨U,ap,_,S,z⟩:=R;unfold Builtin.SmallTypes.nextOf;rwa[wpAny_bind (wpAny_callSpecial?_slot (name:=s!"__next__") aj.typeIs F.slot_tuple_iterator_next (wpAny_call_entry F.slot_tuple_iterator_next aj.typeIs F.entry_tuple_iterator_next ?_ (F.args_tuple_iterator_next_1 _)))];show wpAny _ _ (field (.ref it) 0>>=_) _ _ s;rwa[wpAny_bind (wpAny_field I J (x:= .ref t) rfl ?_)];show wpAny _ _ (if (Value.ref t==Value.none)=true then _ else _) _ _ s;rw [if_neg (show ¬((Value.ref t==Value.none)=true) from Bool.false_ne_true)];show wpAny _ _ (field (.ref it) 1>>=_) _ _ s;rwa[wpAny_bind (wpAny_field I J (x:= .int i 0) rfl ?_)];show wpAny _ _ (seqItems? (.ref t)>>=_) _ _ s;rwa[wpAny_bind (wpAny_seqItems ap z ?_)];simp only [Int.toNat_natCast,O];rwa[wpAny_bind (wpAny_setField I J @f (wpAny_pure ⟨x,rfl,wpAny_pure (L _ ?_ (Heap.SameBut.update ..))⟩))];exact ⟨_,Heap.get?_update_self _ I (Obj.isFreed_of_fields (Obj.data_mapFields J _)),(Obj.cls_mapFields ..).trans B,by rw [Obj.data_mapFields J];simp [rawInt]⟩
theorem io {it t:Addr}{i:Nat}{j:Array Value}{Q:Value->Shared->Prop}(L:A.handled=none)(aj:s.heap.IsTupleIter it t i)(R:s.heap.IsTuple t j)(O:j[i]? =none)
(B:∀h' e,Heap.ExtBut it s.heap h'->(∃o,h'.get? e=some o/\o.cls= .type "StopIteration")->E (.ref e) {s with heap:=h'}):wpAny @i A (Builtin.SmallTypes.nextOf (.ref it)) Q E s:=by
 obtain ⟨o,I,S,J⟩:=id aj;obtain ⟨W,ap,_,U,z⟩:=R;unfold Builtin.SmallTypes.nextOf;rwa[wpAny_bind (wpAny_callSpecial?_slot (name:=s!"__next__") aj.typeIs F.slot_tuple_iterator_next (wpAny_call_entry F.slot_tuple_iterator_next aj.typeIs F.entry_tuple_iterator_next ?_ (F.args_tuple_iterator_next_1 _)))];show wpAny _ _ (field (.ref it) 0>>=_) _ _ s;rwa[wpAny_bind (wpAny_field I J (x:= .ref t) rfl ?_)];show wpAny _ _ (if (Value.ref t==Value.none)=true then _ else _) _ _ s;rw [if_neg (show ¬((Value.ref t==Value.none)=true) from Bool.false_ne_true)];show wpAny _ _ (field (.ref it) 1>>=_) _ _ s;rwa[wpAny_bind (wpAny_field I J (x:= .int i 0) rfl ?_)];show wpAny _ _ (seqItems? (.ref t)>>=_) _ _ s;rwa[wpAny_bind (wpAny_seqItems ap z ?_)];simp only [Int.toNat_natCast,O];rwa[wpAny_bind (wpAny_rule (wpAny_bind (wpAny_setField I J @f ?_)))];show wpAny _ _ (newExc (.type "StopIteration") []>>=_) _ _ _;rwa[wpAny_bind ?_];simp only [newExc,newTuple];rwa[wpAny_bind (wpAny_newObj_type ?_ (by size_fits))];rwa[wpAny_bind (m:=firstArgMember _ _) (wpAny_of_eq (a:=Value.none) (by first|rfl|(simp only [firstArgMember];rfl)) ?_)];rwa[wpAny_newObj_type ?_ (by size_fits)];simp only [raiseNew];rwa[wpAny_bind (wpAny_handled ?_)]
 first|rw [show A.in1.handled=none from L]|rw [L]
 rwa[wpAny_bind (wpAny_pure (wpAny_throw ?_))];exact B _ _ (((Heap.SameBut.update ..).extBut.push _).push _) ⟨_,Heap.get?_push_size _ rfl,rfl⟩
end
theorem tm {prog:Program}{w:World}{A:Around}(L:A.handled=none)(it l:Addr)(F:l≠it)(j:Array Value):
 Draws prog w A it [it,l] j.size (λi v=>j[i]? =some v) (λi h=>h.IsTupleIter it l i/\h.IsTuple l j) where
 live:=λ_ _ st=>let ⟨o,ho,_⟩:=st.1;⟨o,ho⟩
 frame:=λ_ _ _ st R=>⟨st.1.at λo e=>R it @f o e,let ⟨o,ho,r⟩:=st.2;⟨o,R l @f o ho,r⟩⟩
 item:=λi s Q E hi st I=>by
  rwa[zn st.1 st.2 (x:=j[i]) (by simp [hi]) λh' B z=> ?_];exact I _ h' s.toks (by simp [hi]) ⟨B,let ⟨o,ho,r⟩:=st.2;⟨o,(z.2 l F).trans ho,r⟩⟩ z
 done:=λs Q E st J=>io L st.1 st.2 @f J
open Sem (wp)
open AutoSeq1 (wpAny_loadPart')
theorem qw (l:Addr)(j:Array Value)(n:Nat)(z:Option Addr)(sl:Array @J):
 Meets (Builtin.«enumerate.__new__» ⟨[.type "enumerate",.ref l],[]⟩) (λ_ R s=>s.heap.get? l=some {cls:= .type "tuple",dict:=z,data:= .seq j n,slots:=sl}/\
  R (.ok (.ret (.ref (s.heap.push {cls:= .type "tuple_iterator",data:= .fields #[.ref l,.int 0 0]}).objs.size)))
    {s with heap:=(s.heap.push {cls:= .type "tuple_iterator",data:= .fields #[.ref l,.int 0 0]}).push {cls:= .type "enumerate",data:= .fields #[.none,.bool false,.ref s.heap.objs.size,rawInt 0,.none,.none]}}):=
 .of_wp λprog w A R s h=>by
  obtain ⟨I,g,d,tk,os⟩:=s;obtain ⟨W,h⟩:=h;have B:=sub_enumerate;have F:Heap.IsTuple (Shared.heap ⟨I,g,d,tk,os⟩) l j:=⟨_,W,rfl,n,rfl⟩
  wp_walk using wpAny_loadPart' W
  rwa[wpAny_stack_any λst=>wpAny_pure ?_];split
  ·rename_i c _ _ _ _ _;cases (c==Value.type "enumerate")
   ·wp_walk using wpAny_loadPart' W,wpAny_pyIter_tuple F
    exact ⟨_,rfl,h⟩
   ·wp_walk using wpAny_loadPart' W,wpAny_pyIter_tuple F
    exact ⟨_,rfl,h⟩
  ·wp_walk using wpAny_loadPart' W,wpAny_pyIter_tuple F
   exact ⟨_,rfl,h⟩
theorem rX {prog:Program}{w:World}{A:Around}{E:Value->Shared->Prop}{s:Shared}{l:Addr}{j:Array Value}{Q:Value->Shared->Prop}(O:s.heap.IsTuple l j)
(h:∀h',IsEnum h' (s.heap.objs.size+1) s.heap.objs.size 0 .none->h'.IsTupleIter s.heap.objs.size l 0->h'.objs.size=s.heap.objs.size+2->
   (∀b o,s.heap.get? b=some o->h'.get? b=some o)->Q (.ref (s.heap.objs.size+1)) {s with heap:=h'}):wpAny @i A (call (.type "enumerate") [.ref l]) Q E s:=by
 obtain ⟨⟨c,z,R,sl⟩,W,I,n,J⟩:=O;replace I:c= .type "tuple":=I;replace J:R= .seq j n:=J;subst I J;rwa[callType_new F.called_enumerate @b (F.typeCall_enumerate_1 _) (F.newCall_enumerate_1 _) (λL=>F.args_object_init_2 L _) F.entry_enumerate_new (qw l j n z sl) ⟨W,?_⟩];have B:(s.heap.push {cls:= .type "tuple_iterator",data:= .fields #[.ref l,.int 0 0]}).objs.size=s.heap.objs.size+1:=Heap.size_push ..;show _/\_;rw [B]
 have S:IsEnum ((s.heap.push {cls:= .type "tuple_iterator",data:= .fields #[.ref l,.int 0 0]}).push {cls:= .type "enumerate",data:= .fields #[.none,.bool false,.ref s.heap.objs.size,rawInt 0,.none,.none]}) (s.heap.objs.size+1) s.heap.objs.size 0 .none:=by
  have:=Heap.get?_push_size (s.heap.push {cls:= .type "tuple_iterator",data:= .fields #[.ref l,.int 0 0]}) (o:= {cls:= .type "enumerate",data:= .fields #[.none,.bool false,.ref s.heap.objs.size,rawInt 0,.none,.none]}) rfl;rw [B] at this;exact this
 rwa[⟨⟨_,S,rfl⟩,h _ S ⟨_,Heap.get?_push_of_some _ (Heap.get?_push_size _ rfl),rfl,rfl⟩ (by rw [Heap.size_push,B]) λb o x=>Heap.get?_push_of_some _ (Heap.get?_push_of_some _ x)⟩]
theorem au.turnLaid {X:Cx}{pins:List (Addr×Obj)}{σ:St}{H:Hp}{s:Shared}{h':Heap}{t':Nat}{ch:List Addr}{a:Addr}{o:HO}(I:au X pins σ H s)(J:∀b∈ch,iI X pins H b)(k:∀b u,b∉ch->s.heap.get? b=some u->h'.get? b=some u)
(R:s.heap.objs.size<=a)(O:bb X.prog X.w @bn h' a o):au X pins σ @bn {s with heap:=h',toks:=t'}:=by
 have hn:H a=none:=I.hok.fresh R;have ne:∀ {b:Addr} {u:Obj},s.heap.get? b=some u->b≠a:=λ{b u} e=>Nat.ne_of_lt (Nat.lt_of_lt_of_le @bV R)
 have L:∀ {b:Addr} {u:HO},H b=some u->b∉ch:=λ{b u} e z=>by have:=(J b z).1;rw [e] at this;cases this
 have B:ak H @bn:= .upd hn
 refine I.step (g':=s.gens) (d':=s.drawn) (ch:=ch) (λb F=> ?_) (λb u _ _ j e _=>k b u j e) (λb u _ _ j e _=>⟨u.slots,k b u j e⟩) (λb u _ e n=>by rw [ag (ne e)];exact n) (λb u j e=>⟨u,k b u j e⟩)
  (λb xs e=>B _ _ e) (λb u v e=>B _ _ e) (λb ps e=>⟨#[],by rw [B _ _ e];simp⟩) (λm hm=> ?_) (λb u e=> ?_) I.bare
 ·obtain ⟨_,U,_,Y,f4,Z⟩:=J b F;exact ⟨Y,U,f4,Z⟩
 ·obtain ⟨o,es,W,S,r⟩:=hm;exact ⟨o,es,W,k _ o (λz=>(J _ z).2.1 rfl) S,r⟩
 ·by_cases F:b=a
  ·subst F;rw [af] at e;cases e;exact O
  ·rw [ag F] at e;rwa[(I.hok b u e).stay (λc v j q=>k c v ?_ q) (λc q=>B _ _ q) λc xs q=>B _ _ q]
   rcases j with z|z
   ·rw [z];exact L e
   ·exact L z
noncomputable def QP (K:Fg)(a:Addr):It:=⟨(GZ K a).go,λi H x H'=>∃T y,x= .ref T/\H T=none/\H'=upd H T (.tup [.int i,y])/\∀xs,az K H a xs->xs[i]? =some y,(GZ K a).stop⟩
theorem Dl {P:Program}{w:World}{K:Fg}{B:List Expr}{k:Nat}{pos:Pos}(a it e:Addr):vH P w K (.Tuple B k pos) (QP K a) [e,it] e (λi h=>(∃old,IsEnum h e it i old)/\h.IsListIter it a i) where
 mem:=by simp
 obj:=λi h st b L=>by
  obtain ⟨⟨old,S⟩,o,ho,c,d⟩:=st
  rcases mem_cons.mp L with rfl|L
  ·exact ⟨_,S,λv z=>by cases z⟩
  ·rw [mem_singleton.mp L];exact ⟨o,ho,λv z=>by rw [d] at z;cases z⟩
 keep:=λi h h' st kk=>by
  obtain ⟨⟨old,S⟩,aj⟩:=st;exact ⟨⟨old,kk e @f _ S⟩,aj.at λo z=>kk it @f o z⟩
 item:=by
  intro X Y hw hK hc i pins s σ H E I hf st hg;subst Y hw hK;obtain ⟨⟨old,S⟩,aj⟩:=st;obtain ⟨xs,x,hq,hx⟩:=hg;obtain ⟨its,rv,p,hz⟩:=I.list hq;have Z:s.heap.IsList a its.toArray:=p.isList;obtain ⟨u,hu,ru⟩:=rv.get hx;obtain ⟨oi,j,ci,di⟩:=id aj;obtain ⟨ol,ap,U,_⟩:=id Z
  have aa:e≠it:=λz=>by have h1:=j.symm.trans (z▸S);cases h1;exact absurd (Value.type.inj ci) @b
  have al:e≠a:=λz=>by have h1:=ap.symm.trans (z▸S);cases h1;exact absurd @bI @b
  have R:a≠it:=λz=>by rw [z,j] at ap;cases ap;rw [ci] at U;exact absurd @bI @b
  have W:=WalksT.enumerateD (Draws.list (prog:=X.prog) (w:=X.w) (A:=X.A.in1) @bz it a R its.toArray) e aa (by simp [aa,al]) @f
  have hi:i<its.toArray.size:=by rw [size_toArray];exact (List.getElem?_eq_some_iff.mp hu).1
  rwa[W.item i s _ _ hi ⟨⟨old,S⟩,aj,Z⟩ λT an h' tk Y hT ad O hk=>⟨.ref T,rfl,?_⟩];rwa[W.go B k pos i T _ _ _ O λh2 J ac=> ?_];obtain ⟨t,u',av,rfl⟩:=Y
  have av:its[i]? =some u':=by simpa using av
  rw [hu] at av;cases av;have ae:T∉[e,it]:=W.apart i T h' O;have kk:∀b o,b∉[e,it]->s.heap.get? b=some o->h2.get? b=some o:=λb o nb z=>ac b o nb (hk b o nb z)
  have ab:IsTup h2 T (#[.int i t,u]:Array Value):=by
   obtain ⟨o,ho,c,r⟩:=ad;exact ⟨o,ac T o ae ho,c,r⟩
  have ak:bb X.prog X.w (upd H T (.tup [.int i,x])) h2 T (.tup [.int i,x]):=⟨by show 2<=sizeLine;decide,[.int i t,u],.cons ⟨t,rfl⟩ (.cons ru .nil),ab⟩;rwa[⟨.ref T,upd H T (.tup [.int i,x]),I.turnLaid (t':=tk) hf kk hT ak,rfl,⟨T,x,rfl,I.hok.fresh hT,rfl,λys hy=>by rw [I.list_inj hy hq];exact hx⟩,⟨J.1,J.2.1⟩,λb L=> ?_⟩];have ne:b≠T:=λz=>ae (by rw [<-z];exact L);rw [ag ne];exact (hf b L).1
 done:=by
  intro X Y hw hK hc i pins s σ H E I hf st hg;subst Y hw hK;obtain ⟨⟨old,S⟩,aj⟩:=st;obtain ⟨xs,hq,hx⟩:=hg;obtain ⟨its,rv,p,hz⟩:=I.list hq;have Z:s.heap.IsList a its.toArray:=p.isList;have am:=rv.length;obtain ⟨oi,j,ci,di⟩:=id aj;obtain ⟨ol,ap,U,_⟩:=id Z
  have R:a≠it:=λz=>by rw [z,j] at ap;cases ap;rw [ci] at U;exact absurd @bI @b
  have D:=Draws.list (prog:=X.prog) (w:=X.w) (A:=X.A.in1) @bz it a R its.toArray;have hT:s.TypeIs (.ref e) "enumerate":=⟨_,S,rfl⟩;obtain ⟨f0,f1,f2,f3,f4,f5⟩:=hf it @f;unfold pyNext;rwa[wpAny_bind (wpAny_attempt (wpAny_callSpecial?_slot (name:=s!"__next__") hT F.slot_enumerate_next (wpAny_call_entry F.slot_enumerate_next hT F.entry_enumerate_next ?_ (F.args_enumerate_next_1 _))))];show wpAny _ _ (field (.ref e) 2>>=_) _ _ _;rwa[wpAny_bind (wpAny_field S rfl (x:= .ref it) rfl ?_)];rwa[wpAny_bind (wpAny_nextOf_list_end @bz aj Z (by simp;lia) λh' x af ai=> ?_)];obtain ⟨o,ho,ah⟩:=ai;rwa[wpAny_bind (wpAny_isInstance (T:="StopIteration") (b:=true) ⟨o,ho,ah⟩ isSubtype_stop ?_)];exact wpAny_pure ⟨rfl,I.turned (t':=s.toks) (λb o L e=>af b o L e) f0 f1 f3 f4 f5⟩
 self:=λ_ _ _ _ _ st h=>let ⟨⟨old,S⟩,_⟩:=st;wpAny_pyIter_enum S h
theorem xx {K:Fg}{a:Addr}{xs:List V}{pk:List @l}{g:TG}{tt:TT}{te:TE}{σ:St}{H:Hp}{Q:VK}(j:Nat->List V->Hp->Prop)(S:xs.length<=sizeLine)(F:∀i ys H,j i ys H->ys.length<=i)(J:j 0 [] H)(I:∀i ys H,i<=xs.length->j i ys H->az K H a xs)
(hs:∀(i:Nat) x ys H T H',xs[i]? =some x->j i ys H->ak H H'->H' T=some (.tup [.int i,x])->g (.ref T) @L H' λσ2 H2=>rZ @L σ2/\tt σ2 H2 λb H3=>if b=true then te σ2 H3 λv H4=>j (i+1) (ys++[v]) H4 else j (i+1) ys H3)
(R:∀ys H,j @fj ys H->∀p,H p=none->Q (.ref p) @S):
 rV (QP K a) pk g tt te σ H Q:=by
 rwa[⟨λi m ys H=>m=xs.length - i/\i<=xs.length/\j i ys H,⟨xs.length,by simp,Nat.zero_le _,J⟩,?_⟩];rintro i m ys H ⟨rfl,hi,p⟩;have W:=F _ _ _ p;by_cases B:i<xs.length
 ·rwa[.inr ⟨⟨xs,xs[i],I i ys H hi p,by simp [B]⟩,by lia,j (i+1),λzs H' O=>⟨xs.length - (i+1),by lia,rfl,B,O⟩,λx H' y=> ?_⟩];obtain ⟨T,z,rfl,L,rfl,y⟩:=y;exact hs i z ys _ T _ (y xs (I i ys _ hi p)) p (.upd L) af
 ·have e:i=xs.length:=by lia
  subst e;exact .inl ⟨⟨xs,I _ ys H @e p,Nat.le_refl _⟩,by lia,R ys H p⟩
noncomputable def Sm (K:Fg)(a:Addr):It:=⟨(GY K a).go,λi H x H'=>∃T y,x= .ref T/\H T=none/\H'=upd H T (.tup [.int i,y])/\∀xs,aD K H a xs->xs[i]? =some y,(GY K a).stop⟩
theorem Dj {P:Program}{w:World}{K:Fg}{B:List Expr}{k:Nat}{pos:Pos}(a it e:Addr):vH P w K (.Tuple B k pos) (Sm K a) [e,it] e (λi h=>(∃old,IsEnum h e it i old)/\h.IsTupleIter it a i) where
 mem:=by simp
 obj:=λi h st b L=>by
  obtain ⟨⟨old,S⟩,o,ho,c,d⟩:=st
  rcases mem_cons.mp L with rfl|L
  ·exact ⟨_,S,λv z=>by cases z⟩
  ·rw [mem_singleton.mp L];exact ⟨o,ho,λv z=>by rw [d] at z;cases z⟩
 keep:=λi h h' st kk=>by
  obtain ⟨⟨old,S⟩,aj⟩:=st;exact ⟨⟨old,kk e @f _ S⟩,aj.at λo z=>kk it @f o z⟩
 item:=by
  intro X Y hw hK hc i pins s σ H E I hf st hg;subst Y hw hK;obtain ⟨⟨old,S⟩,aj⟩:=st;obtain ⟨xs,x,hq,hx⟩:=hg;obtain ⟨its,rv,p,hz⟩:=I.tuple hq;have Z:s.heap.IsTuple a its.toArray:=p;obtain ⟨u,hu,ru⟩:=rv.get hx;obtain ⟨oi,j,ci,di⟩:=id aj;obtain ⟨ol,ap,U,_⟩:=id Z
  have aa:e≠it:=λz=>by have h1:=j.symm.trans (z▸S);cases h1;exact absurd (Value.type.inj ci) @b
  have al:e≠a:=λz=>by have h1:=ap.symm.trans (z▸S);cases h1;exact absurd @bI @b
  have R:a≠it:=λz=>by rw [z,j] at ap;cases ap;rw [ci] at U;exact absurd @bI @b
  have W:=WalksT.enumerateD (tm (prog:=X.prog) (w:=X.w) (A:=X.A.in1) @bz it a R its.toArray) e aa (by simp [aa,al]) @f
  have hi:i<its.toArray.size:=by rw [size_toArray];exact (List.getElem?_eq_some_iff.mp hu).1
  rwa[W.item i s _ _ hi ⟨⟨old,S⟩,aj,Z⟩ λT an h' tk Y hT ad O hk=>⟨.ref T,rfl,?_⟩];rwa[W.go B k pos i T _ _ _ O λh2 J ac=> ?_];obtain ⟨t,u',av,rfl⟩:=Y
  have av:its[i]? =some u':=by simpa using av
  rw [hu] at av;cases av;have ae:T∉[e,it]:=W.apart i T h' O;have kk:∀b o,b∉[e,it]->s.heap.get? b=some o->h2.get? b=some o:=λb o nb z=>ac b o nb (hk b o nb z)
  have ab:IsTup h2 T (#[.int i t,u]:Array Value):=by
   obtain ⟨o,ho,c,r⟩:=ad;exact ⟨o,ac T o ae ho,c,r⟩
  have ak:bb X.prog X.w (upd H T (.tup [.int i,x])) h2 T (.tup [.int i,x]):=⟨by show 2<=sizeLine;decide,[.int i t,u],.cons ⟨t,rfl⟩ (.cons ru .nil),ab⟩;rwa[⟨.ref T,upd H T (.tup [.int i,x]),I.turnLaid (t':=tk) hf kk hT ak,rfl,⟨T,x,rfl,I.hok.fresh hT,rfl,λys hy=>by rw [I.tuple_inj hy hq];exact hx⟩,⟨J.1,J.2.1⟩,λb L=> ?_⟩];have ne:b≠T:=λz=>ae (by rw [<-z];exact L);rw [ag ne];exact (hf b L).1
 done:=by
  intro X Y hw hK hc i pins s σ H E I hf st hg;subst Y hw hK;obtain ⟨⟨old,S⟩,aj⟩:=st;obtain ⟨xs,hq,hx⟩:=hg;obtain ⟨its,rv,p,hz⟩:=I.tuple hq;have Z:s.heap.IsTuple a its.toArray:=p;have am:=rv.length;obtain ⟨oi,j,ci,di⟩:=id aj;obtain ⟨ol,ap,U,_⟩:=id Z
  have R:a≠it:=λz=>by rw [z,j] at ap;cases ap;rw [ci] at U;exact absurd @bI @b
  have D:=tm (prog:=X.prog) (w:=X.w) (A:=X.A.in1) @bz it a R its.toArray;have hT:s.TypeIs (.ref e) "enumerate":=⟨_,S,rfl⟩;obtain ⟨f0,f1,f2,f3,f4,f5⟩:=hf it @f;unfold pyNext;rwa[wpAny_bind (wpAny_attempt (wpAny_callSpecial?_slot (name:=s!"__next__") hT F.slot_enumerate_next (wpAny_call_entry F.slot_enumerate_next hT F.entry_enumerate_next ?_ (F.args_enumerate_next_1 _))))];show wpAny _ _ (field (.ref e) 2>>=_) _ _ _;rwa[wpAny_bind (wpAny_field S rfl (x:= .ref it) rfl ?_)];rwa[wpAny_bind (io @bz aj Z (by simp;lia) λh' x af ai=> ?_)];obtain ⟨o,ho,ah⟩:=ai;rwa[wpAny_bind (wpAny_isInstance (T:="StopIteration") (b:=true) ⟨o,ho,ah⟩ isSubtype_stop ?_)];exact wpAny_pure ⟨rfl,I.turned (t':=s.toks) (λb o L e=>af b o L e) f0 f1 f3 f4 f5⟩
 self:=λ_ _ _ _ _ st h=>let ⟨⟨old,S⟩,_⟩:=st;wpAny_pyIter_enum S h
theorem Gp {K:Fg}{a:Addr}{xs:List V}{pk:List @l}{g:TG}{tt:TT}{te:TE}{σ:St}{H:Hp}{Q:VK}(j:Nat->List V->Hp->Prop)(S:xs.length<=sizeLine)(F:∀i ys H,j i ys H->ys.length<=i)(J:j 0 [] H)(I:∀i ys H,i<=xs.length->j i ys H->aD K H a xs)
(hs:∀(i:Nat) x ys H T H',xs[i]? =some x->j i ys H->ak H H'->H' T=some (.tup [.int i,x])->g (.ref T) @L H' λσ2 H2=>rZ @L σ2/\tt σ2 H2 λb H3=>if b=true then te σ2 H3 λv H4=>j (i+1) (ys++[v]) H4 else j (i+1) ys H3)
(R:∀ys H,j @fj ys H->∀p,H p=none->Q (.ref p) @S):
 rV (Sm K a) pk g tt te σ H Q:=by
 rwa[⟨λi m ys H=>m=xs.length - i/\i<=xs.length/\j i ys H,⟨xs.length,by simp,Nat.zero_le _,J⟩,?_⟩];rintro i m ys H ⟨rfl,hi,p⟩;have W:=F _ _ _ p;by_cases B:i<xs.length
 ·rwa[.inr ⟨⟨xs,xs[i],I i ys H hi p,by simp [B]⟩,by lia,j (i+1),λzs H' O=>⟨xs.length - (i+1),by lia,rfl,B,O⟩,λx H' y=> ?_⟩];obtain ⟨T,z,rfl,L,rfl,y⟩:=y;exact hs i z ys _ T _ (y xs (I i ys _ hi p)) p (.upd L) af
 ·have e:i=xs.length:=by lia
  subst e;exact .inl ⟨⟨xs,I _ ys H @e p,Nat.le_refl _⟩,by lia,R ys H p⟩
def RZ (K:Fg)(p:Addr)(H:Hp)(R:It->Hp->Prop):Prop:=(∃xs,az K H p xs/\R (QP K p) H)\/∃xs,aD K H p xs/\R (Sm K p) H
def Sy (K:Fg)(te:TE):TI:=λσ H R=>te σ H λx H1=>match x with| .ref p=>RZ K p H1 R|_=>False
theorem oH {X:Cx}{K:Fg}(Y:X.K=K){B:List Expr}{k:Nat}{tpos p pos:Pos}{e:Expr}{te:TE}(Z:Gl X "enumerate")(hm:X.mg "enumerate"=none)(he:PE X e te)(hs:bJ e=true:=by rfl):
 PI X (.Tuple B k tpos) (.Call (.Name "enumerate" p) [e] [] pos) (Sy K te):=by
 subst Y;intro pins s σ H R I h;have st:starEach [e] X.env=[(false,eval e X.env)]:=aW hs;rwa[Call_ (iw I Z hm boot_enumerate (PyProof.Rows.callWith_type1 ?_ st (bV (by rfl))))];rw [st];show wpAny _ _ (spliced ((false,eval e X.env)::backTo pos @cH)) _ _ s;rwa[Calls.spliced_cons (bj @bG λu O ⟨x,H1,J,z,S⟩=> ?_)];rwa[Calls.spliced_nil ?_]
 cases x with
 |ref a=>
  have z:u=Value.ref a:=z;subst z
  have fp:∀b∈[O.heap.objs.size+1,O.heap.objs.size],iI X pins H1 b:=λb F=>by
   rcases mem_cons.mp F with rfl|F
   ·exact J.fpOk @dM (J.hok.fresh @dM)
   ·rw [mem_singleton.mp F];exact J.fpOk @e @bW
  rcases S with ⟨xs,L,q⟩|⟨xs,L,q⟩
  ·obtain ⟨its,U,p,hz⟩:=J.list L;rwa[call_enumerate_list p.isList λh' h1 h2 W j=> ?_];exact wpAny_pyIter_enum h1 ⟨_,[O.heap.objs.size+1,O.heap.objs.size],_,_,H1,rfl,J.kept (t':=O.toks) j,Dl a _ _,⟨⟨_,h1⟩,h2⟩,fp,q⟩
  ·obtain ⟨its,U,p,hz⟩:=J.tuple L;rwa[rX (show O.heap.IsTuple a its.toArray from p) λh' h1 h2 W j=> ?_];exact wpAny_pyIter_enum h1 ⟨_,[O.heap.objs.size+1,O.heap.objs.size],_,_,H1,rfl,J.kept (t':=O.toks) j,Dj a _ _,⟨⟨_,h1⟩,h2⟩,fp,q⟩
 |_=>exact False.elim S
section
variable {X:Cx}{K:Fg}
def Ro:List V->Hp->VK->Prop:=λxs H Q=>match xs with|[.int i]=>Q (.int (if i<0 then -i else i)) H|_=>False
theorem Oc:bc X (.builtin "abs") Ro:=Gw.imp λxs H Q h=>by
 match xs,h with
 |[.int i],h=>exact ⟨i,rfl,h⟩
theorem AO {R:List Int}:∀ {us:List Value},aH @ev us->IntsAre us R:=by
 induction R with
 |nil=>intro us r;cases r;exact .nil
 |cons a r ih=>
  intro us h
  cases h with
  |cons r1 r2=>
   obtain ⟨t,rfl⟩:=r1;exact .cons _ _ (ih r2)
def R9 (K:Fg)(a:Addr)(j:Int)(H:Hp)(Q:VK):Prop:=∃ns:List Int,az K H a @bF/\Q (.int (ns.count j:Nat)) H
def K3 (K:Fg):V->List V->Hp->VK->Prop:=λx xs H Q=>match x,xs with| .ref a,[.int j]=>R9 K a j H Q|_,_=>False
theorem Hm (F:X.K=K):xS X "list.count" (K3 K):=by
 subst F;intro pins s σ H x xs v S Q I J B h
 match x,xs,h with
 | .ref a,[.int j],h=>
   obtain ⟨R,L,q⟩:=h;have J:v=Value.ref a:=J;subst J;obtain ⟨u,rfl,t,rfl⟩:=fg B;obtain ⟨its,z,p,O⟩:=I.list L;rwa[count_list_ints p.isList (AO z) ?_];exact ⟨.int (R.count j:Nat),H,I.tok _,⟨_,rfl⟩,q⟩
end
theorem oq.two {X:Cx}{j R:Str}{Y c1:Addr}{S O:Nat}{J:List (Str×Addr)}(B:(j==R)=false)(n0:X.N[S]? =some j)(n1:X.N[O]? =some R)(k0:X.env.scope.names.lookup j=some .cell)(k1:X.env.scope.names.lookup R=some .cell)
(e0:X.env.cells.lookup j=some Y)(Z:X.env.cells.lookup R=some c1)(h:J=[(j,Y),(R,c1)]\/J=[(R,c1),(j,Y)]):oq X [j,R] [S,O] J:=by
 have I:(R==j)=false:=by
  cases z:R==j with
  |false=>rfl
  |true=>rw [eq_of_beq z] at B;rw [beq_self_eq_true] at B;cases B
 have U:J.lookup j=some Y:=by
  rcases h with rfl|rfl
  ·simp [List.lookup]
  ·simp [List.lookup,B]
 have W:J.lookup R=some c1:=by
  rcases h with rfl|rfl
  ·simp [List.lookup,I]
  ·simp [List.lookup]
 rwa[⟨λi x F=> ?_,λx c e=> ?_⟩]
 ·match i,F with
  |0,F=>cases F;exact ⟨S,Y,rfl,n0,k0,e0,U⟩
  |1,F=>cases F;exact ⟨O,c1,rfl,n1,k1,Z,W⟩
 ·have F:x=j\/x=R:=by
   rcases h with rfl|rfl
   ·cases z:x==j with
    |true=>exact .inl (eq_of_beq z)
    |false=>
     cases L:x==R with
     |true=>exact .inr (eq_of_beq L)
     |false=>simp [List.lookup,z,L] at e
   ·cases z:x==j with
    |true=>exact .inl (eq_of_beq z)
    |false=>
     cases L:x==R with
     |true=>exact .inr (eq_of_beq L)
     |false=>simp [List.lookup,z,L] at e
  rcases F with rfl|rfl
  ·rw [U] at e;cases e;exact ⟨by simp,e0⟩
  ·rw [W] at e;cases e;exact ⟨by simp,Z⟩
theorem xn {P:Program}{w:World}{K:Frag}{mg:Str->Option Value}{base:Heap}{k:Nat}{f c:Addr}{x:Str}{st:Stmt}{Z O I U F:Value}{W od:Option Addr}{aa:Array @J}{N ps:List Str}{sp:Sp}
(j:K.lookup f=some ⟨F,od,.func (fnOf x x @dN @cP @bK .none Z O I W (.ref c) U),aa⟩)(B:codeIn K (.ref c) x=true)(S:ai N ps @bK)(Y:∀vs H Q E,sp vs H Q E->vs.length=ps.length)
(L:∀(A:Around) (outer:List Env) (s:Shared) (H:Hp) (vs:List V) (Q:VK) (E:XK),bC k (A.deeper (envOfC x @bK s.heap.objs.size f (.ref c)))->sp vs H Q E->
   ∃t,rj (qP aQ P w K mg base N x @bK f (.ref c) A outer s H E).nox @cP t/\t {nx:=λ_ H'=>Q .non H',rt:=Q} @cz H):ar P w K mg base aQ (k+1) f (fnOf x x @dN @cP @bK .none Z O I W (.ref c) U) ps sp:=by
 rwa[F6 j B S Y λA outer s H vs Q E z R=> ?_];obtain ⟨t,h,q⟩:=L A outer s H vs Q E z R;exact ⟨t,h.nox,q⟩
theorem cO {X:Cx}{s:Stmt}:PS X s @ey:=λ_ _ _ _ _ _ h=>h.elim
theorem xm {K:Fg}{a:Addr}{xs:List V}{g:TG}{tb:TS}{D:m9}{σ:St}{H:Hp}(j:Nat->St->Hp->Prop)(I:j 0 σ H)(F:∀i σ H,i<=xs.length->j i σ H->az K H a xs)
(hs:∀(i:Nat) x σ H T H',xs[i]? =some x->j i σ H->ak H H'->H' T=some (.tup [.int i,x])->g (.ref T) σ H' λσ2 H2=>tb {D with nx:=j (i+1),ct:=j (i+1),bk:=D.nx} σ2 H2)(O:∀σ H,j xs.length σ H->D.nx σ H):zJ (QP K a) g tb D σ H:=by
 rwa[⟨λi m σ H=>m=xs.length - i/\i<=xs.length/\j i σ H,⟨xs.length,by simp,Nat.zero_le _,I⟩,?_⟩];rintro i m σ H ⟨rfl,hi,p⟩;by_cases B:i<xs.length
 ·rwa[.inr ⟨⟨xs,xs[i],F i σ H hi p,by simp [B]⟩,j (i+1),λR H' L=>⟨xs.length - (i+1),by lia,rfl,B,L⟩,λx H' y=> ?_⟩];obtain ⟨T,z,rfl,J,rfl,y⟩:=y;exact hs i z σ _ T _ (y xs (F i σ _ hi p)) p (.upd J) af
 ·have e:i=xs.length:=by lia
  subst e;exact .inl ⟨⟨xs,F _ σ H @e p,Nat.le_refl _⟩,O σ H p⟩
theorem EA {X:Cx}(i:Nat){x:Str}{pos:Pos}(hi:X.N[i]? =some x:=by rfl)(z:X.N.Nodup:=by (conv=>arg 1;whnf);decide+kernel)(j:JN X.env.scope x:=by first|exact Or.inl rfl|exact Or.inr rfl)(B:X.fn x=true\/X.env.scope.names.lookup x=some .local:=by first|exact .inl rfl|exact .inr rfl|assumption):PG X (.Name x pos) (ja i):=u3 z hi j B
theorem Ev {X:Cx}(i:Nat){x:Str}{e:Expr}{te:TE}{pos pos':Pos}(S:PE X e te)(hi:X.N[i]? =some x:=by rfl)(j:X.N.Nodup:=by (conv=>arg 1;whnf);decide+kernel)(z:JN X.env.scope x:=by first|exact Or.inl rfl|exact Or.inr rfl)(hs:swapsWith e (some (.Name x pos')) pos.line X.env=pure false:=by rfl)(B:X.fn x=true\/X.env.scope.names.lookup x=some .local:=by first|exact .inl rfl|exact .inr rfl|assumption):PS X (.Assign [.Name x pos'] e pos) (Du te (ja i)):=bM j hi z S hs B
end L2
local macro_rules|`(tactic|walk_at "l3de")=>`(tactic|first|(show L2.PE _ (.Name _ _) _;first|exact L2.wv 0|exact L2.wv 1|exact L2.wv 2|exact L2.wv 3|exact L2.wv 4|exact L2.wv 5|exact L2.wv 6|exact L2.wv 7|exact L2.wv 8|exact L2.wv 9|exact L2.Az rfl (by assumption) (by assumption)|exact L2.ky rfl (by assumption))|(show L2.PE _ (.Subscript _ (.Slice _ _ _ _) _) _;exact L2.EC (L2.NZ rfl) (by right) (by right) (by right))|(show L2.PE _ (.Subscript _ _ _) _;exact L2.sG (L2.Bj rfl) (by right) (by right) (fun _ _=>rfl))|(show L2.PE _ (.Constant _ _ _) _;first|exact L2.bA|exact L2.cJ|exact L2.i7|exact L2.mE)|(show L2.PE _ (.Call _ _ _ _) _;walk_at "l3dc")|(show L2.PE _ (.BinOp _ _ _ _) _;walk_at "l3db")|(show L2.PE _ (.Tuple _ _ _) _;exact L2.gc (by right))|(show L2.PE _ (.List _ _) _;exact L2.yg (by right))|(show L2.PE _ (.Attribute _ _ _) _;exact L2.KQ rfl (by right))|(show L2.PE _ (.Compare _ _ _ _) _;walk_at "l3dm")|(show L2.PE _ (.IfExp _ _ _ _) _;exact L2.C4 (by right) (by right) (by right))|(show L2.PE _ (.UnaryOp .Not _ _) _;exact L2.C1 rfl (by right))|(show L2.PE _ (.UnaryOp .USub _ _) _;exact L2.O1 L2.N1 (by right))|(show L2.PE _ (.BoolOp _ [_] _) _;exact L2.u4 (by right))|(show L2.PE _ (.BoolOp .And _ _) _;exact L2.tX (by right) (by right))|(show L2.PE _ (.BoolOp .Or _ _) _;exact L2.NY (by right) (by right)))
local macro_rules|`(tactic|walk_at "l3dc")=>Lean.wH "L2.PE _ (.Call (.Name \"len\" _) _ _ _) _~L2.cu (L2.N3 rfl) rfl !a PySem.boot_len !r|L2.PE _ (.Call (.Name _ _) _ _ _) _~L2.cR !a !a !d rfl !r|L2.PE _ (.Call (.Attribute _ \"append\" _) _ _ _) _~L2.gQ rfl PySem.F.plainAttrs_list PySem.F.slot_list_append PySem.F.type_list_append L2.pf !r !r|L2.PE _ (.Call (.Attribute _ \"extend\" _) _ _ _) _~L2.gQ rfl PySem.F.plainAttrs_list PySem.F.slot_list_extend PySem.F.type_list_extend L2.pe !r !r|L2.PE _ (.Call (.Attribute _ \"split\" _) _ _ _) _~L2.gQ rfl PySem.F.plainAttrs_str PySem.F.slot_str_split PySem.F.type_str_split L2.Hk !r !r|L2.PE _ (.Call (.Attribute _ \"join\" _) _ _ _) _~L2.gQ rfl PySem.F.plainAttrs_str PySem.F.slot_str_join PySem.F.type_str_join (L2.yh rfl) !r !r"
local macro_rules|`(tactic|walk_at "l3db")=>Lean.wH "L2.PE _ (.BinOp _ .Add _ _) _~L2.cz (L2.gh rfl) !r !r|L2.PE _ (.BinOp _ .Sub _ _) _~L2.cz L2.Ah !r !r|L2.PE _ (.BinOp _ .Mult _ _) _~L2.cz L2.Ai !r !r|L2.PE _ (.BinOp _ .Mod _ _) _~L2.cz L2.N2 !r !r|L2.PE _ (.BinOp _ .FloorDiv _ _) _~L2.cz L2.KW !r !r|L2.PE _ (.BinOp _ .LShift _ _) _~L2.cz L2.N0 !r !r|L2.PE _ (.BinOp _ .BitAnd _ _) _~L2.cz L2.N9 !r !r|L2.PE _ (.BinOp _ .BitOr _ _) _~L2.cz L2.Q0 !r !r"
local macro_rules|`(tactic|walk_at "l3dm")=>Lean.wH "L2.PE _ (.Compare _ [.Eq] _ _) _~L2.cr (L2.we rfl !a) !r !r (L2.bN _)|L2.PE _ (.Compare _ [.NotEq] _ _) _~L2.cr (L2.C8 rfl !a) !r !r (L2.bN _)|L2.PE _ (.Compare _ [.Lt] _ _) _~L2.cr L2.w_lt !r !r (L2.bN _)|L2.PE _ (.Compare _ [.Gt] _ _) _~L2.cr L2.KS !r !r (L2.bN _)|L2.PE _ (.Compare _ [.LtE] _ _) _~L2.cr L2.wb !r !r (L2.bN _)|L2.PE _ (.Compare _ [.GtE] _ _) _~L2.cr L2.N7 !r !r (L2.bN _)|L2.PE _ (.Compare _ [.In] _ _) _~L2.cr (L2.N6 rfl) !r !r !w|L2.PE _ (.Compare _ [.Is] _ _) _~L2.cr L2.Da !r !r (L2.bN _)|L2.PE _ (.Compare _ [.LtE,.Lt] _ _) _~L2.v8 L2.wb L2.w_lt !r !r !r|L2.PE _ (.Compare _ [.LtE,.LtE] _ _) _~L2.v8 L2.wb L2.wb !r !r !r"
local macro_rules|`(tactic|walk_at "l3dt")=>`(tactic|first|(show L2.PT _ (.Compare _ _ _ _) _;walk_at "l3dn")|(show L2.PT _ (.BoolOp _ _ _) _;exact L2.PW.pt (by right))|(show L2.PT _ (.UnaryOp .Not _ _) _;exact L2.dB (by right))|(show L2.PT _ _ _;exact L2.r9 rfl (by right)))
local macro_rules|`(tactic|walk_at "l3dn")=>Lean.wH "L2.PT _ (.Compare _ [.Eq] _ _) _~L2.cB (L2.we rfl !a) !r !r (L2.bN _)|L2.PT _ (.Compare _ [.Lt] _ _) _~L2.cB L2.w_lt !r !r (L2.bN _)|L2.PT _ (.Compare _ [.Gt] _ _) _~L2.cB L2.KS !r !r (L2.bN _)|L2.PT _ (.Compare _ [.LtE] _ _) _~L2.cB L2.wb !r !r (L2.bN _)|L2.PT _ (.Compare _ [.GtE] _ _) _~L2.cB L2.N7 !r !r (L2.bN _)|L2.PT _ (.Compare _ [.NotEq] _ _) _~L2.cB (L2.C8 rfl !a) !r !r (L2.bN _)|L2.PT _ (.Compare _ [.In] _ _) _~L2.cB (L2.N6 rfl) !r !r !w|L2.PT _ (.Compare _ [.Is] _ _) _~L2.cB L2.Da !r !r (L2.bN _)|L2.PT _ (.Compare _ [.LtE,.Lt] _ _) _~L2.v6 L2.wb L2.w_lt !r !r !r|L2.PT _ (.Compare _ [.LtE,.LtE] _ _) _~L2.v6 L2.wb L2.wb !r !r !r"
local macro_rules|`(tactic|walk_at "l3dd")=>`(tactic|first|(show L2.PE _ _ _;walk_at "l3de")| (show L2.PA _ _ _;first|exact L2.aq|exact L2.av (by right) (by right))| (show L2.PT _ _ _;walk_at "l3dt")| (show L2.PS _ (.Assign [.Name _ _] _ _) _;first|(refine' L2.Ev 0 ?_;walk_at "l3dd")|(refine' L2.Ev 1 ?_;walk_at "l3dd")|(refine' L2.Ev 2 ?_;walk_at "l3dd")|(refine' L2.Ev 3 ?_;walk_at "l3dd")|(refine' L2.Ev 4 ?_;walk_at "l3dd")|(refine' L2.Ev 5 ?_;walk_at "l3dd")|(refine' L2.Ev 6 ?_;walk_at "l3dd")|(refine' L2.Ev 7 ?_;walk_at "l3dd")|(refine' L2.Ev 8 ?_;walk_at "l3dd")|(refine' L2.Ev 9 ?_;walk_at "l3dd")|(refine' L2.Ev 10 ?_;walk_at "l3dd"))| (show L2.PW _ (.BoolOp .And [_] _) _;exact L2.Ay (by right))| (show L2.PW _ (.BoolOp .Or [_] _) _;exact L2.u1 (by right))| (show L2.PW _ (.BoolOp .And _ _) _;exact L2.yd (by right) (by right))| (show L2.PW _ (.BoolOp .Or _ _) _;exact L2.v5 (by right) (by right))| (show L2.PO _ none _;exact L2.Iq)| (show L2.PO _ _ _;exact L2.Hj (by right))| (show L2.PG _ (.Name _ _) _;first|exact L2.EA 0|exact L2.EA 1|exact L2.EA 2|exact L2.EA 3|exact L2.EA 4|exact L2.EA 5|exact L2.EA 6|exact L2.EA 7|exact L2.EA 8|exact L2.EA 9|exact L2.EA 10)| (show L2.PG _ (.Tuple _ _ _) _;exact L2.dh rfl rfl (by right))| (show L2.CN _ [] _;exact L2.cc)| (show L2.CN _ _ _;exact L2.aA (by right) (by right))| (show L2.PI _ _ _ _;exact L2.ye rfl (by right)))
namespace L2
open PySem PySem.Spec PyProof.Rows
section
variable {κ:Type}[DecidableEq κ]
noncomputable def dJ (kvs:List (κ×V))(k:κ):Option V:=(kvs.find? λkv=>decide (kv.1=k)).map (·.2)
noncomputable def fN (kvs:List (κ×V))(k:κ)(v:V):List (κ×V):=
 if (kvs.any λkv=>decide (kv.1=k))=true then kvs.map (λkv=>if kv.1=k then (kv.1,v) else kv) else kvs++[(k,v)]
theorem bT {p:κ×V}{r:List (κ×V)}{k:κ}(e:p.1=k):dJ (p::r) k=some p.2:=by simp [dJ,find?_cons,e]
theorem bU {p:κ×V}{r:List (κ×V)}{k:κ}(e: ¬p.1=k):dJ (p::r) k=dJ r k:=by simp [dJ,find?_cons,e]
theorem jT (k:κ):∀kvs:List (κ×V),(kvs.any λkv=>decide (kv.1=k))=(dJ kvs k).isSome
 |[]=>rfl
 |p::r=>by
  rw [any_cons];by_cases e:p.1=k
  ·simp only [bT e,decide_eq_true e,Bool.true_or,Option.isSome_some]
  ·rw [bU e,decide_eq_false e,Bool.false_or];exact jT k r
theorem wj (k j:κ)(y:V):∀kvs:List (κ×V),dJ (kvs.map λkv=>if kv.1=k then (kv.1,y) else kv) j=(dJ kvs j).map λx=>if j=k then y else x
 |[]=>rfl
 |p::r=>by
  have B:=wj k j y r;rw [map_cons];by_cases h:p.1=k
  ·rw [if_pos h];by_cases e:p.1=j
   ·rw [bT (p:=(p.1,y)) e,bT e,Option.map_some,if_pos (e.symm.trans h)]
   ·rw [bU (p:=(p.1,y)) e,bU e,B]
  ·rw [if_neg h];by_cases e:p.1=j
   ·rw [bT (p:=p) e,bT e,Option.map_some,if_neg (λz=>h (e.trans z))]
   ·rw [bU (p:=p) e,bU e,B]
theorem se (k j:κ)(y:V):∀kvs:List (κ×V),dJ kvs k=none->dJ (kvs++[(k,y)]) j=if j=k then some y else dJ kvs j
 |[],_=>by
  by_cases e:k=j
  ·rw [if_pos e.symm];exact bT (p:=(k,y)) e
  ·rw [if_neg (λz=>e z.symm)];exact bU (p:=(k,y)) e
 |p::r,hn=>by
  rw [cons_append]
  have R: ¬p.1=k:=λz=>by rw [bT z] at hn;cases hn
  rw [bU R] at hn;have B:=se k j y r hn;by_cases e:p.1=j
  ·rw [bT e,bT e,if_neg (λz=>R (e.trans z))]
  ·rw [bU e,bU e,B]
theorem Df (kvs:List (κ×V))(k j:κ)(y:V):dJ @fV j=if j=k then some y else dJ kvs j:=by
 unfold fN;by_cases a:(kvs.any λB=>decide (B.1=k))=true
 ·rw [if_pos a,wj];rw [jT] at a;by_cases e:j=k
  ·obtain ⟨x,z⟩:=Option.isSome_iff_exists.mp a;rw [if_pos e,e,z,Option.map_some,if_pos rfl]
  ·rw [if_neg e]
   cases dJ kvs j with
   |none=>rfl
   |some x=>rw [Option.map_some,if_neg e]
 ·rw [if_neg a];rwa[se k j y kvs ?_];rw [jT] at a
  cases q:dJ kvs k with
  |none=>rfl
  |some x=>rw [q] at a;exact (a rfl).elim
theorem c4 (kvs:List (κ×V))(k:κ)(v:V):(fN kvs k v).length<=kvs.length+1:=by
 unfold fN;split
 ·rw [length_map];lia
 ·rw [length_append,length_cons,length_nil];lia
theorem iZ.isSome_eq {o:Option V}{u:Option Value}(r:iZ o u):o.isSome=u.isSome:=by
 cases o with
 |none=>cases u with
  |none=>rfl
  |some _=>exact (show False from r).elim
 |some _=>cases u with
  |none=>exact (show False from r).elim
  |some _=>rfl
theorem KV.val {kvs:List (κ×V)}{vs:List (κ×Value)}(r:KV kvs vs)(k:κ):iZ @gp (valueAt vs k):=by
 unfold KV at r
 induction r with
 |nil=>exact True.intro
 | @cons p q ps qs h t ih=>
   obtain ⟨h1,h2⟩:=h;by_cases e:p.1=k
   ·have j:q.1=k:=h1.symm.trans e
    have b:valueAt (q::qs) k=some q.2:=by simp [valueAt,find?_cons,j]
    rw [bT e,b];exact h2
   ·have j: ¬q.1=k:=λz=>e @eS
    have b:valueAt (q::qs) k=valueAt qs k:=by simp [valueAt,find?_cons,j]
    rw [bU e,b];exact ih
theorem KV.any {kvs:List (κ×V)}{vs:List (κ×Value)}(r:KV kvs vs)(k:κ):(kvs.any λkv=>decide (kv.1=k))=vs.any λkv=>decide (kv.1=k):=by
 unfold KV at r
 induction r with
 |nil=>rfl
 |cons h t ih=>rw [any_cons,any_cons,ih,h.1]
theorem KV.repl {kvs:List (κ×V)}{vs:List (κ×Value)}(r:KV kvs vs)(k:κ){y:V}{u:Value}(j:ax y u):
 KV (kvs.map λkv=>if kv.1=k then (kv.1,y) else kv) (vs.map λkv=>if kv.1=k then (kv.1,u) else kv):=by
 unfold KV at r ⊢
 induction r with
 |nil=>exact .nil
 | @cons p q ps qs h t ih=>
   rw [map_cons,map_cons];rwa[.cons ?_ ih];obtain ⟨h1,h2⟩:=h;by_cases e:p.1=k
   ·rw [if_pos e,if_pos (h1.symm.trans e)];exact ⟨h1,j⟩
   ·rw [if_neg e,if_neg (λz=>e @eS)];exact ⟨h1,h2⟩
theorem KV.put {kvs:List (κ×V)}{vs:List (κ×Value)}(r:KV kvs vs)(k:κ){y:V}{u:Value}(z:ax y u):KV @fV (stored vs k u):=by
 unfold fN stored;rw [r.any k];by_cases e:(vs.any λB=>decide (B.1=k))=true
 ·rw [if_pos e,if_pos e];exact r.repl k z
 ·rw [if_neg e,if_neg e];exact Paired.snoc r ⟨rfl,z⟩
theorem KV.length {kvs:List (κ×V)}{vs:List (κ×Value)}(r:KV kvs vs):kvs.length=vs.length:=Paired.length r
end
theorem AI {P:Program}{w:World}{k:dg}{u:Value}(r:ax (kV k) u):(bY P w).is k u=true:=by
 cases k with
 |inl i=>obtain ⟨t,e⟩:=(show ∃t,u=Value.int i t from r);subst e;exact w6 P w i t
 |inr x=>obtain ⟨t,e⟩:=(show ∃t,u=Value.str x t from r);subst e;exact w5 P w x t
theorem sO {P:Program}{w:World}:∀ {ks:List dg} {us:List Value},aH @gi us->ItemsAre @db ks us
 |[],_,r=>by rw [map_nil] at r;cases r;exact .nil
 |k::ks,_,r=>by
  rw [map_cons] at r
  cases r with
  |cons h t=>exact .cons (AI h) (sO t)
abbrev KT (H:Hp):List (List dg×V)->List (List dg×Addr×Value)->Prop:=Paired λp q=>p.1=q.1/\H q.2.1=some (.tup (p.1.map kV))/\ax p.2 q.2.2
theorem KT.val {H:Hp}{kvs:List (List dg×V)}{xs:List (List dg×Addr×Value)}(r:KT H kvs xs)(k:List dg):iZ @gp ((atKey xs k).map (·.2)):=by
 induction r with
 |nil=>exact True.intro
 | @cons p q ps qs h t ih=>
   obtain ⟨h1,_,h2⟩:=h;by_cases e:p.1=k
   ·have j:q.1=k:=h1.symm.trans e
    have b:atKey (q::qs) k=some q.2:=by simp [atKey,find?_cons,j]
    rw [bT e,b];exact h2
   ·have j: ¬q.1=k:=λz=>e @eS
    have b:atKey (q::qs) k=atKey qs k:=by simp [atKey,find?_cons,j]
    rw [bU e,b];exact ih
theorem KT.repl {H:Hp}{kvs:List (List dg×V)}{xs:List (List dg×Addr×Value)}(r:KT H kvs xs)(k:List dg){y:V}{u:Value}(j:ax y u):
 KT H (kvs.map λkv=>if kv.1=k then (kv.1,y) else kv) (xs.map (PySem.putAt k u)):=by
 induction r with
 |nil=>exact .nil
 | @cons p q ps qs h t ih=>
   rw [map_cons,map_cons];rwa[.cons ?_ ih];obtain ⟨h1,h2,L⟩:=h;unfold PySem.putAt;by_cases e:p.1=k
   ·rw [if_pos e,if_pos (h1.symm.trans e)];exact ⟨h1,h2,j⟩
   ·rw [if_neg e,if_neg (λz=>e @eS)];exact ⟨h1,h2,L⟩
theorem KT.put {H:Hp}{kvs:List (List dg×V)}{xs:List (List dg×Addr×Value)}(r:KT H kvs xs)(k:List dg){b:Addr}{y:V}{u:Value}(j:H b=some (.tup (k.map kV)))(z:ax y u):
 KT H @fV (storedH xs k b u):=by
 have e:(kvs.any λB=>decide (B.1=k))=(atKey xs k).isSome:=by
  rw [jT,(r.val k).isSome_eq,Option.isSome_map]
 unfold fN storedH;rw [e];by_cases q:(atKey xs k).isSome=true
 ·rw [if_pos q,if_pos q];exact r.repl k z
 ·rw [if_neg q,if_neg q];exact Paired.snoc r ⟨rfl,j,z⟩
theorem KT.keeps {H H':Hp}{kvs:List (List dg×V)}{xs:List (List dg×Addr×Value)}(r:KT H kvs xs)(J:∀b ys,H b=some (.tup ys)->H' b=some (.tup ys)):KT H' kvs xs:=
 Paired.mapP r λ_ _ z=>⟨z.1,J _ _ z.2.1,z.2.2⟩
section
variable {P:Program}{w:World}{H:Hp}{h:Heap}{a:Addr}
theorem J3 {u:HO}(Y:fA P w H h)(e:Rd H a u):bb P w H h a u:=e.ok Y
theorem Kk {kvs:List (dg×V)}(Y:fA P w H h)(e:Rd H a (.dK kvs)):kvs.length<=sizeLine/\(a==sysModules)=false/\∃vs,KV kvs vs/\h.DictOf @db a vs:=
 show bb P w H h a (.dK kvs) from J3 Y e
theorem Kl {kvs:List (dg×V)}(Y:fA P w H h)(e:H a=some (.dK kvs)):kvs.length<=sizeLine/\(a==sysModules)=false/\∃vs,KV kvs vs/\h.DictOf @db a vs:=Kk Y (.inl e)
theorem zz {ks:List dg}(Y:fA P w H h)(e:H a=some (.tup @gi)):(tupleKind @db).is h ks a:=by
 obtain ⟨_,its,r,o,h1,h2,n,L⟩:=(show bb P w H h a (.tup @gi) from Y a _ e);exact ⟨o,its.toArray,n,h1,h2,L,by simpa using sO r⟩
theorem Kj {kvs:List (List dg×V)}(Y:fA P w H h)(e:Rd H a (.dT kvs)):kvs.length<=sizeLine/\(a==sysModules)=false/\
 ∃xs,KT H kvs xs/\h.DictOfH @fe a xs:=by
 obtain ⟨z,y,xs,r,o,es,I,h1,h2,L,F,S⟩:=(show bb P w H h a (.dT kvs) from J3 Y e);rwa[⟨z,y,xs,r,o,es,I,h1,h2,L,F,λx j=> ?_,S⟩]
 have B:∀ {l:List (List dg×V)} {m:List (List dg×Addr×Value)},KT H l m->∀x∈m,(tupleKind @db).is h x.1 x.2.1:=by
  intro l m q
  induction q with
  |nil=>intro x j;exact nomatch j
  | @cons p q ps qs hq t ih=>
    intro x j
    rcases mem_cons.mp j with e|j
    ·subst e;exact zz Y (by rw [<-hq.1];exact hq.2.1)
    ·exact ih x j
 exact B r x j
theorem PQ {kvs:List (List dg×V)}(Y:fA P w H h)(e:H a=some (.dT kvs)):kvs.length<=sizeLine/\(a==sysModules)=false/\
 ∃xs,KT H kvs xs/\h.DictOfH @fe a xs:=Kj Y (.inl e)
end
def G5 (H:Hp)(a:Addr)(y:V)(r:Option V):Prop:=
 (∃kvs k,Rd H a (.dK kvs)/\y=kV k/\r=dJ kvs k)\/∃kvs k b,Rd H a (.dT kvs)/\y= .ref b/\H b=some (.tup (k.map kV))/\r=dJ kvs k
def G4 (H:Hp)(a:Addr)(y v:V)(H':Hp):Prop:=
 (∃kvs k,H a=some (.dK kvs)/\y=kV k/\kvs.length<sizeLine/\H'=upd H a (.dK @fW))\/
 ∃kvs k b,H a=some (.dT kvs)/\y= .ref b/\H b=some (.tup (k.map kV))/\kvs.length<sizeLine/\H'=upd H a (.dT @fW)
theorem G5.k {H:Hp}{a:Addr}{kvs:List (dg×V)}{k:dg}(e:H a=some (.dK kvs)):G5 H a (kV k) @gp:= .inl ⟨kvs,k,.inl e,rfl,rfl⟩
theorem G4.k {H:Hp}{a:Addr}{kvs:List (dg×V)}{k:dg}{v:V}(e:H a=some (.dK kvs))(W:kvs.length<sizeLine):G4 H a (kV k) v (upd H a (.dK @fW)):= .inl ⟨kvs,k,e,rfl,W,rfl⟩
section
variable {X:Cx}{pins:List (Addr×Obj)}{σ:St}{H:Hp}{s:Shared}{a:Addr}{y v:V}{u r:Value}{o:Option V}{A:Around}{E:Value->Shared->Prop}
theorem au.big (I:au X pins σ H s):sysModules<s.heap.objs.size:=by
 have h:mainGlobals<s.heap.objs.size:=(I.mod.glob.keeps I.bk).lt;exact Nat.lt_trans @b h
theorem R8 {Q:Value->Shared->Prop}(O:A.units+1<cLine)(I:au X pins σ H s)(g:G5 H a y o)(F:ax y u)(h:∀s',au X pins σ H s'->Q (.bool o.isSome) s'):
 wpAny @d A (compareOp .In u (.ref a)) Q E s:=by
 rcases g with ⟨kvs,k,e,B,l⟩|⟨kvs,k,b,e,B,L,l⟩
 ·subst B;obtain ⟨z,J,R,j,U⟩:=Kk I.hok e;rwa[wpAny_in_of (AI F) J U.mapOf ?_];rw [<-(j.val k).isSome_eq,<-l];exact h _ @fi
 ·subst B;cases (show u=Value.ref b from F);obtain ⟨z,J,xs,j,U⟩:=Kj I.hok e;rwa[wpAny_in_heap (tupleKind_room_in1 O) (zz I.hok L) J U ?_];have q:=(j.val k).isSome_eq;rw [Option.isSome_map] at q;rw [<-q,<-l];exact h _ @fi
theorem oZ {h':Heap}{t':Nat}{j:HO}(I:au X pins σ H s)(J:Qi (H a))(hs:Heap.SameBut a s.heap h')(S:∃q,h'.get? a=some q)(B:bb X.prog X.w (upd H a j) h' a j):
 au X pins σ (upd H a j) {s with heap:=h',toks:=t'}:=
 I.write (x:=a) (e:=a) J (.inl rfl) (λb q F z=>(hs.2 b F).trans z) S B
theorem zQ {P:Program}{w:World}{H':Hp}{h':Heap}{kvs:List (dg×V)}{vs:List (dg×Value)}(z:kvs.length<=sizeLine)(J:(a==sysModules)=false)(j:KV kvs vs)(dd:h'.DictOf @db a vs):
 bb P w H' h' a (.dK kvs):=⟨z,J,vs,j,dd⟩
theorem Cw {H':Hp}{Q:Unit->Shared->Prop}(hu:A.units+1<cLine)(I:au X pins σ H s)(g:G4 H a y v H')(ry:ax y u)(S:ax v r)(h:∀s',au X pins σ H' s'->Q () s'):
 wpAny @d A (setItem (.ref a) u r) Q E s:=by
 rcases g with ⟨kvs,k,e,R,l,J⟩|⟨kvs,k,b,e,R,Y,l,J⟩
 ·subst R J;obtain ⟨z,O,vs,j,U⟩:=Kl I.hok e
  have F:vs.length<=sizeLine:=by rw [<-j.length];exact z
  have W:(fN kvs k v).length<=sizeLine:=by have:=c4 kvs k v;lia
  rwa[wpAny_setItem_pairs (hsz:=F) (AI ry) U λh' B hs=>h _ ?_];have he:∃q,h'.get? a=some q:=let ⟨q,_,_,L,_⟩:=B;⟨q,L⟩;exact oZ I (by rw [e];exact True.intro) hs he (zQ W O (j.put k S) B)
 ·subst R J;cases (show u=Value.ref b from ry);obtain ⟨z,O,xs,j,U⟩:=PQ I.hok e
  have F:xs.length<=sizeLine:=by rw [<-Paired.length j];exact z
  have W:(fN kvs k v).length<=sizeLine:=by have:=c4 kvs k v;lia
  rwa[wpAny_setItem_heap (hsz:=F) (tupleKind_room_in1 hu) (zz I.hok Y) U λh' B hs=>h _ ?_];obtain ⟨q,es,ep,L,h2,h3,h4,_,h5⟩:=B;rwa[oZ I (by rw [e];exact True.intro) hs ⟨q,L⟩ ⟨W,O,_,(j.put k Y S).keeps λc ys Z=> ?_,q,es,ep,L,h2,h3,h4,h5⟩];rw [ag (Po Z e (λz=>nomatch z))];exact Z
end
def Qh (i:Expr):Prop:=∀ov iv,subscripted i false ov iv=operate [ov,iv] (getItem ov iv)
theorem Hy {prog:Program}{w:World}{A:Around}{E:Value->Shared->Prop}{s:Shared}{env:Env}{value J:Expr}{pos:Pos}{T id:String}{Q:Value->Shared->Prop}
(W:typeLookup (.type T) "__getitem__"=pure (some (.builtin id)))(hs:Qh J)
(h:wpAny @i A (eval value env) (λo s₁=>wpAny @i A (eval J env) (λi s₂=>s₂.TypeIs o T/\wpAny @i A (getItem o i) Q E s₂) E s₁) E s):
 wpAny @i A (eval (.Subscript value J pos) env) Q E s:=by
 rwa[Subscript_ (wpAny_mono h (λo s₁ F=>wpAny_mono F (λi s₂ j=> ?_) λ_ _ x=>x) λ_ _ x=>x)];obtain ⟨O,j⟩:=j;unfold subscriptTail;rwa[wpAny_bind ?_];rw [getitemInPython_of_ne O.not_modules];rwa[wpAny_bind (wpAny_specialOf O W ?_)]
 have z:wpAny @i A (subscripted J false o i) (λr U=>wpAny @i A (letTemporaryGo value o r>>=λ_=>pure r) Q E U) E s₂:=by
  rw [hs o i];exact wpAny_operating (wpAny_mono j (λr U B=>wpAny_bind (wpAny_letTemporaryGo (wpAny_pure B))) λ_ _ x=>x)
 first
  |exact wpAny_pure (wpAny_bind z)
  |exact wpAny_bind (wpAny_pure (wpAny_bind z))
  |exact wpAny_bind z
def RA (ty td:TE):TE:=λσ H Q=>ty σ H λy H1=>td σ H1 λx H2=>∃a o,x= .ref a/\G5 H2 a y o/\Q (.bl o.isSome) H2
def OO (td ty tv:TE):TS:=λD σ H=>tv σ H λv H1=>td σ H1 λx H2=>ty σ H2 λy H3=>∃a H4,x= .ref a/\G4 H3 a y v H4/\D.nx σ H4
section
variable {X:Cx}{o i e value:Expr}{pos pos' tpos:Pos}{td ty tv:TE}
theorem L5 (B:X.A.units+1<cLine)(hi:PE X i ty)(j:PE X o td):PC X .In i o (RA ty td):=by
 intro pins s σ H Q I h;rwa[bj @cr λY S ⟨y,H1,U,z,L⟩=>bj (j pins S σ H1 _ U L) λu Z ⟨x,H2,O,J,a,R,ex,g,W⟩=> ?_];subst ex;obtain rfl:u=Value.ref a:=J;exact R8 B O g z λs3 F=>⟨.bl R.isSome,H2,F,rfl,W⟩
theorem Im (B:X.A.units+1<cLine)(j:PE X o td)(hi:PE X i ty)(W:PE X value tv)(hs:swapsWith value (some (.Subscript o i pos')) pos.line X.env=pure false):
 PS X (.Assign [.Subscript o i pos'] value pos) (OO td ty tv):=by
 intro pins s σ H D I h;rwa[wpAny_Assign_Subscript (bj @cB λr F ⟨v,H1,J,z,q1⟩=>bj (j pins F σ H1 _ J q1) λu R ⟨x,H2,O,rx,q2⟩=>bj (hi pins R σ H2 _ O q2) λiv s3 ⟨y,H3,Z,L,a,Y,ex,g,S⟩=> ?_) hs];subst ex;obtain rfl:u=Value.ref a:=rx;exact Cw B Z g L z λs4 U=>⟨σ,Y,U,S⟩
end
structure M1 (X:Cx)(o:Expr)(m:Str)(apos:Pos)(e:Expr)(cpos:Pos):Prop where
 base:attributeBase o m X.env @fy=eval o X.env
 few:((backTo cpos (starEach [e] X.env)).all (λx=> !x.1)&&(backToKw cpos @dx).all @eh
  &&decide (([e]:List Expr).length+([]:List Keyword).length+(if ([]:List Keyword).isEmpty then 0 else 1)<30))=true
 line:(apos.endLine==cpos.line)=true
 trees:backTo cpos (starEach [e] X.env)=[(false,eval e X.env)]
structure M2 (X:Cx)(o:Expr)(m:Str)(apos:Pos)(e f:Expr)(cpos:Pos):Prop where
 base:attributeBase o m X.env @fy=eval o X.env
 few:((backTo cpos (starEach [e,f] X.env)).all (λx=> !x.1)&&(backToKw cpos @dx).all @eh
  &&decide (([e,f]:List Expr).length+([]:List Keyword).length+(if ([]:List Keyword).isEmpty then 0 else 1)<30))=true
 line:(apos.endLine==cpos.line)=true
 trees:backTo cpos (starEach [e,f] X.env)=[(false,eval e X.env),(false,eval f X.env)]
end L2
namespace PySem
namespace F
theorem lk_list_keys:typeLookup (.type "list") "keys"=pure none:=by rw [typeLookup_type,builtinLookup_eq_fast];kernel_rfl
theorem lk_list_hook:typeLookup (.type "list") "__getattr__"=pure none:=by rw [typeLookup_type,builtinLookup_eq_fast];kernel_rfl
theorem sub_attr_attr:isSubtype (.type "AttributeError") (.type "AttributeError")=pure true:=by rw [isSubtype_type];kernel_rfl
theorem attr_first:((Manifest.find? "AttributeError").elim false λt=>t.mro.contains "StopIteration"||t.mro.contains "SystemExit")=false:=by decide+kernel
end F
section
variable {α:Type}{prog:Program}{w:World}{A:Around}{E:Value->Shared->Prop}{s:Shared}
theorem B4 {e:Addr}{o name:Value}{vs:Array Value}{z:Option Addr}{sl:Array @J}{Q:Unit->Shared->Prop}(S:s.heap.get? e=some ⟨.type "AttributeError",z,.fields vs,sl⟩)(J:vs[6]? =some unsetMember)(R:vs[7]? =some unsetMember)
(L:Q () {s with heap:=s.heap.update e (Obj.mapFields λvs=>vs.extract 0 6++ #[name,o])}):wpAny @i A (noteAttr (.ref e) o name) Q E s:=by
 have O:s.TypeIs (.ref e) "AttributeError":=⟨_,S,rfl⟩;unfold noteAttr lacksNameAndObj;rwa[wpAny_bind ?_];rwa[wpAny_bind (wpAny_isInstance O F.sub_attr_attr ?_)];simp only [Bool.not_true,Bool.false_eq_true,if_false];rwa[wpAny_bind (wpAny_load S ?_)];simp only [J,R];have j:unsetMember=Value.int 0 0:=rfl;rw [j];simp only [Bool.or_self,Bool.false_eq_true,if_false];rw [if_neg @b];rwa[wpAny_pure ?_];simp only [if_true];rwa[wpAny_bind (wpAny_rule ?_)];rwa[wpAny_bind (wpAny_typeOf O ?_)];exact wpAny_layMembers S rfl L
theorem y4 {o:Value}{name j:Str}{Q:α->Shared->Prop}(I:A.handled=none)(R:j.length<=sizeLine)(L:∀e h' t',(∀b ob,s.heap.get? b=some ob->h'.get? b=some ob)->(∃ob,h'.get? e=some ob/\ob.cls= .type "AttributeError")->E (.ref e) {s with heap:=h',toks:=t'}):
 wpAny @i A (raiseAttrError o name j:Sem α) Q E s:=by
 unfold raiseAttrError;rwa[wpAny_bind (wpAny_mkStr ?_ R)];rwa[wpAny_bind ?_];unfold newExc newTuple;rwa[wpAny_bind (wpAny_newObj_type ?_ (by show (1:Nat)<=sizeLine;exact L2.bq @b))];rwa[wpAny_bind (m:=firstArgMember _ _) (wpAny_of_eq (a:=Value.none) (by simp only [firstArgMember,F.attr_first];rfl) ?_)];rwa[wpAny_newObj_type ?_];rwa[wpAny_bind (wpAny_mkText ?_)];rwa[wpAny_bind ?_];generalize B:(s.heap.push {cls:= .type "tuple",data:= .seq #[Value.str j s.toks]})=h1
 have O:∀b ob,s.heap.get? b=some ob->h1.get? b=some ob:=λb ob z=>by rw [<-B];exact Heap.get?_push_of_some _ z
 show wpAny @i A (noteAttr (.ref h1.objs.size) o _) _ _ {s with heap:=h1.push {cls:= .type "AttributeError",data:= .fields #[Value.ref s.heap.objs.size,.none,.none,.none,.bool false,.none,unsetMember,unsetMember]},toks:=s.toks+1+1};rwa[B4 (vs:= #[Value.ref s.heap.objs.size,.none,.none,.none,.bool false,.none,unsetMember,unsetMember]) (Heap.get?_push_size _ rfl) rfl rfl ?_];rwa[wpAny_raiseNew_none I ?_];have S:=Heap.SameBut.update (h1.push {cls:= .type "AttributeError",data:= .fields #[Value.ref s.heap.objs.size,.none,.none,.none,.bool false,.none,unsetMember,unsetMember]}) h1.objs.size (Obj.mapFields λJ=>J.extract 0 6++ #[Value.str name (s.toks+1),o]);rwa[L h1.objs.size _ _ (λb ob z=> ?_) ?_]
 ·rw [S.2 b (Nat.ne_of_lt (Heap.lt_size (O b ob z)))];exact Heap.get?_push_of_some _ (O b ob z)
 ·exact ⟨_,Heap.get?_update_self _ (Heap.get?_push_size _ rfl) rfl,rfl⟩
end
section
variable {prog:Program}{w:World}{A:Around}{E:Value->Shared->Prop}{h:Heap}{g:Array GenState}{d:Drawn}{t:Nat}{os:OsState}{a:Addr}{its:Array Value}{n:Nat}{sl:Array @J}
theorem oB {tk:Tok}{Q:Fin->Shared->Prop}(L:A.handled=none)(z:h.get? a=some ⟨.type "list",none,.seq its n,sl⟩)(j:∀e h' t',(∀b ob,h.get? b=some ob->h'.get? b=some ob)->(∃ob,h'.get? e=some ob/\ob.cls= .type "AttributeError")->E (.ref e) ⟨h',g,d,t',os⟩):
 wpAny @i A (Builtin.«object.__getattribute__» ⟨[.ref a,.str "keys" tk],[]⟩) Q E ⟨h,g,d,t,os⟩:=by
 have O:(⟨h,g,d,t,os⟩:Shared).TypeIs (.ref a) "list":=⟨_,z,rfl⟩;have Y:=F.lk_list_keys
 repeat (any_goals (first|assumption|with_reducible refine y4 L ?_ ?_|wp_step))
 all_goals first|exact L2.bq @z|exact j
theorem qz {tk:Tok}{R:Result->Shared->Prop}(L:A.handled=none)(z:h.get? a=some ⟨.type "list",none,.seq its n,sl⟩)(j:∀e h' t',(∀b ob,h.get? b=some ob->h'.get? b=some ob)->(∃ob,h'.get? e=some ob/\ob.cls= .type "AttributeError")->R (.error (.ref e)) ⟨h',g,d,t',os⟩):
 codeAny @i A (.call (.builtin "list.__getattribute__") ⟨[.ref a,.str "keys" tk],[]⟩) R ⟨h,g,d,t,os⟩:=
 codeAny_call_builtin F.slot_list_getattribute.plain F.entry_list_ga (F.slot_list_getattribute.check _ _ _ _ _ _ _ _ (show (⟨h,g,d,t,os⟩:Shared).TypeIs (.ref a) "list" from ⟨_,z,rfl⟩) (F.args_list_getattribute_2 _ _) (oB L z j))
theorem qA {Q:Option Value->Shared->Prop}(I:A.handled=none)(j:h.get? a=some ⟨.type "list",none,.seq its n,sl⟩)(J:∀h' t',(∀b ob,h.get? b=some ob->h'.get? b=some ob)->Q none ⟨h',g,d,t',os⟩):wpAny @i A (getAttr? (.ref a) "keys") Q E ⟨h,g,d,t,os⟩:=by
 have S:(⟨h,g,d,t,os⟩:Shared).TypeIs (.ref a) "list":=⟨_,j,rfl⟩;have O:=F.slot_list_getattribute.lookup;have W:=F.slot_list_getattribute.bind (.ref a);have Z:=F.lk_list_hook;unfold getAttr? getAttrBy?
 repeat (any_goals (first|assumption|wp_step))
 rwa[qz I j (λe h' t' k x=> ?_)];have B:(⟨h',g,d,t',os⟩:Shared).TypeIs (.ref e) "AttributeError":=x;have L:=F.sub_attr_attr;have z:=J h' t' k;show wpAny _ _ (getattributeRaised _ _ _ _ _ _ _) _ _ _;unfold getattributeRaised;rwa[wpAny_bind (wpAny_isInstance B L ?_)];simp only [if_true]
 have R:hookBehind (.type "list") none=pure none:=by unfold hookBehind;rw [if_neg @b,Z]
 rwa[wpAny_bind ?_];show wpAny _ _ (hookBehind (.type "list") none) _ _ _;rw [R];rwa[wpAny_pure ?_];unfold hookOrError attributeErrorLeaves;simp only [Bool.not_false,if_true];rwa[wpAny_throw ?_];rwa[wpAny_bind (wpAny_isInstance B L ?_)];simp only [if_true];exact wpAny_pure z
end
end PySem
namespace PySem
namespace F
theorem entry_dul:entryFor table "dict.update.loop"=some Builtin.«dict.update.loop»:=entryFor_of_tree @j
theorem plain_dul:plainId "dict.update.loop"=true:=by decide+kernel
end F
end PySem
namespace L2
open PySem PySem.Spec PyProof.Rows
noncomputable def fQ (kvs ps:List (dg×V)):List (dg×V):=ps.foldl (λa p=>fN a p.1 p.2) kvs
theorem Jx {X:Cx}{pins:List (Addr×Obj)}{σ:St}{l It dd:Addr}{xs:List V}{R:Result->Shared->Prop}{A:Around}(hh:A.handled=none)
(ak:X.s₀.heap.objs.size<=It)(ae:∀p∈X.pn++pins,p.1≠It):
 ∀(r j:Nat) (s:Shared) (H:Hp) (kvs ps:List (dg×V)) (t:Tok) (oI:Obj),xs.length - j=r->j<=xs.length->
  au X ((It,oI)::pins) σ H s->H l=some (.lst xs)->s.heap.IsListIter It l j->H dd=some (.dK kvs)->Paired (λx (p:dg×V)=>∃b,x=V.ref b/\H b=some (.tup [kV p.1,p.2])) (xs.drop j) ps->kvs.length+ps.length<sizeLine->
  (∀s',au X pins σ (upd H dd (.dK (fQ kvs ps))) s'->R (.ok (.ret .none)) s')->
  codeAny @d A (.builtin "dict.update.loop" ⟨[.ref dd,.ref It,.int j t,.none],[]⟩) R s:=by
 intro r
 induction r with
 |zero=>
  intro j s H kvs ps t oI hr hj I L aj hd hp hz hR
  have ej:j=xs.length:=by lia
  subst ej;rw [drop_length] at hp;cases hp;obtain ⟨us,ad,aa⟩:=iN I L
  have S:us.toArray.size=xs.length:=by rw [size_toArray,ad.length]
  have O:=I.pin (It,oI) @B
  have al:l≠It:=λz=>by have:=O.2.1;rw [<-z,L] at this;cases this
  have W:=Walks.list (prog:=X.prog) (w:=X.w) (A:=A.in1) hh It l al us.toArray;rwa[codeAny_builtin PySem.F.entry_dul ?_];rw [Around.under_plainId PySem.F.plain_dul _];show wpAny _ A.in1 (pyNext (.ref It)>>=_) _ _ _;rwa[wpAny_bind (W.done _ _ _ ⟨by rw [S];exact aj,aa⟩ λh1 ab U=> ?_)];have U:∀b u,b≠It->s.heap.get? b=some u->h1.get? b=some u:=λb u n e=>U b u (by simpa using n) e;have I0:au X pins σ H s:=I.sub λp hp=> .tail _ hp
  have as:∀x c,X.env.cells.lookup x=some c->c≠It:=λx c e z=>by
   obtain ⟨v,oc,h1,h2⟩:=I.cell x c e;rw [z,O.1] at h1;cases h1;exact O.2.2.2.2 v h2
  have I1:au X pins σ H {s with heap:=h1,toks:=ab}:=I0.turned (it:=It) U O.2.1 O.2.2.1 (.inr ak) as ae
  have eH:upd H dd (.dK (fQ kvs []))=H:=by
   funext b
   unfold upd fQ;split
   ·rename_i e;rw [e,hd];rfl
   ·rfl
  rw [eH] at hR;exact wpAny_bind (wpAny_pure (wpAny_pure (hR _ I1)))
 |succ r ih=>
  intro j s H kvs ps t oI hr hj I L aj hd hp hz hR
  have Z:j<xs.length:=by lia
  obtain ⟨us,ad,aa⟩:=iN I L
  have S:us.toArray.size=xs.length:=by rw [size_toArray,ad.length]
  have O:=I.pin (It,oI) @B
  have al:l≠It:=λz=>by have:=O.2.1;rw [<-z,L] at this;cases this
  have W:=Walks.list (prog:=X.prog) (w:=X.w) (A:=A.in1) hh It l al us.toArray;rw [drop_eq_getElem_cons Z] at hp
  obtain ⟨B,J,rfl,⟨b,eb,hb⟩,aC⟩:∃B J,ps=B::J/\(∃b,xs[j]=V.ref b/\H b=some (.tup [kV B.1,B.2]))/\Paired (λx (p:dg×V)=>∃b,x=V.ref b/\H b=some (.tup [kV p.1,p.2])) (xs.drop (j+1)) J:=by
   cases hp with
   |cons a c=>exact ⟨_,_,rfl,a,c⟩
  rwa[codeAny_builtin PySem.F.entry_dul ?_];rw [Around.under_plainId PySem.F.plain_dul _];show wpAny _ A.in1 (pyNext (.ref It)>>=_) _ _ _;rwa[wpAny_bind (W.item j _ _ _ (by rw [S];exact Z) ⟨aj,aa⟩ λu h1 ab hP aE U=> ?_)]
  have hu:us[j]? =some u:=by simpa using hP
  have ru:ax (V.ref b) u:=by
   obtain ⟨u',av,ru⟩:=ad.get (show xs[j]? =some (V.ref b) by rw [getElem?_eq_getElem Z,eb]);rw [hu] at av;cases av;exact ru
  cases (show u=Value.ref b from ru);obtain ⟨Y,aH,ay,ai⟩:=id aE.1;have U:∀b u,b≠It->s.heap.get? b=some u->h1.get? b=some u:=λb u n e=>U b u (by simpa using n) e
  have I1:au X ((It,Y)::pins) σ H {s with heap:=h1,toks:=ab}:=
   I.repin (t':=ab) ak ae U aH λv e=>by rw [ai] at e;cases e
  obtain ⟨its,ao,ht,aI⟩:=I1.tuple (aD.of hb)
  obtain ⟨ku,vu,ah,rk,rv⟩:∃ku vu,its=[ku,vu]/\ax (kV B.1) ku/\ax B.2 vu:=by
   cases ao with|cons a t1=>cases t1 with|cons b t2=>cases t2;exact ⟨_,_,rfl,a,b⟩
  subst ah;show wpAny _ A.in1 (holding [Value.ref b] _>>=_) _ _ _;rwa[wpAny_bind (wpAny_holding ?_)];rwa[wpAny_bind (wpAny_tryCatch ?_)];unfold Builtin.Dict.pairItems;rwa[wpAny_bind (wpAny_typeOf ht.typeIs ?_)];rw [if_pos @b];obtain ⟨ot,aB,aG,nt,ar⟩:=id ht;rwa[wpAny_bind (wpAny_seqItems aB ar @bu)];show wpAny _ A.in1 (holding [ku,vu] (dictSet dd ku vu)) _ _ _;rwa[wpAny_holding ?_];obtain ⟨zk,an,vs,am,aA⟩:=Kl I1.hok hd
  have ap:vs.length<=sizeLine:=by rw [<-am.length];exact zk
  have aw:(fN kvs B.1 B.2).length<=sizeLine:=by have:=c4 kvs B.1 B.2;rw [length_cons] at hz;lia
  rwa[wpAny_dictSet_pairs (hsz:=ap) (AI rk) aA λh2 ac aq=> ?_];have he:∃q,h2.get? dd=some q:=let ⟨q,_,_,hq,_⟩:=ac;⟨q,hq⟩;have I2:=oZ (t':=ab+1) I1 (by rw [hd];exact True.intro) aq he (zQ aw an (am.put B.1 rv) ac);have aF:=I2.pin (It,Y) @B
  have az:l≠dd:=λz=>by rw [z,hd] at L;cases L
  rwa[wpAny_pure ⟨plainId_quiet PySem.F.plain_dul _,?_⟩];rwa[ih (j+1) _ (upd H dd (.dK @gr)) @gr J _ Y @c @c I2 (by rw [ag az];exact L) ⟨Y,aF.1,ay,ai⟩ af (Paired.imp' (λx p ⟨c,ec,hc⟩=>⟨c,ec,by rw [ag (λz=>by rw [z,hd] at hc;cases hc)];exact hc⟩) aC) ?_ ?_]
  ·have:=c4 kvs B.1 B.2;rw [length_cons] at hz;lia
  ·intro s' I';rw [Ak] at I';exact hR s' I'
def Km (l:Addr)(H:Hp)(Q:VK):Prop:=∃(xs:List V) (ps:List (dg×V)),H l=some (.lst xs)/\Paired (λx (p:dg×V)=>∃b,x=V.ref b/\H b=some (.tup [kV p.1,p.2])) xs ps/\ps.length<sizeLine/\∀d,H d=none->Q (.ref d) (upd H d (.dK (fQ [] ps)))
theorem Cy {X:Cx}{pins:List (Addr×Obj)}{σ:St}{H:Hp}{s:Shared}{l:Addr}{Q:VK}(hh:X.A.handled=none)(I:au X pins σ H s)(hP:Km l H Q){E:Value->Shared->Prop}:
 wpAny @d X.A (call (.type "dict") [.ref l]) @u E s:=by
 obtain ⟨xs,ps,Y,Z,hz,q⟩:=hP;rwa[callType_codes (Q₁:=λL s₁=>L= .ref s.heap.objs.size/\s₁= {s with heap:=s.heap.push {cls:= .type "dict",data:= .dict #[]}}) PySem.F.kt_called_dict (PySem.F.kt_typeCall_dict_1 _) PySem.F.entry_dict_init (kt_code_dict_new _ ⟨rfl,rfl⟩) ?_];rintro L s₁ ⟨rfl,rfl⟩;generalize hd:s.heap.objs.size=U
 have nd:H U=none:=by rw [<-hd];exact I.hok.fresh @e
 have j:(s.heap.push {cls:= .type "dict",data:= .dict #[]}).DictOf (bY X.prog X.w) U []:=by rw [<-hd];exact Heap.DictOf.new s.heap
 have I1:au X pins σ @cU {s with heap:=s.heap.push {cls:= .type "dict",data:= .dict #[]}}:=by
  have z:=I.laid (a:=s.heap.objs.size) (o:= .dK []) (t':=s.toks) (h':=s.heap.push {cls:= .type "dict",data:= .dict #[]}) (λb q hq=>Heap.get?_push_of_some _ hq) @e (zQ @fm (beq_eq_false_iff_ne.mpr @cu) .nil (Heap.DictOf.new s.heap));rw [hd] at z;exact z
 rwa[⟨j.typeIs,PySem.F.args_dict_init_2 _ _,?_⟩];unfold Builtin.«dict.__init__»;rwa[wpAny_bind ?_];unfold Builtin.Dict.selfAndRest;rwa[wpAny_bind (wpAny_notOrdered_dict j.typeIs ?_)];show wpAny _ _ (pure (U,[Value.ref l])) _ _ _;rwa[wpAny_pure ?_];show wpAny _ _ (Builtin.Dict.updateFrom "dict.__init__" U (.ref l) [] .none) _ _ _;unfold Builtin.Dict.updateFrom
 have az:l≠U:=λz=>by rw [z,nd] at Y;cases Y
 have B:upd H U (.dK []) l=some (.lst xs):=by rw [ag az];exact Y
 obtain ⟨_,us,n,ac,ad⟩:=(show bb X.prog X.w _ _ l (.lst xs) from I1.hok l _ B);have W:({s with heap:=s.heap.push {cls:= .type "dict",data:= .dict #[]}}:Shared).TypeIs (.ref l) "list":=⟨_,ad,rfl⟩;rwa[wpAny_bind (wpAny_typeOf W ?_)];rw [if_pos @b];rwa[wpAny_bind (qA (by exact hh) ad λh' R k=> ?_)];rw [if_pos (show (none:Option Value).isNone=true from rfl)];rwa[wpAny_bind (wpAny_rule ?_)];have J:au X pins σ @cU {s with heap:=h',toks:=R}:=I1.kept (t':=R) k;obtain ⟨ab,aa,O⟩:=iN J B;rwa[wpAny_bind (wpAny_pyIter_list O ?_)]
 have I3:au X ((h'.objs.size,{cls:= .type "list_iterator",data:= .fields #[.ref l,.int 0 0]})::pins) σ @cU {s with heap:=h'.push {cls:= .type "list_iterator",data:= .fields #[.ref l,.int 0 0]},toks:=R}:=
  J.pinNew (t':=R) (a:=h'.objs.size) @e (λb u e=>Heap.get?_push_of_some _ e) (Heap.get?_push_size _ rfl) λv e=>by cases e
 rwa[wpAny_pure ⟨plainId_quiet PySem.F.plain_dul _,?_⟩];rwa[Jx (A:=X.A.in1) (xs:=xs) (l:=l) (It:=h'.objs.size) (dd:=U) hh J.sz (λp Z=>Nat.ne_of_lt (Heap.lt_size (J.pin p Z).1)) _ 0 _ @cU [] ps _ _ rfl @fm I3 B ⟨_,Heap.get?_push_size _ rfl,rfl,rfl⟩ af ?_ ?_ ?_]
 ·exact Paired.imp' (λx p ⟨c,ec,S⟩=>⟨c,ec,by rw [ag (λz=>by rw [z,nd] at S;cases S)];exact S⟩) Z
 ·rw [length_nil,Nat.zero_add];exact hz
 ·intro s' I';rw [Ak] at I';exact ⟨rfl,V.ref U,_,I',rfl,q U nd⟩
def K2:List V->Hp->VK->Prop:=λxs H Q=>match xs with|[.ref l]=>Km l H Q|_=>False
theorem Hl {X:Cx}(j:X.calm=true):bc X (.type "dict") K2:=by
 intro pins s σ H xs z Q I r h
 match xs,h,r with
 |[.ref l],h,r=>
  cases r with
  |cons a t=>
   cases t;cases (show _=Value.ref l from a);exact Cy @eg I h
end L2
namespace My
open PySem L2 PyProof.Rows
theorem JI (a b:Nat):Builtin.bitAnd (a:Int) (b:Int)=((a&&&b:Nat):Int):=by
 unfold Builtin.bitAnd;simp
theorem L6 (a b:Nat):Builtin.bitOr (a:Int) (b:Int)=((a|||b:Nat):Int):=by
 unfold Builtin.bitOr Builtin.bitAnd Builtin.bitNot
 have h1: ¬(0:Int)<= -(a:Int) - 1:=by lia
 have h2: ¬(0:Int)<= -(b:Int) - 1:=by lia
 simp only [h1,h2,decide_false]
 have S:(-(-(a:Int) - 1) - 1).toNat=a:=by lia
 have R:(-(-(b:Int) - 1) - 1).toNat=b:=by lia
 rw [S,R];lia
theorem testBit_and (M k:Nat):decide (M&&&2^k=0)= !M.testBit k:=by
 have e:(M&&&2^k).testBit k=M.testBit k:=by rw [Nat.testBit_and,Nat.testBit_two_pow_self,Bool.and_true]
 cases h:M.testBit k with
 |true=>
  rw [h] at e;rwa[decide_eq_false λz=> ?_];rw [z] at e;simp at e
 |false=>
  rwa[decide_eq_true (Nat.eq_of_testBit_eq λi=> ?_)];rw [Nat.testBit_and,Nat.zero_testBit];by_cases hi:k=i
  ·subst hi;rw [h];rfl
  ·rw [Nat.testBit_two_pow_of_ne hi,Bool.and_false]
noncomputable def jd (M n:Nat):List Nat:=(List.range n).filter λi=>M.testBit i
theorem jO (M n:Nat):jd M (n+1)=jd M n++if M.testBit n then [n] else []:=by
 unfold jd;rw [range_succ,filter_append];congr 1;cases h:M.testBit n<;>simp [h]
theorem sL {M n i:Nat}:i∈jd M n↔i<n/\M.testBit i=true:=by
 unfold jd;rw [mem_filter,mem_range]
noncomputable def L (M:Nat):Nat:=Builtin.Int.intBits (M:Int)
theorem GS (M:Nat):L M=if M=0 then 0 else M.log2+1:=by
 unfold L Builtin.Int.intBits;by_cases h:M=0
 ·subst h;rfl
 ·have:((M:Int)==0)=false:=beq_eq_false_iff_ne.mpr @c;rw [this,if_neg h];simp
theorem Qk (M:Nat):M<2^L M:=by
 rw [GS];split
 ·rename_i h;subst h;decide
 ·exact Nat.lt_log2_self
theorem Ql {M n:Nat}(h:M<2^n):L M<=n:=by
 rw [GS];split
 ·lia
 ·rename_i B;have:=(Nat.log2_lt B).mpr h;lia
theorem Al {M:Nat}(h:M≠0):M.testBit (L M - 1)=true:=by
 rw [GS,if_neg h];have h1:=Nat.log2_self_le h;have h2:=Nat.lt_log2_self (n:=M);rw [Nat.add_sub_cancel,Nat.testBit_eq_decide_div_mod_eq];rwa[decide_eq_true ?_]
 have e:M / 2^M.log2=1:=by
  rwa[Nat.div_eq_of_lt_le @c ?_];rw [Nat.pow_succ] at h2;lia
 rw [e]
noncomputable def iY (M:Nat):List Nat:=jd M (L M)
theorem kB {M i:Nat}:i∈iY M↔M.testBit i=true:=by
 unfold iY;rw [sL];rwa[⟨λh=>h.2,λh=>⟨?_,h⟩⟩];rwa[Nat.lt_of_not_le λj=> ?_];have:=Nat.testBit_lt_two_pow (Nat.lt_of_lt_of_le (Qk M) (Nat.pow_le_pow_right @b j));rw [this] at h;cases h
theorem Bb {M n i:Nat}(h:M<2^n)(hi:i∈iY M):i<n:=by
 have:=(sL.mp hi).1;have:=Ql h;lia
theorem CJ {M:Nat}(h:M≠0):∃l,iY M=l++[L M - 1]:=by
 have F:L M=(L M - 1)+1:=by
  have:=GS M;rw [if_neg h] at this;lia
 rwa[⟨jd M (L M - 1),?_⟩]
 have e:iY M=jd M ((L M - 1)+1):=by rw [<-F];rfl
 rw [e,jO,Al h];rfl
theorem GF {M:Nat}:iY M=[]↔M=0:=by
 constructor
 ·intro h;rwa[Classical.byContradiction λz=> ?_];obtain ⟨l,e⟩:=CJ z;rw [h] at e;simp at e
 ·rintro rfl;rfl
noncomputable def nG (ks:List Nat):Nat:=ks.foldl (λacc k=>acc|||2^k) 0
theorem ql:∀(ks:List Nat) (acc i:Nat),(ks.foldl (λacc k=>acc|||2^k) acc).testBit i=(acc.testBit i||decide (i∈ks))
 |[],acc,i=>by simp
 |k::ks,acc,i=>by
  rw [foldl_cons,ql ks,Nat.testBit_or];by_cases h:k=i
  ·subst h;simp [Nat.testBit_two_pow_self]
  ·rw [Nat.testBit_two_pow_of_ne h];have h': ¬i=k:=λz=>h z.symm;simp [h']
end My
namespace L2
open PySem PySem.Spec PyProof.Rows
def aI (H H':Hp):Prop:=∀b o,(∀xs,o≠ .lst xs)->(∀C dx fs,o≠ .ins C dx fs)->H b=some o->H' b=some o
theorem aI.refl (H:Hp):aI H H:=λ_ _ _ _ e=>e
theorem aI.trans {H H1 H2:Hp}(a:aI H H1)(b:aI H1 H2):aI H H2:=λc o j Y e=>b c o j Y (a c o j Y e)
theorem ak.st {H H':Hp}(s:ak H H'):aI H H':=λb o _ _ e=>s b o e
theorem aI.updL {H:Hp}{a:Addr}{xs:List V}{o:HO}(h:H a=some (.lst xs)):aI H @bn:=λb u j _ e=>by
 rw [ag (λz=>by rw [z,h] at e;cases e;exact j _ rfl)];exact e
theorem aI.updI {H:Hp}{a C dx:Addr}{fs:List (Str×V)}{o:HO}(h:H a=some (.ins C dx fs)):aI H @bn:=λb u _ Y e=>by
 rw [ag (λz=>by rw [z,h] at e;cases e;exact Y _ _ _ rfl)];exact e
theorem aI.tup {H H':Hp}(s:aI H H'){a:Addr}{xs:List V}(h:H a=some (.tup xs)):H' a=some (.tup xs):=s a _ (λ_ z=>by cases z) (λ_ _ _ z=>by cases z) h
theorem aI.sqT {K:Fg}{H H':Hp}(s:aI H H'){a:Addr}{xs:List V}(h:aD K H a xs):aD K H' a xs:=by
 rcases h with (h|⟨u,h⟩)|h
 ·exact .inl (.inl (s.tup h))
 ·exact .inl (.inr ⟨u,s _ _ (λ_ z=>by cases z) (λ_ _ _ z=>by cases z) h⟩)
 ·exact .inr h
theorem aI.den {K:Fg}{H H':Hp}(s:aI H H'){x:V}{d:D}(h:br K H x d)(j:L2.noL d=true):br K H' x d:=by
 induction h with
 |non=>exact .non
 |bl b=>exact .bl b
 |int i=>exact .int i
 |str z=>exact .str z
 |lst h hl hi ih=>rw [L2.noL] at j;cases j
 |tup h hl hi ih=>
  rw [L2.noL] at j;exact .tup @fX hl λi x d h1 h2=>ih i x d h1 h2 @fU
theorem aI.dens {K:Fg}{H H':Hp}(s:aI H H'){xs:List V}{ds:List D}(h:aC K H xs ds)(z:noLs ds=true):aC K H' xs ds:=
 PySem.Paired.of h.len λi x d h1 h2=>by
  obtain ⟨e,L,r⟩:=h.get1 h1;rw [h2] at L;cases L;exact s.den r (eL z h2)
theorem none_of {H H':Hp}(s:ak H H'){a:Addr}(h:H' a=none):H a=none:=by
 cases y:H a with
 |none=>rfl
 |some o=>rw [s _ _ y] at h;cases h
theorem Fk {a b:List D}(h1:noLs a=true)(h2:noLs b=true):noLs (a++b)=true:=by
 induction a with
 |nil=>exact h2
 |cons d a ih=>
  rw [noLs,Bool.and_eq_true] at h1;rw [cons_append,noLs,h1.1,ih h1.2];rfl
theorem qk {α β:Type}{R:α->β->Prop}{xs:List α}{ys:List β}{i:Nat}{x:α}{y:β}(h:Paired R xs ys)(r:R x y):Paired R (xs.set i x) (ys.set i y):=by
 have W:=h.len;rwa[PySem.Paired.of (by simp [W]) λj a b S B=> ?_];by_cases Z:i=j
 ·subst Z
  have hi:i<xs.length:=by
   have:=(List.getElem?_eq_some_iff.mp S).1;rwa [length_set] at this
  rw [getElem?_set_self hi] at S;rw [getElem?_set_self @c] at B;cases S;cases B;exact r
 ·rw [getElem?_set_ne Z] at S B;obtain ⟨L,h2,z⟩:=h.get1 S;rw [B] at h2;cases h2;exact z
theorem aM.sqT {K:Fg}{H H':Hp}(s:aM H H'){a:Addr}{xs:List V}(h:aD K H a xs):aD K H' a xs:=by
 rcases h with (h|⟨u,h⟩)|h
 ·exact .inl (.inl (s _ _ (λ_ z=>by cases z) h))
 ·exact .inl (.inr ⟨u,s _ _ (λ_ z=>by cases z) h⟩)
 ·exact .inr h
theorem aM.sqL {K:Fg}{H H':Hp}(s:aM H H'){a:Addr}{xs:List V}(h:az K H a xs):az K H' a xs:=by
 rcases h with (h|⟨u,h⟩)|h
 ·exact .inl (.inl (s _ _ (λ_ z=>by cases z) h))
 ·exact .inl (.inr ⟨u,s _ _ (λ_ z=>by cases z) h⟩)
 ·exact .inr h
theorem aM.den {K:Fg}{H H':Hp}(s:aM H H'){x:V}{d:D}(h:br K H x d):br K H' x d:=by
 induction h with
 |non=>exact .non
 |bl b=>exact .bl b
 |int i=>exact .int i
 |str z=>exact .str z
 |lst h hl hi ih=>exact .lst (s.sqL h) hl ih
 |tup h hl hi ih=>exact .tup @fX hl ih
theorem aM.dens {K:Fg}{H H':Hp}(s:aM H H'){xs:List V}{ds:List D}(h:aC K H xs ds):aC K H' xs ds:=Paired.imp' (λ_ _ z=>s.den z) h
def dI (H H':Hp):Prop:=∀b o,(∀xs,o≠ .lst xs)->(∀C dx fs,o≠ .ins C dx fs)->(∀ps,o≠ .tbl ps)->H b=some o->H' b=some o
theorem dI.refl (H:Hp):dI H H:=λ_ _ _ _ _ e=>e
theorem dI.trans {H H1 H2:Hp}(a:dI H H1)(b:dI H1 H2):dI H H2:=λc o j Y Z e=>b c o j Y Z (a c o j Y Z e)
theorem aI.sx {H H':Hp}(s:aI H H'):dI H H':=λb o j Y _ e=>s b o j Y e
theorem aM.sx {H H':Hp}(s:aM H H'):dI H H':=λb o _ _ Z e=>s b o Z e
theorem dI.sqT {K:Fg}{H H':Hp}(s:dI H H'){a:Addr}{xs:List V}(h:aD K H a xs):aD K H' a xs:=by
 rcases h with (h|⟨u,h⟩)|h
 ·exact .inl (.inl (s _ _ (λ_ z=>by cases z) (λ_ _ _ z=>by cases z) (λ_ z=>by cases z) h))
 ·exact .inl (.inr ⟨u,s _ _ (λ_ z=>by cases z) (λ_ _ _ z=>by cases z) (λ_ z=>by cases z) h⟩)
 ·exact .inr h
theorem dI.den {K:Fg}{H H':Hp}(s:dI H H'){x:V}{d:D}(h:br K H x d)(j:L2.noL d=true):br K H' x d:=by
 induction h with
 |non=>exact .non
 |bl b=>exact .bl b
 |int i=>exact .int i
 |str z=>exact .str z
 |lst h hl hi ih=>rw [L2.noL] at j;cases j
 |tup h hl hi ih=>
  rw [L2.noL] at j;exact .tup @fX hl λi x d h1 h2=>ih i x d h1 h2 @fU
def GT (G:Hp->Prop):Prop:=∀H H',aI H H'->G H->G H'
def NT (H:Hp):Prop:=∀b ps,H b≠some (.tbl ps)
noncomputable def x8 (H:Hp):Hp:=λb=>match H b with|some (.tbl _)=>none|o=>o
theorem Fh (H:Hp):NT (x8 H):=λb ps h=>by
 unfold x8 at h;split at h
 ·cases h
 ·rename_i x z;rw [h] at z;exact z _ rfl
theorem qo (H:Hp):ak (x8 H) H:=λb o h=>by
 unfold x8 at h;split at h
 ·cases h
 ·exact h
theorem qp {H:Hp}{b:Addr}{o:HO}(h:H b=some o)(n:∀ps,o≠ .tbl ps):x8 H b=some o:=by
 unfold x8;rw [h]
 cases o<;>first|rfl|exact absurd rfl (n _)
theorem Fi (H:Hp):aM H (x8 H):=λ_ _ n h=>qp h n
theorem MH {H H':Hp}(s:ak (x8 H) H'):aM H H':=λb o n h=>s _ _ (qp h n)
theorem aM.onto {H0 H H':Hp}(j:NT H0)(s:ak H0 H)(s':aM H H'):ak H0 H':=λb o h=>s' b o (λps z=>j b ps (by rw [h,z])) (s b o h)
theorem kA {H:Hp}{b:Addr}(h:H b=none):x8 H b=none:=by unfold x8;rw [h]
theorem cA.st {H H':Hp}{P:Addr}{q:Str}(s:aI H H')(t:cA H P q):cA H' P q:=by
 obtain ⟨ps,h1,h2,L⟩:=t;rwa[⟨ps,s _ _ (λ_ z=>by cases z) (λ_ _ _ z=>by cases z) h1,h2,λpos F I=> ?_⟩];obtain ⟨j,e,h⟩:=L pos F I;exact ⟨j,e,s _ _ (λ_ z=>by cases z) (λ_ _ _ z=>by cases z) h⟩
open PySem.Calls PySem.W
theorem C0 {c:TT}{tb:TS}{D:m9}{σ:St}{H:Hp}(W:Nat->St->Hp->Prop)(B:∃m,W m σ H)(hs:∀m σ H,W m σ H->c σ H λb H1=>rB b (∃N:St->Hp->Prop,(∀σ' H',N σ' H'->∃m',m'<m/\W m' σ' H')/\tb {D with nx:=N,ct:=N,bk:=D.nx} σ H1) (D.nx σ H1)):tZ c tb D σ H:=⟨W,B,hs⟩
theorem jP.imp {P:Program}{w:World}{K:Frag}{mg:Str->Option Value}{base:Heap}{n m:Nat}{f:Addr}{sp j:Sp}(c:jP P w K mg base n f sp)(z:n<=m)(h:∀vs H Q E,j vs H Q E->sp vs H Q E):jP P w K mg base m f j:=
 ⟨λA outer s H B vs Q E Y F r g=>c.run A outer s H B vs Q E (Y.mono z) F r (h _ _ _ _ g),λvs H Q E I g=>c.keep vs H Q E I (h _ _ _ _ g)⟩
end L2
namespace My
open PySem L2 PyProof.Rows
noncomputable def lk (fl:Nat):List Nat->Nat->Nat->Option Nat
 |[],_,lo=>some lo
 |k::ks,last,lo=>if last<k/\k<fl then lk fl ks k (lo+2^k) else none
structure gb where
 start:Int
 room:Int
 turns:Int
 kind:Str
noncomputable def gb.ok (fl:Int)(l:gb):Bool:=decide (0<=l.start/\l.start<fl/\1<=l.room/\l.room<=6/\1<=l.turns/\l.turns<=4/\(l.kind=s!"plain"\/l.kind=s!"hasty"\/l.kind=s!"slow"))
noncomputable def MG (fl:Int)(ls:List gb)(lo:Int)(so:Str):Bool:=decide (2<=fl/\fl<=8)&&decide (1<=ls.length/\ls.length<=3)&&ls.all @dq&&decide (0<=lo/\lo<2^fl.toNat/\lo% 2=0)&&decide (so=s!"free"\/so=s!"way")
theorem u8 {fl:Int}{j:List gb}{lo:Int}{so:Str}:MG fl j lo so=true↔(2<=fl/\fl<=8)/\(1<=j.length/\j.length<=3)/\j.all @dq=true/\(0<=lo/\lo<2^fl.toNat/\lo% 2=0)/\(so=s!"free"\/so=s!"way"):=by
 unfold MG;simp only [Bool.and_eq_true,decide_eq_true_eq,and_assoc]
end My
namespace My
open PySem L2 PyProof.Rows
noncomputable def Lx (bs:List Bool)(first:Int):Nat->Nat->Int
 |_,0=> -1
 |k,r+1=>if bs.getD ((first+k)% bs.length).toNat false=true then (first+k)% bs.length else Lx bs first (k+1) r
noncomputable def sf (bs:List Bool)(first:Int):Int:=Lx bs first 0 bs.length
structure lE where
 pl:Int
 li:Int
 dr:Int
 mr:Int
 ab:List (Int×Int)
noncomputable def lE.d (c:lE):D:= .tup [.int c.pl,.int c.li,.int c.dr,.int c.mr,.tup (c.ab.map λq=> .tup [.int q.1,.int q.2])]
noncomputable def lE.srv (c:lE):Bool:=decide (c.mr=0)
structure Rd where
 t:Int
 s:Int
 g:Int
 l:Int
noncomputable def Rd.d (r:Rd):D:= .tup [.int r.t,.int r.s,.int r.g,.int r.l]
end My
namespace L2
open PySem PySem.Spec PyProof.Rows
noncomputable def iV (bs:List Bool)(n:Nat):List Nat:=(List.range n).filter λi=>bs.getD i false
noncomputable abbrev srv (bs:List Bool):List Nat:=iV bs bs.length
theorem Bq {bs:List Bool}{n:Nat}:iV bs (n+1)=iV bs n++(if bs.getD n false=true then [n] else []):=by
 unfold iV;rw [range_succ,filter_append];congr 1;simp only [filter_cons,filter_nil]
theorem ww {bs:List Bool}{n:Nat}:(iV bs n).length<=n:=by
 unfold iV;rwa[Nat.le_trans @bd ?_];rw [length_range];exact Nat.le_refl _
theorem oM {bs:List Bool}{j:Nat}:j∈srv bs↔j<bs.length/\bs.getD j false=true:=by
 unfold srv iV;rw [mem_filter,mem_range]
theorem Lp {bs:List Bool}{i B j I:Nat}(h:(srv bs)[i]? =some j)(h':(srv bs)[B]? =some I)(Z:j<I):i<B:=by
 have J:(srv bs).Pairwise (· < ·):=List.Pairwise.filter _ pairwise_lt_range;obtain ⟨l,e⟩:=List.getElem?_eq_some_iff.mp h;obtain ⟨L,F⟩:=List.getElem?_eq_some_iff.mp h';have:=pairwise_iff_getElem.mp J
 rcases Nat.lt_trichotomy i B with z|z|z
 ·exact z
 ·subst z;rw [e] at F;lia
 ·have:=this B i L l z;rw [e,F] at this;lia
def Qs (bs:List Bool)(ws:Nat->Int)(n:Nat)(r:Int):Prop:=(r= -1/\∀j,j<n->bs.getD j false=false)\/∃i:Nat,r=i/\i<n/\bs.getD i false=true/\∀j,j<n->bs.getD j false=true->ws i<=ws j/\(j<i->ws i<ws j)
abbrev cW (bs:List Bool)(ws:Nat->Int)(r:Int):Prop:=Qs bs ws bs.length r
theorem cW.uniq {bs:List Bool}{ws:Nat->Int}{r O:Int}(h:cW bs ws r)(h':cW bs ws O):r=O:=by
 rcases h with ⟨rfl,h⟩|⟨i,rfl,hi,B,h⟩<;>rcases h' with ⟨rfl,h'⟩|⟨F,rfl,ak,j,h'⟩
 ·rfl
 ·rw [h F ak] at j;cases j
 ·rw [h' i hi] at B;cases B
 ·have a:=h F ak j;have b:=h' i hi B
  rcases Nat.lt_trichotomy i F with z|z|z
  ·have:=b.2 z;lia
  ·rw [z]
  ·have:=a.2 z;lia
theorem vC {bs:List Bool}{ws:Nat->Int}(h:srv bs=[]):cW bs ws (-1):= .inl ⟨rfl,λj Z=>by
 cases z:bs.getD j false with
 |false=>rfl
 |true=>
  have:=oM.mpr ⟨Z,z⟩
  rw [h] at this;cases this⟩
theorem vB {bs:List Bool}{ws:Nat->Int}{i j:Nat}(hi:(srv bs)[i]? =some j)(L:∀i',i'<(srv bs).length->ws ((srv bs).getD i 0)<=ws ((srv bs).getD i' 0)/\(i'<i->ws ((srv bs).getD i 0)<ws ((srv bs).getD i' 0))):cW bs ws (j:Int):=by
 have I:(srv bs).getD i 0=j:=by rw [getD_eq_getElem?_getD,hi];rfl
 have F:=oM.mp (mem_of_getElem? hi);rwa[.inr ⟨j,rfl,F.1,F.2,λk R J=> ?_⟩];obtain ⟨i',ak⟩:=mem_iff_getElem?.mp (oM.mpr ⟨R,J⟩)
 have B:(srv bs).getD i' 0=k:=by rw [getD_eq_getElem?_getD,ak];rfl
 have:=L i' (List.getElem?_eq_some_iff.mp ak).1;rw [I,B] at this;exact ⟨this.1,λz=>this.2 (Lp ak hi z)⟩
noncomputable def Qa (i:Int):Int:=if i<0 then -i else i
end L2
namespace My
open PySem L2
noncomputable def LW (cs:List lE)(i:Nat):Int:=match cs[i]? with|some c=>c.pl|none=>0
noncomputable def Nz (cs:List lE)(i:Nat):Nat:=match cs[i]? with|some c=>c.ab.length|none=>0
noncomputable def sI (cs:List lE)(s:Int)(i:Nat):Int:=Qa (LW cs i - 2*s)
noncomputable def fD (cs:List lE)(ls:List Int)(i:Nat):Int:=(Nz cs i:Int)+(ls.count (i:Int):Nat)
end My
namespace My
open PySem L2 PyProof.Rows
abbrev d0:Str:=s!"0"
abbrev d1:Str:=s!"1"
abbrev d2:Str:=s!"2"
abbrev OH:Str:=s!"near"
abbrev Lj:Str:=s!"least"
abbrev Lg:Str:=s!"turns"
abbrev OE:Str:=s!"zone"
abbrev Lk:Str:=s!"fixed"
inductive Kd where
 |near
 |least
 |turns
 |zone (is:List Int)
 |fixed (is:List Int)
noncomputable def Kd.nm:Kd->Str
 | .near=>OH
 | .least=>Lj
 | .turns=>Lg
 | .zone _=>OE
 | .fixed _=>Lk
noncomputable def Kd.is:Kd->List Int
 | .zone is=>is
 | .fixed is=>is
 |_=>[]
def Kd.ok (fl:Int)(n:Nat):Kd->Prop
 | .zone is=>(is.length:Int)=fl/\∀i∈is,0<=i/\i<(n:Int)
 | .fixed is=>1<=is.length/\is.length<=9/\∀i∈is,0<=i/\i<(n:Int)
 |_=>True
end My
namespace L2
open PySem PySem.Spec PyProof.Rows
mutual
def oS:D->Bool
 | .int _=>true
 | .tup ds=>nbDs ds
 |_=>false
def nbDs:List D->Bool
 |[]=>true
 |d::ds=>oS d&&nbDs ds
end
mutual
theorem AB:∀d e:D,oS d=true->oS e=true->gE d e=true->d=e
 | .int i,.int j,_,_,h=>by rw [gE] at h;rw [eq_of_beq h]
 | .tup xs,.tup ys,h1,h2,h=>by
   rw [oS] at h1 h2;rw [gE] at h;rw [nbs_eq xs ys h1 h2 h]
 | .int _,.tup _,_,_,h=>by simp [gE] at h
 | .tup _,.int _,_,_,h=>by simp [gE] at h
 | .non,_,h1,_,_| .bl _,_,h1,_,_| .str _,_,h1,_,_| .lst _,_,h1,_,_=>by simp [oS] at h1
 |_,.non,_,h1,_|_,.bl _,_,h1,_|_,.str _,_,h1,_|_,.lst _,_,h1,_=>by simp [oS] at h1
theorem nbs_eq:∀xs ys:List D,nbDs xs=true->nbDs ys=true->eqDs xs ys=true->xs=ys
 |[],[],_,_,_=>rfl
 |x::xs,y::ys,h1,h2,h=>by
  rw [nbDs,Bool.and_eq_true] at h1 h2;rw [eqDs,Bool.and_eq_true] at h;rw [AB x y h1.1 h2.1 h.1,nbs_eq xs ys h1.2 h2.2 h.2]
 |[],_::_,_,_,h=>by simp [eqDs] at h
 |_::_,[],_,_,h=>by simp [eqDs] at h
end
def AV (d:D):Prop:=gH d<=7/\∃a b c,d= .tup [a,b,c,.bl false]/\oS a=true/\oS b=true/\oS c=true
noncomputable instance decD:DecidableEq D:=λ_ _=>Classical.propDecidable _
theorem Pz {d e:D}(h1:AV d)(h2:AV e):gE d e=decide (d=e):=by
 obtain ⟨_,a,b,c,rfl,J,O,I⟩:=h1;obtain ⟨_,F,L,B,rfl,j,aq,ad⟩:=h2
 cases z:gE (.tup [a,b,c,.bl false]) (.tup [F,L,B,.bl false]) with
 |true=>
  simp only [gE,eqDs,Bool.and_eq_true] at z;rw [AB a F J j z.1,AB b L O aq z.2.1,AB c B I ad z.2.2.1];simp
 |false=>
  rwa[(decide_eq_false λy=> ?_).symm];rw [y,fR] at z;cases z
mutual
inductive vI (h:Heap):D->Value->Prop
 |int (i:Int) (t:Tok):vI h (.int i) (.int i t)
 |fls:vI h (.bl false) (.bool false)
 |tup {a:Addr} {its:List Value} {ds:List D}:IsTup h a its.toArray->TrHs h ds its->vI h (.tup ds) (.ref a)
inductive TrHs (h:Heap):List D->List Value->Prop
 |nil:TrHs h [] []
 |cons {d:D} {v:Value} {ds:List D} {vs:List Value}:vI h d v->TrHs h ds vs->TrHs h (d::ds) (v::vs)
end
mutual
def Kf:D->Int
 | .int i=>hashInt i
 | .tup ds=>reduceHash (Builtin.Tuple.tupleHashOf (hsDs ds))
 |_=>reduceHash 0
def hsDs:List D->List Int
 |[]=>[]
 |d::ds=>Kf d::hsDs ds
end
mutual
def QG:D->Nat
 | .tup ds=>dwDs ds+1
 |_=>1
def dwDs:List D->Nat
 |[]=>0
 |d::ds=>QG d+dwDs ds
end
section
variable {prog:Program}{w:World}{E:Value->Shared->Prop}
mutual
theorem AT:∀(d:D) (v:Value) (A:Around) (s:Shared) (Q:Int->Shared->Prop),vI s.heap d v->A.units+gH d<cLine->Q (Kf d) {s with toks:=s.toks+QG d}->wpAny @i A (pyHash v) Q E s
 | .int i,_,A,s,Q,x,_,h=>by cases x;exact wpAny_pyHash_int h
 | .bl _,_,A,s,Q,x,hu,h=>by
   cases x;rwa[W.pyHash_slot (T:="bool") rfl F.slot_bool_hash entry_int_hash (args_int_hash _) (beq_builtin_none _) (.inr @c) ?_];exact (show wpAny _ _ (do ret (<-mkInt 0)) _ _ s from wpAny_bind (wpAny_mkInt (wpAny_pure ⟨_,_,rfl,h⟩)))
 | .tup ds,_,A,s,Q,x,hu,h=>by
   cases x with
   | @tup a its _ hg hw=>
     obtain ⟨o,h1,h2,n,L⟩:=hg;rw [gH] at hu;rwa[W.pyHash_slot (T:="tuple") ⟨o,h1,h2⟩ F.slot_tuple_hash F.entry_tuple_hash (F.args_tuple_hash_1 _) (beq_builtin_none _) (.inr @c) ?_];show wpAny _ _ (Builtin.Tuple.tupleItemsOf (.ref a)>>=_) _ _ s;rwa[wpAny_bind (wpAny_tupleItemsOf h1 L ?_)];rwa[wpAny_bind ?_];rw [<-Array.forIn_toList];rwa[hash_trs ds its A.in1 s #[] _ hw (by show A.units+1+deps ds<cLine;lia) λb B=> ?_];show wpAny _ _ (retInt (Builtin.Tuple.tupleHashOf b.toList)) _ _ _;rw [B];rwa[wpAny_bind (wpAny_mkInt (wpAny_pure ⟨_,_,rfl,?_⟩))];rw [Kf,QG] at h;simpa [Nat.add_assoc] using h
 | .non,_,_,_,_,x,_,_| .str _,_,_,_,_,x,_,_| .lst _,_,_,_,_,x,_,_=>by cases x
theorem hash_trs:∀(ds:List D) (vs:List Value) (A:Around) (s:Shared) (b:Array Int) (Q:Array Int->Shared->Prop),TrHs s.heap ds vs->A.units+deps ds<cLine->
 (∀b',b'.toList=b.toList++hsDs ds->Q b' {s with toks:=s.toks+dwDs ds})->
 wpAny @i A (forIn vs b λx r=>do let h<-pyHash x;pure PUnit.unit;pure (ForInStep.yield (r.push h))) Q E s
 |[],_,A,s,b,Q,x,_,h=>by cases x;exact wpAny_pure (h b (by simp [hsDs]))
 |d::ds,_,A,s,b,Q,x,hu,h=>by
  cases x with
  |cons x1 x2=>
   rw [deps] at hu;rw [forIn_cons];rwa[wpAny_bind (wpAny_bind (AT d _ A s _ x1 @c ?_))];rwa[wpAny_bind (wpAny_pure @bu)];rwa[hash_trs ds _ A _ _ Q x2 @c λb' B=> ?_];have:=h b' (by simp [B,hsDs]);rw [dwDs,<-Nat.add_assoc] at this;exact this
end
end
section
variable {h h':Heap}
mutual
theorem vI.inj:∀ {d e:D} {v:Value},vI h d v->vI h e v->d=e
 |_,_,_,.int i t,y=>by cases y;rfl
 |_,_,_,.fls,y=>by cases y;rfl
 |_,_,_,.tup p q,y=>by
  cases y with
  |tup p' q'=>
   obtain ⟨o,h1,_,n,L⟩:=p;obtain ⟨o',j,_,B,R⟩:=p';rw [h1] at j;cases j;rw [L] at R;injection R with S e2;have S:=congrArg Array.toList S;simp only at S;subst S;rw [q.inj q']
theorem TrHs.inj:∀ {ds es:List D} {vs:List Value},TrHs h ds vs->TrHs h es vs->ds=es
 |_,_,_,.nil,y=>by cases y;rfl
 |_,_,_,.cons a b,y=>by
  cases y with
  |cons a' b'=>rw [a.inj a',b.inj b']
end
mutual
theorem vI.keeps (k:∀a its,IsTup h a its->IsTup h' a its):∀ {d:D} {v:Value},vI h d v->vI h' d v
 |_,_,.int i t=> .int i t
 |_,_,.fls=> .fls
 |_,_,.tup p q=> .tup (k _ _ p) (q.keeps k)
theorem TrHs.keeps (k:∀a its,IsTup h a its->IsTup h' a its):∀ {ds:List D} {vs:List Value},TrHs h ds vs->TrHs h' ds vs
 |_,_,.nil=> .nil
 |_,_,.cons a b=> .cons (a.keeps k) (b.keeps k)
end
theorem TrHs.len:∀ {ds:List D} {vs:List Value},TrHs h ds vs->ds.length=vs.length
 |_,_,.nil=>rfl
 |_,_,.cons _ b=>by simp [b.len]
theorem TrHs.get:∀ {ds:List D} {vs:List Value} {i:Nat} {v:Value},TrHs h ds vs->vs[i]? =some v->∃d,ds[i]? =some d/\vI h d v
 |_,_,0,_,.cons a _,e=>⟨_,rfl,by simp at e;exact e▸a⟩
 |_,_,i+1,_,.cons _ b,e=>by simpa using b.get (by simpa using e)
 |_,_,i,_,.nil,e=>by simp at e
end
section
variable {prog:Program}{w:World}
open PySem.SeqAt in
theorem PM {s:Shared}:∀(n:Nat) {d e:D} {u v:Value} {A:Around},gH d<=n->vI s.heap d u->vI s.heap e v->A.units+gH d<cLine->EqAt A s u v @ew:=by
 intro n
 induction n with
 |zero=>
  intro d e u v A B x y I
  cases x with
  |int i t=>
   cases y with
   |int j t'=>exact fE (y:= .int i) (x:= .int j) ⟨_,rfl⟩ ⟨_,rfl⟩ rfl rfl
   |fls=>exact fE (y:= .int i) (x:= .bl false) ⟨_,rfl⟩ rfl rfl rfl
   |tup p _=>exact EqAt.int_tuple i t p @c
  |fls=>
   cases y with
   |int j t'=>exact fE (y:= .bl false) (x:= .int j) rfl ⟨_,rfl⟩ rfl rfl
   |fls=>exact fE (x:= .bl false) (y:= .bl false) rfl rfl rfl rfl
   |tup p _=>exact EqAt.bool_tuple false p @c
  |tup p q=>rw [gH] at B;lia
 |succ n ih=>
  intro d e u v A B x y I
  cases x with
  |int i t=>
   cases y with
   |int j t'=>exact fE (y:= .int i) (x:= .int j) ⟨_,rfl⟩ ⟨_,rfl⟩ rfl rfl
   |fls=>exact fE (y:= .int i) (x:= .bl false) ⟨_,rfl⟩ rfl rfl rfl
   |tup p _=>exact EqAt.int_tuple i t p @c
  |fls=>
   cases y with
   |int j t'=>exact fE (y:= .bl false) (x:= .int j) rfl ⟨_,rfl⟩ rfl rfl
   |fls=>exact fE (x:= .bl false) (y:= .bl false) rfl rfl rfl rfl
   |tup p _=>exact EqAt.bool_tuple false p @c
  | @tup a its ds p q=>
    rw [gH] at B I
    cases y with
    |int j t'=>exact EqAt.tuple_int j t' p @c
    |fls=>exact EqAt.tuple_bool false p @c
    | @tup b its2 es p2 q2=>
      by_cases J:a=b
      ·subst J
       rw [(vI.tup p q).inj (.tup p2 q2),fR]
       exact EqAt.same _
      rw [gE]
      have l1:=q.len
      have l2:=q2.len
      have F:eqDs ds es=((List.range (min its.toArray.size its2.toArray.size)).all (λj=>gE @eX @eY)&&its.toArray.size==its2.toArray.size):=by
       by_cases z:ds.length=es.length
       ·have S:its.toArray.size=ds.length:=by rw [size_toArray];lia
        have R:its2.toArray.size=ds.length:=by rw [size_toArray];lia
        rw [S,R,Nat.min_self,kQ z];simp
       ·rw [kO z]
        have:(its.toArray.size==its2.toArray.size)=false:=beq_eq_false_iff_ne.mpr (by simp only [size_toArray];lia)
        rw [this,Bool.and_false]
      rw [F]
      rwa[EqAt.of_refs J (RcAt.tuples p p2 @c λj h1 h2=> ?_)]
      obtain ⟨L,S,W⟩:=q.get (i:=j) (v:=its.toArray[j]) @f
      obtain ⟨O,R,U⟩:=q2.get (i:=j) (v:=its2.toArray[j]) @f
      rw [show ds.getD j .non=L by simp [List.getD,S],show es.getD j .non=O by simp [List.getD,R]]
      have Y:=mT S
      rwa[ih @c W U ?_]
      have:A.in1.units=A.units+1:=rfl
      lia
theorem Ep {s:Shared}{A:Around}{E:Value->Shared->Prop}:∀(n:Nat) {d:D} {v:Value} {Q:Bool->Shared->Prop},gH d<=n->vI s.heap d v->Q true s->wpAny @i A (eqIsQuiet n v) Q E s:=by
 intro n
 induction n with
 |zero=>
  intro d v Q B x h
  cases x with
  |int i t=>rw [eqIsQuiet_byValue _ rfl];exact wpAny_pure h
  |fls=>rw [eqIsQuiet_byValue _ rfl];exact wpAny_pure h
  |tup p q=>rw [gH] at B;lia
 |succ n ih=>
  intro d v Q B x h
  cases x with
  |int i t=>rw [eqIsQuiet_byValue _ rfl];exact wpAny_pure h
  |fls=>rw [eqIsQuiet_byValue _ rfl];exact wpAny_pure h
  | @tup a its ds p q=>
    rw [gH] at B;obtain ⟨o,h1,h2,m,L⟩:=p;have O:s.TypeIs (.ref a) "tuple":=⟨o,h1,h2⟩;unfold eqIsQuiet;rwa[wpAny_bind (wpAny_specialOf O F.slot_tuple_eq.lookup ?_)];show wpAny _ _ (isInstance (.ref a) (.type "tuple")>>=_) _ _ s;rwa[wpAny_bind (wpAny_isInstance O isSubtype_tuple_tuple ?_)];simp only [Bool.not_true,Bool.false_eq_true,if_false];rwa[wpAny_bind (wpAny_seqItems h1 L ?_)];rwa[wpAny_bind ?_];show wpAny _ _ (forIn its.toArray _ _) _ _ s;rw [<-Array.forIn_toList];rwa[wpAny_forIn_list _ (λeJ r s'=>r.1=none/\s'=s/\∃j,TrHs s.heap j eJ/\deps j<=n) _ ?_ ?_ _ _ ⟨rfl,rfl,ds,q,by lia⟩]
    ·rintro v eJ r s' ⟨Y,rfl,j,z,J⟩
     cases z with
     |cons t1 t2=>
      rw [deps] at J;rwa[wpAny_bind (ih @c t1 ?_)];simp only [Bool.not_true,Bool.false_eq_true,if_false];exact wpAny_pure ⟨rfl,rfl,_,t2,by lia⟩
    ·rintro ⟨I,W⟩ s' ⟨Y,rfl,_⟩;simp only at Y;subst Y;exact wpAny_pure h
noncomputable def py (prog:Program)(w:World):HeapKind prog w D where
 is:=λh d a=>AV d/\vI h d (.ref a)
 hash:=Kf
 draws:=QG
 room:=λA=>A.units+7<cLine
 inj:=λhx hy=>hx.2.inj hy.2
 keeps:=λx ho hd hs=>⟨x.1,x.2.keeps λa its ⟨o,h1,h2,n,h3⟩=>by
  rwa[⟨o,?_,h2,n,h3⟩]
  rw [hs.2 a (λz=>by subst z;rw [h1] at ho;cases ho;rw [h3] at hd;cases hd)];exact h1⟩
 pyHash:=λhu hk h=>AT _ _ _ _ _ hk.2 (by have:=hk.1.1;lia) h
 eqBool:=λhu hx hy h=>PM _ @e hx.2 hy.2 (by have:=hx.1.1;lia) _ _ _ _ (by rw [Pz hx.1 hy.1];exact h)
 quiet:=λhk h=>Ep 8 (Nat.le_trans hk.1.1 @b) hk.2 h
end
def cP (a:Addr)(xs:List (D×Addr×Value)):HO:= .ext λh=>∃o es ep,h.get? a=some o/\o.ExactDict/\o.data= .dict es ep/\es.toList=xs.map (λx=>(⟨Kf x.1,.ref x.2.1,x.2.2⟩:DictEntry))/\(xs.map (·.1)).Nodup/\(a==sysModules)=false
theorem xt {P:Program}{w:World}{H:Hp}{h:Heap}{a:Addr}{xs:List (D×Addr×Value)}(z:∃o es ep,h.get? a=some o/\o.ExactDict/\o.data= .dict es ep/\es.toList=xs.map (λx=>(⟨Kf x.1,.ref x.2.1,x.2.2⟩:DictEntry))/\(xs.map (·.1)).Nodup/\(a==sysModules)=false):bb P w H h a @eA:=by
 rwa[⟨z,?_,λh1 h2 O Y=> ?_⟩]
 ·obtain ⟨o,_,_,e,_⟩:=z;exact ⟨o,e⟩
 ·obtain ⟨o,es,ep,e,r⟩:=O;exact ⟨o,es,ep,Y _ e,r⟩
def fH (K:Fg)(H:Hp)(a:Addr)(kvs:List (D×V)):Prop:=∃xs,H a=some @eA/\(xs.map (·.1)).Nodup/\(a==sysModules)=false/\Paired (λ(p:D×V) (q:D×Addr×Value)=>p.1=q.1/\AV p.1/\br K H (.ref q.2.1) p.1/\ax p.2 q.2.2) kvs xs
section
variable {X:Cx}{pins:List (Addr×Obj)}{σ:St}{H:Hp}{s:Shared}{a b:Addr}{d:D}{v:V}{u r:Value}{A:Around}{E:Value->Shared->Prop}{kvs:List (D×V)}
theorem OC (I:au X pins σ H s){x:V}{d:D}(S:br X.K H x d):∀ {u:Value},ax x u->(oS d=true\/d= .bl false\/AV d)->vI s.heap d u:=by
 induction S with
 |int i=>intro u j _;obtain ⟨t,rfl⟩:=j;exact .int i t
 |bl b=>
  intro u j g;cases j
  rcases g with g|g|⟨_,_,_,_,g,_⟩
  ·simp [oS] at g
  ·cases g;exact .fls
  ·cases g
 | @tup a xs ds h W hi ih=>
   intro u j g;cases j;obtain ⟨its,Y,U,z1⟩:=I.tuple h;rwa[.tup U ?_]
   have F:∀(i:Nat) (e:D),ds[i]? =some e->oS e=true\/e= .bl false\/AV e:=by
    rcases g with g|g|⟨_,p,q,c,g,g1,Z,O⟩
    ·rw [oS] at g
     have R:∀(ds:List D) (i:Nat) (e:D),nbDs ds=true->ds[i]? =some e->oS e=true:=by
      intro ds
      induction ds with
      |nil=>intro i e _ z;simp at z
      |cons x xs ih=>
       intro i e y z;rw [nbDs,Bool.and_eq_true] at y
       cases i with
       |zero=>simp at z;exact z▸y.1
       |succ i=>exact ih i e y.2 (by simpa using z)
     exact λi e z=> .inl (R ds i e g z)
    ·cases g
    ·cases g;intro i e z
     match i,z with
     |0,z=>simp at z;exact .inl (z▸g1)
     |1,z=>simp at z;exact .inl (z▸Z)
     |2,z=>simp at z;exact .inl (z▸O)
     |3,z=>simp at z;exact .inr (.inl z.symm)
   have mk:∀(xs:List V) (ds:List D) (its:List Value),aH xs its->xs.length=ds.length->(∀(i:Nat) x e u,xs[i]? =some x->ds[i]? =some e->ax x u->vI s.heap e u)->TrHs s.heap ds its:=by
    intro xs
    induction xs with
    |nil=>intro ds its B W _;cases B;cases ds with|nil=>exact .nil|cons _ _=>simp at W
    |cons x xs ih=>
     intro ds its B W f
     cases B with
     |cons rv B=>
      cases ds with
      |nil=>simp at W
      |cons e ds=>exact .cons (f 0 x e _ rfl rfl rv) (ih ds _ B (by simpa using W) λi y J u h1 h2 L=>f (i+1) y J u (by simpa using h1) (by simpa using h2) L)
   exact mk xs ds its Y W λi x e u h1 h2 L=>ih i x e h1 h2 L (F i e h2)
 |non=>intro u j g;rcases g with g|g|⟨_,_,_,_,g,_⟩<;>simp [oS] at g
 |str x=>intro u j g;rcases g with g|g|⟨_,_,_,_,g,_⟩<;>simp [oS] at g
 |lst h W hi ih=>intro u j g;rcases g with g|g|⟨_,_,_,_,g,_⟩<;>simp [oS] at g
theorem vg (I:au X pins σ H s)(J:br X.K H (.ref b) d)(g:AV d):(py X.prog X.w).is s.heap d b:=⟨g,OC I J rfl (.inr (.inr g))⟩
theorem A1 (I:au X pins σ H s)(h:fH X.K H a kvs):(a==sysModules)=false/\∃xs,Paired (λ(p:D×V) (q:D×Addr×Value)=>p.1=q.1/\AV p.1/\br X.K H (.ref q.2.1) p.1/\ax p.2 q.2.2) kvs xs/\s.heap.DictOfH (py X.prog X.w) a xs/\H a=some @eA:=by
 obtain ⟨xs,e,_,_,j⟩:=h;obtain ⟨⟨o,es,O,h1,h2,L,F,S,J⟩,_,_⟩:=(show bb X.prog X.w H s.heap a @eA from I.hok a _ e);rwa[⟨J,xs,j,⟨o,es,O,h1,h2,L,F,λx z=> ?_,S⟩,e⟩];obtain ⟨i,hi⟩:=mem_iff_getElem?.mp z;obtain ⟨p,R,B,g,dn,_⟩:=j.get2 hi;rw [<-B];exact vg I dn g
theorem zR {xs:List (D×Addr×Value)}:∀ {kvs:List (D×V)},Paired (λ(p:D×V) (q:D×Addr×Value)=>p.1=q.1/\AV p.1/\br X.K H (.ref q.2.1) p.1/\ax p.2 q.2.2) kvs xs->iZ (dJ kvs d) ((atKey xs d).map (·.2)):=by
 induction xs with
 |nil=>intro kvs r;cases r;trivial
 |cons q xs ih=>
  intro kvs r
  cases r with
  | @cons p _ kvs _ hpq r=>
    obtain ⟨e,_,_,j⟩:=hpq;by_cases z:p.1=d
    ·rw [bT z]
     have:atKey (q::xs) d=some q.2:=by simp [atKey,find?_cons,<-e,z]
     rw [this];exact j
    ·rw [bU z]
     have:atKey (q::xs) d=atKey xs d:=by
      have: ¬q.1=d:=λy=>z (e.trans y);simp [atKey,find?_cons,this]
     rw [this];exact ih r
end
def Bh (K:Fg)(H:Hp)(a:Addr)(y:V)(o:Option V):Prop:=∃kvs b d,y= .ref b/\fH K H a kvs/\br K H (.ref b) d/\AV d/\o=dJ kvs d
def KA (K:Fg)(H:Hp)(a:Addr)(y v:V)(Q:Hp->Prop):Prop:=∃kvs b d,y= .ref b/\fH K H a kvs/\br K H (.ref b) d/\AV d/\kvs.length<sizeLine/\dJ kvs d=none/\∀xs,(∀H',H'=upd H a @eA->fH K H' a (kvs++[(d,v)]))->Q (upd H a @eA)
theorem R3 {A:Around}{k:Nat}(Y:bC k A):A.units+8<cLine:=Nat.lt_of_le_of_lt (Nat.add_le_add_left (by decide:8<=64) _) Y.units
section
variable {X:Cx}{pins:List (Addr×Obj)}{σ:St}{H:Hp}{s:Shared}{a b:Addr}{y v:V}{u r:Value}{A:Around}{E:Value->Shared->Prop}{o:Option V}
theorem zT {Q:Value->Shared->Prop}(S:A.units+8<cLine)(I:au X pins σ H s)(g:Bh X.K H a y @bq)(z:ax y u)(h:∀w' s',au X pins σ H s'->ax v w'->Q w' s'):wpAny @d A (getItem (.ref a) u) Q E s:=by
 obtain ⟨kvs,b,d,rfl,O,L,B,l⟩:=g;cases (show u=Value.ref b from z);obtain ⟨_,xs,j,U,_⟩:=A1 I O;obtain ⟨w',R,F⟩:=iZ.some_of (v:=v) (o:=(atKey xs d).map (·.2)) (by rw [l];exact zR (X:=X) (H:=H) j);obtain ⟨p,J,aA⟩:=Option.map_eq_some_iff.mp R;rwa[wpAny_getItem_heap (knd:=py X.prog X.w) (show A.in1.units+7<cLine from by show A.units+1+7<cLine;lia) (vg I L B) U J ?_];rw [aA];exact h w' _ @fi F
theorem Gk {Q:Value->Shared->Prop}(F:A.units+8<cLine)(I:au X pins σ H s)(g:Bh X.K H a y o)(z:ax y u)(h:∀s',au X pins σ H s'->Q (.bool (!o.isSome)) s'):wpAny @d A (compareOp .NotIn u (.ref a)) Q E s:=by
 obtain ⟨kvs,b,d,rfl,O,J,B,l⟩:=g;cases (show u=Value.ref b from z);obtain ⟨hs,xs,j,U,_⟩:=A1 I O;rwa[wpAny_notIn_heap (knd:=py X.prog X.w) (show A.in1.units+7<cLine from by show A.units+1+7<cLine;lia) (vg I J B) hs U ?_];have q:=(zR (X:=X) (H:=H) (d:=d) j).isSome_eq;rw [Option.isSome_map] at q;rw [<-q,<-l];exact h _ @fi
theorem zS {QH:Hp->Prop}{Q:Unit->Shared->Prop}(hu:A.units+8<cLine)(I:au X pins σ H s)(g:KA X.K H a y v QH)(ry:ax y u)(rv:ax v r)(h:∀H' s',QH H'->au X pins σ H' s'->Q () s'):wpAny @d A (setItem (.ref a) u r) Q E s:=by
 obtain ⟨kvs,b,d,rfl,hD,hd,R,l,nw,q⟩:=g;cases (show u=Value.ref b from ry);obtain ⟨hs,xs,F,dd,e⟩:=A1 I hD
 have hz:xs.length<=sizeLine:=by rw [<-F.len];lia
 have hn:atKey xs d=none:=by
  have z:=zR (X:=X) (H:=H) (d:=d) F;rw [nw] at z
  cases y:atKey xs d with
  |none=>rfl
  |some p=>rw [y] at z;exact False.elim z
 rwa[wpAny_setItem_heap (knd:=py X.prog X.w) (hsz:=hz) (show A.in1.units+7<cLine from by show A.units+1+7<cLine;lia) (vg I hd R) dd λh' O ah=> ?_];rw [storedH_new hn] at O;obtain ⟨S,es,ep,Z,h2,h3,h4,_,W⟩:=O;rwa[h (upd H a (cP a (xs++[(d,b,r)]))) _ (q _ λH' eH=> ?_) ?_]
 ·subst eH
  have U:∀ {c:Addr} {J:D},AV J->br X.K H (.ref c) J->br X.K (upd H a (cP a (xs++[(d,b,r)]))) (.ref c) J:=by
   have L:∀ {x:V} {J:D},br X.K H x J->(oS J=true\/J= .bl false\/AV J)->br X.K (upd H a (cP a (xs++[(d,b,r)]))) x J:=by
    intro x J hx
    induction hx with
    |non=>exact λ_=> .non
    |bl b=>exact λ_=> .bl b
    |int i=>exact λ_=> .int i
    |str z=>exact λ_=> .str z
    |lst _ _ _ _=>intro g;rcases g with g|g|⟨_,_,_,_,g,_⟩<;>simp [oS] at g
    | @tup c xs' ds B hl hi ih=>
      intro g
      have hT:aD X.K (upd H a (cP a (xs++[(d,b,r)]))) c xs':=by
       rcases B with (B|⟨u0,B⟩)|B
       ·exact .inl (.inl (by rw [ag (λz=>by rw [z,e] at B;cases B)];exact B))
       ·exact .inl (.inr ⟨u0,by rw [ag (λz=>by rw [z,e] at B;cases B)];exact B⟩)
       ·exact .inr B
      rwa[.tup hT hl λi x Y h1 j=>ih i x Y h1 j ?_]
      rcases g with g|g|⟨_,p,q',c',g,g1,g2,g3⟩
      ·rw [oS] at g
       have go:∀(ds:List D) (i:Nat) (e:D),nbDs ds=true->ds[i]? =some e->oS e=true:=by
        intro ds
        induction ds with
        |nil=>intro i e _ z;simp at z
        |cons x xs ih=>
         intro i e y z;rw [nbDs,Bool.and_eq_true] at y
         cases i with
         |zero=>simp at z;exact z▸y.1
         |succ i=>exact ih i e y.2 (by simpa using z)
       exact .inl (go ds i Y g j)
      ·cases g
      ·cases g
       match i,j with
       |0,z=>simp at z;exact .inl (z▸g1)
       |1,z=>simp at z;exact .inl (z▸g2)
       |2,z=>simp at z;exact .inl (z▸g3)
       |3,z=>simp at z;exact .inr (.inl z.symm)
   exact λ{c J} g h=>L h (.inr (.inr g))
  exact ⟨_,af,W,hs,Paired.app (Paired.imp' (λp q z=>⟨z.1,z.2.1,U z.2.1 z.2.2.1,z.2.2.2⟩) F) (.cons ⟨rfl,R,U R hd,rv⟩ .nil)⟩
 ·exact oZ I (by rw [e];exact True.intro) ah ⟨S,Z⟩ (xt ⟨S,es,ep,Z,h2,h3,h4,W,hs⟩)
theorem Cv (I:au X pins σ H s){kvs:List (D×V)}(g:fH X.K H a kvs):s.TypeIs (.ref a) "dict":=by
 obtain ⟨_,xs,_,U,_⟩:=A1 I g;exact U.typeIs
end
def Lm (K:Fg)(td ty:TE):TE:=λσ H Q=>td σ H λx H1=>ty σ H1 λy H2=>∃a v,x= .ref a/\Bh K H2 a y @bq/\Q v H2
def Dr (K:Fg)(ty td:TE):TE:=λσ H Q=>ty σ H λy H1=>td σ H1 λx H2=>∃a o,x= .ref a/\Bh K H2 a y o/\Q (.bl (!o.isSome)) H2
def LH (K:Fg)(td ty tv:TE):TS:=λD σ H=>tv σ H λv H1=>td σ H1 λx H2=>ty σ H2 λy H3=>∃a,x= .ref a/\KA K H3 a y v (D.nx σ)
def Ll:TE:=λ_ H Q=>∀p,H p=none->(p==sysModules)=false->Q (.ref p) (upd H p (cP p []))
section
variable {X:Cx}{o i e value:Expr}{pos pos' apos cpos:Pos}{td ty tv:TE}{K:Fg}{m:Nat}
theorem EH (U:X.K=K)(J:X.A.units+8<cLine)(B:PE X o td)(hi:PE X i ty)(hs:Qh i):PE X (.Subscript o i pos) (Lm K td ty):=by
 subst U;intro pins s σ H Q I h;rwa[Hy PySem.F.slot_dict_getitem.lookup hs (bj (B pins s σ H _ I h) λu Y ⟨x,H1,Z,R,S⟩=>bj (hi pins Y σ H1 _ Z S) λiv s2 ⟨y,H2,O,z,a,v,ex,g,q2⟩=> ?_)];subst ex;obtain rfl:u=Value.ref a:=R;exact ⟨(by obtain ⟨kvs,_,_,_,W,_⟩:=g;exact Cv O W),zT J O g z λw' s3 L j=>⟨v,H2,L,j,q2⟩⟩
theorem y9 (O:X.K=K)(B:X.A.units+8<cLine)(hi:PE X i ty)(j:PE X o td):PC X .NotIn i o (Dr K ty td):=by
 subst O;intro pins s σ H Q I h;rwa[bj @cr λZ U ⟨y,H1,W,z,L⟩=>bj (j pins U σ H1 _ W L) λu s2 ⟨x,H2,R,J,a,S,ex,g,Y⟩=> ?_];subst ex;obtain rfl:u=Value.ref a:=J;exact Gk B R g z λs3 F=>⟨.bl (!S.isSome),H2,F,rfl,Y⟩
theorem Et (hK:X.K=K)(B:X.A.units+8<cLine)(j:PE X o td)(hi:PE X i ty)(W:PE X value tv)(hs:swapsWith value (some (.Subscript o i pos')) pos.line X.env=pure false):
 PS X (.Assign [.Subscript o i pos'] value pos) (LH K td ty tv):=by
 subst hK;intro pins s σ H D I h;rwa[wpAny_Assign_Subscript (bj @cB λr F ⟨v,H1,J,z,Z⟩=>bj (j pins F σ H1 _ J Z) λu R ⟨x,H2,O,rx,q2⟩=>bj (hi pins R σ H2 _ O q2) λiv s3 ⟨y,H3,S,L,a,ex,g⟩=> ?_) hs];subst ex;obtain rfl:u=Value.ref a:=rx;exact zS B S g L z λY s4 q4 U=>⟨σ,Y,U,q4⟩
theorem EG:PE X (.Dict [] [] pos) Ll:=λpins s σ H Q I h=>
 wpAny_Dict_empty ⟨.ref s.heap.objs.size,_,I.laid (a:=s.heap.objs.size) (o:=cP s.heap.objs.size []) (t':=s.toks) (λ_ _ q=>Heap.get?_push_of_some _ q) @e
  (xt ⟨_,#[],0,Heap.get?_push_size _ rfl,⟨rfl,rfl,rfl⟩,rfl,rfl,List.nodup_nil,beq_eq_false_iff_ne.mpr @cu⟩),rfl,h _ @bp (beq_eq_false_iff_ne.mpr @cu)⟩
theorem Np {H:Hp}{p:Addr}(F:(p==sysModules)=false):fH K (upd H p (cP p [])) p []:=⟨[],af,List.nodup_nil,F,.nil⟩
theorem Jz {H:Hp}{a c:Addr}{kvs:List (D×V)}{q:Str}(h:fH K H a kvs)(e:H c=some (xX c q)):c≠a:=by
 rintro rfl;obtain ⟨xs,h1,h2,L,_⟩:=h;rw [h1] at e;injection e with e;injection e with e;have y:=congrFun e ⟨Array.replicate (c+1) {cls:= .type "dict",data:= .dict (xs.map (λx=>(⟨Kf x.1,.ref x.2.1,x.2.2⟩:DictEntry))).toArray 0},{}⟩;have z:=y.mp ⟨{cls:= .type "dict",data:= .dict (xs.map (λx=>(⟨Kf x.1,.ref x.2.1,x.2.2⟩:DictEntry))).toArray 0},_,0,by simp [Heap.get?],⟨rfl,rfl,rfl⟩,rfl,by simp,h2,L⟩;obtain ⟨Y,F,B,O,I,ab,J,j⟩:=z;cases I;simp [Heap.get?] at ab;subst ab;cases J
end
open PySem.Calls PySem.W
section
variable {X:Cx}{K:Fg}
def Kv (ns:List Int)(m:Int):Prop:=m∈ns/\∀x∈ns,x<=m
def MP (K:Fg)(a:Addr)(H:Hp)(Q:VK):Prop:=∃ns:List Int,az K H a @bF/\ns≠[]/\∀m,Kv ns m->Q (.int m) H
def Oj (K:Fg):List V->Hp->VK->Prop:=λxs H Q=>match xs with|[.ref a]=>MP K a H Q|_=>False
theorem C9 (hK:X.K=K)(hc:X.calm=true):bc X (.builtin "max") (Oj K):=by
 subst hK;intro pins s σ H xs us Q I r h
 match xs,h with
 |[.ref a],h=>
  obtain ⟨Z,hq,ne,q⟩:=h;obtain ⟨u,rfl,J⟩:=fg r;have J:u=Value.ref a:=J;subst J;obtain ⟨its,rv,pl,hz⟩:=I.list hq;have hi:=AO rv;obtain ⟨ys,R⟩:=hi.allInts.items;have L:s.heap.IsList a (intItems ys):=R▸pl.isList
  have S:Z=ys.toList.map (·.1):=by
   rw [<-nums_intItems,<-R];exact (show numsOf its.toArray.toList=Z from hi.numsOf).symm
  have B:0<ys.size:=by
   rcases Nat.eq_zero_or_pos ys.size with z|z
   ·exfalso;apply ne;rw [S];simp [Array.eq_empty_of_size_eq_zero z]
   ·exact z
  rwa[max_intList @bz L B λv h' tk W hk=> ?_];obtain ⟨b1,Y⟩:=argBest_gt (numAt ys) (ys.size - 1);generalize argBest (λi j=>decide (numAt ys i>numAt ys j)) (ys.size - 1)=k at W b1 Y
  have U:k<ys.size:=by lia
  have O:=intItems_at (xs:=ys) (i:=k) W;obtain ⟨t,rfl⟩:=O
  have F:∀i,(hi:i<ys.size)->numAt ys i=(ys[i]).1:=λi hi=>by simp [numAt,hi]
  rwa[⟨.int (numAt ys k),H,I.kept hk,⟨_,rfl⟩,q _ ⟨?_,λx ai=> ?_⟩⟩]
  ·rw [S,F k U];exact mem_map.mpr ⟨ys[k],by simp,rfl⟩
  ·rw [S] at ai;obtain ⟨p,hp,rfl⟩:=mem_map.mp ai;obtain ⟨i,ak,rfl⟩:=Array.mem_iff_getElem.mp (Array.mem_toList_iff.mp hp);have:=Y i @c;rw [F i ak] at this;exact this
theorem J6 {a:Addr}{R:List Int}{H:Hp}{Q:VK}(h:az K H a @ev)(O:R≠[])(g:∀m,Kv R m->Q (.int m) H):MP K a H Q:=⟨R,h,O,g⟩
def JV (K:Fg):V->V->Hp->VK->Prop:=λx y H Q=>match x,y with| .ref p,.int i=>∃xs v,az K H p xs/\0<=i/\xs[i.toNat]? =some v/\Q v H|_,_=>False
theorem KU (j:X.K=K):Qf X (JV K):=by
 subst j;intro pins s σ H o i Y R Q I J Z h;unfold JV at h;split at h
 ·rename_i p i;obtain ⟨xs,v,L,B,z,q⟩:=h;cases J;obtain ⟨t,rfl⟩:=Z;obtain ⟨its,r,pl,S⟩:=I.list L;obtain ⟨w,O,F⟩:=r.get z;have W:=r.length;have U:=iq;have hi:=(List.getElem?_eq_some_iff.mp z).1;exact wpAny_getItem_list pl.isList B @c (by simpa using O) ⟨v,H,I,F,q⟩
 ·exact h.elim
end
section
variable {X:Cx}{K:Fg}
def uB (K:Fg)(x:V)(p:Addr)(H:Hp)(Q:VK):Prop:=∃xs ds e,az K H p xs/\aC K H xs ds/\br K H x e/\(∀d∈ds,gH d<=50)/\Q (.bl (!(ds.any λd=>gE d e))) H
def JU (K:Fg):R2:=λx y H Q=>match y with| .ref p=>uB K x p H Q|_=>False
theorem KR {m:Nat}(B:X.K=K)(Y:bC m X.A):cL X @ck (JU K):=by
 subst B;intro pins s σ H x y v u Q I J z h;unfold JU at h;split at h
 ·rename_i p;obtain ⟨xs,ds,e,L,dx,S,O,q⟩:=h;cases z
  have j:∀d∈ds,X.A.units+1+gH d<cLine:=λd F=>by have:=Y.un;have:=O d F;lia
  obtain ⟨its,r,pl,U⟩:=I.list L;rwa[SeqAt.notIn_listAt @bA pl.isList (λw R=>iM I J S r dx j w (by simpa using R)) ⟨.bl _,H,I,rfl,?_⟩];rw [show its.toArray.any @bA=its.any @bA by simp,lq I r dx];exact q
 ·exact h.elim
theorem RT {x:V}{p:Addr}{H:Hp}{Q:VK}{xs:List V}{ds:List D}{e:D}(h:az K H p xs)(h1:aC K H xs ds)(h2:br K H x e)(L:∀d∈ds,gH d<=50)(g:Q (.bl (!(ds.any λd=>gE d e))) H):uB K x p H Q:=⟨xs,ds,e,h,h1,h2,L,g⟩
end
def NF (K:Frag)(x:Str)(st:Stmt)(f:Addr):Prop:=nsIn K mainGlobals x=some @Y/\∃fd,bh K x x st f fd
def MF (K:Frag)(C:Addr)(x q:Str)(st:Stmt)(f:Addr):Prop:=GR K C x f/\∃fd,bh K x q st f fd
theorem Pj {K:Frag}{x:Str}{st:Stmt}{f:Addr}{z:Value}{od W:Option Addr}{aa:Array @J}{Z O I j U:Value}(a:nsIn K mainGlobals x=some @Y)(l:K.lookup f=some ⟨z,od,.func (fnOf x x @dN @cP @bK .none Z O I W j U),aa⟩)(c:codeIn K j x=true)(k:keepIn K (.ref f)=true):NF K x st f:=⟨a,_,vq l c k⟩
theorem Pp {K:Frag}{C:Addr}{x q:Str}{st:Stmt}{f:Addr}{z:Value}{od W:Option Addr}{aa:Array @J}{Z O I j U:Value}(a:findIn K (.ref C) x=some @Y)(l:K.lookup f=some ⟨z,od,.func (fnOf x q @dN @cP @bK .none Z O I W j U),aa⟩)(c:codeIn K j q=true)(k:keepIn K (.ref f)=true)(n:isFn K (.ref f)=true):MF K C x q st f:=⟨⟨a,n,k⟩,_,vq l c k⟩
structure rY (P:Program)(w:World)(K:Frag)(mg:Str->Option Value)(base:Heap)(h:Heap):Prop where
 X:K.In h
 G:h.Ns mainGlobals mg
def BA (x q:Str)(st:Stmt)(us:List Value)(ps:List Str):Prop:=∀(kV doc pm:Value) (an:Option Addr) (cdv ct:Value),bindArgs (fnOf x q @dN @cP @bK .none kV doc pm an cdv ct) ⟨us,[]⟩=pure @cs
def NP (x q:Str)(st:Stmt)(ps0:List Str):List Str->List Value->Prop
 |[],us=>BA x q st us ps0
 |_::ps,us=>∀a,NP x q st ps0 ps (us++[a])
def BN (x q:Str)(st:Stmt)(ps:List Str):Prop:=NP x q st ps ps []
theorem NP.all {x q:Str}{st:Stmt}{j:List Str}:∀ {ps:List Str} {us vs:List Value},NP x q st j ps us->vs.length=ps.length->BA x q st (us++vs) j
 |[],us,[],h,_=>by rw [append_nil];exact h
 |_::ps,us,v::vs,h,hl=>by
  have z:=NP.all (h v) (Nat.succ.inj hl);rw [append_assoc] at z;exact z
theorem BN.all {x q:Str}{st:Stmt}{ps:List Str}(h:BN x q st ps)(us:List Value)(W:us.length=ps.length):BA x q st us ps:=NP.all (us:=[]) h W
section
variable {P:Program}{w:World}{K:Frag}{mg:Str->Option Value}{base h:Heap}{x q:Str}{st:Stmt}{f C:Addr}{fd:FuncData}{ps:List Str}{n:Nat}{sp:Sp}
theorem bh.bn (F:bh K x q st f fd)(b:BN x q st ps):d6 K fd ps []:=F.binds λZ O I W j U z B=>b.all z B Z O I W j U
theorem rY.gl (T:rY P w K mg base h){v:Value}(a:nsIn K mainGlobals x=some @bq):mg x=some v:=mg_of T.X T.G a
theorem rY.no (T:rY P w K mg base h)(a:nsIn K mainGlobals x=some none):mg x=none:=mg_none_of T.X T.G a
theorem rY.ok {CX:nh}(T:rY P w K mg base h)(o:ar P w K mg base CX n f fd ps sp):ar P w K mg base CX n f fd ps sp:=o
theorem rY.cal (T:rY P w K mg base h)(a:nsIn K mainGlobals x=some @Y)(F:bh K x x st f fd)(o:ar P w K mg base aQ n f fd ps sp)(b:BN x x st ps:=by (repeat intro _);rfl):aS P w K mg base n x ps sp:=⟨_,_,o,F.bn b,F.kp,T.gl a⟩
theorem rY.calX (T:rY P w K mg base h)(a:nsIn K mainGlobals x=some @Y)(F:bh K x x st f fd)(o:ar P w K mg base @cm n f fd ps sp)(b:BN x x st ps:=by (repeat intro _);rfl):JQ P w K mg base n x ps sp:=⟨_,_,o,F.bn b,F.kp,T.gl a⟩
theorem RW {CX:nh}(F:bh K x q st f fd)(c:tS K C)(m:GR K C x f)(o:ar P w K mg base CX n f fd ps sp)(b:BN x q st ps:=by (repeat intro _);rfl):iE P w K mg base CX n x C sp:=⟨_,_,_,c,m,o,F.bn b⟩
theorem rY.mkc {CX:nh}{y:Str}(T:rY P w K mg base h)(F:bh K x q st f fd)(m:Mk K C f)(g:mg y=some (.ref C))(o:ar P w K mg base CX n f fd ps sp)(b:BN x q st ps:=by (repeat intro _);rfl):iC P w K mg base CX n y C sp:=⟨_,_,_,m,o,F.bn b,g⟩
theorem rY.cal' (T:rY P w K mg base h)(a:NF K x st f)(o:∀ {fd},bh K x x st f fd->ar P w K mg base aQ n f fd ps sp)(b:BN x x st ps:=by (repeat intro _);rfl):aS P w K mg base n x ps sp:=let ⟨a,_,F⟩:=a;T.cal a F (o F) b
theorem rY.calX' (T:rY P w K mg base h)(a:NF K x st f)(o:∀ {fd},bh K x x st f fd->ar P w K mg base @cm n f fd ps sp)(b:BN x x st ps:=by (repeat intro _);rfl):JQ P w K mg base n x ps sp:=let ⟨a,_,F⟩:=a;T.calX a F (o F) b
theorem rY.mcal' {D:Addr}{CX:nh}(T:rY P w K mg base h)(a:MF K D x q st f)(c:tS K C)(m:GR K C x f)(o:∀ {fd},bh K x q st f fd->ar P w K mg base CX n f fd ps sp)(b:BN x q st ps:=by (repeat intro _);rfl):iE P w K mg base CX n x C sp:=let ⟨_,_,F⟩:=a;RW F c m (o F) b
theorem rY.mkc' {D:Addr}{CX:nh}{y:Str}(T:rY P w K mg base h)(a:MF K D x q st f)(m:Mk K C f)(g:mg y=some (.ref C))(o:∀ {fd},bh K x q st f fd->ar P w K mg base CX n f fd ps sp)(b:BN x q st ps:=by (repeat intro _);rfl):iC P w K mg base CX n y C sp:=let ⟨_,_,F⟩:=a;T.mkc F m g (o F) b
theorem bh.law {y:Str}(F:bh K x q st f fd)(b:BN x q st [y]:=by (repeat intro _);rfl)(s:Shared)(v:Value):BindsTo s fd ⟨[v],[]⟩ [(y,v)]:=by
 obtain ⟨L,z,Z,O,I,W,j,U,aa,rfl,J,B⟩:=F.ex;exact .of_eq (b v Z O I W j U)
end
theorem SH {p:Prop}(h:p):p:=h
end L2
namespace My
open PySem L2 PyProof.Rows
seal PE PT PS rj PA PI PG CN G9 PW PO cL NK bc CT xS NC CM
seal rB ie kj uA JC pK FK jI pH Au AK JG JK w9 Bm xg setL Bk zJ rV tZ rA CO G7 np F8 Hx xp
seal Gv qD zB L2.xo L2.putAt L2.vd fO Jv Nj MN QE JD JH uC Dq
seal Jj
def top (i:Nat):Stmt:=PySem.Challenge.pw_liftcourt_k65_ranks.main.body.getD i (.Pass ⟨0,0,0,0⟩)
abbrev LJ:Stmt:=top 1
theorem ON:ai ["k"] ["k"] (ae LJ):=by ac_rfl
abbrev LG:Stmt:=top 2
theorem OM:ai ["mask","k"] ["mask","k"] (ae LG):=by ac_rfl
abbrev pQ:Stmt:=top 3
theorem Bt:ai ["mask","k"] ["mask","k"] (ae pQ):=by ac_rfl
abbrev yU:Stmt:=top 5
theorem Ib:ai ["mask","k"] ["mask","k"] (ae yU):=by ac_rfl
abbrev yV:Stmt:=top 6
theorem Ic:ai ["mask","k"] ["mask","k"] (ae yV):=by ac_rfl
abbrev uN:Stmt:=top 7
theorem D3:ai ["numbers","mask","k"] ["numbers"] (ae uN):=by ac_rfl
abbrev uP:Stmt:=top 8
theorem D5:ai ["mask"] ["mask"] (ae uP):=by ac_rfl
abbrev uO:Stmt:=top 9
theorem D4:ai ["mask","numbers"] ["mask"] (ae uO):=by ac_rfl
abbrev p9:Stmt:=top 10
theorem BD:ai ["mask"] ["mask"] (ae p9):=by ac_rfl
abbrev qe:Stmt:=top 12
theorem BI:ai ["lift"] ["lift"] (ae qe):=by ac_rfl
abbrev qb:Stmt:=top 13
theorem BE:ai ["cabin"] ["cabin"] (ae qb):=by ac_rfl
abbrev gy:Stmt:=top 14
theorem rO:ai ["cabin"] ["cabin"] (ae gy):=by ac_rfl
abbrev yP:Stmt:=top 15
theorem HU:ai ["start","goal"] ["start","goal"] (ae yP):=by ac_rfl
abbrev pS:Stmt:=top 16
theorem Bv:ai ["room","cabin","riders","goals"] ["room","cabin","riders"] (ae pS):=by ac_rfl
abbrev jD:Stmt:=top 17
theorem nv:ai ["floor","light","riders","ways"] ["floor","light","riders"] (ae jD):=by ac_rfl
abbrev uW:Stmt:=top 18
theorem D9:ai ["sort","cabin","tasks","riders","floor","light"] ["sort","cabin","tasks","riders"] (ae uW):=by ac_rfl
abbrev Ef:Stmt:=top 19
theorem LA:ai ["sort","room","cabin","riders","floor","tasks","next_up","next_down","up","down"] ["sort","room","cabin","riders"] (ae Ef):=by ac_rfl
abbrev uI:Stmt:=top 20
theorem DY:ai ["sort","cabin","word","goals","light"] ["sort","cabin","word"] (ae uI):=by ac_rfl
abbrev qg:Stmt:=top 21
theorem BK:ai ["floors","cabin","word"] ["floors","cabin","word"] (ae qg):=by ac_rfl
abbrev gp:Stmt:=top 22
theorem rJ:ai ["cabin","place","light","door"] ["cabin","place","light","door"] (ae gp):=by ac_rfl
abbrev pT:Stmt:=top 23
theorem Bw:ai ["sort","floors","turns","cabin","word","place","light","door","done"] ["sort","floors","turns","cabin","word"] (ae pT):=by ac_rfl
abbrev jz:Stmt:=top 24
theorem wJ:ai ["sort","light","start","goal"] ["sort","light","start","goal"] (ae jz):=by ac_rfl
abbrev jF:Stmt:=top 25
theorem cX:ai ["sort","room","cabin","riders","floor","light","outs","ins","aboard","tag","start","goal","lift"] ["sort","room","cabin","riders"] (ae jF):=by ac_rfl
abbrev jB:Stmt:=top 44
theorem wN:ai ["cabin"] ["cabin"] (ae jB):=by ac_rfl
abbrev pV:Stmt:=top 45
theorem By:ai ["cabins"] ["cabins"] (ae pV):=by ac_rfl
abbrev gv:Stmt:=top 46
theorem rM:ai ["cabins","first","many","step","lift"] ["cabins","first"] (ae gv):=by ac_rfl
abbrev d5:Stmt:=top 47
theorem LB:ai ["cabins","waiting","rider","last","place"] ["cabins","waiting","rider","last"] @gu:=by ac_rfl
abbrev cG:Stmt:=top 48
theorem uE:ai ["cabins","waiting","rider","last","dealt","fewest"] ["cabins","waiting","rider","last"] @gv:=by ac_rfl
abbrev qf:Stmt:=top 49
theorem BJ:ai ["cabins","waiting","rider","last","lift"] ["cabins","waiting","rider","last"] (ae qf):=by ac_rfl
abbrev mv:Stmt:=top 53
theorem yO:ai ["text","house","words","lifts"] ["text","house"] (ae mv):=by ac_rfl
abbrev jx:Stmt:=top 55
theorem wH:ai ["house","floor"] ["house","floor"] (ae jx):=by ac_rfl
abbrev l9:Stmt:=top 56
theorem yH:ai ["house","lift"] ["house","lift"] (ae l9):=by ac_rfl
abbrev l8:Stmt:=top 57
theorem yG:ai ["house","start","goal"] ["house","start","goal"] (ae l8):=by ac_rfl
abbrev me:Stmt:=top 58
theorem yI:ai ["house","deed"] ["house","deed"] (ae me):=by ac_rfl
abbrev uX:Stmt:=top 63
theorem Ea:ai ["kind","turns"] ["kind","turns"] (ae uX):=by ac_rfl
abbrev mi:Stmt:=top 72
theorem yL:ai ["floors","start","room","turns","kind"] ["floors","start","room","turns","kind"] (ae mi):=by ac_rfl
abbrev jE:Stmt:=top 73
theorem wP:ai ["floors","lifts"] ["floors","lifts"] (ae jE):=by ac_rfl
abbrev ij:Stmt:=top 74
theorem uH:ai ["floors","locked"] ["floors","locked"] (ae ij):=by ac_rfl
abbrev jA:Stmt:=top 75
theorem wK:ai ["floors","lifts","locked","sort"] ["floors","lifts","locked","sort"] (ae jA):=by ac_rfl
abbrev uM:Stmt:=top 76
theorem D2:ai ["house","lift"] ["house","lift"] (ae uM):=by ac_rfl
abbrev pR:Stmt:=top 77
theorem Bu:ai ["house","lift"] ["house","lift"] (ae pR):=by ac_rfl
abbrev uV:Stmt:=top 78
theorem D8:ai ["house","lift"] ["house","lift"] (ae uV):=by ac_rfl
abbrev pU:Stmt:=top 83
theorem Bx:ai ["moment"] ["moment"] (ae pU):=by ac_rfl
abbrev uJ:Stmt:=top 84
theorem wD:ai ["state","tags","place","light","door","marks","aboard"] ["state"] (ae uJ):=by ac_rfl
abbrev jy:Stmt:=top 85
theorem nu:ai ["house","state","deeds","taken","deed"] ["house","state","deeds"] (ae jy):=by ac_rfl
abbrev uZ:Stmt:=top 86
theorem Ec:ai ["moment","tag","start","goal","key"] ["moment","tag","start","goal","key"] (ae uZ):=by ac_rfl
abbrev qc:Stmt:=top 87
theorem BF:ai ["rider","lift"] ["rider","lift"] (ae qc):=by ac_rfl
abbrev uY:Stmt:=top 94
theorem Eb:ai ["moment","deed","name"] ["moment","deed"] (ae uY):=by ac_rfl
abbrev Aw:Stmt:=top 95
theorem Ed:ai ["moment","dealer","place","rider","told"] ["moment","dealer","place","rider"] (ae Aw):=by ac_rfl
abbrev ko:Stmt:=top 96
theorem BG:ai ["moment","dealer","place","rider"] ["moment","dealer"] (ae ko):=by ac_rfl
abbrev mf:Stmt:=top 97
theorem yJ:ai ["moment","word","tags","lift","floor"] ["moment","word","tags","lift"] (ae mf):=by ac_rfl
abbrev ml:Stmt:=top 100
theorem pO:ai ["moment","lift","riders","house","told","cabin","outs","ins","door","count"] ["moment","lift","riders"] (ae ml):=by ac_rfl
abbrev mh:Stmt:=top 101
theorem pN:ai ["moment","rule","lift","riders","house","cabin","word"] ["moment","rule","lift","riders"] (ae mh):=by ac_rfl
abbrev eG:Stmt:=top 102
theorem gR:ai ["moment","rule","lift","cabin","riders"] ["moment","rule","lift"] (ae eG):=by ac_rfl
abbrev RJ:Stmt:=top 103
theorem RH:ai ["moment","rule","lift"] ["moment","rule","lift"] (ae RJ):=by ac_rfl
abbrev pX:Stmt:=top 107
theorem Bz:ai ["state","kind"] ["state","kind"] (ae pX):=by ac_rfl
abbrev qd:Stmt:=top 108
theorem BH:ai ["state","kinds"] ["state","kinds"] (ae qd):=by ac_rfl
abbrev LC:Stmt:=top 109
theorem OL:ai ["court","kinds","state","choice","deeds"] ["court","kinds","state","choice"] (ae LC):=by ac_rfl
abbrev jw:Stmt:=top 110
theorem wG:ai ["house","kinds","start","goal"] ["house","kinds"] (ae jw):=by ac_rfl
abbrev lZ:Stmt:=top 111
theorem yF:ai ["graph","numbers","state","first","most","number"] ["graph","numbers","state","first","most"] (ae lZ):=by ac_rfl
abbrev qa:Stmt:=top 112
theorem lU:ai ["court","kinds","most","graph","numbers","number","state","choice","behind"] ["court","kinds","most"] (ae qa):=by ac_rfl
abbrev mw:Stmt:=top 114
theorem pP:ai ["ways","comers","number","leads","choice","goal"] ["ways"] (ae mw):=by ac_rfl
abbrev pW:Stmt:=top 115
theorem fK:ai ["graph","kind","ways","ranks","comers","unsettled","settled","done","behind","number"] ["graph","kind"] (ae pW):=by ac_rfl
abbrev yQ:Stmt:=top 120
theorem HV:ai ["light","here","up","down"] ["light","here","up","down"] (ae yQ):=by ac_rfl
abbrev pY:Stmt:=top 121
theorem BC:ai ["here","up","down"] ["here","up","down"] (ae pY):=by ac_rfl
abbrev lX:Stmt:=top 122
theorem yD:ai ["top","floor","light","here","at_end"] ["top","floor","light","here"] (ae lX):=by ac_rfl
abbrev fC:Stmt:=top 123
theorem pL:ai ["light","here","up","down"] ["light","here","up","down"] (ae fC):=by ac_rfl
abbrev uK:Stmt:=top 124
theorem DZ:ai ["place"] ["place"] (ae uK):=by ac_rfl
abbrev qh:Stmt:=top 130
theorem BL:ai ["rule"] ["rule"] (ae qh):=by ac_rfl
abbrev uL:Stmt:=top 131
theorem D1:ai ["text","floors"] ["text","floors"] (ae uL):=by ac_rfl
abbrev yT:Stmt:=top 133
theorem Ia:ai ["_law_script","_law_k","_law_many","_law_cell"] ["_law_script","_law_k","_law_many"] (ae yT):=by ac_rfl
abbrev yS:Stmt:=top 134
theorem uF:ai ["_law_script","_law_floors","_law_way","_law_letters","_law_at"] ["_law_script","_law_floors"] (ae yS):=by ac_rfl
abbrev yR:Stmt:=top 135
theorem HW:ai ["_law_script","_law_floors","_law_door","_law_lift"] ["_law_script"] (ae yR):=by ac_rfl
abbrev uT:Stmt:=top 136
theorem pM:ai ["_law_script","_law_two","_law_floors","_law_turns","_law_lifts","_law_k","_law_door","_law_locked"] ["_law_script","_law_two"] (ae uT):=by ac_rfl
abbrev uU:Stmt:=top 137
theorem wM:ai ["_law_script","_law_two","_law_house_here","_law_rule_here"] ["_law_script"] (ae uU):=by ac_rfl
abbrev uS:Stmt:=top 138
theorem D7:ai ["_law_script","_law_house_here","_law_kinds_here","_law_k","_law_start"] ["_law_script","_law_house_here"] (ae uS):=by ac_rfl
abbrev uQ:Stmt:=top 139
theorem D6:ai ["_law_thing"] ["_law_thing"] (ae uQ):=by ac_rfl
abbrev pZ:Stmt:=top 140
theorem lT:ai ["_law_state","_law_kind","_law_tags","_law_cabin"] ["_law_state","_law_kind"] (ae pZ):=by ac_rfl
abbrev Eg:Stmt:=top 141
theorem yK:ai ["_law_ranks_here","_law_number","_law_ways","_law_within","_law_rank","_law_ends"] ["_law_ranks_here","_law_number","_law_ways","_law_within"] (ae Eg):=by ac_rfl
abbrev uR:Stmt:=top 142
theorem wL:ai ["_law_graph","_law_kind","_law_states","_law_ways","_law_firsts","_law_ranks_here","_law_number","_law_kept"] ["_law_graph","_law_kind"] (ae uR):=by ac_rfl
abbrev LD:Stmt:=top 143
theorem J0:ai ["_law_script","_law_court_here","_law_kinds_here","_law_graph","_law_kept","_law_kind"] ["_law_script"] (ae LD):=by ac_rfl
noncomputable abbrev ms:Stmt:=eU (top 60) 0
theorem yN:ai ["self","turns"] ["self","turns"] (ae ms):=by ac_rfl
noncomputable abbrev mq:Stmt:=eU (top 60) 1
theorem yM:ai ["self","count","blocked","stepped"] ["self","count","blocked","stepped"] (ae mq):=by ac_rfl
noncomputable abbrev jC:Stmt:=eU (top 61) 0
theorem wO:ai ["self","count","blocked","stepped"] ["self","count","blocked","stepped"] (ae jC):=by ac_rfl
noncomputable abbrev lV:Stmt:=eU (top 62) 0
theorem yC:ai ["self","count","blocked","stepped"] ["self","count","blocked","stepped"] (ae lV):=by ac_rfl
noncomputable abbrev ig:Stmt:=eU (top 82) 0
theorem uD:ai ["self","house","state"] ["self","house","state"] (ae ig):=by ac_rfl
noncomputable abbrev jG:Stmt:=eU (top 104) 0
theorem wQ:ai ["self","house","rule","dealer"] ["self","house","rule","dealer"] (ae jG):=by ac_rfl
noncomputable abbrev ik:Stmt:=eU (top 104) 1
theorem km:ai ["self","cabins"] ["self"] (ae ik):=by ac_rfl
noncomputable abbrev gz:Stmt:=eU (top 104) 2
theorem nF:ai ["self","state","deeds","moment","deed","lift"] ["self","state","deeds"] (ae gz):=by ac_rfl
noncomputable abbrev lY:Stmt:=eU (top 125) 0
theorem yE:ai ["self","seen"] ["self","seen"] (ae lY):=by ac_rfl
noncomputable abbrev ii:Stmt:=eU (top 126) 0
theorem uG:ai ["self","seen","told"] ["self","seen"] (ae ii):=by ac_rfl
noncomputable abbrev gx:Stmt:=eU (top 127) 0
theorem rN:ai ["self","seen"] ["self","seen"] (ae gx):=by ac_rfl
noncomputable abbrev gu:Stmt:=eU (top 128) 0
theorem rL:ai ["self","top"] ["self","top"] (ae gu):=by ac_rfl
noncomputable abbrev gq:Stmt:=eU (top 128) 1
theorem rK:ai ["self","seen"] ["self","seen"] (ae gq):=by ac_rfl
noncomputable abbrev jv:Stmt:=eU (top 129) 0
theorem wF:ai ["self","letters"] ["self","letters"] (ae jv):=by ac_rfl
noncomputable abbrev ju:Stmt:=eU (top 129) 1
theorem wE:ai ["self","seen"] ["self","seen"] (ae ju):=by ac_rfl
section
variable {P:Program}{w:World}{K:Fg}{mg:Str->Option Value}{base:Heap}{f:Addr}{fd:FuncData}
theorem vS {n:Nat}(h:n<1000000):n<sizeLine:=by rw [sizeLine_eq];lia
inductive jR (K:Fg)(vs:List V)(H:Hp)(Q:VK)(_e:XK):Prop
 |mk (a ns k many:_) (_:vs=[.ref a,.int k,.int many]) (_:GQ K H a ns) (_:0<=k) (_:k<100000) (_:0<many) (_:∀i:Int,0<=i->i<many->Q (.int i) H)
abbrev Z0:=λK n s f fd=>bh K n n s f fd
theorem RS (F:Z0 K "_law_draw" yT f fd)(bH:mg "len"=none):ar P w K mg base aQ 1 f fd ["_law_script","_law_k","_law_many"] (jR K):=by
 rwa[F.ok Ia (by symm) (λU A outer s H vs Q E hr h=> ?_)];obtain ⟨a,R,k,j,rfl,⟨O,L⟩,J,Y,I,q⟩:=h;have B:rA 31 k:=fF @b @b;have z:rA (31*k) k:=Gq @c @c;rwa[⟨_,(aa @a (fm @ej @g)),?_⟩];rwa[xw (λσ H'=>H'=H/\∃i:Int,σ=[some (.ref a),some (.int k),some (.int j),some (.int i)]/\0<=i/\i<2147483629) ?_ ?_]
 ·ext;erw[cf O ?_];rw [length_map];rwa[iy (λW=> ?_) (λW=> ?_)]
  ·have S:0<R.length:=by lia
   have h1:=Int.emod_nonneg k (show (R.length:Int)≠0 by lia);have h2:=Int.emod_lt_of_pos k (show (0:Int)<R.length by lia);erw[cf O ?_];rw [length_map];rwa[⟨W,bd O (GJ h1 h2) ⟨by decide,rfl,_,rfl,Int.emod_nonneg _ @b,Int.emod_lt_of_pos _ @b⟩⟩]
  ·exact ⟨rfl,_,rfl,by decide,by decide⟩
 ·rintro σ' H' ⟨rfl,i,rfl,Z,h1⟩;rwa[⟨B,z,fF @c @c,by decide,Gq @b @b,by decide,I,?_⟩];exact q _ (Int.emod_nonneg _ @c) (Int.emod_lt_of_pos _ I)
noncomputable def vN (ks:List Nat):List V:=ks.map λk:Nat=>V.int (k:Int)
noncomputable def O3:Option Nat->V
 |none=> .non
 |some n=> .int (n:Int)
theorem Ip (n:Nat):(1:Int)*2^((n:Int)).toNat=((2^n:Nat):Int):=by rw [Int.toNat_natCast,Int.natCast_pow];simp
inductive j9 (vs:List V)(H:Hp)(Q:VK)(_e:XK):Prop
 |mk (n:Nat) (_:vs=[.int (n:Int)]) (_:n<=1000) (_:Q (.int ((2^n:Nat):Int)) H)
theorem MD (F:Z0 K "bit" LJ f fd):ar P w K mg base aQ 1 f fd ["k"] j9:=by
 rwa[F.ok ON (by symm) @q];obtain ⟨n,rfl,z,q⟩:=h;rwa[⟨_,@g,?_⟩];rwa[⟨PY @c @c @b,?_⟩];rw [<-Ip] at q;exact q
inductive fi (vs:List V)(H:Hp)(Q:VK)(_e:XK):Prop
 |mk (M n:Nat) (_:vs=[.int (M:Int),.int (n:Int)]) (_:n<=1000) (_:Q (.bl (M.testBit n)) H)
theorem Mv (F:Z0 K "has" LG f fd)(B:aS P w K mg base 1 "bit" ["k"] j9):ar P w K mg base aQ 2 f fd ["mask","k"] fi:=by
 rwa[F.ok OM (by symm) @q];obtain ⟨M,n,rfl,z,q⟩:=h;rwa[⟨_,@g,?_⟩];rwa[kJ @c ?_];rwa[j9.mk _ rfl z ?_];show Q (.bl (!decide (Builtin.bitAnd (M:Int) ((2^n:Nat):Int)=0))) H;rw [JI]
 have e:decide (((M&&&2^n:Nat):Int)=0)= !M.testBit n:=by
  rw [<-testBit_and];exact decide_eq_decide.mpr @c
 rw [e,Bool.not_not];exact q
inductive jW (vs:List V)(H:Hp)(Q:VK)(_e:XK):Prop
 |mk (M n:Nat) (_:vs=[.int (M:Int),.int (n:Int)]) (_:n<=1000) (_:Q (.int ((M|||2^n:Nat):Int)) H)
theorem EL (F:Z0 K "with_bit" pQ f fd)(B:aS P w K mg base 1 "bit" ["k"] j9):ar P w K mg base aQ 2 f fd ["mask","k"] jW:=by
 rwa[F.ok Bt (by symm) @q];obtain ⟨M,n,rfl,z,q⟩:=h;rwa[⟨_,@g,?_⟩];rwa[j9.mk _ rfl z ?_];rw [<-L6] at q;exact q
inductive ke (vs:List V)(H:Hp)(Q:VK)(_e:XK):Prop
 |mk (M n:Nat) (_:vs=[.int (M:Int),.int (n:Int)]) (_:n<=1000) (_:Q (.int ((M% 2^n:Nat):Int)) H)
theorem Fc (F:Z0 K "below" yU f fd)(B:aS P w K mg base 1 "bit" ["k"] j9):ar P w K mg base aQ 2 f fd ["mask","k"] ke:=by
 rwa[F.ok Ib (by symm) @q];obtain ⟨M,n,rfl,z,q⟩:=h;rwa[⟨_,(aa (ay @a @fP ap) @g),?_⟩];rwa[hU @c ?_];rwa[j9.mk _ rfl z ⟨?_,?_⟩]
 ·have:=Nat.two_pow_pos n;lia
 ·rw [Int.natCast_emod] at q;exact q
inductive ux (vs:List V)(H:Hp)(Q:VK)(_e:XK):Prop
 |mk (M n:Nat) (_:vs=[.int (M:Int),.int (n:Int)]) (_:n<1000) (_:Q (.int ((M - M% 2^(n+1):Nat):Int)) H)
theorem Ff (F:Z0 K "above" yV f fd)(B:aS P w K mg base 2 "below" ["mask","k"] ke):ar P w K mg base aQ 3 f fd ["mask","k"] ux:=by
 rwa[F.ok Ic (by symm) @q];obtain ⟨M,n,rfl,z,q⟩:=h;rwa[⟨_,@g,?_⟩];rwa[ke.mk _ (n+1) rfl z ?_]
 have e:((M - M% 2^(n+1):Nat):Int)=(M:Int) - ((M% 2^(n+1):Nat):Int):=by
  have:=Nat.mod_le M (2^(n+1));lia
 rw [e] at q;exact q
inductive j5 (K:Fg)(vs:List V)(H:Hp)(Q:VK)(_e:XK):Prop
 |mk (p:Addr) (ks:List Nat) (_:vs=[.ref p]) (_:az K H p (vN ks)) (_:(∀k∈ks,k<=1000)) (_:Q (.int (nG ks:Int)) H)
theorem K6 {ks:List Nat}{i:Nat}{x:V}(h:(vN ks)[i]? =some x):∃k,ks[i]? =some k/\x=V.int (k:Int):=by
 unfold vN at h;rw [getElem?_map] at h
 cases e:ks[i]? with
 |none=>rw [e] at h;cases h
 |some k=>rw [e] at h;exact ⟨k,rfl,(Option.some.inj h).symm⟩
theorem Dg (ks:List Nat):(vN ks).length=ks.length:=length_map _
theorem BX (F:Z0 K "mask_of" uN f fd)(I:aS P w K mg base 2 "with_bit" ["mask","k"] jW):ar P w K mg base aQ 3 f fd ["numbers"] (j5 K):=by
 rwa[F.ok D3 (by symm) @q];obtain ⟨p,ks,rfl,O,R,q⟩:=h;rwa[⟨_,(aa @a (aa (b9 PassesOwn.never rfl @a @a (ac @a)) @eK)),?_⟩];rwa[bF O ?_];rwa[cx (xs:=vN ks) (λi σ H'=>H'=H/\∃o,σ=[some (.ref p),some (.int (nG (ks.take i):Int)),o]) ⟨rfl,_,by rfl⟩ (λi σ H' _ h=>by rw [h.1];exact O) ?_ ?_]
 ·rintro i x σ H' B ⟨rfl,o,rfl⟩;obtain ⟨k,z,rfl⟩:=K6 B;rwa[jW.mk _ _ rfl (R k (mem_of_getElem? z)) ⟨rfl,some (.int (k:Int)),?_⟩]
  have e:nG (ks.take (i+1))=nG (ks.take i)|||2^k:=by
   unfold nG;rw [take_add_one,z,foldl_append];rfl
  rw [e];rfl
 ·rintro σ H' ⟨rfl,o,rfl⟩;rw [Dg,take_of_length_le @e];exact q
inductive yu (vs:List V)(H:Hp)(Q:VK)(_e:XK):Prop
 |mk (M:Nat) (_:vs=[.int (M:Int)]) (_:M<2^200) (_:∀p,H p=none->Q (.ref p) (upd H p (.lst (vN (iY M)))))
abbrev Z03:=λP w K mg base=>aS P w K mg base 2 "has" ["mask","k"] fi
theorem BZ (F:Z0 K "listed" uP f fd)(z:mg "range"=none)(O:Z03 P w K mg base):ar P w K mg base aQ 3 f fd ["mask"] yu:=by
 rwa[F.ok D5 (by symm) @bo];obtain ⟨M,rfl,J,q⟩:=h;have S:=Ql J;have j:=sizeLine_eq;rwa[⟨_,(ac (aj (bD rfl (aB (N':=["k","mask"]) (pk:=[none,some 0]) @j) (cq rfl z (av (C5 rfl PySem.F.plainAttrs_int PySem.F.slot_int_bit_length PySem.F.type_int_bit_length Db (wv 0)) aq)) @h @bb @R))),?_⟩];rwa[⟨rfl,⟨by show -4611686018427387904<=((L M:Nat):Int);lia,by show ((L M:Nat):Int)<4611686018427387904;lia⟩,?_⟩];show rV (JP 0 (L M)) _ _ _ _ _ _ _
 refine gI (λi ys H'=>H'=H/\ys=vN (jd M i)) @c (λi ys H' p=>by
  rw [p.2,Dg];unfold jd;exact Nat.le_trans @bd @f) ⟨rfl,rfl⟩ ?_ ?_
 ·rintro i ys H' hi ⟨rfl,rfl⟩;erw[⟨RD,?_⟩];show fi [.int (M:Int),.int (0+(i:Int))] _ _ _;rw [Int.zero_add];rwa[fi.mk _ _ rfl @c ?_];show if M.testBit i=true then _ else _
  cases h:M.testBit i with
  |true=>
   rw [if_pos rfl];rwa[⟨rfl,?_⟩];rw [jO,h];unfold vN;rw [map_append];rfl
  |false=>
   rw [if_neg Bool.false_ne_true];rwa[⟨rfl,?_⟩];rw [jO,h];simp
 ·rintro ys H' ⟨rfl,rfl⟩ p B;exact q p B
inductive pC (vs:List V)(H:Hp)(Q:VK)(_e:XK):Prop
 |mk (M:Nat) (_:vs=[.int (M:Int)]) (_:M<2^200) (_:∀H',ak H H'->Q (O3 (iY M)[0]?) H')
theorem Ee {H:Hp}{p:Addr}(h:H p=none)(o:HO):ak H @ei:=λb u q=>by rw [ag (bp q h)];exact q
theorem BY (F:Z0 K "lowest" uO f fd)(O:aS P w K mg base 3 "listed" ["mask"] yu):ar P w K mg base aQ 4 f fd ["mask"] pC:=by
 rwa[F.ok D4 (by symm) @bo];obtain ⟨M,rfl,J,q⟩:=h;rwa[⟨_,@fE,?_⟩];erw[yu.mk _ rfl J λp L=> ?_];have z:=q _ (Ee L (.lst (vN (iY M))));rwa[HR @eL ?_]
 cases B:iY M with
 |nil=>
  rw [B] at z;exact bf rfl z
 |cons k ks=>
  rw [B] at z;rwa[bG rfl ?_];exact bd @eL (bz (j:=0) (v:=V.int (k:Int)) rfl) z
inductive lQ (vs:List V)(H:Hp)(Q:VK)(_e:XK):Prop
 |mk (M:Nat) (_:vs=[.int (M:Int)]) (_:Q (O3 (if M=0 then none else some (L M - 1))) H)
theorem zi (F:Z0 K "highest" p9 f fd):ar P w K mg base aQ 1 f fd ["mask"] lQ:=by
 rwa[F.ok BD (by symm) (λj A outer s H z Q E Y h=> ?_)];obtain ⟨M,rfl,q⟩:=h;rwa[⟨_,(ac (aj (C4 @a (cz Ah (C5 rfl PySem.F.plainAttrs_int PySem.F.slot_int_bit_length PySem.F.type_int_bit_length Db (wv 0)) bA) mE))),?_⟩];rwa[iy @bx @bx]
 ·rwa[⟨rfl,?_⟩]
  have B:M≠0:=by lia
  rw [if_neg B] at q
  have e:((L M - 1:Nat):Int)=((L M:Nat):Int) - 1:=by
   have:=GS M;rw [if_neg B] at this;lia
  show Q (.int (((L M:Nat):Int) - 1)) H;rw [<-e];exact q
 ·have B:M=0:=by lia
  rw [if_pos B] at q;exact q
noncomputable def cY (p:Int×Int):D:= .tup [.int p.1,.int p.2]
noncomputable def Gy (pl li dr mk:Int)(ps:List (Int×Int)):List D:=[.int pl,.int li,.int dr,.int mk,.tup @dA]
inductive bP (K:Fg)(H:Hp)(t:Addr)(pl li dr mk:Int)(ps:List (Int×Int)):Prop
 |mk (b xs:_) (_:H t=some (.tup [.int pl,.int li,.int dr,.int mk,.ref b])) (_:H b=some (.tup xs)) (_:aC K H xs @dA)
theorem bP.same {H H':Hp}{t:Addr}{pl li dr j:Int}{ps:List (Int×Int)}(h:bP K H t pl li dr j ps)(s:ak H H'):bP K H' t pl li dr j ps:=by
 obtain ⟨b,xs,S,R,d⟩:=h;exact ⟨b,xs,s.get S,s.get R,aC.same d s⟩
theorem bP.den {H:Hp}{t:Addr}{pl li dr j:Int}{ps:List (Int×Int)}(h:bP K H t pl li dr j ps):br K H (.ref t) (.tup (Gy pl li dr j ps)):=by
 obtain ⟨b,xs,S,R,d⟩:=h;exact eO @fY (.cons (.int _) (.cons (.int _) (.cons (.int _) (.cons (.int _) (.cons (eO (aD.of R) d) .nil)))))
theorem QB:5<=sizeLine:=by rw [sizeLine_eq];lia
noncomputable def bv (so:Str)(pl li:Int)(ps:List (Int×Int))(wd:Str):Str:=
 if so=s!"free"\/ps=[] then wd else if ps.any (λp=>decide (2*p.2=pl))=true then s!"o" else if wd=s!"x" then s!"o" else
 if (wd=s!"u"/\li<0)\/(wd=s!"d"/\0<li) then s!"s" else wd
noncomputable def cF:List Str:=[s!"o",s!"x",s!"u",s!"d",s!"s"]
theorem Nh {x:Str}(h:x∈cF):x=s!"o"\/x=s!"x"\/x=s!"u"\/x=s!"d"\/x=s!"s":=by
 simpa [cF] using h
theorem hZ {so:Str}{pl li:Int}{ps:List (Int×Int)}{j:Str}(h:j∈cF):bv so pl li ps j∈cF:=by
 unfold bv;split
 ·exact h
 split
 ·exact .head _
 split
 ·exact .head _
 split
 ·exact .tail _ (.tail _ (.tail _ (.tail _ (.head _))))
 ·exact h
noncomputable def dH (fl tu pl li dr:Int)(ps:List (Int×Int))(x:Str):Int×Int×Int:=
 if x=s!"o" then (pl,li,tu) else if x=s!"x" then (pl,0,tu) else if x=s!"u"/\pl / 2<fl - 1 then (pl+1,1,dr) else if x=s!"d"/\0<pl then (pl - 1,-1,dr) else (pl,if ps=[] then 0 else li,dr)
section
variable {fl tu pl li dr:Int}{ps:List (Int×Int)}
theorem Gf:dH fl tu pl li dr ps "o"=(pl,li,tu):=if_pos rfl
theorem Gd:dH fl tu pl li dr ps "x"=(pl,0,tu):=by unfold dH;rw [if_neg @b,if_pos rfl]
theorem zM (h:pl / 2<fl - 1):dH fl tu pl li dr ps "u"=(pl+1,1,dr):=by unfold dH;rw [if_neg @b,if_neg @b,if_pos ⟨rfl,h⟩]
theorem zN (h: ¬pl / 2<fl - 1):dH fl tu pl li dr ps "u"=(pl,if ps=[] then 0 else li,dr):=by unfold dH;rw [if_neg @b,if_neg @b,if_neg @ec,if_neg @x]
theorem zO (h:0<pl):dH fl tu pl li dr ps "d"=(pl - 1,-1,dr):=by unfold dH;rw [if_neg @b,if_neg @b,if_neg @x,if_pos ⟨rfl,h⟩]
theorem zP (h: ¬0<pl):dH fl tu pl li dr ps "d"=(pl,if ps=[] then 0 else li,dr):=by unfold dH;rw [if_neg @b,if_neg @b,if_neg @x,if_neg @ec]
theorem Ge:dH fl tu pl li dr ps "s"=(pl,if ps=[] then 0 else li,dr):=by unfold dH;rw [if_neg @b,if_neg @b,if_neg @x,if_neg @x]
end
def o0 (ps:List (Int×Int)):Prop:=ps.length<=100/\∀p∈ps,0<=p.2/\p.2<100
theorem Cs (ps:List (Int×Int)):deps @dA<=1:=by
 induction ps with
 |nil=>decide
 |cons p ps ih=>show max (gH (cY p)) (deps @dA)<=1;exact Nat.max_le.mpr ⟨(by show max 0 @fo+1<=1;lia),ih⟩
inductive ce (K:Fg)(vs:List V)(H:Hp)(Q:VK)(_e:XK):Prop
 |mk (c pl li dr mk ps:_) (_:vs=[.ref c]) (_:bP K H c pl li dr mk ps) (_:Q (.int (pl / 2)) H)
theorem E6 (F:Z0 K "floor_of" qb f fd):ar P w K mg base aQ 1 f fd ["cabin"] (ce K):=by
 rwa[F.ok BE (by symm) (λj A outer s H B Q E Y h=> ?_)];obtain ⟨c,pl,li,dr,z,ps,rfl,I,q⟩:=h;obtain ⟨b,xs,Z,L,dx⟩:=id I;rwa[⟨_,@g,?_⟩];left;exact q
noncomputable def dL (ps:List (Int×Int)):List V:=ps.map λp=>V.int p.2
inductive gk (K:Fg)(vs:List V)(H:Hp)(Q:VK)(_e:XK):Prop
 |mk (c pl li dr mk ps:_) (_:vs=[.ref c]) (_:bP K H c pl li dr mk ps) (_:ps.length<=100) (_:∀p H',ak H H'->H p=none->H' p=some (.lst (dL ps))->Q (.ref p) H')
theorem E5 (F:Z0 K "goals_aboard" gy f fd):ar P w K mg base aQ 1 f fd ["cabin"] (gk K):=by
 rwa[F.ok rO (by symm) (λO A outer s H U Q E W h=> ?_)];obtain ⟨c,pl,li,dr,mk,ps,rfl,I,Z,q⟩:=h;obtain ⟨b,xs,ec,L,dx⟩:=id I;have S:=aG dx;rwa[⟨_,(ac (aj (bD rfl (aB (N':=["tag","goal"]) (pk:=[none,none]) @j) @a @n @r (λC s H ex=>(wv 1))))),?_⟩];left;rwa[d3 @cd ?_];rwa[cQ (xs:=xs) (λi ys H'=>H'=H/\ys=(dL ps).take i) @Z (λi ys H' p=>by rw [p.2,length_take];exact Nat.min_le_left _ _) ⟨rfl,rfl⟩ (λi ys H' _ p=>by rw [p.1];exact aD.of L) (λi x ys H' z p=> ?_) @cg]
 ·obtain ⟨rfl,rfl⟩:=p;obtain ⟨pr,j,J⟩:=bE dx z;obtain ⟨u,us,rfl,R,B⟩:=J.outT
  cases B with|cons q0 t0=>cases t0 with|cons q1 t1=>
  cases t1;cases q0.isInt;cases q1.isInt;left;rwa[⟨fI,?_⟩];left;rwa[⟨rfl,?_⟩];rw [take_succ];congr 1;unfold dL;rw [getElem?_map,j];rfl
 ·obtain ⟨rfl,rfl⟩:=p;rwa[q l2 _ (.upd Y) Y ?_];rw [af,take_of_length_le (by unfold dL;rw [length_map];lia)]
structure aL where
 tag:Int
 start:Int
 goal:Int
 lift:Int
noncomputable def aL.d (r:aL):D:= .tup [.int r.tag,.int r.start,.int r.goal,.int r.lift]
def ND (rs:List aL):Prop:=rs.length<=64/\∀r∈rs,r.start≠r.goal
theorem gA (rs:List aL):noLs @bl=true:=by
 induction rs with
 |nil=>rfl
 |cons r rs ih=>rw [map_cons,noLs,ih];rfl
theorem iK (ps:List (Int×Int)):noLs @dA=true:=by
 induction ps with
 |nil=>rfl
 |cons r rs ih=>rw [map_cons,noLs,ih];rfl
theorem ak.updF {H0 H1:Hp}{o:Addr}{x:HO}(s:ak H0 H1)(h:H0 o=none):ak H0 (upd H1 o x):=λb u z=>by
 rw [ag (λe=>by rw [e,h] at z;cases z)];exact s b u z
noncomputable def tY (s g:Int):Int:=if s<g then 1 else -1
inductive pz (vs:List V)(H:Hp)(Q:VK)(_e:XK):Prop
 |mk (s g:Int) (_:vs=[.int s,.int g]) (_:Q (.int (tY s g)) H)
theorem Mg (F:Z0 K "way_of" yP f fd):ar P w K mg base aQ 1 f fd ["start","goal"] pz:=by
 rwa[F.ok HU (by symm) @q];obtain ⟨s,g,rfl,q⟩:=h;rwa[⟨_,@g,?_⟩];unfold tY at q;by_cases h:s<g
 ·rw [if_pos h] at q;left;exact q
 ·rw [if_neg h] at q;left;exact q
noncomputable def tk (room:Int)(ps:List (Int×Int))(rs:List aL)(f:Int):Bool:=ps.any (λp=>decide (p.2=f))||(decide ((ps.length:Int)<room)&&rs.any (λr=>decide (r.start=f)))
def vJ (t:Int->Bool)(f u:Int):Prop:=(u=0/\∀j:Int,1<=j->j<=7->t (f+j)=false)\/(1<=u/\u<=7/\t (f+u)=true/\∀j:Int,1<=j->j<u->t (f+j)=false)
def vK (t:Int->Bool)(f d:Int):Prop:=(d=0/\∀j:Int,1<=j->j<=7->j<=f->t (f - j)=false)\/(1<=d/\d<=7/\d<=f/\t (f - d)=true/\∀j:Int,1<=j->j<d->t (f - j)=false)
theorem vJ.uniq {t:Int->Bool}{f u v:Int}(h:vJ t f u)(k:vJ t f v):u=v:=by
 rcases h with ⟨h1,h2⟩|⟨h1,h2,L,z⟩<;>rcases k with ⟨O,Y⟩|⟨O,Y,R,j⟩
 ·lia
 ·rw [h2 v O Y] at R;cases R
 ·rw [Y u h1 h2] at L;cases L
 ·rcases Int.lt_trichotomy u v with l|l|l
  ·rw [j u h1 l] at L;cases L
  ·exact l
  ·rw [z v O l] at R;cases R
theorem vK.uniq {t:Int->Bool}{f u v:Int}(h:vK t f u)(k:vK t f v):u=v:=by
 rcases h with ⟨h1,h2⟩|⟨h1,h2,S,L,B⟩<;>rcases k with ⟨O,Y⟩|⟨O,Y,z,R,j⟩
 ·lia
 ·rw [h2 v O Y z] at R;cases R
 ·rw [Y u h1 h2 S] at L;cases L
 ·rcases Int.lt_trichotomy u v with l|l|l
  ·rw [j u h1 l] at L;cases L
  ·exact l
  ·rw [B v O l] at R;cases R
noncomputable def CK (ps:List (Int×Int))(f:Int):Bool:=ps.any λp=>decide (p.2=f)
noncomputable def Bc (rs:List aL)(f li:Int):Bool:=rs.any λr=>decide (r.start=f)&&decide (tY r.start r.goal=li)
noncomputable def dQ (so:Str)(li:Int)(t0 ab al:Bool):Int:=if t0=false then 0 else if so=s!"free"\/li=0 then 2 else if ab=true\/al=true then 2 else 1
def QO (ps:List (Int×Int))(rs:List aL):Prop:=(∀p∈ps,0<=p.2/\p.2<8)/\(∀r∈rs,0<=r.start/\r.start<8)/\ps.length<=64/\rs.length<=64
theorem mF (ks:List Nat)(i:Nat):(nG ks).testBit i=decide (i∈ks):=by
 unfold nG;rw [ql];simp
theorem wU {ks:List Nat}(h:∀k∈ks,k<8):nG ks<2^8:=Nat.lt_pow_two_of_testBit _ λi hi=>by
 rw [mF]
 exact decide_eq_false λz=>by have:=h i z;lia
theorem FQ {ps:List (Int×Int)}(h:∀p∈ps,0<=p.2/\p.2<8):dL ps=vN @dc:=by
 unfold dL vN;rw [map_map];rwa[map_congr_left λp F=> ?_];show V.int p.2=V.int ((p.2.toNat:Nat):Int);rw [Int.toNat_of_nonneg (h p F).1]
noncomputable def dz (rs:List aL):List V:=rs.map λr=>V.int r.start
theorem Bo {rs:List aL}(h:∀r∈rs,0<=r.start/\r.start<8):dz rs=vN (rs.map λr=>r.start.toNat):=by
 unfold dz vN;rw [map_map];rwa[map_congr_left λp F=> ?_];show V.int p.start=V.int ((p.start.toNat:Nat):Int);rw [Int.toNat_of_nonneg (h p F).1]
theorem sK {ps:List (Int×Int)}(h:∀p∈ps,0<=p.2/\p.2<8)(i:Nat):decide (i∈ps.map λp=>p.2.toNat)=ps.any λp=>decide (p.2=(i:Int)):=by
 rw [Bool.eq_iff_iff,decide_eq_true_eq,mem_map,any_eq_true];constructor
 ·rintro ⟨p,F,e⟩;exact ⟨p,F,decide_eq_true (by have:=h p F;lia)⟩
 ·rintro ⟨p,F,e⟩;exact ⟨p,F,by have:=of_decide_eq_true e;lia⟩
theorem zo {rs:List aL}(h:∀r∈rs,0<=r.start/\r.start<8)(i:Nat):decide (i∈rs.map λr=>r.start.toNat)=rs.any λr=>decide (r.start=(i:Int)):=by
 rw [Bool.eq_iff_iff,decide_eq_true_eq,mem_map,any_eq_true];constructor
 ·rintro ⟨p,F,e⟩;exact ⟨p,F,decide_eq_true (by have:=h p F;lia)⟩
 ·rintro ⟨p,F,e⟩;exact ⟨p,F,by have:=of_decide_eq_true e;lia⟩
theorem mL (ps:List (Int×Int)):(dL ps).length=ps.length:=by unfold dL;rw [length_map]
inductive ui (K:Fg)(vs:List V)(H:Hp)(Q:VK)(_e:XK):Prop
 |mk (room c p pl li dr mk ps xs:_) (rs:List aL) (_:vs=[.int room,.ref c,.ref p]) (_:bP K H c pl li dr mk ps) (_:H p=some (.lst xs)) (_:aC K H xs @bl) (_:QO ps rs) (_:∀(M:Nat) H',ak H H'->(∀i:Nat,M.testBit i=tk room ps rs i)->M<2^8->Q (.int (M:Int)) H')
theorem ER (F:Z0 K "tasks_of" pS f fd)(bH:mg "len"=none)(b8:aS P w K mg base 1 "goals_aboard" ["cabin"] (gk K))(qW:aS P w K mg base 3 "mask_of" ["numbers"] (j5 K)):ar P w K mg base aQ 4 f fd ["room","cabin","riders"] (ui K):=by
 rwa[F.ok Bv (by symm) @bi];obtain ⟨I,c,p,pl,li,dr,mk,ps,xs,B,rfl,hc,ep,dp,j,q⟩:=h;have xl:=aG dp;have ae:=j.2.2.2;have ab:=j.2.2.1;rwa[⟨_,(aa @a (aa @bO (ac (aj (cR qW hr @b rfl (av (cz @dU (wv 3) (bD rfl @W @a @s @r (λC s H ex=>(wv 1)))) aq)))))),?_⟩];left;rwa[gk.mk _ _ _ _ _ _ rfl hc @c λg H1 O n1 e1=> ?_];have ev:=FQ j.1;left;rw [mL];rwa[iy @cE @cE]
 ·left
  refine j5.mk _ @dc rfl (az.of (by rw [<-ev];exact e1)) (λk R=>by
   obtain ⟨p,z,rfl⟩:=mem_map.mp R
   have:=j.1 p z;lia) ?_
  refine q _ H1 O (λi=> ?_) (wU λk R=>by
   obtain ⟨p,z,rfl⟩:=mem_map.mp R
   have:=j.1 p z;lia)
  rw [mF,sK j.1];unfold tk;rw [decide_eq_false (show ¬(ps.length:Int)<I by lia),Bool.false_and,Bool.or_false]
 ·left;rwa[bF @cd ?_];rwa[bx (xs:=xs) (λi ys H'=>H'=H1/\ys=(dz B).take i) @Z (λi ys H' p=>by rw [p.2,length_take];exact Nat.min_le_left _ _) ⟨rfl,rfl⟩ (λi ys H' _ p=>by rw [p.1];exact O.seq (az.of ep)) (λi x ys H' L p=> ?_) (λys H' p l2 n2=> ?_)]
  ·obtain ⟨rfl,rfl⟩:=p;obtain ⟨r,Y,U⟩:=bE dp L;obtain ⟨u,us,rfl,hu,S⟩:=U.outT
   cases S with|cons q0 r0=>cases r0 with|cons q1 r1=>cases r1 with|cons q2 r2=>cases r2 with|cons q3 r3=>
   cases r3;cases q0.isInt;cases q1.isInt;cases q2.isInt;cases q3.isInt;left;rwa[⟨jV,?_⟩];left;rwa[⟨rfl,?_⟩];rw [take_succ];congr 1;unfold dz;rw [getElem?_map,Y];rfl
  ·obtain ⟨rfl,rfl⟩:=p
   have Z:upd H' l2 (.lst ((dz B).take xs.length)) l2=some (.lst (dz B)):=by rw [af,take_of_length_le (by unfold dz;rw [length_map];lia)]
   have W:ak H' (upd H' l2 (.lst ((dz B).take xs.length))):= .upd n2;generalize upd H' l2 (.lst ((dz B).take xs.length))=H2 at Z W ⊢
   have sl:(dz B).length=B.length:=by unfold dz;rw [length_map]
   erw[A4 (W.get e1) Z (bq (by rw [mL,sl];lia)) λl3 H3 s3 n3 e3=> ?_];have J:=Bo j.2.1
   refine j5.mk _ (@dc++B.map λr=>r.start.toNat) rfl (az.of (by rw [e3,ev,J];unfold vN;rw [map_append])) (λk R=>by
    rcases mem_append.mp R with R|R
    ·obtain ⟨p,z,rfl⟩:=mem_map.mp R;have:=j.1 p z;lia
    ·obtain ⟨p,z,rfl⟩:=mem_map.mp R
     have:=j.2.1 p z;lia) ?_
   refine q _ H3 ((O.trans W).trans s3) (λi=> ?_) (wU λk R=>by
    rcases mem_append.mp R with R|R
    ·obtain ⟨p,z,rfl⟩:=mem_map.mp R;have:=j.1 p z;lia
    ·obtain ⟨p,z,rfl⟩:=mem_map.mp R
     have:=j.2.1 p z;lia)
   rw [mF];unfold tk;rw [decide_eq_true (show (ps.length:Int)<I by lia),Bool.true_and,<-sK j.1,<-zo j.2.1,<-Bool.decide_or];exact decide_eq_decide.mpr mem_append
inductive uw (K:Fg)(vs:List V)(H:Hp)(Q:VK)(_e:XK):Prop
 |mk (f li p xs:_) (rs:List aL) (_:vs=[.int f,.int li,.ref p]) (_:H p=some (.lst xs)) (_:aC K H xs @bl) (_:rs.length<=64) (_:∀H',ak H H'->Q (.bl (Bc rs f li)) H')
noncomputable def hX (rs:List aL)(f:Int):List V:=(rs.filter λr=>decide (r.start=f)).map λr=>V.int (tY r.start r.goal)
theorem Jo {rs:List aL}{f li:Int}:vn (.int li) (hX rs f)=Bc rs f li:=by
 unfold vn hX Bc;rw [any_map,any_filter];rfl
theorem Fe (F:Z0 K "goes_along" jD f fd)(gL:aS P w K mg base 1 "way_of" ["start","goal"] pz):ar P w K mg base aQ 2 f fd ["floor","light","riders"] (uw K):=by
 rwa[F.ok nv (by symm) (λZ A outer s H vs Q E hr h=> ?_)];obtain ⟨f,li,p,xs,j,rfl,S,O,ae,q⟩:=h;have xl:=aG O;rwa[⟨_,(aa (dN (i:=3) rfl nv.nd rfl @o (aB (N':=["tag","start","goal","lift","floor"]) (pk:=[none,none,none,none,some 0]) @j) @a @s @bb @h) @g),?_⟩];rwa[bF (az.of S) ?_]
 refine bx (xs:=xs) (λi ys H'=>H'=H/\ys=hX (j.take i) f) @Z (λi ys H' p=>by
  rw [p.2];unfold hX;rw [length_map];have:=length_filter_le (λr:aL=>decide (r.start=f)) (j.take i);rw [length_take] at this;lia) ⟨rfl,rfl⟩ (λi ys H' _ p=>by rw [p.1];exact az.of S) (λi x ys H' B p=> ?_) @cg
 ·obtain ⟨rfl,rfl⟩:=p;obtain ⟨r,J,U⟩:=bE O B;obtain ⟨u,us,rfl,hu,I⟩:=U.outT
  cases I with|cons q0 r0=>cases r0 with|cons q1 r1=>cases r1 with|cons q2 r2=>cases r2 with|cons q3 r3=>
  cases r3;cases q0.isInt;cases q1.isInt;cases q2.isInt;cases q3.isInt;left;rwa[⟨jV,?_⟩];show if decide (r.start=f)=true then _ else _
  have e:hX (j.take (i+1)) f=hX (j.take i) f++if decide (r.start=f)=true then [V.int (tY r.start r.goal)] else []:=by
   unfold hX;rw [take_succ,J,filter_append,map_append];congr 1;cases z:decide (r.start=f)<;>simp [z]
  by_cases h1:r.start=f
  ·rw [if_pos @ek];rwa[pz.mk _ _ rfl ?_];rw [e,if_pos @ek];exact ⟨rfl,rfl⟩
  ·rw [if_neg (by rw [decide_eq_false h1];decide),e,if_neg (by rw [decide_eq_false h1];decide),append_nil];exact ⟨rfl,rfl⟩
 ·obtain ⟨rfl,rfl⟩:=p
  have L:upd H' l2 (.lst @cZ) l2=some (.lst (hX j f)):=by rw [af,take_of_length_le @c]
  have R:ak H' (upd H' l2 (.lst @cZ)):= .upd Y;generalize upd H' l2 (.lst @cZ)=H2 at L R ⊢;rwa[pJ (az.of L) rfl ?_ ?_]
  ·rwa[all_eq_true.mpr λx W=> ?_];obtain ⟨r,_,rfl⟩:=mem_map.mp W;rfl
  ·rw [Jo];exact q H2 R
inductive yw (K:Fg)(vs:List V)(H:Hp)(Q:VK)(_e:XK):Prop
 |mk (so c p pl li dr mk ps xs:_) (rs:List aL) (M f0:Nat) (_:vs=[.str so,.ref c,.int (M:Int),.ref p]) (_:bP K H c pl li dr mk ps) (_:H p=some (.lst xs)) (_:aC K H xs @bl) (_:QO ps rs) (_:pl=2*(f0:Int)) (_:f0<8) (_:∀H',ak H H'->Q (.int (dQ so li (M.testBit f0) (CK ps f0) (Bc rs f0 li))) H')
theorem FL {f:Int}{ps:List (Int×Int)}:vn (.int f) (dL ps)=CK ps f:=by
 unfold vn dL CK;rw [any_map];rfl
theorem qJ (ps:List (Int×Int)):(dL ps).all c5=true:=by
 rwa[all_eq_true.mpr λx z=> ?_];obtain ⟨p,_,rfl⟩:=mem_map.mp z;rfl
abbrev Z01:=λP w K mg base=>aS P w K mg base 1 "floor_of" ["cabin"] (ce K)
theorem IU (F:Z0 K "here_of" uW f fd)(bI:Z01 P w K mg base)(oE:Z03 P w K mg base)(b8:aS P w K mg base 1 "goals_aboard" ["cabin"] (gk K))(oa:aS P w K mg base 2 "goes_along" ["floor","light","riders"] (uw K)):ar P w K mg base aQ 3 f fd ["sort","cabin","tasks","riders"] (yw K):=by
 rwa[F.ok D9 (by symm) @bi];obtain ⟨so,c,p,pl,li,dr,mk,ps,xs,rs,M,R,rfl,I,ep,W,S,U,Y,q⟩:=h;obtain ⟨b,bs,ec,eb,db⟩:=id I;have ae:=S.2.2.2;have ab:=S.2.2.1;rwa[⟨_,(aa @a (aa @a (aa (ay (dB @a) @fP ap) (aa (ay @a @fP ap) @g)))),?_⟩]
 have e0:pl / 2=(R:Int):=by lia
 left;rwa[ce.mk _ _ _ _ _ _ rfl I ?_];rw [e0];left;rwa[fi.mk _ _ rfl @c ?_];unfold dQ at q
 cases L:M.testBit R with
 |false=>rw [L,if_pos rfl] at q;left;exact q H (.refl _)
 |true=>
  rw [L,if_neg @b] at q;left;by_cases h1:so=s!"free"
  ·rw [if_pos (.inl h1)] at q;left;exact q H (.refl _)
  ·by_cases h2:li=0
   ·rw [if_pos (.inr h2)] at q;left;exact q H (.refl _)
   ·rw [if_neg (λz=>z.elim h1 h2)] at q;left;rwa[gk.mk _ _ _ _ _ _ rfl I @c λg H1 O n1 Z=> ?_];rwa[pJ (az.of Z) rfl (qJ ps) ?_];rw [FL]
    cases J:CK ps R with
    |true=>rw [J,if_pos (.inl rfl)] at q;left;exact q H1 O
    |false=>
     rw [J] at q;left;rwa[uw.mk _ _ _ _ _ rfl (O.get ep) (aC.same W O) @c λH2 B=> ?_]
     cases j:Bc rs R li with
     |true=>rw [j,if_pos (.inr rfl)] at q;left;exact q H2 (O.trans B)
     |false=>rw [j,if_neg @b] at q;left;exact q H2 (O.trans B)
theorem xO (M:Nat):(iY M).Pairwise (· < ·):=List.Pairwise.filter _ pairwise_lt_range
theorem m7 (M n i:Nat):(M - M% 2^(n+1)).testBit i=(M.testBit i&&decide (n<i)):=by
 have e:M - M% 2^(n+1)=2^(n+1)*(M / 2^(n+1)):=by have:=Nat.div_add_mod M (2^(n+1));lia
 rw [e,Nat.testBit_two_pow_mul,Nat.testBit_div_two_pow];by_cases h:n<i
 ·rw [decide_eq_true h,decide_eq_true (show i≥n+1 from h),Nat.sub_add_cancel h,Bool.true_and,Bool.and_true]
 ·rw [decide_eq_false h,decide_eq_false (show ¬i≥n+1 by lia),Bool.false_and,Bool.and_false]
theorem Oz {M n:Nat}{t:Int->Bool}(J:∀i:Nat,M.testBit i=t i)(W:M<2^8):vJ t n (match ((iY (M - M% 2^(n+1)))[(0:Nat)]? :Option Nat) with|none=>0|some k=>(k:Int) - n):=by
 cases I:iY (M - M% 2^(n+1)) with
 |nil=>
  rwa[.inl ⟨rfl,λj O Y=> ?_⟩];have R:=GF.mp I;have:=m7 M n (n+j.toNat);rw [R,Nat.zero_testBit,decide_eq_true @c,Bool.and_true,J] at this;rw [<-this.symm];congr 1;lia
 |cons k ks=>
  have hs:=xO (M - M% 2^(n+1));rw [I] at hs
  have S:k∈iY (M - M% 2^(n+1)):=by rw [I];exact .head _
  have B:=kB.mp S;rw [m7,Bool.and_eq_true] at B;have nk:=of_decide_eq_true B.2;have Z:k<8:=Bb (M:=M) W (kB.mpr B.1);rwa[.inr ⟨by show 1<=(k:Int) - n;lia,by show (k:Int) - n<=7;lia,?_,λj O L=> ?_⟩]
  ·show t ((n:Int)+((k:Int) - n))=true;rw [show (n:Int)+((k:Int) - n)=(k:Int) by lia,<-J];exact B.1
  ·have L:j<(k:Int) - n:=L
   cases z:t ((n:Int)+j) with
   |false=>rfl
   |true=>
    have U:M.testBit (n+j.toNat)=true:=by rw [J,<-z];congr 1;lia
    have F:n+j.toNat∈iY (M - M% 2^(n+1)):=kB.mpr (by rw [m7,U,decide_eq_true @c];rfl);rw [I] at F
    rcases mem_cons.mp F with e|F
    ·lia
    ·have:=rel_of_pairwise_cons hs F;lia
theorem PR {M n:Nat}{t:Int->Bool}(Z:n<8)(J:∀i:Nat,M.testBit i=t i)(S:M<2^8):vK t n (match (if M% 2^n=0 then none else some (L (M% 2^n) - 1):Option Nat) with|none=>0|some k=>(n:Int) - k):=by
 by_cases B:M% 2^n=0
 ·rw [if_pos B];rwa[.inl ⟨rfl,λj I j7 U=> ?_⟩];have:=Nat.testBit_mod_two_pow M n (n - j.toNat);rw [B,Nat.zero_testBit,decide_eq_true @c,Bool.true_and,J] at this;rw [<-this.symm];congr 1;lia
 ·rw [if_neg B];have R:=Al B;have W:=Qk (M% 2^n);rw [Nat.testBit_mod_two_pow,Bool.and_eq_true] at R;have Y:=of_decide_eq_true R.1;have k8:L (M% 2^n) - 1<8:=Bb (M:=M) S (kB.mpr R.2);rwa[.inr ⟨by show 1<=(n:Int) - ((L (M% 2^n) - 1:Nat):Int);lia,?_,by show (n:Int) - ((L (M% 2^n) - 1:Nat):Int)<=n;lia,?_,λj I F=> ?_⟩]
  ·show (n:Int) - ((L (M% 2^n) - 1:Nat):Int)<=7;lia
  ·show t ((n:Int) - ((n:Int) - ((L (M% 2^n) - 1:Nat):Int)))=true;rw [show (n:Int) - ((n:Int) - ((L (M% 2^n) - 1:Nat):Int))=((L (M% 2^n) - 1:Nat):Int) by lia,<-J];exact R.2
  ·have F:j<(n:Int) - ((L (M% 2^n) - 1:Nat):Int):=F
   cases z:t ((n:Int) - j) with
   |false=>rfl
   |true=>
    have O:(M% 2^n).testBit (n - j.toNat)=true:=by rw [Nat.testBit_mod_two_pow,decide_eq_true @c,J,Bool.true_and,<-z];congr 1;lia
    have:=Nat.testBit_lt_two_pow (Nat.lt_of_lt_of_le W (Nat.pow_le_pow_right @b (show L (M% 2^n)<=n - j.toNat by lia)));rw [O] at this;cases this
noncomputable def JX (room:Int)(so:Str)(li:Int)(ps:List (Int×Int))(rs:List aL)(f0:Nat)(u d:Int):List V:=[.int (f0:Int),.int li,.int (dQ so li (tk room ps rs f0) (CK ps f0) (Bc rs f0 li)),.int u,.int d]
inductive yp (K:Fg)(vs:List V)(H:Hp)(Q:VK)(_e:XK):Prop
 |mk (so room c p pl li dr mk ps xs:_) (rs:List aL) (f0:Nat) (_:vs=[.str so,.int room,.ref c,.ref p]) (_:bP K H c pl li dr mk ps) (_:H p=some (.lst xs)) (_:aC K H xs @bl) (_:QO ps rs) (_:pl=2*(f0:Int)) (_:f0<8) (_:∀r u d H',ak H H'->vJ (tk room ps rs) f0 u->vK (tk room ps rs) f0 d->H' r=some (.tup (JX room so li ps rs f0 u d))->Q (.ref r) H')
theorem Pq {M n:Nat}(h:M<2^8):M - n<2^200:=Nat.lt_of_le_of_lt (Nat.sub_le _ _) (Nat.lt_trans h @b)
theorem IG (F:Z0 K "view" Ef f fd)(bI:Z01 P w K mg base)(tD:aS P w K mg base 4 "tasks_of" ["room","cabin","riders"] (ui K))(GD:aS P w K mg base 3 "above" ["mask","k"] ux)(A8:aS P w K mg base 4 "lowest" ["mask"] pC)(vA:aS P w K mg base 2 "below" ["mask","k"] ke)(xG:aS P w K mg base 1 "highest" ["mask"] lQ)(xH:aS P w K mg base 3 "here_of" ["sort","cabin","tasks","riders"] (yw K)):ar P w K mg base aQ 5 f fd ["sort","room","cabin","riders"] (yp K):=by
 rwa[F.ok LA (by symm) (λag A outer s H vs Q E hr h=> ?_)];obtain ⟨so,I,c,p,pl,li,dr,mk,ps,xs,rs,R,rfl,z,ep,dp,hf,ab,Y,q⟩:=h;obtain ⟨b,bs,ec,eb,db⟩:=id z;rwa[⟨_,(aa @a (aa @a (aa @a (aa @a (aa @a @fE))))),?_⟩]
 have e0:pl / 2=(R:Int):=by lia
 rwa[ce.mk _ _ _ _ _ _ rfl z ?_];rw [e0];rwa[ui.mk _ _ _ _ _ _ _ _ _ _ rfl z ep dp hf λM H1 s1 W S=> ?_];rwa[ux.mk _ _ rfl @c ?_];rwa[pC.mk _ rfl (Pq S) λH2 s2=> ?_];have U:=Oz (n:=R) W S;generalize ((iY (M - M% 2^(R+1)))[(0:Nat)]? :Option Nat)=ou at U ⊢;rwa[ke.mk _ _ rfl @c ?_];rwa[lQ.mk _ rfl ?_];have D:=PR (n:=R) Y W S;generalize (if M% 2^R=0 then none else some (L (M% 2^R) - 1):Option Nat)=od at D ⊢;have J:=s1.trans s2;have B:=z.same J;have ad:∀u d:Int,vJ (tk I ps rs) R u->vK (tk I ps rs) R d->∀r O j,ak H2 O->ak O j->j r=some (.tup (JX I so li ps rs R u d))->Q (.ref r) j:=λu d U D r O j s5 Z e6=>q r u d j ((J.trans s5).trans Z) U D e6;obtain ⟨b2,af,ae,_⟩:=id B;cases ou<;>cases od
 all_goals
  ext
  first|refine bG rfl ?_|refine bf rfl ?_
  ext
  first|refine bG rfl ?_|refine bf rfl ?_
  rwa[ao (aD.of ae) rfl ?_];rwa[yw.mk _ _ _ _ _ _ _ _ _ _ _ _ rfl B (J.get ep) (aC.same dp J) hf ab Y λO s5=> ?_];rw [W];exact bZ QB λr j Z _ e6=>ad _ _ U D r _ _ s5 Z e6
theorem Cm {pl:Int}{f0:Int}{ps:List (Int×Int)}(h:pl=2*f0):vn (.int (pl / 2)) (dL ps)=ps.any (λp=>decide (2*p.2=pl)):=by
 unfold vn dL;rw [any_map];congr 1
 funext p
 show (p.2==pl / 2)=decide (2*p.2=pl);by_cases e:p.2=pl / 2
 ·rw [decide_eq_true @c,beq_iff_eq];exact e
 ·rw [decide_eq_false @c,beq_eq_false_iff_ne];exact e
inductive lN (K:Fg)(vs:List V)(H:Hp)(Q:VK)(_e:XK):Prop
 |mk (so c wd pl li dr mk ps f0:_) (_:vs=[.str so,.ref c,.str wd]) (_:bP K H c pl li dr mk ps) (_:o0 ps) (_:pl=2*f0) (_: -1<=li) (_:li<=1) (_:∀H',ak H H'->Q (.str @cS) H')
theorem zg (F:Z0 K "turned" uI f fd)(bH:mg "len"=none)(bI:Z01 P w K mg base)(b8:aS P w K mg base 1 "goals_aboard" ["cabin"] (gk K)):ar P w K mg base aQ 2 f fd ["sort","cabin","word"] (lN K):=by
 rwa[F.ok DY (by symm) @y];obtain ⟨so,c,B,pl,li,dr,mk,ps,f0,rfl,I,W,j,Y,Z,q⟩:=h;obtain ⟨b,xs,ec,eb,dx⟩:=id I;rwa[⟨_,(aa @a (aa @a (aa (ay @a @dt ap) (aa @C (aa @C @dt))))),?_⟩];unfold bv at q;left;rwa[gk.mk _ _ _ _ _ _ rfl I W.1 λp H1 O n1 e1=> ?_];left;rwa[iy @cE @cE]
 ·rw [if_pos (.inl h1)] at q;left;exact q H1 O
 left;rw [mL];rwa[iy @bM @bM]
 ·rw [if_pos (.inr (length_eq_zero_iff.mp @c))] at q;left;exact q H1 O
 rw [if_neg (λz=>z.elim h1 λz=>h2 (by rw [z];rfl))] at q;left;rwa[ce.mk _ _ _ _ _ _ rfl @cL ?_];left;rwa[pJ @eM rfl (qJ ps) ?_];rw [Cm j];rwa[vo (λL=> ?_) (λL=> ?_)]
 ·rw [if_pos L] at q;left;exact q H1 O
 rw [if_neg (by rw [L];decide)] at q;left;rwa[iy (λJ=> ?_) (λJ=> ?_)]
 ·rw [if_pos J] at q;left;exact q H1 O
 rw [if_neg J] at q;by_cases S:B=s!"u"
 ·have R: ¬B=s!"d":=by rw [S];decide
  by_cases h6:li= -1
  ·rw [if_pos (.inl ⟨S,by lia⟩)] at q;left;exact q H1 O
  ·rw [if_neg (λz=>z.elim (λz=>h6 @c) @dh)] at q;left;exact q H1 O
 ·by_cases R:B=s!"d"
  ·by_cases U:li=1
   ·rw [if_pos (.inr ⟨R,by lia⟩)] at q;left;exact q H1 O
   ·rw [if_neg (λz=>z.elim (λz=>S z.1) (λz=>U @c))] at q;left;exact q H1 O
  ·rw [if_neg (λz=>z.elim (λz=>S z.1) @dh)] at q;left;exact q H1 O
noncomputable def aV (fl pl:Int)(x:Str):Str:=if x=s!"u"/\pl / 2=fl - 1 then s!"s" else if x=s!"d"/\pl / 2=0 then s!"s" else x
inductive lR (K:Fg)(vs:List V)(H:Hp)(Q:VK)(_e:XK):Prop
 |mk (fl c wd pl li dr mk ps:_) (_:vs=[.int fl,.ref c,.str wd]) (_:bP K H c pl li dr mk ps) (_:Q (.str (aV fl pl wd)) H)
theorem zj (F:Z0 K "bounded" qg f fd)(J:Z01 P w K mg base):ar P w K mg base aQ 2 f fd ["floors","cabin","word"] (lR K):=by
 rwa[F.ok BK (by symm) (λB A outer s H O Q E Y h=> ?_)];obtain ⟨fl,c,j,pl,li,dr,L,ps,rfl,I,q⟩:=h;rwa[⟨_,(aa @C (aa @C @dt)),?_⟩];unfold aV at q;by_cases h1:j=s!"u"
 ·have R: ¬j=s!"d":=by rw [h1];decide
  left;rwa[ce.mk _ _ _ _ _ _ rfl I ?_];rwa[iy @bM @bM]
  ·rw [if_pos ⟨h1,h2⟩] at q;left;exact q
  ·rw [if_neg (λz=>h2 z.2),if_neg @dh] at q;left;exact q
 ·by_cases R:j=s!"d"
  ·left;rwa[ce.mk _ _ _ _ _ _ rfl I ?_];rwa[iy @bM @bM]
   ·rw [if_neg @cT,if_pos ⟨R,h2⟩] at q;left;exact q
   ·rw [if_neg @cT,if_neg (λz=>h2 z.2)] at q;left;exact q
  ·rw [if_neg @cT,if_neg @dh] at q;left;exact q
inductive dZ (K:Fg)(vs:List V)(H:Hp)(Q:VK)(_e:XK):Prop
 |mk (c p l d pl li dr mk ps:_) (_:vs=[.ref c,.int p,.int l,.int d]) (_:bP K H c pl li dr mk ps) (_:∀r H',ak H H'->bP K H' r p l d mk ps->Q (.ref r) H')
theorem IF (F:Z0 K "with_changes" gp f fd):ar P w K mg base aQ 1 f fd ["cabin","place","light","door"] (dZ K):=by
 rwa[F.ok rJ (by symm) (λj A outer s H z Q E Y h=> ?_)];obtain ⟨c,p,l,d,pl,li,dr,B,ps,rfl,I,q⟩:=h;obtain ⟨b,xs,Z,L,dx⟩:=id I;rwa[⟨_,@g,?_⟩];left;exact bZ QB λr H1 O _ S=>q r H1 O ⟨b,xs,S,O.get L,aC.same dx O⟩
theorem Sd {fl pl:Int}:aV fl pl "o"=s!"o":=by unfold aV;rw [if_neg @x,if_neg @x]
theorem Sb {fl pl:Int}:aV fl pl "x"=s!"x":=by unfold aV;rw [if_neg @x,if_neg @x]
theorem Sc {fl pl:Int}:aV fl pl "s"=s!"s":=by unfold aV;rw [if_neg @x,if_neg @x]
theorem P3 {fl pl:Int}(h:pl / 2=fl - 1):aV fl pl "u"=s!"s":=by unfold aV;rw [if_pos ⟨rfl,h⟩]
theorem P4 {fl pl:Int}(h: ¬pl / 2=fl - 1):aV fl pl "u"=s!"u":=by unfold aV;rw [if_neg @ec,if_neg @x]
theorem P5 {fl pl:Int}(h:pl / 2=0):aV fl pl "d"=s!"s":=by unfold aV;rw [if_neg @x,if_pos ⟨rfl,h⟩]
theorem P6 {fl pl:Int}(h: ¬pl / 2=0):aV fl pl "d"=s!"d":=by unfold aV;rw [if_neg @x,if_neg @ec]
inductive lK (K:Fg)(vs:List V)(H:Hp)(Q:VK)(_e:XK):Prop
 |mk (so fl tu c wd pl li dr mk ps f0:_) (_:vs=[.str so,.int fl,.int tu,.ref c,.str wd]) (_:bP K H c pl li dr mk ps) (_:wd∈cF) (_:o0 ps) (_:pl=2*f0) (_:0<=f0) (_:f0<fl) (_: -1<=li) (_:li<=1) (_:∀r H',ak H H'->bP K H' r (dH fl tu pl li dr ps @cS).1 (dH fl tu pl li dr ps @cS).2.1 (dH fl tu pl li dr ps @cS).2.2 mk ps->Q (.ref r) H')
theorem Dw {H:Hp}{so:Str}{fl tu:Int}{c:Addr}{j:Str}{pl li dr z:Int}{ps:List (Int×Int)}{f0:Int}{Q:VK}{E:XK}(h1:bP K H c pl li dr z ps)(h2:j∈cF)(B:o0 ps)(F:pl=2*f0)(S:0<=f0)(J:f0<fl)(R: -1<=li)(L:li<=1)
(g:∀r H',ak H H'->bP K H' r (dH fl tu pl li dr ps @eB).1 (dH fl tu pl li dr ps @eB).2.1 (dH fl tu pl li dr ps @eB).2.2 z ps->Q (.ref r) H'):lK K [.str so,.int fl,.int tu,.ref c,.str j] H Q E:=⟨so,fl,tu,c,j,pl,li,dr,z,ps,f0,rfl,h1,h2,B,F,S,J,R,L,g⟩
theorem Nl {fl tu pl li dr:Int}{ps:List (Int×Int)}{F:Str}(j:0<=pl)(h1:pl / 2<fl)(h2:pl% 2=0)(B:F∈cF):dH fl tu pl li dr ps F=if aV fl pl F=s!"o" then (pl,li,tu) else if aV fl pl F=s!"x" then (pl,0,tu) else if aV fl pl F=s!"u" then (pl+1,1,dr) else if aV fl pl F=s!"d" then (pl - 1,-1,dr) else (pl,if ps=[] then 0 else li,dr):=by
 have O: ¬s!"s"=s!"o":=by decide+kernel
 have R: ¬s!"s"=s!"x":=by decide+kernel
 have L: ¬s!"s"=s!"u":=by decide+kernel
 have Z: ¬s!"s"=s!"d":=by decide+kernel
 rcases Nh B with rfl|rfl|rfl|rfl|rfl
 ·rw [Sd,Gf,if_pos rfl]
 ·rw [Sb,Gd,if_neg @z,if_pos rfl]
 ·by_cases h:pl / 2=fl - 1
  ·rw [P3 h,zN @c,if_neg O,if_neg R,if_neg L,if_neg Z]
  ·rw [P4 h,zM @c,if_neg @z,if_neg @z,if_pos rfl]
 ·by_cases h:pl / 2=0
  ·rw [P5 h,zP @c,if_neg O,if_neg R,if_neg L,if_neg Z]
  ·rw [P6 h,zO @c,if_neg @z,if_neg @z,if_neg @z,if_pos rfl]
 ·rw [Sc,Ge,if_neg O,if_neg R,if_neg L,if_neg Z]
abbrev Z02:=λP w K mg base=>aS P w K mg base 1 "with_changes" ["cabin","place","light","door"] (dZ K)
theorem zf (F:Z0 K "steered" pT f fd)(bH:mg "len"=none)(A7:aS P w K mg base 2 "turned" ["sort","cabin","word"] (lN K))(xL:aS P w K mg base 2 "bounded" ["floors","cabin","word"] (lR K))(b7:Z02 P w K mg base):ar P w K mg base aQ 3 f fd ["sort","floors","turns","cabin","word"] (lK K):=by
 rwa[F.ok Bw (by symm) (λae A outer s H vs Q E hr h=> ?_)];obtain ⟨so,fl,tu,c,wd,pl,li,dr,mk,ps,f0,rfl,I,hw,hg,Y,ab,ad,W,Z,q⟩:=h;obtain ⟨b,xs,ec,eb,dx⟩:=id I;have hx:=aG dx;rwa[⟨_,(aa @a (aa @a (aa @a (aa @a (aa @bO (aa @bO (aa @bO (aa @bO @g)))))))),?_⟩];left;rwa[lN.mk _ _ _ _ _ _ _ _ _ rfl I hg Y W Z λH1 O=> ?_];rwa[lR.mk _ _ _ _ _ _ _ _ rfl @cL ?_];have R:=hZ (so:=so) (pl:=pl) (li:=li) (ps:=ps) hw;generalize bv so pl li ps wd=w' at R q ⊢;have j:=Nl (fl:=fl) (tu:=tu) (li:=li) (dr:=dr) (ps:=ps) (pl:=pl) @c @c @c R
 have L:∀B J U,dH fl tu pl li dr ps w'=(B,J,U)->∀r H',ak H1 H'->bP K H' r B J U mk ps->Q (.ref r) H':=λB J U e r H' s2 er=>by
  rwa[q r H' (O.trans s2) ?_];rw [e];exact er
 generalize aV fl pl w'=x at j ⊢;rwa[iy @t @dI]
 ·ext;exact dZ.mk _ _ _ _ _ _ _ _ _ rfl @cL (L _ _ _ (by rw [j,if_pos z]))
 rwa[iy @t (λz2=> ?_)]
 ·ext;exact dZ.mk _ _ _ _ _ _ _ _ _ rfl @cL (L _ _ _ (by rw [j,if_neg S,if_pos z]))
 rwa[iy @t (λz3=> ?_)]
 ·ext;exact dZ.mk _ _ _ _ _ _ _ _ _ rfl @cL (L _ _ _ (by rw [j,if_neg S,if_neg z2,if_pos z]))
 rwa[iy @t (λz4=> ?_)]
 ·ext;exact dZ.mk _ _ _ _ _ _ _ _ _ rfl @cL (L _ _ _ (by rw [j,if_neg S,if_neg z2,if_neg z3,if_pos z]))
 rw [if_neg S,if_neg z2,if_neg z3,if_neg z4] at j;rwa[ao (aD.of (O _ _ ec)) rfl ?_];rwa[gm (aD.of (O _ _ eb)) ?_];rwa[iy @t @t]
 ·ext;exact dZ.mk _ _ _ _ _ _ _ _ _ rfl @cL (L _ _ _ (by rw [j,if_neg (λy=>by subst y;rw [hx] at z;exact absurd z @b)]))
 ·ext;exact dZ.mk _ _ _ _ _ _ _ _ _ rfl @cL (L _ _ _ (by rw [j,if_pos (length_eq_zero_iff.mp @c)]))
noncomputable def v9 (r:aL):Int:=if r.start<r.goal then 1 else -1
structure CL where
 light:Int
 kept:List (Int×Int)
 ins:List Int
noncomputable def gF (so:Str)(room pl:Int)(s:CL)(r:aL):Bool:=decide (2*r.start=pl)&&decide ((s.kept.length:Int)<room)&&decide (so=s!"free"\/s.light=0\/s.light=v9 r)
noncomputable def cN (so:Str)(room pl:Int)(s:CL)(r:aL):CL:=if gF so room pl s r=true then ⟨if so=s!"way" then v9 r else s.light,s.kept++[(r.tag,r.goal)],s.ins++[r.tag]⟩ else s
noncomputable def bo (so:Str)(room pl:Int)(s:CL)(rs:List aL):CL:=rs.foldl (cN so room pl) s
theorem du {so:Str}{room pl:Int}{s:CL}{rs:List aL}{i:Nat}{r:aL}(h:rs[i]? =some r):bo so room pl s (rs.take (i+1))=cN so room pl (bo so room pl s @dB) r:=by
 rw [take_succ,h];unfold bo;rw [foldl_append];rfl
theorem Dv {so:Str}{room pl:Int}(s:CL)(r:aL):(cN so room pl s r).kept.length<=s.kept.length+1/\(cN so room pl s r).ins.length<=s.ins.length+1:=by
 unfold cN;split<;>simp
theorem lJ {so:Str}{room pl:Int}:∀(rs:List aL) (s:CL),(bo so room pl s rs).kept.length<=s.kept.length+rs.length/\(bo so room pl s rs).ins.length<=s.ins.length+rs.length
 |[],s=>⟨Nat.le_refl _,Nat.le_refl _⟩
 |r::rs,s=>by
  have h1:=lJ (so:=so) (room:=room) (pl:=pl) rs @bC;have h2:=Dv (so:=so) (room:=room) (pl:=pl) s r;show (bo so room pl @bC rs).kept.length<=_/\(bo so room pl @bC rs).ins.length<=_;rw [length_cons];lia
noncomputable def dE (pl:Int)(ps:List (Int×Int)):List (Int×Int):=ps.filter λp=> !decide (2*p.2=pl)
noncomputable def cZ (pl:Int)(ps:List (Int×Int)):List Int:=(ps.filter λp=>decide (2*p.2=pl)).map (·.1)
noncomputable def mR (so:Str)(room pl li:Int)(ps:List (Int×Int))(rs:List aL):CL:=bo so room pl ⟨li,dE pl ps,[]⟩ rs
theorem iO {α:Type}(f:α->Bool){xs:List α}{i:Nat}{x:α}(h:xs[i]? =some x):(xs.take (i+1)).filter f=(xs.take i).filter f++if f x=true then [x] else []:=by
 rw [take_succ,h,filter_append];congr 1;cases e:f x<;>simp [e]
def r6 (K:Fg)(H0 H:Hp)(n k:Addr)(ins:List Int)(kept:List (Int×Int)):Prop:=ak H0 H/\H0 n=none/\H0 k=none/\n≠k/\H n=some (.lst (ins.map V.int))/\∃ks,H k=some (.lst ks)/\aC K H ks (kept.map cY)
theorem r6.pushN {H0 H:Hp}{n k:Addr}{z:List Int}{j:List (Int×Int)}(g:r6 K H0 H n k z j)(t:Int):r6 K H0 (upd H n (.lst (z.map V.int++[.int t]))) n k (z++[t]) j:=by
 obtain ⟨s,B,R,O,J,ks,I,F⟩:=g;rwa[⟨ak.updF s B,B,R,O,by rw [af,map_append];rfl,ks,by rw [ag (Ne.symm O)];exact I,kR F (iK j) J⟩]
theorem r6.same {H0 H H':Hp}{n k:Addr}{z:List Int}{j:List (Int×Int)}(g:r6 K H0 H n k z j)(s':ak H H'):r6 K H0 H' n k z j:=by
 obtain ⟨s,B,R,I,J,ks,O,F⟩:=g;exact ⟨s.trans s',B,R,I,s'.get J,ks,s'.get O,aC.same F s'⟩
theorem r6.pushK {H0 H:Hp}{n k l:Addr}{z:List Int}{j:List (Int×Int)}{ks:List V}{t g:Int}(G:r6 K H0 H n k z j)(O:H k=some (.lst ks))(U:H l=some (.tup [.int t,.int g])):r6 K H0 (upd H k (.lst (ks++[.ref l]))) n k z (j++[(t,g)]):=by
 obtain ⟨s,L,R,F,S,I,B,J⟩:=G;rw [O] at B;cases B;rwa[⟨ak.updF s R,L,R,F,by rw [ag F];exact S,_,af,?_⟩];rw [map_append];exact Paired.app (kR J (iK j) O) (.cons (br.noL (d:=cY (t,g)) (eO (aD.of U) (.cons (.int _) (.cons (.int _) .nil))) rfl O) .nil)
def GM (K:Fg)(H0 H:Hp)(r:Addr)(pl li dr mk:Int)(kept:List (Int×Int))(outs ins:List Int):Prop:=∃c o n,H r=some (.tup [.ref c,.ref o,.ref n])/\bP K H c pl li dr mk kept/\H o=some (.lst (outs.map V.int))/\H n=some (.lst (ins.map V.int))/\H0 o=none/\H0 n=none/\o≠n
inductive DG (vs:List V)(H:Hp)(Q:VK)(_e:XK):Prop
 |mk (so:_) (li s g:Int) (_:vs=[.str so,.int li,.int s,.int g]) (_:Q (.bl (decide (so=s!"free"\/li=0\/li=tY s g))) H)
theorem Mp (F:Z0 K "may_step_in" jz f fd)(I:aS P w K mg base 1 "way_of" ["start","goal"] pz):ar P w K mg base aQ 2 f fd ["sort","light","start","goal"] DG:=by
 rwa[F.ok wJ (by symm) @Q];obtain ⟨j,li,s,g,rfl,q⟩:=h;rwa[⟨_,@g,?_⟩];by_cases h1:j=s!"free"
 ·rw [decide_eq_true (.inl h1)] at q;left;exact q
 ·by_cases h2:li=0
  ·rw [decide_eq_true (.inr (.inl h2))] at q;left;exact q
  ·left;rwa[pz.mk _ _ rfl ?_];have e:decide (j=s!"free"\/li=0\/li=tY s g)=decide (tY s g=li):=decide_eq_decide.mpr ⟨λz=>by rcases z with z|z|z;exact absurd z h1;exact absurd z h2;exact z.symm,λz=> .inr (.inr z.symm)⟩;rw [e] at q;exact q
inductive yz (K:Fg)(vs:List V)(H:Hp)(Q:VK)(_e:XK):Prop
 |mk (so room c p pl li dr mk ps xs:_) (rs:List aL) (f0:Int) (_:vs=[.str so,.int room,.ref c,.ref p]) (_:bP K H c pl li dr mk ps) (_:ps.length<=64) (_:H p=some (.lst xs)) (_:aC K H xs @bl) (_:ND rs) (_:pl=2*f0) (_:∀r H',ak H H'->GM K H H' r pl (mR so room pl li ps rs).light dr mk (mR so room pl li ps rs).kept (cZ pl ps) (mR so room pl li ps rs).ins->Q (.ref r) H')
theorem PK {H:Hp}{so:Str}{room:Int}{c p:Addr}{pl li dr j:Int}{ps:List (Int×Int)}{xs:List V}{rs:List aL}{f0:Int}{Q:VK}{E:XK}(h1:bP K H c pl li dr j ps)(h2:ps.length<=64)(L:H p=some (.lst xs))(z:aC K H xs @bl)(S:ND rs)(J:pl=2*f0)
(g:∀r H',ak H H'->GM K H H' r pl (mR so room pl li ps rs).light dr j (mR so room pl li ps rs).kept (cZ pl ps) (mR so room pl li ps rs).ins->Q (.ref r) H'):yz K [.str so,.int room,.ref c,.ref p] H Q E:=⟨so,room,c,p,pl,li,dr,j,ps,xs,rs,f0,rfl,h1,h2,L,z,S,J,g⟩
theorem IX (F:Z0 K "exchanged" jF f fd)(bH:mg "len"=none)(bW:mg "tuple"=none)(bI:Z01 P w K mg base)(gL:aS P w K mg base 1 "way_of" ["start","goal"] pz)(gN:aS P w K mg base 2 "may_step_in" ["sort","light","start","goal"] DG):ar P w K mg base aQ 3 f fd ["sort","room","cabin","riders"] (yz K):=by
 rwa[F.ok cX (by symm) (λaK A outer s H vs Q E hr h=> ?_)];obtain ⟨B,I,c,p,pl,li,dr,mk,ps,xs,rs,f0,rfl,hc,aI,ep,dp,ax,hf,q⟩:=h;obtain ⟨b,bs,ec,eb,db⟩:=id hc;have bl:=aG db;have xl:=aG dp;rwa[⟨_,(aa @a (aa @a (aa (dN (i:=6) rfl cX.nd rfl @o (aB (N':=["tag","goal","floor"]) (pk:=[none,none,some 4]) @j) @a @n @bb @R) (aa @a (aa (dN (i:=8) rfl cX.nd rfl @o (aB (N':=["tag","goal","floor"]) (pk:=[none,none,some 4]) @j) @a @n @bb @h) (aa (b9 PassesOwn.never rfl @a (dh (K:=K) (n:=4) rfl rfl (aA @a (aA @a (aA (u3 (i:=11) cX.nd rfl @o) (aA (u3 (i:=12) cX.nd rfl @o) cc))))) (ac (ay (PW.pt (yd (cB (we rfl hr) (wv 10) (wv 4) (bN _)) (yd @a (Ay (r9 rfl (cR gN hr @b rfl (av (wv 0) (av (wv 5) (av (wv 10) @eZ))))))))) (aa @dC (aa (aE (gQ rfl PySem.F.plainAttrs_list PySem.F.slot_list_append PySem.F.type_list_append pf (wv 8) (av (gc (av (wv 9) @eZ)) aq))) (ac (bM (i:=5) cX.nd rfl @o (C4 @a (cR gL hr @b rfl (av (wv 10) @eZ)) (wv 5)))))) ap))) (ac (aj (gc (av (gc (av @a (av (wv 5) (av @a (av @a (av (aJ @eC rfl bW boot_tuple (av (wv 8) aq)) aq)))))) (av (wv 6) (av (wv 7) aq)))))))))))),?_⟩];left;rwa[ce.mk _ _ _ _ _ _ rfl hc ?_];left;rwa[d3 @cd ?_]
 refine cQ (xs:=bs) (λi ys H'=>H'=H/\ys=(cZ pl @fp).map V.int) @Z (λi ys H' p=>by
  rw [p.2,length_map];unfold cZ;rw [length_map];have:=length_filter_le (λp=>decide (2*p.2=pl)) @fp;rw [length_take] at this;lia) ⟨rfl,rfl⟩ (λi ys H' _ p=>by rw [p.1];exact aD.of eb) (λi x ys H' ad p=> ?_) (λys H' p o n1=> ?_)
 ·obtain ⟨rfl,rfl⟩:=p;obtain ⟨pr,ab,ae⟩:=bE db ad;obtain ⟨u,us,rfl,hu,L⟩:=ae.outT
  cases L with|cons q0 r0=>cases r0 with|cons q1 r1=>
  cases r1;cases q0.isInt;cases q1.isInt;left;rwa[⟨fI,?_⟩];show if decide (pr.2=pl / 2)=true then _ else _;unfold cZ;rw [iO _ ab];by_cases h1:pr.2=pl / 2
  ·rw [if_pos @ek,if_pos (decide_eq_true (show 2*pr.2=pl by lia)),map_append,map_append];exact ⟨rfl,rfl⟩
  ·rw [if_neg (by rw [decide_eq_false h1];decide),if_neg (by rw [decide_eq_false (show ¬2*pr.2=pl by lia)];decide),append_nil];exact ⟨rfl,rfl⟩
 obtain ⟨rfl,rfl⟩:=p;rw [take_of_length_le (show ps.length<=bs.length by lia)];have e1:upd H' o (.lst ((cZ pl ps).map V.int)) o=some (.lst ((cZ pl ps).map V.int)):=af;have s1:ak H' (upd H' o (.lst ((cZ pl ps).map V.int))):= .upd n1;generalize upd H' o (.lst ((cZ pl ps).map V.int))=H1 at e1 s1 ⊢;left;rwa[fP (bq (by first|decide|simp)) λn H2 s2 n2 e2=> ?_]
 have no:n≠o:=λz=>by rw [z,e1] at n2;cases n2
 have nH:H' n=none:=s1.free n2;left;rwa[d3 @cd ?_]
 refine cQ (xs:=bs) (λi ys j=>ak H2 j/\aC K j ys ((dE pl @fp).map cY)) @Z (λi ys j p=>by
  rw [aG p.2];unfold dE;have:=length_filter_le (λp=> !decide (2*p.2=pl)) @fp;rw [length_take] at this;lia) ⟨.refl _,.nil⟩ (λi ys j _ p=>p.1.seqT (s2.seqT (s1.seqT @eN))) (λi x ys j ad p=> ?_) (λys j p k Z=> ?_)
 ·obtain ⟨R,dy⟩:=p;obtain ⟨pr,ab,ae⟩:=bE db ad;obtain ⟨u,us,rfl,hu,L⟩:=ae.outT
  cases L with|cons q0 r0=>cases r0 with|cons q1 r1=>
  cases r1;cases q0.isInt;cases q1.isInt;left;rwa[⟨fI,?_⟩];show if (!decide (pr.2=pl / 2))=true then _ else _;unfold dE;rw [iO _ ab];by_cases h1:pr.2=pl / 2
  ·rw [if_neg (by rw [decide_eq_true h1];decide),if_neg (by rw [decide_eq_true (show 2*pr.2=pl by lia)];decide),append_nil];exact ⟨R,dy⟩
  ·rw [if_pos (by rw [decide_eq_false h1];rfl),if_pos (by rw [decide_eq_false (show ¬2*pr.2=pl by lia)];rfl)];rwa[bZ (bq (by first|decide|simp)) λl HY sy ny ey=> ?_];rwa[⟨R.trans sy,?_⟩];rw [map_append];exact Paired.app (aC.same dy sy) (.cons (eO (aD.of ey) (.cons (.int _) (.cons (.int _) .nil))) .nil)
 obtain ⟨R,dy⟩:=p;rw [take_of_length_le (show ps.length<=bs.length by lia)] at dy
 have nk:n≠k:=λz=>by rw [<-z,R.get e2] at Z;cases Z
 have ok:o≠k:=λz=>by rw [<-z,R.get (s2.get e1)] at Z;cases Z
 have kH:H' k=none:=s1.free (s2.free (R.free Z));have Y:ak H' (upd j k (.lst ys)):=((s1.trans s2).trans R).trans (.upd Z);have e3:upd j k (.lst ys) n=some (.lst []):=(ak.upd Z).get (R.get e2);have U:upd j k (.lst ys) o=some (.lst ((cZ pl ps).map V.int)):=(ak.upd Z).get (R.get (s2.get e1));have ao:upd j k (.lst ys) k=some (.lst ys):=af;have am:aC K (upd j k (.lst ys)) ys ((dE pl ps).map cY):=aC.same dy (.upd Z);generalize upd j k (.lst ys)=H3 at Y e3 U ao am ⊢;left;rwa[bF (Y.seq (az.of ep)) ?_];rwa[cx (xs:=xs) (λi σ j=>r6 K H' j n k (bo B I pl ⟨li,dE pl ps,[]⟩ @dB).ins (bo B I pl ⟨li,dE pl ps,[]⟩ @dB).kept/\j o=some (.lst ((cZ pl ps).map V.int))/\∃t1 t2 t3 t4,σ=[some (.str B),some (.int I),some (.ref c),some (.ref p),some (.int (pl / 2)),some (.int (bo B I pl ⟨li,dE pl ps,[]⟩ @dB).light),some (.ref o),some (.ref n),some (.ref k),t1,t2,t3,t4]) ⟨⟨Y,nH,kH,nk,e3,ys,ao,am⟩,U,_,_,_,_,rfl⟩ (λi σ j _ pv=>by obtain ⟨⟨sm,_⟩,_⟩:=pv;exact sm.seq (az.of ep)) (λi x σ j hx pv=> ?_) (λσ j pv=> ?_)]
 ·obtain ⟨G,U,t1,t2,t3,t4,rfl⟩:=pv;obtain ⟨r,J,aw⟩:=bE dp hx;obtain ⟨u,us,rfl,hu,L⟩:=aw.outT
  cases L with|cons q0 r0=>cases r0 with|cons q1 r1=>cases r1 with|cons q2 r2=>cases r2 with|cons q3 r3=>
  cases r3;cases q0.isInt;cases q1.isInt;cases q2.isInt;cases q3.isInt;have sm:=G.1
  have lp:i<rs.length:=by have:=(List.getElem?_eq_some_iff.mp J).1;lia
  have ll:=lJ (so:=B) (room:=I) (pl:=pl) @dB ⟨li,dE pl ps,[]⟩;rw [length_take] at ll;have aL:=ax.1;have kp:(dE pl ps).length<=ps.length:=length_filter_le _ _;generalize hS:bo B I pl ⟨li,dE pl ps,[]⟩ @dB=S at *;simp only [length_nil] at ll
  have O:gF B I pl S r=false->cN B I pl S r=S:=λe=>by unfold cN;rw [e];rfl
  obtain ⟨ks,ek,dk⟩:=G.2.2.2.2.2;have kl:=aG dk;left;rwa[iy @cE @cE]
  ·have as:2*r.start=pl:=by lia
   left;rw [kl];rwa[iy @bM @bM]
   ·left;rwa[DG.mk _ _ _ _ rfl ?_]
    have ah:(B=s!"free"\/S.light=0\/S.light=tY r.start r.goal)->cN B I pl S r=⟨if B=s!"way" then v9 r else S.light,S.kept++[(r.tag,r.goal)],S.ins++[r.tag]⟩:=λz=>by
     unfold cN gF;rw [if_pos (by rw [decide_eq_true as,decide_eq_true h2,decide_eq_true (show B=s!"free"\/S.light=0\/S.light=v9 r from z)];rfl)]
    have aM:=G.2.2.2.2.1;rwa[iy (λh4=> ?_) (λh4=> ?_)]
    ·left;rwa[dY G.2.2.2.2.1 (At (by rw [length_map];lia)) ?_];have GB:=G.pushN r.tag
     have an:upd j n (.lst (S.ins.map V.int++[.int r.tag])) o=some (.lst ((cZ pl ps).map V.int)):=by rw [ag (Ne.symm no)];exact U
     generalize upd j n (.lst (S.ins.map V.int++[.int r.tag]))=HB at GB an ⊢;obtain ⟨aF,aN,aH⟩:=GB.2.2.2.2.2;left;erw[bZ (bq (by first|decide|simp)) λlA HA sA nA eA=> ?_];have GA:=GB.same sA;obtain ⟨al,ai,au⟩:=GA.2.2.2.2.2;rwa[dY ai (At (by rw [aG au];lia)) ?_];have GC:=GA.pushK ai eA
     have W:upd HA k (.lst (al++[.ref lA])) o=some (.lst ((cZ pl ps).map V.int)):=by rw [ag ok];exact sA.get an
     generalize upd HA k (.lst (al++[.ref lA]))=HC at GC W ⊢;ext;by_cases h5:B=s!"way"
     ·left;erw[pz.mk _ _ rfl ?_];rw [du J,hS,ah h4,if_pos h5];exact ⟨GC,W,_,_,_,_,rfl⟩
     ·left;rw [du J,hS,ah h4,if_neg h5];exact ⟨GC,W,_,_,_,_,rfl⟩
    ·left;rw [du J,hS,O (by unfold gF;rw [decide_eq_false (show ¬(B=s!"free"\/S.light=0\/S.light=v9 r) from h4),Bool.and_false])];exact ⟨G,U,_,_,_,_,rfl⟩
   ·left;rw [du J,hS,O (by unfold gF;rw [decide_eq_false h2,Bool.and_false];rfl)];exact ⟨G,U,_,_,_,_,rfl⟩
  ·left;rw [du J,hS,O (by unfold gF;rw [decide_eq_false (show ¬2*r.start=pl by lia)];rfl)];exact ⟨G,U,_,_,_,_,rfl⟩
 ·obtain ⟨G,U,t1,t2,t3,t4,rfl⟩:=pv;rw [take_of_length_le (show rs.length<=xs.length by lia)] at G ⊢;obtain ⟨ks,ek,dk⟩:=G.2.2.2.2.2;have sm:=G.1;left;rwa[jo (az.of ek) λl HA sA nA eA=> ?_];left;rwa[bZ QB λc' HB sB nB eB=> ?_];left;rwa[bZ (bq (by first|decide|simp)) λr' HC sC nC eC=> ?_];exact q r' HC (((G.1.trans sA).trans sB).trans sC) ⟨c',o,n,eC,⟨l,ks,sC.get eB,sC.get (sB.get eA),by walk_at "l3sq"⟩,by walk_at "l3sq",sC.get (sB.get (sA.get G.2.2.2.2.1)),n1,nH,Ne.symm no⟩
abbrev y6:Str:=s!"plain"
abbrev hst:Str:=s!"hasty"
abbrev HN:Str:=s!"slow"
def qy (k:Str):Prop:=k=y6\/k=hst\/k=HN
noncomputable def kc (kD kH kS:Addr)(k:Str):Addr:=if k=hst then kH else if k=HN then kS else kD
theorem M5 {j B z:Addr}:kc j B z y6=j:=by unfold kc;rw [if_neg @b,if_neg @b]
theorem M6 {j B z:Addr}:kc j B z hst=B:=by unfold kc;rw [if_pos rfl]
theorem M4 {j B z:Addr}:kc j B z HN=z:=by unfold kc;rw [if_neg @b,if_pos rfl]
noncomputable def eN (k:Str)(t n:Int)(b s:Bool):Int:=if (k=y6/\b=true)\/(k=HN/\(b=true\/s=true)) then t else if k=hst/\b=true then n else n - 1
abbrev Jy (C dx:Addr)(t:Int):HO:= .ins C dx [(s!"turns",.int t)]
inductive jr (K:Fg)(vs:List V)(H:Hp)(Q:VK)(_e:XK):Prop
 |mk (a t C dx:_) (_:vs=[.ref a,.int t]) (_:H a=some (.ins C dx [])) (_:tS K C) (_:aK K C "turns") (_:Q .non (upd H a @gj))
theorem IS (F:bh K "__init__" "Door.__init__" ms f fd):ar P w K mg base aQ 1 f fd ["self","turns"] (jr K):=by
 rwa[F.ok yN (by symm) @Q];obtain ⟨a,t,C,dx,rfl,I,j,z,q⟩:=h;rwa[⟨_,(ac @bE),?_⟩];exact cI I j z @b q
inductive ib (K:Fg)(k:Str)(vs:List V)(H:Hp)(Q:VK)(_e:XK):Prop
 |mk (a n b s t C dx:_) (_:vs=[.ref a,.int n,.bl b,.bl s]) (_:H a=some @gj) (_:tS K C) (_:aK K C "turns") (_:Q (.int (eN k t n b s)) H)
theorem E2 (F:bh K "left" "Door.left" mq f fd):ar P w K mg base aQ 1 f fd ["self","count","blocked","stepped"] (ib K y6):=by
 rwa[F.ok yM (by symm) @Q];obtain ⟨a,n,b,s,t,C,dx,rfl,I,j,z,q⟩:=h;rwa[⟨_,@g,?_⟩];cases b
 ·rw [show eN y6 t n false s=n - 1 from by unfold eN;rw [if_neg (by cases s<;>decide),if_neg @b]] at q;left;exact q
 ·rw [show eN y6 t n true s=t from by unfold eN;rw [if_pos (.inl ⟨rfl,rfl⟩)]] at q;left;exact dG I j z rfl q
theorem E1 (F:bh K "left" "Hasty.left" jC f fd):ar P w K mg base aQ 1 f fd ["self","count","blocked","stepped"] (ib K hst):=by
 rwa[F.ok wO (by symm) @q];obtain ⟨a,n,b,s,t,C,dx,rfl,I,z,B,q⟩:=h;rwa[⟨_,@g,?_⟩];cases b
 ·rw [show eN hst t n false s=n - 1 from by unfold eN;rw [if_neg (by cases s<;>decide),if_neg @b]] at q;left;exact q
 ·rw [show eN hst t n true s=n from by unfold eN;rw [if_neg (by cases s<;>decide),if_pos ⟨rfl,rfl⟩]] at q;left;exact q
theorem EZ (F:bh K "left" "Slow.left" lV f fd):ar P w K mg base aQ 1 f fd ["self","count","blocked","stepped"] (ib K HN):=by
 rwa[F.ok yC (by symm) @ba];obtain ⟨a,n,b,s,t,C,dx,rfl,B,j,z,q⟩:=h;rwa[⟨_,@g,?_⟩];cases b
 ·cases s
  ·rw [show eN HN t n false false=n - 1 from by unfold eN;rw [if_neg @b,if_neg @b]] at q;left;exact q
  ·rw [show eN HN t n false true=t from by unfold eN;rw [if_pos (.inr ⟨rfl,.inr rfl⟩)]] at q;left;exact dG B j z rfl q
 ·rw [show eN HN t n true s=t from by unfold eN;rw [if_pos (.inr ⟨rfl,.inl rfl⟩)]] at q;left;exact dG B j z rfl q
structure KC (K:Fg)(C:Addr):Prop where
 i:fW K C
 n:aK K C "turns"
unseal fO in
theorem MI {C:Addr}{E:XK}{t:Int}{H:Hp}{Q:VK}(c:KC K C)(g:∀a dx H',ak H H'->H a=none->H' a=some @gj->Q (.ref a) H'):fO C (jr K) E [.int t] H Q:=by
 show ∀a dx,H a=none->H dx=none->dx≠a->jr K (.ref a::([.int t]++[])) @p (λv H2=>v= .non/\Q (.ref a) H2) E;intro a dx h1 h2 L;rwa[jr.mk _ _ _ _ rfl af c.i.cl c.n ⟨rfl,g a dx _ ?_ h1 af⟩];intro b u z;rw [ag (λe=>by rw [e,h1] at z;cases z)];exact d9 h1 h2 b u z
inductive pD (K:Fg)(kD kH kS:Addr)(vs:List V)(H:Hp)(Q:VK)(_e:XK):Prop
 |mk (k t:_) (_:vs=[.str k,.int t]) (_:qy k) (_:∀a dx H',ak H H'->H a=none->H' a=some (Jy @gw dx t)->Q (.ref a) H')
theorem B1 (F:Z0 K "door_of" uX f fd)(I:KC K rS)(z:KC K kI)(B:KC K vh)(O:iC P w K mg base aQ 1 "Door" rS (jr K))(j:iC P w K mg base aQ 1 "Hasty" kI (jr K))(L:iC P w K mg base aQ 1 "Slow" vh (jr K)):ar P w K mg base aQ 3 f fd ["kind","turns"] (pD K rS kI vh):=by
 rwa[F.ok Ea (by symm) (λJ A outer s H S Q E Y h=> ?_)];obtain ⟨k,t,rfl,R,q⟩:=h;rwa[⟨_,(aa (ay @a (ac (aj (ge j gS Y @b rfl @bk))) ap) (aa (ay @a (ac (aj (ge L gS Y @b rfl @bk))) ap) (ac (aj (ge O gS Y @b rfl @bk))))),?_⟩]
 rcases R with rfl|rfl|rfl
 ·rw [M5] at q;left;exact MI I q
 ·rw [M6] at q;left;exact MI z q
 ·rw [M4] at q;left;exact MI B q
structure Lf where
 st:Int
 rm:Int
 tn:Int
 kd:Str
structure Hs where
 fl:Int
 ls:List Lf
 lo:Nat
 so:Str
structure Hs.ok (h:Hs):Prop where
 f2:2<=h.fl
 f8:h.fl<=8
 l1:1<=h.ls.length
 l3:h.ls.length<=3
 lf:∀l∈h.ls,1<=l.rm/\l.rm<=6/\1<=l.tn/\l.tn<=4/\qy l.kd
 so:h.so=s!"free"\/h.so=s!"way"
def NE (K:Fg)(H:Hp)(x:V)(l:Lf):Prop:=∃b,x= .ref b/\aD K H b [.int l.st,.int l.rm,.int l.tn,.str l.kd]
def lC (K:Fg)(H:Hp)(a:Addr)(h:Hs):Prop:=h.ok/\∃p xs,aD K H a [.int h.fl,.ref p,.int (h.lo:Int),.str h.so]/\aD K H p xs/\Paired (NE K H) xs h.ls
theorem lC.keep {H H':Hp}{a:Addr}{h:Hs}(c:lC K H a h)(s:aI H H'):lC K H' a h:=by
 obtain ⟨o,p,xs,h1,h2,L⟩:=c;exact ⟨o,p,xs,s.sqT h1,s.sqT h2,Paired.imp' (λx l ⟨b,e,z⟩=>⟨b,e,s.sqT z⟩) L⟩
theorem lC.same {H H':Hp}{a:Addr}{h:Hs}(c:lC K H a h)(s:ak H H'):lC K H' a h:=c.keep s.st
theorem lC.at {H:Hp}{a:Addr}{h:Hs}(c:lC K H a h){i:Int}{l:Lf}(F:0<=i)(W:h.ls[i.toNat]? =some l):∃p xs b,aD K H a [.int h.fl,.ref p,.int (h.lo:Int),.str h.so]/\aD K H p xs/\xs.length=h.ls.length/\oF xs i=some (.ref b)/\aD K H b [.int l.st,.int l.rm,.int l.tn,.str l.kd]:=by
 obtain ⟨o,p,xs,h1,h2,L⟩:=c;obtain ⟨j,rfl⟩:=Int.eq_ofNat_of_zero_le F;rw [show ((j:Int)).toNat=j by lia] at W
 have Z:j<xs.length:=by rw [L.len];exact (List.getElem?_eq_some_iff.mp W).1
 obtain ⟨I,J,b,B,z⟩:=L.get1 (getElem?_eq_getElem Z);rw [W] at J;cases J;exact ⟨p,xs,b,h1,h2,L.len,by rw [bz (getElem?_eq_getElem Z),B],z⟩
inductive lO (K:Fg)(g:Lf->V)(vs:List V)(H:Hp)(Q:VK)(_e:XK):Prop
 |mk (a h i l:_) (_:vs=[.ref a,.int i]) (_:lC K H a h) (_:0<=i) (_:h.ls[i.toNat]? =some l) (_:Q (g l) H)
theorem IK (F:Z0 K "room_of" uM f fd):ar P w K mg base aQ 1 f fd ["house","lift"] @di:=by
 rwa[F.ok D2 (by symm) @ba];obtain ⟨a,h,i,l,rfl,B,j,W,q⟩:=h;obtain ⟨p,xs,b,h1,h2,J,z,S⟩:=B.at j W;rwa[⟨_,@g,?_⟩];rwa[ao h1 rfl ?_];rwa[ao h2 z ?_];exact ao S rfl q
theorem ze (F:Z0 K "turns_of" pR f fd):ar P w K mg base aQ 1 f fd ["house","lift"] @dj:=by
 rwa[F.ok Bu (by symm) @ba];obtain ⟨a,h,i,l,rfl,B,j,W,q⟩:=h;obtain ⟨p,xs,b,h1,h2,J,z,S⟩:=B.at j W;rwa[⟨_,@g,?_⟩];rwa[ao h1 rfl ?_];rwa[ao h2 z ?_];exact ao S rfl q
theorem B0 (F:Z0 K "kind_of" uV f fd):ar P w K mg base aQ 1 f fd ["house","lift"] (lO K λl=> .str l.kd):=by
 rwa[F.ok D8 (by symm) @ba];obtain ⟨a,h,i,l,rfl,B,j,W,q⟩:=h;obtain ⟨p,xs,b,h1,h2,J,z,S⟩:=B.at j W;rwa[⟨_,@g,?_⟩];rwa[ao h1 rfl ?_];rwa[ao h2 z ?_];exact ao S rfl q
structure Cb where
 pl:Int
 li:Int
 dr:Int
 mr:Int
 ps:List (Int×Int)
def d4 (K:Fg)(H:Hp)(x:V)(c:Cb):Prop:=∃t,x= .ref t/\bP K H t c.pl c.li c.dr c.mr c.ps
theorem bP.keep {H H':Hp}{t:Addr}{pl li dr j:Int}{ps:List (Int×Int)}(h:bP K H t pl li dr j ps)(s:aI H H'):bP K H' t pl li dr j ps:=by
 obtain ⟨b,xs,S,R,d⟩:=h;exact ⟨b,xs,s.tup S,s.tup R,s.dens d (iK ps)⟩
theorem d4.keep {H H':Hp}{x:V}{c:Cb}(h:d4 K H x c)(s:aI H H'):d4 K H' x c:=let ⟨t,e,z⟩:=h;⟨t,e,z.keep s⟩
structure MS where
 cs:List Cb
 ws:List aL
 last:Int
 fire:Bool
 bl:Nat
 log:List D
abbrev rR (h lc lw:Addr)(last:Int)(fire:Bool)(bl:Nat)(ll:Addr):List (Str×V):=[(s!"house",.ref h),(s!"cabins",.ref lc),(s!"waiting",.ref lw),(s!"last",.int last),(s!"fire",.bl fire),(s!"blocked",.int (bl:Int)),(s!"log",.ref ll)]
structure xY (K:Fg)(C:Addr):Prop where
 i:fW K C
 house:aK K C "house"
 cabins:aK K C "cabins"
 waiting:aK K C "waiting"
 last:aK K C "last"
 fire:aK K C "fire"
 blocked:aK K C "blocked"
 log:aK K C "log"
structure cU (K:Fg)(C:Addr)(H0 H:Hp)(m h dx lc lw ll:Addr)(xs ys zs:List V)(M:MS):Prop where
 s:ak H0 H
 nm:H0 m=none
 nc:H0 lc=none
 nw:H0 lw=none
 nl:H0 ll=none
 cw:lc≠lw
 cl:lc≠ll
 wl:lw≠ll
 em:H m=some (.ins C dx @ep)
 ec:H lc=some (.lst xs)
 ew:H lw=some (.lst ys)
 el:H ll=some (.lst zs)
 dc:Paired (d4 K H) xs M.cs
 dw:aC K H ys (M.ws.map aL.d)
 dl:aC K H zs M.log
 ln:noLs M.log=true
inductive gW (K:Fg)(C:Addr)(H0 H:Hp)(m h:Addr)(M:MS):Prop
 |mk (dx lc lw ll xs ys zs:_) (_:cU K C H0 H m h dx lc lw ll xs ys zs M)
section
variable {C:Addr}{H0 H H':Hp}{m h dx lc lw ll:Addr}{xs ys zs:List V}{M:MS}
theorem cU.same (a:cU K C H0 H m h dx lc lw ll xs ys zs M)(s':ak H H'):cU K C H0 H' m h dx lc lw ll xs ys zs M:=
 ⟨a.s.trans s',a.nm,a.nc,a.nw,a.nl,a.cw,a.cl,a.wl,s' _ _ a.em,s' _ _ a.ec,s' _ _ a.ew,s' _ _ a.el,Paired.imp' (λx c z=>d4.keep z s'.st) a.dc,aC.same a.dw s',aC.same a.dl s',a.ln⟩
theorem gW.same (a:gW K C H0 H m h M)(s':ak H H'):gW K C H0 H' m h M:=let ⟨dx,lc,lw,ll,xs,ys,zs,z⟩:=a;⟨dx,lc,lw,ll,xs,ys,zs,z.same s'⟩
theorem d4.nt {H H':Hp}(s:aM H H'){v:V}{c:Cb}(h:d4 K H v c):d4 K H' v c:=by
 obtain ⟨t,e,b,j,h1,h2,L⟩:=h;exact ⟨t,e,b,j,s _ _ (λ_ z=>by cases z) h1,s _ _ (λ_ z=>by cases z) h2,s.dens L⟩
theorem cU.sameN (a:cU K C H0 H m h dx lc lw ll xs ys zs M)(j:NT H0)(s':aM H H'):cU K C H0 H' m h dx lc lw ll xs ys zs M:=
 ⟨aM.onto j a.s s',a.nm,a.nc,a.nw,a.nl,a.cw,a.cl,a.wl,s' _ _ (λ_ z=>by cases z) a.em,s' _ _ (λ_ z=>by cases z) a.ec,s' _ _ (λ_ z=>by cases z) a.ew,s' _ _ (λ_ z=>by cases z) a.el,Paired.imp' (λx c z=>d4.nt s' z) a.dc,s'.dens a.dw,s'.dens a.dl,a.ln⟩
theorem cU.setC (a:cU K C H0 H m h dx lc lw ll xs ys zs M){i:Nat}{v:V}{c:Cb}(W:d4 K H v c):cU K C H0 (upd H lc (.lst @fZ)) m h dx lc lw ll @fZ ys zs {M with cs:=M.cs.set i c}:=by
 have st:aI H (upd H lc (.lst @fZ)):= .updL a.ec;rwa[⟨λb u z=> ?_,a.nm,a.nc,a.nw,a.nl,a.cw,a.cl,a.wl,?_,af,?_,?_,qk (Paired.imp' @br a.dc) (W.keep st),st.dens a.dw (gA _),st.dens a.dl a.ln,a.ln⟩]
 ·rw [ag (λe=>by rw [e,a.nc] at z;cases z)];exact a.s b u z
 ·rw [ag (λe=>by have:=a.em;rw [e,a.ec] at this;cases this)];exact a.em
 ·rw [ag a.cw.symm];exact a.ew
 ·rw [ag a.cl.symm];exact a.el
theorem cU.setL (a:cU K C H0 H m h dx lc lw ll xs ys zs M){vs:List V}{ds:List D}(W:aC K H vs ds)(j:noLs ds=true):cU K C H0 (upd H ll (.lst (zs++vs))) m h dx lc lw ll xs ys (zs++vs) {M with log:=M.log++ds}:=by
 have st:aI H (upd H ll (.lst (zs++vs))):= .updL a.el;rwa[⟨λb u z=> ?_,a.nm,a.nc,a.nw,a.nl,a.cw,a.cl,a.wl,?_,?_,?_,af,Paired.imp' @br a.dc,st.dens a.dw (gA _),Paired.app (st.dens a.dl a.ln) (st.dens W j),Fk a.ln j⟩]
 ·rw [ag (λe=>by rw [e,a.nl] at z;cases z)];exact a.s b u z
 ·rw [ag (λe=>by have:=a.em;rw [e,a.el] at this;cases this)];exact a.em
 ·rw [ag a.cl];exact a.ec
 ·rw [ag a.wl];exact a.ew
theorem cU.setW (a:cU K C H0 H m h dx lc lw ll xs ys zs M){vs:List V}{rs:List aL}(W:aC K H vs @bl):cU K C H0 (upd H lw (.lst vs)) m h dx lc lw ll xs vs zs {M with ws:=rs}:=by
 have st:aI H (upd H lw (.lst vs)):= .updL a.ew;rwa[⟨λb u z=> ?_,a.nm,a.nc,a.nw,a.nl,a.cw,a.cl,a.wl,?_,?_,af,?_,Paired.imp' @br a.dc,st.dens W (gA _),st.dens a.dl a.ln,a.ln⟩]
 ·rw [ag (λe=>by rw [e,a.nw] at z;cases z)];exact a.s b u z
 ·rw [ag (λe=>by have:=a.em;rw [e,a.ew] at this;cases this)];exact a.em
 ·rw [ag a.cw];exact a.ec
 ·rw [ag a.wl.symm];exact a.el
theorem cU.putW (a:cU K C H0 H m h dx lc lw ll xs ys zs M){l:Addr}{vs:List V}{rs:List aL}(F:H0 l=none)(B:lc≠l)(j:l≠ll)(e:H l=some (.lst vs))(W:aC K H vs @bl):cU K C H0 (upd H m (.ins C dx (rR h lc l M.last M.fire M.bl ll))) m h dx lc l ll xs vs zs {M with ws:=rs}:=by
 have st:aI H (upd H m (.ins C dx (rR h lc l M.last M.fire M.bl ll))):= .updI a.em
 have nm:∀ {p:Addr} {I:List V},H p=some (.lst I)->p≠m:=λ{p I} e z=>by rw [z,a.em] at e;cases e
 rwa[⟨λb u z=> ?_,a.nm,a.nc,F,a.nl,B,a.cl,j,af,?_,?_,?_,Paired.imp' @br a.dc,st.dens W (gA _),st.dens a.dl a.ln,a.ln⟩]
 ·rw [ag (λe=>by rw [e,a.nm] at z;cases z)];exact a.s b u z
 ·rw [ag (nm a.ec)];exact a.ec
 ·rw [ag (nm e)];exact e
 ·rw [ag (nm a.el)];exact a.el
theorem cU.putF (a:cU K C H0 H m h dx lc lw ll xs ys zs M)(last:Int)(j:Bool)(B:Nat):cU K C H0 (upd H m (.ins C dx (rR h lc lw last j B ll))) m h dx lc lw ll xs ys zs {M with last:=last,fire:=j,bl:=B}:=by
 have st:aI H (upd H m (.ins C dx (rR h lc lw last j B ll))):= .updI a.em
 have nm:∀ {p:Addr} {F:List V},H p=some (.lst F)->p≠m:=λ{p F} e z=>by rw [z,a.em] at e;cases e
 rwa[⟨λb u z=> ?_,a.nm,a.nc,a.nw,a.nl,a.cw,a.cl,a.wl,af,?_,?_,?_,Paired.imp' @br a.dc,st.dens a.dw (gA _),st.dens a.dl a.ln,a.ln⟩]
 ·rw [ag (λe=>by rw [e,a.nm] at z;cases z)];exact a.s b u z
 ·rw [ag (nm a.ec)];exact a.ec
 ·rw [ag (nm a.ew)];exact a.ew
 ·rw [ag (nm a.el)];exact a.el
end
inductive Dd where
 |come (t s g:Int) (k:Bool)
 |lf (x:Str) (n:Int)
 |sg (x:Str)
abbrev An:Str:=s!"come"
noncomputable def Dd.v:Dd->List V
 | .come t s g k=>[.str An,.int t,.int s,.int g,.bl k]
 | .lf x n=>[.str x,.int n]
 | .sg x=>[.str x]
def Dd.ok:Dd->Prop
 | .come _ _ _ _=>True
 | .lf x _=>x=s!"block"\/x=s!"stick"\/x=s!"free"\/x=s!"goods"\/x=s!"back"
 | .sg x=>x=s!"fire"\/x=s!"calm"
def vP (H:Hp)(a:Addr)(d:Dd):Prop:=H a=some (.tup d.v)/\d.ok
theorem vP.keep {H H':Hp}{a:Addr}{d:Dd}(h:vP H a d)(s:aI H H'):vP H' a d:=⟨s.tup h.1,h.2⟩
theorem vP.same {H H':Hp}{a:Addr}{d:Dd}(h:vP H a d)(s:ak H H'):vP H' a d:=⟨s _ _ h.1,h.2⟩
noncomputable def OP (t:Int):D:= .tup [.str "barred",.int t]
noncomputable def LM (t:Int):D:= .tup [.str "sent",.int t]
noncomputable def eS (lo:Nat)(M:MS)(t s g:Int)(k:Bool):MS:=if lo.testBit g.toNat=true/\k=false then {M with log:=M.log++[OP t]} else if M.fire=true then {M with log:=M.log++[LM t]} else {M with ws:=M.ws++[⟨t,s,g,-1⟩]}
theorem cg {C:Addr}{H0 H:Hp}{m h dx lc lw ll:Addr}{xs ys zs:List V}{M:MS}{j:Str}{v:V}{Q:VK}(a:cU K C H0 H m h dx lc lw ll xs ys zs M)(c:tS K C)(n:aK K C j)(e:(rR h lc lw M.last M.fire M.bl ll).lookup j=some v)(g:Q v H):xo K j m H Q:=dG a.em c n e g
inductive yA (K:Fg)(C:Addr)(vs:List V)(H:Hp)(Q:VK)(_e:XK):Prop
 |mk (m t s g k h hs H0 M:_) (_:vs=[.ref m,.int t,.int s,.int g,.bl k]) (_:lC K H h hs) (_:gW K C H0 H m h M) (_:M.ws.length<=1000) (_:M.log.length<=1000) (_:0<=g) (_:g<1000) (_:∀H',aI H H'->gW K C H0 H' m h (eS hs.lo M t s g k)->Q .non H')
theorem IY {C:Addr}{U:Tok}(F:Z0 K "do_come" uZ f fd)(j:xY K C)(bg:mg "NO_LIFT"=some (.int (-1) U))(oE:Z03 P w K mg base):ar P w K mg base aQ 3 f fd ["moment","tag","start","goal","key"] (yA K C):=by
 have fM:ax (.int (-1)) (.int (-1) U):=⟨_,rfl⟩;rwa[F.ok Ec (by symm) @bj];obtain ⟨m,t,s,g,k,h,hs,H0,M,rfl,W,hM,wl,Y,Z,g1,q⟩:=h;obtain ⟨dx,lc,lw,ll,xs,ys,zs,a⟩:=hM;obtain ⟨o,p,ps,h1,h2,h3⟩:=W;obtain ⟨I,rfl⟩:=Int.eq_ofNat_of_zero_le Z;have yl:=aG a.dw;have zl:zs.length=M.log.length:=a.dl.len;have B:=j.i.cl;rwa[⟨_,(ac (ay @a @F (ac (ay @a @F @F)))),?_⟩];rwa[cg a B j.house rfl ?_];rwa[ao h1 rfl ?_];rwa[fi.mk _ _ rfl @c ?_];unfold eS at q;rw [show ((I:Int)).toNat=I by lia] at q;ext;by_cases R:hs.lo.testBit I=true
 ·rwa[bG R ?_]
  cases k with
  |false=>
   rw [if_pos ⟨R,rfl⟩] at q;rwa[bG rfl ?_];rwa[cg a B j.log (v:= .ref ll) rfl ?_];rwa[⟨.inl ⟨rfl,_,az.of a.el⟩,?_⟩];rwa[bZ (bq (by show 2<=1000000;decide)) λr H1 O L S=> ?_];rwa[dY @ga @dk ?_];exact q _ @cf ⟨dx,lc,lw,ll,xs,ys,_,(a.same O).setL (ds:=[OP t]) (.cons @bf .nil) rfl⟩
  |true=>
   rw [if_neg (λz=>by cases z.2)] at q;rwa[bf rfl ?_];erw[cg a B j.fire (v:= .bl M.fire) rfl ?_]
   cases J:M.fire with
   |true=>
    rw [if_pos J] at q;rwa[bG rfl ?_];rwa[cg a B j.log (v:= .ref ll) rfl ?_];rwa[⟨.inl ⟨rfl,_,az.of a.el⟩,?_⟩];rwa[bZ (bq (by show 2<=1000000;decide)) λr H1 O L S=> ?_];rwa[dY @ga @dk ?_];exact q _ @cf ⟨dx,lc,lw,ll,xs,ys,_,(a.same O).setL (ds:=[LM t]) (.cons @bf .nil) rfl⟩
   |false=>
    rw [if_neg (by rw [J];decide)] at q;rwa[bf rfl ?_];rwa[cg a B j.waiting (v:= .ref lw) rfl ?_];rwa[⟨.inl ⟨rfl,_,az.of a.ew⟩,?_⟩];rwa[bZ (bq (by show 4<=1000000;decide)) λr H1 O L S=> ?_];rwa[dY @eT @dk ?_];rwa[q _ (O.st.trans (.updL @eT)) ⟨dx,lc,lw,ll,xs,_,zs,(a.same O).setW (rs:=M.ws++[⟨t,s,(I:Int),-1⟩]) ?_⟩];rw [map_append];exact Paired.app (aC.same a.dw O) (.cons (eO @fY (.cons (.int _) (.cons (.int _) (.cons (.int _) (.cons (.int _) .nil))))) .nil)
 ·rwa[bf (by simpa using R) ?_];rwa[bf rfl ?_];rw [if_neg @dh] at q;erw[cg a B j.fire (v:= .bl M.fire) rfl ?_]
  cases J:M.fire with
  |true=>
   rw [if_pos J] at q;rwa[bG rfl ?_];rwa[cg a B j.log (v:= .ref ll) rfl ?_];rwa[⟨.inl ⟨rfl,_,az.of a.el⟩,?_⟩];rwa[bZ (bq (by show 2<=1000000;decide)) λr H1 O L S=> ?_];rwa[dY @ga @dk ?_];exact q _ @cf ⟨dx,lc,lw,ll,xs,ys,_,(a.same O).setL (ds:=[LM t]) (.cons @bf .nil) rfl⟩
  |false=>
   rw [if_neg (by rw [J];decide)] at q;rwa[bf rfl ?_];rwa[cg a B j.waiting (v:= .ref lw) rfl ?_];rwa[⟨.inl ⟨rfl,_,az.of a.ew⟩,?_⟩];rwa[bZ (bq (by show 4<=1000000;decide)) λr H1 O L S=> ?_];rwa[dY @eT @dk ?_];rwa[q _ (O.st.trans (.updL @eT)) ⟨dx,lc,lw,ll,xs,_,zs,(a.same O).setW (rs:=M.ws++[⟨t,s,(I:Int),-1⟩]) ?_⟩];rw [map_append];exact Paired.app (aC.same a.dw O) (.cons (eO @fY (.cons (.int _) (.cons (.int _) (.cons (.int _) (.cons (.int _) .nil))))) .nil)
theorem fk {H:Hp}{x:V}{r:aL}(h:br K H x r.d):∃a,x= .ref a/\aD K H a [.int r.tag,.int r.start,.int r.goal,.int r.lift]:=by
 obtain ⟨a,xs,rfl,h1,h2⟩:=h.outT
 cases h2 with|cons q0 t0=>cases t0 with|cons q1 t1=>cases t1 with|cons q2 t2=>cases t2 with|cons q3 t3=>
 cases t3;cases q0.isInt;cases q1.isInt;cases q2.isInt;cases q3.isInt;exact ⟨a,rfl,h1⟩
inductive oO (K:Fg)(vs:List V)(H:Hp)(Q:VK)(_e:XK):Prop
 |mk (x r i:_) (_:vs=[x,.int i]) (_:br K H x (aL.d r)) (_:∀v H',ak H H'->br K H' v (aL.d {r with lift:=i})->Q v H')
theorem E8 (F:Z0 K "dealt_to" qc f fd):ar P w K mg base aQ 1 f fd ["rider","lift"] (oO K):=by
 rwa[F.ok BF (by symm) (λz A outer s H L Q E B h=> ?_)];obtain ⟨x,r,i,rfl,J,q⟩:=h;obtain ⟨a,rfl,O⟩:=fk J;rwa[⟨_,@g,?_⟩];rwa[ao O rfl ?_];rwa[ao O rfl ?_];rwa[ao O rfl ?_];exact bZ (bq (by show 4<=1000000;decide)) λb H2 R Y j=>q _ H2 R (eO (aD.of j) (.cons (.int _) (.cons (.int _) (.cons (.int _) (.cons (.int _) .nil)))))
def atC (M:MS)(i:Int)(c:Cb):Prop:=0<=i/\M.cs[i.toNat]? =some c
theorem cU.atC {C:Addr}{H0 H:Hp}{m h dx lc lw ll:Addr}{xs ys zs:List V}{M:MS}(a:cU K C H0 H m h dx lc lw ll xs ys zs M){i:Int}{c:Cb}(I:atC M i c):∃t,xs[i.toNat]? =some (.ref t)/\oF xs i=some (.ref t)/\bP K H t c.pl c.li c.dr c.mr c.ps/\i.toNat<xs.length:=by
 obtain ⟨B,I⟩:=I;obtain ⟨j,rfl⟩:=Int.eq_ofNat_of_zero_le B;rw [show ((j:Int)).toNat=j by lia] at I ⊢
 have Z:j<xs.length:=by rw [a.dc.len];exact (List.getElem?_eq_some_iff.mp I).1
 obtain ⟨F,ad,t,z,J⟩:=a.dc.get1 (getElem?_eq_getElem Z);rw [I] at ad;cases ad;exact ⟨t,by rw [getElem?_eq_getElem Z,z],by rw [bz (getElem?_eq_getElem Z),z],J,Z⟩
theorem FH {xs:List V}{i:Int}(B:0<=i)(h1:i.toNat<xs.length):zA xs.length i=some i.toNat:=by
 unfold zA;rw [if_pos @c,if_pos @c]
noncomputable def tz (lo:Nat)(M:MS):Dd->MS
 | .come t s g k=>eS lo M t s g k
 | .lf _ i=> {M with bl:=M.bl|||2^i.toNat}
 | .sg _=>M
theorem Ct {lo:Nat}{M:MS}{d:Dd}:(tz lo M d).fire=M.fire:=by
 cases d with
 |come t s g k=>
  show (eS lo M t s g k).fire=M.fire;unfold eS;split
  ·rfl
  ·split<;>rfl
 |lf x i=>rfl
 |sg x=>rfl
def Dd.fit (fl:Int)(n:Nat):Dd->Prop
 | .come _ s g _=>0<=s/\s<fl/\0<=g/\g<fl/\s≠g
 | .lf x i=>x=s!"block"/\0<=i/\i<(n:Int)
 | .sg _=>False
inductive HL (K:Fg)(C:Addr)(vs:List V)(H:Hp)(Q:VK)(_e:XK):Prop
 |mk (m a d h hs H0 M:_) (_:vs=[.ref m,.ref a]) (_:lC K H h hs) (_:vP H a d) (_:Dd.fit (Hs.fl hs) hs.ls.length d) (_:gW K C H0 H m h M) (_:M.ws.length<=1000) (_:M.log.length<=1000) (_:∀H',aI H H'->gW K C H0 H' m h (tz hs.lo M d)->Q .non H')
theorem Pe {C:Addr}(F:Z0 K "do_deed" uY f fd)(B:xY K C)(xJ:aS P w K mg base 3 "do_come" ["moment","tag","start","goal","key"] (yA K C))(iQ:aS P w K mg base 2 "with_bit" ["mask","k"] jW):ar P w K mg base aQ 5 f fd ["moment","deed"] (HL K C):=by
 rwa[F.ok Eb (by symm) @y];obtain ⟨m,L,d,h,hs,H0,M,rfl,I,⟨U,ok⟩,z,S,wl,W,q⟩:=h;have f8:=I.1.f8;have l3:=I.1.l3;rwa[⟨_,(aa @a (ac (ay @a @F (ac (ay @a (ac @cV) (ac (ay @a @cn (ac (ay @a @cn (ac (ay @a @cn (ac (ay @a @cn (ac (ay @a @cn @cn))))))))))))))),?_⟩]
 cases d with
 |come t s' g k=>
  have O:aD K H L [.str An,.int t,.int s',.int g,.bl k]:=aD.of U;obtain ⟨_,_,Y,g1,_⟩:=z;rwa[ao O rfl ?_];rwa[bG rfl ?_];rwa[ao O rfl ?_];rwa[ao O rfl ?_];rwa[ao O rfl ?_];rwa[ao O rfl ?_];exact yA.mk _ _ _ _ _ _ _ _ _ rfl I S wl W Y @c λH' st J=>q H' st J
 |lf x i=>
  obtain ⟨R,Z,i1⟩:=z;obtain ⟨j,rfl⟩:=Int.eq_ofNat_of_zero_le Z;have O:aD K H L [.str x,.int (j:Int)]:=aD.of U;have q:∀H',aI H H'->gW K C H0 H' m h {M with bl:=M.bl|||2^((j:Int)).toNat}->Q .non H':=q;rw [show ((j:Int)).toNat=j by lia] at q;rwa[ao O rfl ?_];rwa[hU (by rw [R];decide+kernel) ?_];rwa[kJ R ?_];obtain ⟨dx,lc,lw,ll,xs,ys,zs,a⟩:=S;rwa[cg a B.i.cl B.blocked (v:= .int (M.bl:Int)) rfl ?_];rwa[ao O rfl ?_];rwa[jW.mk _ _ rfl @c ?_];rwa[cI a.em B.i.cl B.blocked (by show 7<1000;decide) ?_];exact q _ (.updI a.em) ⟨dx,lc,lw,ll,xs,ys,zs,a.putF M.last M.fire (M.bl|||2^j)⟩
 |sg x=>exact False.elim z
abbrev vV:=List Cb->List aL->aL->Int->Int×Int
inductive pE (K:Fg)(GG:Hp->Prop)(pre:List Cb->List aL->aL->Int->Prop)(dl:vV)(vs:List V)(H:Hp)(Q:VK)(_e:XK):Prop
 |mk (tc tw x cs ws r last xs ys:_) (_:vs=[.ref tc,.ref tw,x,.int last]) (_:H tc=some (.tup xs)) (_:Paired (d4 K H) xs cs) (_:H tw=some (.tup ys)) (_:aC K H ys @eD) (_:br K H x (aL.d r)) (_:GG H) (_:pre cs ws r last) (_:∀t H',aM H H'->GG H'->H' t=some (.tup [.int (dl cs ws r last).1,.int (dl cs ws r last).2])->Q (.ref t) H')
noncomputable def LO (t i:Int):D:= .tup [.str "deal",.int t,.int i]
noncomputable def fS (dl:vV)(M:MS)(p:Nat)(r:aL):MS:=if (dl M.cs M.ws r M.last).1= -1 then {M with last:=(dl M.cs M.ws r M.last).2} else {M with last:=(dl M.cs M.ws r M.last).2,ws:=M.ws.set p {r with lift:=(dl M.cs M.ws r M.last).1},log:=M.log++[LO r.tag (dl M.cs M.ws r M.last).1]}
inductive uu (P:Program)(w:World)(K:Fg)(mg:Str->Option Value)(base:Heap)(C:Addr)(GG:Hp->Prop)(pre:List Cb->List aL->aL->Int->Prop)(dl:vV)(vs:List V)(H:Hp)(Q:VK)(_e:XK):Prop
 |mk (m df x h H0 M r:_) (p:Nat) (_:vs=[.ref m,.ref df,.int (p:Int),x]) (_:jP P w K mg base 5 df @fa) (_:GG H) (_:NT H0) (_:gW K C H0 H m h M) (_:br K H x (aL.d r)) (_:p<M.ws.length) (_:M.ws.length<=1000) (_:M.log.length<=1000) (_:M.cs.length<=10) (_:pre M.cs M.ws r M.last) (_:∀H',dI H H'->GG H'->gW K C H0 H' m h @gB->Q .non H')
theorem AA {C:Addr}{GG:Hp->Prop}{pre:List Cb->List aL->aL->Int->Prop}{dl:vV}{t1:Tok}(F:Z0 K "deal" Aw f fd)(gT:GT GG)(R:xY K C)(bW:mg "tuple"=none)(bg:mg "NO_LIFT"=some (.int (-1) t1))(fV:aS P w K mg base 1 "dealt_to" ["rider","lift"] (oO K)):ar P w K mg base aQ 6 f fd ["moment","dealer","place","rider"] (uu P w K mg base C GG pre dl):=by
 have fM:ax (.int (-1)) (.int (-1) t1):=⟨_,rfl⟩;rwa[F.ok Ed (by symm) (λak A outer s H vs Q E hr h=> ?_)];obtain ⟨m,df,x,h,H0,M,r,p,rfl,Z,hg,nt,⟨dx,lc,lw,ll,xs,ys,zs,a⟩,hx,pw,wl,gl,ai,ad,q⟩:=h;have W:=R.i.cl;have yl:ys.length=M.ws.length:=aG a.dw;have zl:zs.length=M.log.length:=a.dl.len;obtain ⟨ra,rfl,hT⟩:=fk hx;rwa[⟨_,(aa (bM (i:=4) Ed.nd rfl @o (EJ 1 hr rfl @o (av (aJ @eC rfl bW boot_tuple @E) (av (aJ @eC rfl bW boot_tuple @E) (av (wv 3) @E))))) (aa @cV (ac (ay @a (aa @cW @F) ap)))),?_⟩];rwa[⟨df,5,_,rfl,by decide,Z,?_⟩];rwa[cg a W R.cabins (v:= .ref lc) rfl ?_];rwa[jo @cC λtc H1 s1 n1 e1=> ?_];have a1:=a.same s1;rwa[cg a1 W R.waiting (v:= .ref lw) rfl ?_];rwa[jo (az.of a1.ew) λtw H2 s2 n2 e2=> ?_];have a2:=a1.same s2;have L:=s1.trans s2;rwa[cg a2 W R.last (v:= .int M.last) rfl ?_];rwa[⟨tc,tw,.ref ra,M.cs,M.ws,r,M.last,xs,ys,rfl,s2 _ _ e1,a2.dc,e2,a2.dw,br.same hx L,gT _ _ L.st hg,ad,λt H3 s3 g3 e3=> ?_⟩];have Y:=a2.sameN nt s3;have ag:dI H H3:=L.st.sx.trans s3.sx;unfold fS at q;generalize aj:(dl M.cs M.ws r M.last).1=d1 at *;generalize ah:(dl M.cs M.ws r M.last).2=U at *;rwa[ao @fF rfl ?_];rwa[cI Y.em W R.last (by show 7<1000;decide) ?_];have a4:=Y.putF U M.fire M.bl;have e0:putF "last" (.int U) @ep=rR h lc lw U M.fire M.bl ll:=rfl;rw [e0];generalize B:upd H3 m (.ins C dx (rR h lc lw U M.fire M.bl ll))=H4 at a4 ⊢
 have S:dI H H4:=by rw [<-B];exact ag.trans (aI.updI Y.em).sx
 have g4:GG H4:=by rw [<-B];exact gT _ _ (aI.updI Y.em) g3
 have O:aD K H4 t [.int d1,.int U]:=by rw [<-B];exact (aI.updI Y.em).sqT @fF
 clear B;erw[ao O rfl ?_];by_cases z:d1= -1
 ·rw [if_pos z] at q;rwa[bf (by simp [z]) ?_];exact q _ S g4 ⟨dx,lc,lw,ll,xs,ys,zs,a4⟩
 ·rw [if_neg z] at q;rwa[bG (by simp [z]) ?_];rwa[ao O rfl ?_];rwa[oO.mk _ _ _ rfl (S.den hx rfl) λv H5 s5 dv=> ?_];have J:=a4.same s5;rwa[cg J W R.waiting (v:= .ref lw) rfl ?_];rwa[pG (j:=p) J.ew (by unfold zA;rw [if_pos @c,if_pos @c];congr 1) ?_]
  have af:aC K H5 (ys.set p v) ((M.ws.set p {r with lift:=d1}).map aL.d):=by
   rw [map_set];exact qk J.dw dv
  have a6:=J.setW af;generalize I:upd H5 lw (.lst (ys.set p v))=H6 at a6 ⊢
  have ab:dI H H6:=by rw [<-I];exact (S.trans s5.st.sx).trans (aI.updL J.ew).sx
  have g6:GG H6:=by rw [<-I];exact gT _ _ (s5.st.trans (.updL J.ew)) g4
  have ae:aD K H6 t [.int d1,.int U]:=by rw [<-I];exact (aI.updL J.ew).sqT (s5.seqT O)
  clear I;rwa[cg a6 W R.log (v:= .ref ll) rfl ?_];rwa[⟨.inl ⟨rfl,_,az.of a6.el⟩,?_⟩];rwa[ao (ab.sqT hT) rfl ?_];rwa[ao ae rfl ?_];rwa[bZ (bq (by show 3<=1000000;decide)) λg7 H7 s7 n7 e7=> ?_];have a7:=a6.same s7;rwa[dY a7.el @dk ?_];exact q _ ((ab.trans s7.st.sx).trans (aI.updL a7.el).sx) (gT _ _ (s7.st.trans (.updL a7.el)) g6) ⟨dx,lc,lw,ll,xs,_,_,a7.setL (ds:=[LO r.tag d1]) (.cons (eO (aD.of e7) (.cons (.str _) (.cons (.int _) (.cons (.int _) .nil)))) .nil) rfl⟩
noncomputable def aO (dl:vV)(W:List aL):Nat->MS->MS
 |0,M=>M
 |i+1,M=>match W[i]? with
  |some r=>if r.lift= -1 then fS dl @gC i r else aO dl W i M
  |none=>aO dl W i M
inductive j8 (P:Program)(w:World)(K:Fg)(mg:Str->Option Value)(base:Heap)(C:Addr)(GG:Hp->Prop)(pre:List Cb->List aL->aL->Int->Prop)(dl:vV)(vs:List V)(H:Hp)(Q:VK)(_e:XK):Prop
 |mk (m df h H0 M:_) (_:vs=[.ref m,.ref df]) (_:jP P w K mg base 5 df @fa) (_:GG H) (_:NT H0) (_:gW K C H0 H m h M) (_:M.ws.length<=500) (_:M.log.length<=400) (_:M.cs.length<=10) (_:(∀i r,M.ws[i]? =some r->r.lift= -1->pre (aO dl M.ws i M).cs (aO dl M.ws i M).ws r (aO dl M.ws i M).last)) (_:∀H',dI H H'->GG H'->gW K C H0 H' m h (aO dl M.ws M.ws.length M)->Q .non H')
theorem Cu {dl:vV}{M:MS}{p:Nat}{r:aL}:(fS dl M p r).ws.length=M.ws.length/\(fS dl M p r).cs=M.cs/\(fS dl M p r).log.length<=M.log.length+1:=by
 unfold fS;split
 ·exact ⟨rfl,rfl,Nat.le_succ _⟩
 ·exact ⟨length_set,rfl,by simp⟩
theorem eQ {dl:vV}{W:List aL}{M:MS}:∀i,(aO dl W i M).ws.length=M.ws.length/\(aO dl W i M).cs=M.cs/\(aO dl W i M).log.length<=M.log.length+i
 |0=>⟨rfl,rfl,by simp [aO]⟩
 |i+1=>by
  have h:=eQ (dl:=dl) (W:=W) (M:=M) i;unfold aO;split
  ·rename_i r _;split
   ·have g:=Cu (dl:=dl) (M:=aO dl W i M) (p:=i) (r:=r);exact ⟨g.1.trans h.1,g.2.1.trans h.2.1,by have:=g.2.2;lia⟩
   ·exact ⟨h.1,h.2.1,by lia⟩
  ·exact ⟨h.1,h.2.1,by lia⟩
theorem nR {dl:vV}{W:List aL}{M:MS}:∀i,(aO dl W i M).fire=M.fire
 |0=>rfl
 |i+1=>by
  have j:=nR (dl:=dl) (W:=W) (M:=M) i;unfold aO;split
  ·split
   ·unfold fS;split
    ·exact j
    ·exact j
   ·exact j
  ·exact j
noncomputable def iX (H:Hp)(m lc lw ll:Addr):Hp:=λb=>if b=m\/b=lc\/b=lw\/b=ll then none else H b
theorem Cz {H:Hp}{m lc lw ll:Addr}:ak @ct H:=λb u z=>by
 unfold iX at z;split at z
 ·cases z
 ·exact z
theorem iP {H:Hp}{m lc lw ll b:Addr}{u:HO}(h:H b=some u)(h1:b≠m)(h2:b≠lc)(L:b≠lw)(j:b≠ll):iX H m lc lw ll b=some u:=by
 unfold iX;rw [if_neg (λz=>by rcases z with z|z|z|z;exact h1 z;exact h2 z;exact L z;exact j z)];exact h
theorem cU.wide {C:Addr}{H0 H:Hp}{m h dx lc lw ll:Addr}{xs ys zs:List V}{M:MS}(a:cU K C H0 H m h dx lc lw ll xs ys zs M):cU K C @ct H m h dx lc lw ll xs ys zs M/\ak H0 @ct:=by
 rwa[⟨⟨Cz,if_pos (.inl rfl),if_pos (.inr (.inl rfl)),if_pos (.inr (.inr (.inl rfl))),if_pos (.inr (.inr (.inr rfl))),a.cw,a.cl,a.wl,a.em,a.ec,a.ew,a.el,a.dc,a.dw,a.dl,a.ln⟩,λb u z=> ?_⟩];exact iP (a.s _ _ z) (λe=>by rw [e,a.nm] at z;cases z) (λe=>by rw [e,a.nc] at z;cases z) (λe=>by rw [e,a.nw] at z;cases z) (λe=>by rw [e,a.nl] at z;cases z)
theorem cU.wideN {C:Addr}{H0 H:Hp}{m h dx lc lw ll:Addr}{xs ys zs:List V}{M:MS}(j:NT H0)(a:cU K C H0 H m h dx lc lw ll xs ys zs M):cU K C (x8 @ct) H m h dx lc lw ll xs ys zs M/\ak H0 (x8 @ct):=by
 obtain ⟨b,s⟩:=a.wide;rwa[⟨⟨(qo _).trans b.s,kA b.nm,kA b.nc,kA b.nw,kA b.nl,a.cw,a.cl,a.wl,a.em,a.ec,a.ew,a.el,a.dc,a.dw,a.dl,a.ln⟩,λx u z=> ?_⟩];exact qp (s _ _ z) (λps e=>j x ps (by rw [z,e]))
theorem gW.onto {C:Addr}{H0 j H:Hp}{m h:Addr}{M:MS}(s:ak H0 j)(z:gW K C j H m h M):gW K C H0 H m h M:=by
 obtain ⟨dx,lc,lw,ll,xs,ys,zs,a⟩:=z;exact ⟨dx,lc,lw,ll,xs,ys,zs,s.trans a.s,none_of s a.nm,none_of s a.nc,none_of s a.nw,none_of s a.nl,a.cw,a.cl,a.wl,a.em,a.ec,a.ew,a.el,a.dc,a.dw,a.dl,a.ln⟩
theorem gW.s {C:Addr}{H0 H:Hp}{m h:Addr}{M:MS}(z:gW K C H0 H m h M):ak H0 H:=let ⟨_,_,_,_,_,_,_,a⟩:=z;a.s
theorem Fa {C:Addr}{GG:Hp->Prop}{pre:List Cb->List aL->aL->Int->Prop}{dl:vV}{t1:Tok}(F:Z0 K "deal_all" ko f fd)(gT:GT GG)(cM:xY K C)(dD:mg "list"=none)(be:mg "enumerate"=none)(bg:mg "NO_LIFT"=some (.int (-1) t1))(Ba:aS P w K mg base 6 "deal" ["moment","dealer","place","rider"] (uu P w K mg base C GG pre dl)):ar P w K mg base aQ 7 f fd ["moment","dealer"] (j8 P w K mg base C GG pre dl):=by
 have fM:ax (.int (-1)) (.int (-1) t1):=⟨_,rfl⟩;rwa[F.ok BG (by symm) (λaf A outer s H vs Q E hr h=> ?_)];obtain ⟨m,df,h,H0,M,rfl,Z,hg,nt,⟨dx,lc,lw,ll,xs,ys,zs,a⟩,wl,gl,ai,U,q⟩:=h;have cl:=cM.i.cl;have yl:ys.length=M.ws.length:=aG a.dw;rwa[⟨_,(ac (b9 PassesOwn.never rfl (oH rfl rfl be @bc) @a (ac (ay @a @F ap)))),?_⟩];rwa[cg a cl cM.waiting (v:= .ref lw) rfl ?_];rwa[gC (.inl @gb) λlk H1 s1 n1 e1=> ?_];have a1:=a.same s1;have ae:H0 lk=none:=none_of a.s n1;erw[.inl ⟨ys,az.of e1,?_⟩];obtain ⟨aw,sw⟩:=a1.wideN nt;have Y:NT (x8 (iX H1 m lc lw ll)):=Fh _;generalize ad:x8 (iX H1 m lc lw ll)=Hc at aw sw Y
 have kk:∀ {p:Addr} {us:List V},H1 p=some (.lst us)->p≠m:=λ{p us} e z=>by rw [z,a1.em] at e;cases e
 have I:∀ {p:Addr} {o:HO},H p=some o->lk≠p:=λ{p o} e z=>by rw [<-z,n1] at e;cases e
 have ek:Hc lk=some (.lst ys):=by rw [<-ad];exact qp (iP e1 (kk e1) (I a.ec) (I a.ew) (I a.el)) (λ_ z=>by cases z)
 have dy:∀ {i:Nat} {x:V},ys[i]? =some x->∃r b,M.ws[i]? =some r/\x= .ref b/\br K H1 (.ref b) r.d:=λ{i x} j=>by
  obtain ⟨r,aj,dr⟩:=bE (f:=aL.d) a1.dw j;obtain ⟨b,rfl,_⟩:=fk dr;exact ⟨r,b,aj,rfl,dr⟩
 rwa[xm (xs:=ys) (λi σ L=>dI H1 L/\gW K C Hc L m h @gs/\GG L/\∃o2 o3,σ=[some (.ref m),some (.ref df),o2,o3]) ⟨.refl _,⟨dx,lc,lw,ll,xs,ys,zs,aw⟩,gT _ _ s1.st hg,_,_,rfl⟩ (λi σ L _ O=>az.of (O.2.1.s _ _ ek)) (λi x σ L T HY j O sT eT=> ?_) (λσ L O=> ?_)]
 ·obtain ⟨st,hM,gX,o2,o3,rfl⟩:=O;have gY:=gT _ _ sT.st gX;obtain ⟨r,b,aj,rfl,dr⟩:=dy j;have hi:i<M.ws.length:=(List.getElem?_eq_some_iff.mp aj).1;have hl:=eQ (dl:=dl) (W:=M.ws) (M:=M) i;have J:=st.trans sT.st.sx;have B:=hM.same sT;have S:br K HY (.ref b) r.d:=J.den dr rfl;obtain ⟨b',ab,hT⟩:=fk S;cases ab
  have nx:aO dl M.ws (i+1) M=if r.lift= -1 then fS dl @gs i r else aO dl M.ws i M:=by
   show (match M.ws[i]? with|some r=>_|none=>_)=_;rw [aj]
  rwa[fh (aD.of eT) rfl ?_];erw[ao hT rfl ?_];by_cases z:r.lift= -1
  ·rw [if_pos z] at nx;rwa[bG @dd ?_];rwa[uu.mk _ _ _ _ _ _ _ _ rfl Z gY Y B S @c @c @c (by rw [hl.2.1];lia) (U i r aj z) λHZ aa gZ R=> ?_];rw [<-nx] at R;exact ⟨J.trans aa,R,gZ,_,_,rfl⟩
  ·rw [if_neg z] at nx;rwa[bf (decide_eq_false z) ?_];rw [<-nx] at B;exact ⟨J,B,gY,_,_,rfl⟩
 ·obtain ⟨st,hM,gX,o2,o3,rfl⟩:=O;rw [yl] at hM;exact q _ (s1.st.sx.trans st) gX (hM.onto sw)
noncomputable def LN (wd:Str)(t i fl:Int):D:= .tup [.str wd,.int t,.int i,.int fl]
theorem Ej (j:Str)(i fl:Int)(ts:List Int):noLs (ts.map λt=>LN j t i fl)=true:=by
 induction ts with
 |nil=>rfl
 |cons r rs ih=>rw [map_cons,noLs,ih];rfl
noncomputable def zy (M:MS)(wd:Str)(ts:List Int)(i:Int)(c:Cb):MS:= {M with log:=M.log++ts.map λt=>LN wd t i (c.pl / 2)}
inductive yt (K:Fg)(C:Addr)(vs:List V)(H:Hp)(Q:VK)(_e:XK):Prop
 |mk (m wd tg i h H0 M c:_) (ts:List Int) (_:vs=[.ref m,.str wd,.ref tg,.int i]) (_:gW K C H0 H m h M) (_:atC M i c) (_:(∃us,az K H0 tg us/\us=ts.map V.int)) (_:ts.length<=1000) (_:M.log.length<=3000) (_:∀H',aI H H'->gW K C H0 H' m h (zy M wd ts i c)->Q .non H')
theorem Kb {C:Addr}{H H0:Hp}{m tg h:Addr}{j:Str}{i:Int}{M:MS}{c:Cb}{ts:List Int}{Q:VK}{E:XK}(h1:gW K C H0 H m h M)(h2:atC M i c)(L:az K H0 tg (ts.map V.int))(z:ts.length<=1000)(S:M.log.length<=3000)(q:∀H',aI H H'->gW K C H0 H' m h (zy M j ts i c)->Q .non H'):yt K C [.ref m,.str j,.ref tg,.int i] H Q E:=⟨m,j,tg,i,h,H0,M,c,ts,rfl,h1,h2,⟨_,L,rfl⟩,z,S,q⟩
theorem IR {C:Addr}(F:Z0 K "log_steps" mf f fd)(Z:xY K C)(bI:Z01 P w K mg base):ar P w K mg base aQ 2 f fd ["moment","word","tags","lift"] (yt K C):=by
 rwa[F.ok yJ (by symm) (λae A outer s H vs Q E hr h=> ?_)];obtain ⟨m,wd,tg,i,h,H0,M,c,U,rfl,⟨dx,lc,lw,ll,xs,ys,zs,a⟩,hc,⟨z,W,rfl⟩,tl,gl,q⟩:=h;obtain ⟨t,hx,hi,ht,ad⟩:=a.atC hc;have cl:=Z.i.cl;have zl:zs.length=M.log.length:=a.dl.len;rwa[⟨_,(aa @a (ac (aE (gQ rfl PySem.F.plainAttrs_list PySem.F.slot_list_extend PySem.F.type_list_extend pe @a (av (bD rfl (aB (N':=["tag","word","lift","floor"]) (pk:=[none,some 1,some 3,some 4]) @j) @a @h @r @h) aq))))),?_⟩];rwa[cg a cl Z.cabins (v:= .ref lc) rfl ?_];rwa[bd @cC hi ?_];rwa[ce.mk _ _ _ _ _ _ rfl ht ?_];rwa[cg a cl Z.log (v:= .ref ll) rfl ?_];erw[⟨.inl ⟨rfl,_,az.of a.el⟩,?_⟩];have hL:=a.s.seq W;rwa[bF hL ?_];rwa[bx (xs:=U.map V.int) (λj z B=>ak H B/\z.length=j/\aC K B z ((U.take j).map λt=>LN wd t i (c.pl / 2))) (bq (by rw [length_map];lia)) (λj z B h=>Nat.le_of_eq h.2.1) ⟨.refl _,rfl,.nil⟩ (λj z B _ h=>h.1.seq hL) (λj y z B hy S=> ?_) (λz B S l n=> ?_)]
 ·obtain ⟨R,I,O⟩:=S;rw [getElem?_map] at hy;obtain ⟨v,hv,rfl⟩:=Option.map_eq_some_iff.mp hy;rwa[⟨bQ,?_⟩];rwa[bZ (bq (by show 4<=1000000;decide)) λb H3 L n3 J=>⟨R.trans L,by simp [I],?_⟩];rw [take_add_one,hv,map_append];exact Paired.app (aC.same O L) (.cons (eO (aD.of J) (.cons (.str _) (.cons (.int _) (.cons (.int _) (.cons (.int _) .nil))))) .nil)
 obtain ⟨R,I,O⟩:=S;rw [length_map,take_of_length_le @e] at O;rw [length_map] at I;have aX:=a.same R;have L:ak B (upd B l (.lst z)):= .upd n;have Y:=aX.same L;have J:upd B l (.lst z) l=some (.lst z):=af;generalize ab:upd B l (.lst z)=H3 at L Y J ⊢;rwa[Kh Y.el J @Z ?_];exact q _ ((R.trans L).st.trans (.updL Y.el)) ⟨dx,lc,lw,ll,xs,ys,_,Y.setL (aC.same O L) (Ej wd i _ U)⟩
noncomputable def kh (M:MS)(i:Int)(c:Cb):MS:= {M with cs:=M.cs.set i.toNat c}
theorem kz {H:Hp}{bs:List V}{ps:List (Int×Int)}(d:aC K H bs @dA){j:Nat}{y:V}(R:bs[j]? =some y):∃p t,ps[j]? =some p/\y= .ref t/\aD K H t [.int p.1,.int p.2]:=by
 obtain ⟨p,F,J⟩:=bE (f:=cY) d R;obtain ⟨t,xs,rfl,h1,h2⟩:=J.outT
 cases h2 with|cons q0 t0=>cases t0 with|cons q1 t1=>
 cases t1;cases q0.isInt;cases q1.isInt;exact ⟨p,t,F,rfl,h1⟩
theorem vm {a:Int}{bs:List Int}:vn (.int a) (bs.map V.int)=decide (a∈bs):=by
 unfold vn;rw [any_map,Bool.eq_iff_iff,any_eq_true,decide_eq_true_eq];constructor
 ·rintro ⟨x,j,z⟩;have z:(x==a)=true:=z;rw [<-eq_of_beq z];exact j
 ·intro h;exact ⟨a,h,beq_self_eq_true a⟩
theorem mP (bs:List Int):(bs.map V.int).all c5=true:=by
 rw [all_map,all_eq_true];intro x _;rfl
noncomputable def c7 (hs:Hs)(c:Cb)(l:Lf)(rs:List aL):CL:=mR hs.so l.rm c.pl c.li c.ps rs
noncomputable def sV (hs:Hs)(M:MS)(i:Int)(c:Cb)(l:Lf)(rs:List aL):MS:=
 {kh (zy (zy M "out" (cZ c.pl c.ps) i c) (s!"in") (c7 hs c l rs).ins i c) i ⟨c.pl,(c7 hs c l rs).light,eN l.kd l.tn c.dr (M.bl.testBit i.toNat) (decide (((cZ c.pl c.ps).length:Int)+((c7 hs c l rs).ins.length:Int)>0)),c.mr,(c7 hs c l rs).kept⟩ with ws:=M.ws.filter λr=> !decide (r.tag∈(c7 hs c l rs).ins)}
structure Kz (P:Program)(w:World)(K:Fg)(mg:Str->Option Value)(base:Heap)(kD kH kS:Addr):Prop where
 c:∀k,qy k->KC K @gw
 m:∀k,qy k->iE P w K mg base aQ 1 "left" (kc kD kH kS k) (ib K k)
theorem xq {hs:Hs}{c:Cb}{l:Lf}{rs:List aL}:(c7 hs c l rs).ins.length<=rs.length:=by
 have:=(lJ (so:=hs.so) (room:=l.rm) (pl:=c.pl) rs ⟨c.li,dE c.pl c.ps,[]⟩).2;simpa [c7,mR] using this
theorem wT {pl:Int}{ps:List (Int×Int)}:(cZ pl ps).length<=ps.length:=by
 unfold cZ;rw [length_map];exact length_filter_le _ _
inductive DK (K:Fg)(C:Addr)(vs:List V)(H:Hp)(Q:VK)(_e:XK):Prop
 |mk (m i rl h hs l H0 M c xr rs:_) (_:vs=[.ref m,.int i,.ref rl]) (_:lC K H0 h hs) (_:hs.ls[i.toNat]? =some l) (_:gW K C H0 H m h M) (_:atC M i c) (_:i<1000) (_:c.ps.length<=64) (_:M.log.length<=2000) (_:M.ws.length<=1000) (_:(∃f0,c.pl=2*f0)) (_:H0 rl=some (.lst xr)) (_:aC K H0 xr @bl) (_:ND rs) (_:∀H',aI H H'->gW K C H0 H' m h (sV hs M i c l rs)->Q .non H')
theorem Mx {C kD kH kS:Addr}(F:Z0 K "exchange" ml f fd)(cM:xY K C)(D:Kz P w K mg base kD kH kS)(bH:mg "len"=none)(kZ:aS P w K mg base 1 "room_of" ["house","lift"] @di)(iR:aS P w K mg base 1 "turns_of" ["house","lift"] @dj)(xF:aS P w K mg base 1 "kind_of" ["house","lift"] (lO K λl=> .str l.kd))(re:aS P w K mg base 3 "exchanged" ["sort","room","cabin","riders"] (yz K))(qX:aS P w K mg base 2 "log_steps" ["moment","word","tags","lift"] (yt K C))(xI:aS P w K mg base 3 "door_of" ["kind","turns"] (pD K kD kH kS))(oE:Z03 P w K mg base)(b7:Z02 P w K mg base):ar P w K mg base aQ 4 f fd ["moment","lift","riders"] (DK K C):=by
 rwa[F.ok pO (by symm) (λbj A outer s H vs Q E hr h=> ?_)];obtain ⟨m,i,rl,h,hs,l,H0,M,c,xr,rs,rfl,hH,hl,⟨dx,lc,lw,ll,xs,ys,zs,a⟩,L,i1,Y,gl,wl,⟨f0,aJ⟩,er,dr,ax,q⟩:=h;obtain ⟨t,hx,hi,ht,bm⟩:=a.atC L;have cl:=cM.i.cl;obtain ⟨j,hj⟩:=Int.eq_ofNat_of_zero_le L.1;obtain ⟨ph,bk,pb,aY,a7,ba,bf,bc⟩:=(hH.same a.s).at L.1 hl;have S:qy l.kd:=(hH.1.lf l (mem_of_getElem? hl)).2.2.2.2;rwa[⟨_,(aa @a (aa @a (aa @a (aa @a (aa @a (aa @dC (aa @dC (aa @a (aa (bM (i:=9) pO.nd rfl @o (oJ (n:=1) gS hr @b (wv 8) (av @a (av @a @E)))) (aa (jH @a (mz @a (wv 1) pc)) (ac (cE rfl (wv 0) (bD rfl (aB (N':=["rider","ins"]) (pk:=[none,some 7]) @j) @a @h (λC s H ex=>(d7 (cB (oK rfl) @a (wv 1) @N))) @R))))))))))))),?_⟩];rwa[cg a cl cM.house (v:= .ref h) rfl ?_];rwa[ao aY rfl ?_];rwa[lO.mk (g:=λl=> .int l.rm) _ _ _ _ rfl @gD L.1 hl ?_];rwa[cg a cl cM.cabins (v:= .ref lc) rfl ?_];rwa[bd @cC hi ?_];rwa[PK ht Y (a.s _ _ er) (aC.same dr a.s) ax aJ λr H1 s1 an=> ?_];obtain ⟨cn,co,ci,aU,au,eo,ei,no,ni,bi⟩:=an;have e1:mR hs.so l.rm c.pl c.li c.ps rs=c7 hs c l rs:=rfl;rw [e1] at au ei;generalize hE:c7 hs c l rs=U at *;generalize hO:cZ c.pl c.ps=O at *
 have el:U.ins.length<=rs.length:=by rw [<-hE];exact xq
 have ol:O.length<=64:=by rw [<-hO];exact Nat.le_trans wT Y
 have a2:rs.length<=64:=ax.1;have a1:=a.same s1;obtain ⟨aw,sw⟩:=a1.wide
 have nk:∀ {p q:Addr} {o:HO},H p=none->H q=some o->p≠q:=λ{p q o} h1 h2 z=>by rw [z,h2] at h1;cases h1
 have ad:iX H1 m lc lw ll co=some (.lst (O.map V.int)):=iP eo (nk no a.em) (nk no a.ec) (nk no a.ew) (nk no a.el);have W:iX H1 m lc lw ll ci=some (.lst (U.ins.map V.int)):=iP ei (nk ni a.em) (nk ni a.ec) (nk ni a.ew) (nk ni a.el);generalize bo:iX H1 m lc lw ll=Hc at aw sw ad W;have B:=aD.of (K:=K) aU;rwa[ao B rfl ?_];rwa[ao B rfl ?_];erw[ao B rfl ?_];have aM:gW K C Hc H1 m h M:=⟨dx,lc,lw,ll,xs,ys,zs,aw⟩;rwa[Kb (ts:=O) aM L (az.of ad) @c @c λH2 aN aP=> ?_];rwa[Kb (ts:=U.ins) (c:=c) aP L (az.of W) @c (by show (M.log++_).length<=_;rw [length_append,length_map];lia) λH3 aK a0=> ?_];have am:=aN.trans aK;obtain ⟨aV,R,aR,aA,ai,as,aH,a3⟩:=a0;have ay:=hH.same (sw.trans a3.s);rwa[lO.mk (g:=λl=> .str l.kd) _ _ _ _ rfl ay L.1 hl ?_];rwa[lO.mk (g:=λl=> .int l.tn) _ _ _ _ rfl ay L.1 hl ?_];rwa[pD.mk _ _ rfl S λda bg H4 s4 n4 e4=> ?_];have a4:=a3.same s4;have Z:=am.trans s4.st;have ab:bP K H4 cn c.pl U.light c.dr c.mr U.kept:=au.keep Z;obtain ⟨nb,bb,aF,bn,bp⟩:=id ab;have ae:=aD.of (K:=K) aF;rwa[iL e4 rfl (D.m _ S) ?_];rwa[ao ae rfl ?_];erw[cg a4 cl cM.blocked (v:= .int (M.bl:Int)) rfl ?_];rw [hj];rwa[fi.mk _ _ rfl @c ?_];rwa[cf (az.of (a4.s _ _ ad)) ?_];rw [length_map];rwa[cf (az.of (a4.s _ _ W)) ?_];rw [length_map];rwa[ib.mk _ _ _ _ _ _ _ rfl e4 (D.c _ S).i.cl (D.c _ S).n ?_];rwa[ao ae rfl ?_];rwa[ao ae rfl ?_];rwa[dZ.mk _ _ _ _ _ _ _ _ _ rfl ab λt5 H5 s5 aT=> ?_];have a5:=a4.same s5;obtain ⟨_,_,_,_,al⟩:=a3.atC (c:=c) L;erw[cg a5 cl cM.cabins (v:= .ref R) rfl ?_];rw [<-hj];rwa[pG (j:=i.toNat) a5.ec (FH L.1 al) ?_];have a6:=a5.setC (i:=i.toNat) (c:=⟨c.pl,U.light,eN l.kd l.tn c.dr (M.bl.testBit j) (decide ((O.length:Int)+(U.ins.length:Int)>0)),c.mr,U.kept⟩) ⟨t5,rfl,aT⟩;generalize ap:upd H5 R (.lst (ai.set i.toNat (.ref t5)))=H6 at a6 ⊢
 have ag:aI H1 H6:=by rw [<-ap];exact (Z.trans s5.st).trans (.updL a5.ec)
 clear ap;have yl:as.length=M.ws.length:=aG a3.dw;rwa[cg a6 cl cM.waiting (v:= .ref aR) rfl ?_];rwa[bF (az.of a6.ew) ?_];rwa[bx (xs:=as) (λj I J=>ak H6 J/\I.length<=j/\aC K J I (((M.ws.take j).filter λr=> !decide (r.tag∈U.ins)).map aL.d)) @Z (λj I J h=>h.2.1) ⟨.refl _,Nat.le_refl _,.nil⟩ (λj I J _ h=>h.1.seq (az.of a6.ew)) (λj y I J hy hP=> ?_) (λI J hP l7 n7=> ?_)]
 ·obtain ⟨sx,aW,hd⟩:=hP;obtain ⟨r,aj,ah⟩:=bE (f:=aL.d) a6.dw hy;have aj:M.ws[j]? =some r:=aj;obtain ⟨ra,rfl,hT⟩:=fk (br.same ah sx);have nx:=iO (λr:aL=> !decide (r.tag∈U.ins)) aj;rwa[⟨bQ,?_⟩];rwa[ao hT rfl ?_];rwa[Br (az.of (sx _ _ (a6.s _ _ W))) rfl (mP _) ?_];rw [vm];show if (!decide (r.tag∈U.ins))=true then _ else _
  cases hb:(!decide (r.tag∈U.ins)) with
  |true=>
   rw [if_pos rfl];rwa[⟨sx,by rw [length_append];show _+1<=_;lia,?_⟩];rw [nx,hb,if_pos rfl,map_append];exact Paired.app hd (.cons (br.same ah sx) .nil)
  |false=>
   rw [if_neg @b];rwa[⟨sx,by lia,?_⟩];rw [nx,hb,if_neg @b,append_nil];exact hd
 obtain ⟨sx,aW,hd⟩:=hP;rw [yl,take_of_length_le @e] at hd;have aX:=a6.same sx;have s8:ak J (upd J l7 (.lst I)):= .upd n7;have a8:=aX.same s8;have e8:upd J l7 (.lst I) l7=some (.lst I):=af;generalize be:upd J l7 (.lst I)=H8 at s8 a8 e8 ⊢
 have aO:R≠l7:=λz=>by rw [<-z,aX.ec] at n7;cases n7
 have aZ:l7≠aA:=λz=>by rw [z,aX.el] at n7;cases n7
 rwa[cI a8.em cl cM.waiting (by show 7<1000;decide) ?_];have a9:=a8.putW (rs:=M.ws.filter λr=> !decide (r.tag∈U.ins)) (none_of aX.s n7) aO aZ e8 (aC.same hd s8);rwa[q _ ((s1.st.trans ag).trans (((sx.trans s8).st).trans (.updI a8.em))) (gW.onto sw ⟨aV,R,l7,aA,ai.set i.toNat (.ref t5),I,aH,?_⟩)]
 have ee:sV hs M i c l rs= {kh (zy (zy M "out" O i c) (s!"in") U.ins i c) i ⟨c.pl,U.light,eN l.kd l.tn c.dr (M.bl.testBit j) (decide ((O.length:Int)+(U.ins.length:Int)>0)),c.mr,U.kept⟩ with ws:=M.ws.filter λr=> !decide (r.tag∈U.ins)}:=by
  unfold sV;rw [hE,hO,hj,show ((j:Int)).toNat=j by lia]
 rw [ee];exact a9
structure eV (li he up dn:Int):Prop where
 l0: -1<=li
 l1:li<=1
 h0:0<=he
 h1:he<=2
 u0:0<=up
 d0:0<=dn
abbrev Wf:=Int->Int->Int->Int->Int->Str
inductive CS (P:Program)(w:World)(K:Fg)(mg:Str->Option Value)(base:Heap)(H:Hp)(a:Addr)(wf:Wf):Prop
 |mk (C dx fs sp:_) (_:H a=some (.ins C dx fs)) (_:fs.lookup (s!"word")=none) (_:iE P w K mg base aQ 2 "word" C sp) (_:(∀fl li he up dn,eV li he up dn->wf fl li he up dn∈cF)) (_:∀(H':Hp) (sa:Addr) (fl li he up dn:Int) (Q:VK) (E:XK),H' a=some (.ins C dx fs)->aD K H' sa [.int fl,.int li,.int he,.int up,.int dn]->eV li he up dn->Q (.str (wf fl li he up dn)) H'->sp [.ref a,.ref sa] H' Q E)
theorem CS.same {H H':Hp}{a:Addr}{wf:Wf}(r:CS P w K mg base H a wf)(s:ak H H'):CS P w K mg base H' a wf:=by
 obtain ⟨C,dx,fs,sp,h1,h2,L,j,S⟩:=r;exact ⟨C,dx,fs,sp,s _ _ h1,h2,L,j,S⟩
noncomputable def pq (hs:Hs)(l:Lf)(c:Cb)(wd:Str):Cb:=⟨(dH hs.fl l.tn c.pl c.li c.dr c.ps @cJ).1,(dH hs.fl l.tn c.pl c.li c.dr c.ps @cJ).2.1,(dH hs.fl l.tn c.pl c.li c.dr c.ps @cJ).2.2,c.mr,c.ps⟩
def NO (hs:Hs)(wf:Wf)(M:MS)(i:Int)(c:Cb)(l:Lf)(rs:List aL)(M':MS):Prop:=∃(f0:Nat) (u d:Int),c.pl=2*(f0:Int)/\vJ (tk l.rm c.ps rs) f0 u/\vK (tk l.rm c.ps rs) f0 d/\M'=kh M i (pq hs l c (wf f0 c.li (dQ hs.so c.li (tk l.rm c.ps rs f0) (CK c.ps f0) (Bc rs f0 c.li)) u d))
structure ng (fl:Int)(c:Cb):Prop where
 p0:0<=c.pl
 p1:c.pl<=2*(fl - 1)
 l0: -1<=c.li
 l1:c.li<=1
 m0:0<=c.mr
 ev:0<c.dr->c.pl% 2=0
 len:c.ps.length<=64
 gs:∀p∈c.ps,0<=p.2/\p.2<fl
structure hV (fl:Int)(r:aL):Prop where
 s0:0<=r.start
 s1:r.start<fl
 g0:0<=r.goal
 g1:r.goal<fl
 ne:r.start≠r.goal
theorem AS {so:Str}{li:Int}{a b c:Bool}:0<=dQ so li a b c/\dQ so li a b c<=2:=by
 unfold dQ;split
 ·decide
 split
 ·decide
 split
 ·decide
 ·decide
theorem vJ.nn {t:Int->Bool}{f u:Int}(h:vJ t f u):0<=u:=by rcases h with ⟨h,_⟩|⟨h,_⟩<;>lia
theorem vK.nn {t:Int->Bool}{f u:Int}(h:vK t f u):0<=u:=by rcases h with ⟨h,_⟩|⟨h,_⟩<;>lia
inductive DQ (P:Program)(w:World)(K:Fg)(mg:Str->Option Value)(base:Heap)(C:Addr)(vs:List V)(H:Hp)(Q:VK)(_e:XK):Prop
 |mk (m ru i rl h hs l H0 M c xr rs wf:_) (_:vs=[.ref m,.ref ru,.int i,.ref rl]) (_:lC K H0 h hs) (_:hs.ls[i.toNat]? =some l) (_:CS P w K mg base H0 ru wf) (_:gW K C H0 H m h M) (_:atC M i c) (_:ng hs.fl c) (_:c.pl% 2=0) (_:H0 rl=some (.lst xr)) (_:aC K H0 xr @bl) (_:(∀r∈rs,hV hs.fl r)) (_:rs.length<=64) (_:∀M' H',NO hs wf M i c l rs M'->aI H H'->gW K C H0 H' m h M'->Q .non H')
theorem MC {C:Addr}(F:Z0 K "go_by_rule" mh f fd)(cM:xY K C)(kZ:aS P w K mg base 1 "room_of" ["house","lift"] @di)(iR:aS P w K mg base 1 "turns_of" ["house","lift"] @dj)(Ko:aS P w K mg base 5 "view" ["sort","room","cabin","riders"] (yp K))(xB:aS P w K mg base 3 "steered" ["sort","floors","turns","cabin","word"] (lK K)):ar P w K mg base aQ 6 f fd ["moment","rule","lift","riders"] (DQ P w K mg base C):=by
 rwa[F.ok pN (by symm) (λan A outer s H vs Q E Z h=> ?_)];obtain ⟨m,ru,i,rl,h,hs,l,H0,M,c,xr,U,wf,rfl,hH,hl,ag,⟨dx,lc,lw,ll,xs,ys,zs,a⟩,L,Y,ev,er,dr,ax,S,q⟩:=h;obtain ⟨t,hx,hi,ht,ae⟩:=a.atC L;have cl:=cM.i.cl;have f8:=hH.1.f8;obtain ⟨ph,bk,pb,B,a7,ba,bf,bc⟩:=(hH.same a.s).at L.1 hl;obtain ⟨kC,ak,al,am,kr,ah,kM,kw,ks⟩:=ag;obtain ⟨R,z⟩:∃R:Nat,c.pl=2*(R:Int):=⟨(c.pl / 2).toNat,by have:=Y.p0;lia⟩
 have ai:(R:Int)<hs.fl:=by have:=Y.p1;lia
 have ad:QO c.ps U:=⟨λp I=>⟨(Y.gs p I).1,by have:=(Y.gs p I).2;lia⟩,λr Z=>⟨(ax r Z).s0,by have:=(ax r Z).s1;lia⟩,Y.len,S⟩;have af:o0 c.ps:=⟨by have:=Y.len;lia,λp I=>⟨(Y.gs p I).1,by have:=(Y.gs p I).2;lia⟩⟩;rwa[⟨_,(aa @a (aa @a (aa (bM (i:=6) pN.nd rfl @o (oJ (n:=2) gS Z @b (wv 1) @E)) (ac @cW)))),?_⟩];rwa[cg a cl cM.house (v:= .ref h) rfl ?_];rwa[cg a cl cM.cabins (v:= .ref lc) rfl ?_];rwa[bd @cC hi ?_];rwa[iL (a.s _ _ kr) ah kM ?_];rwa[ao B rfl ?_];rwa[lO.mk (g:=λl=> .int l.rm) _ _ _ _ rfl @gD L.1 hl ?_];rwa[yp.mk _ _ _ _ _ _ _ _ _ _ _ _ rfl ht (a.s _ _ er) (aC.same dr a.s) ad z @c λv u d H1 O hu hd ab=> ?_];have a1:=a.same O;have sn:eV c.li (dQ hs.so c.li (tk l.rm c.ps U R) (CK c.ps R) (Bc U R c.li)) u d:=⟨Y.l0,Y.l1,AS.1,AS.2,hu.nn,hd.nn⟩;rwa[ks H1 v R c.li _ u d _ _ (a1.s _ _ kr) (aD.of ab) sn ?_];have J:=kw R _ _ _ _ sn;generalize W:wf R c.li (dQ hs.so c.li (tk l.rm c.ps U R) (CK c.ps R) (Bc U R c.li)) u d=wd at J ⊢;rwa[ao @fG rfl ?_];rwa[ao @fG rfl ?_];rwa[lO.mk (g:=λl=> .int l.tn) _ _ _ _ rfl (hH.same a1.s) L.1 hl ?_];rwa[Dw (f0:=(R:Int)) (ht.same O) J af z @c ai Y.l0 Y.l1 λr H2 s2 aj=> ?_];have a2:=a1.same s2;rwa[cg a2 cl cM.cabins (v:= .ref lc) rfl ?_];rwa[pG (j:=i.toNat) a2.ec (FH L.1 ae) ?_];rwa[q (kh M i (pq hs l c wd)) _ ⟨R,u,d,z,hu,hd,by rw [W]⟩ ((O.trans s2).st.trans (.updL a2.ec)) ⟨dx,lc,lw,ll,_,ys,zs,a2.setC (i:=i.toNat) (c:=pq hs l c wd) ⟨r,rfl,aj⟩⟩]
noncomputable def aF (i:Int)(M:MS):List aL:=M.ws.filter λr=>decide (r.lift=i)
def x9 (hs:Hs)(wf:Wf)(M:MS)(i:Int)(c:Cb)(l:Lf)(M':MS):Prop:=if 0<c.dr then M'=sV hs M i c l @co else if c.pl% 2=1 then M'=kh M i ⟨c.pl+c.li,c.li,0,c.mr,c.ps⟩ else NO hs wf M i c l @co M'
section
variable {hs:Hs}{wf:Wf}{M M':MS}{i:Int}{c:Cb}{l:Lf}
theorem SM (z:0<c.dr):x9 hs wf M i c l (sV hs M i c l @co):=by unfold x9;rw [if_pos z]
theorem SL (z: ¬0<c.dr)(S:c.pl% 2=1):x9 hs wf M i c l (kh M i ⟨c.pl+c.li,c.li,0,c.mr,c.ps⟩):=by unfold x9;rw [if_neg z,if_pos S]
theorem SK (z: ¬0<c.dr)(S: ¬c.pl% 2=1)(h:NO hs wf M i c l @co M'):x9 hs wf M i c l M':=by unfold x9;rw [if_neg z,if_neg S];exact h
end
inductive DJ (P:Program)(w:World)(K:Fg)(mg:Str->Option Value)(base:Heap)(C:Addr)(vs:List V)(H:Hp)(Q:VK)(_e:XK):Prop
 |mk (m ru i h hs l H0 M c wf:_) (_:vs=[.ref m,.ref ru,.int i]) (_:lC K H0 h hs) (_:hs.ls[i.toNat]? =some l) (_:CS P w K mg base H0 ru wf) (_:gW K C H0 H m h M) (_:atC M i c) (_:ng hs.fl c) (_:i<1000) (_:(∀r∈M.ws,hV hs.fl r)) (_:M.ws.length<=64) (_:M.log.length<=2000) (_:∀M' H',x9 hs wf M i c l M'->aI H H'->gW K C H0 H' m h M'->Q .non H')
theorem Mw {C:Addr}(F:Z0 K "go_without_fire" eG f fd)(cM:xY K C)(tJ:aS P w K mg base 4 "exchange" ["moment","lift","riders"] (DK K C))(b7:Z02 P w K mg base)(og:aS P w K mg base 6 "go_by_rule" ["moment","rule","lift","riders"] (DQ P w K mg base C)):ar P w K mg base aQ 7 f fd ["moment","rule","lift"] (DJ P w K mg base C):=by
 rwa[F.ok gR (by symm) (λap A outer s H vs Q E hr h=> ?_)];obtain ⟨m,ru,i,h,hs,l,H0,M,c,wf,rfl,hH,hl,ai,⟨dx,lc,lw,ll,xs,ys,zs,a⟩,hc,ok,i1,al,wl,gl,q⟩:=h;obtain ⟨t,hx,hi,ht,ag⟩:=a.atC hc;obtain ⟨b,bs,et,eb,db⟩:=id ht;have hT:=aD.of (K:=K) et;have cl:=cM.i.cl;have yl:ys.length=M.ws.length:=aG a.dw;rwa[⟨_,(aa @a (aa (dN (i:=4) rfl gR.nd rfl @o (aB (N':=["rider","lift"]) (pk:=[none,some 2]) @j) @a @h @bb @R) (ac (ay @a @F (ac (ay @a (ac @cW) @F)))))),?_⟩];rwa[cg a cl cM.cabins (v:= .ref lc) rfl ?_];rwa[bd @cC hi ?_];rwa[cg a cl cM.waiting (v:= .ref lw) rfl ?_];rwa[bF @gb ?_];rwa[bx (xs:=ys) (λj B I=>ak H I/\B.length<=j/\aC K I B (((M.ws.take j).filter λr=>decide (r.lift=i)).map aL.d)) @Z (λj B I h=>h.2.1) ⟨.refl _,Nat.le_refl _,.nil⟩ (λj B I _ h=>h.1.seq @gb) (λj y B I hy hP=> ?_) (λB I hP Z n1=> ?_)]
 ·obtain ⟨W,ah,hd⟩:=hP;obtain ⟨r,aj,ab⟩:=bE (f:=aL.d) a.dw hy;obtain ⟨ra,rfl,ad⟩:=fk (br.same ab W);have nx:=iO (λr:aL=>decide (r.lift=i)) aj;rwa[⟨bQ,?_⟩];rwa[ao ad rfl ?_];show if decide (r.lift=i)=true then _ else _
  cases hb:decide (r.lift=i) with
  |true=>
   rw [if_pos rfl];rwa[⟨W,by rw [length_append];show _+1<=_;lia,?_⟩];rw [nx,hb,if_pos rfl,map_append];exact Paired.app hd (.cons (br.same ab W) .nil)
  |false=>
   rw [if_neg @b];rwa[⟨W,by lia,?_⟩];rw [nx,hb,if_neg @b,append_nil];exact hd
 obtain ⟨W,ah,hd⟩:=hP;rw [yl,take_of_length_le @e] at hd;have O:ak I (upd I Z (.lst B)):= .upd n1;have e2:upd I Z (.lst B) Z=some (.lst B):=af;have d2:=aC.same hd O;generalize am:upd I Z (.lst B)=H2 at O e2 d2 ⊢;have R:=W.trans O;have a2:=a.same R;obtain ⟨aw,Y⟩:=a2.wide
 have nk:∀ {p:Addr} {o:HO},H p=some o->Z≠p:=λ{p o} e z=>by rw [<-z] at e;rw [W _ _ e] at n1;cases n1
 have L:iX H2 m lc lw ll Z=some (.lst B):=iP e2 (nk a.em) (nk a.ec) (nk a.ew) (nk a.el)
 have dC:aC K (iX H2 m lc lw ll) B ((aF i M).map aL.d):=by
  rwa[aI.dens (λb o z1 S e=> ?_) d2 (gA _)];exact iP e (λz=>by rw [z,a2.em] at e;cases e;exact S _ _ _ rfl) (λz=>by rw [z,a2.ec] at e;cases e;exact z1 _ rfl) (λz=>by rw [z,a2.ew] at e;cases e;exact z1 _ rfl) (λz=>by rw [z,a2.el] at e;cases e;exact z1 _ rfl)
 generalize an:iX H2 m lc lw ll=Hc at aw Y L dC;have aP:gW K C Hc H2 m h M:=⟨dx,lc,lw,ll,xs,ys,zs,aw⟩;have ax:∀r∈aF i M,hV hs.fl r:=λr hr=>al r ((mem_filter.mp hr).1);have J:(aF i M).length<=64:=Nat.le_trans @bd wl;rwa[ao @el rfl ?_];rwa[iy @t @t]
 ·have z:0<c.dr:=z;exact DK.mk _ _ _ _ _ _ _ _ _ _ _ rfl (hH.same Y) hl aP hc i1 ok.len gl @c ⟨c.pl / 2,by have:=ok.ev z;lia⟩ L dC ⟨J,λr hr=>(ax r hr).ne⟩ λH' st U=>q _ H' (SM z) (R.st.trans st) (U.onto Y)
 have z: ¬0<c.dr:=z;rwa[ao @el rfl ?_];rwa[⟨by decide,?_⟩];rwa[iy @dI @dI]
 ·have S:c.pl% 2=1:=S;rwa[ao @el rfl ?_];rwa[ao @el rfl ?_];rwa[ao @el rfl ?_];rwa[dZ.mk _ _ _ _ _ _ _ _ _ rfl (ht.same R) λr H3 s3 aj=> ?_];have a3:=a2.same s3;rwa[cg a3 cl cM.cabins (v:= .ref lc) rfl ?_];rwa[pG (j:=i.toNat) a3.ec (FH hc.1 ag) ?_];exact q _ _ (SL z S) ((R.trans s3).st.trans (.updL a3.ec)) ⟨dx,lc,lw,ll,_,ys,zs,a3.setC (i:=i.toNat) (c:=⟨c.pl+c.li,c.li,0,c.mr,c.ps⟩) ⟨r,rfl,aj⟩⟩
 ·have S: ¬c.pl% 2=1:=S;exact DQ.mk _ _ _ _ _ _ _ _ _ _ _ _ _ rfl (hH.same Y) hl (ai.same Y) aP hc ok @c L dC ax J λM' H' ae st U=>q M' H' (SK z S ae) (R.st.trans st) (U.onto Y)
def CU (hs:Hs)(wf:Wf)(M:MS)(i:Int)(c:Cb)(l:Lf)(M':MS):Prop:=(c.mr.toNat.testBit 0=true/\M'=M)\/(c.mr.toNat.testBit 0=false/\M.fire=true/\M'=M)\/(c.mr.toNat.testBit 0=false/\M.fire=false/\x9 hs wf M i c l M')
inductive HK (P:Program)(w:World)(K:Fg)(mg:Str->Option Value)(base:Heap)(C:Addr)(vs:List V)(H:Hp)(Q:VK)(_e:XK):Prop
 |mk (m ru i h hs l H0 M c wf:_) (_:vs=[.ref m,.ref ru,.int i]) (_:lC K H0 h hs) (_:hs.ls[i.toNat]? =some l) (_:CS P w K mg base H0 ru wf) (_:gW K C H0 H m h M) (_:atC M i c) (_:ng hs.fl c) (_:i<1000) (_:(∀r∈M.ws,hV hs.fl r)) (_:M.ws.length<=64) (_:M.log.length<=2000) (_:M.fire=false) (_:∀M' H',CU hs wf M i c l M'->aI H H'->gW K C H0 H' m h M'->Q .non H')
theorem Pd {C:Addr}{Z:Tok}(F:Z0 K "go" RJ f fd)(I:xY K C)(FW:mg "STUCK"=some (.int 0 Z))(oE:Z03 P w K mg base)(fU:aS P w K mg base 7 "go_without_fire" ["moment","rule","lift"] (DJ P w K mg base C)):ar P w K mg base aQ 8 f fd ["moment","rule","lift"] (HK P w K mg base C):=by
 have z:ax (.int 0) (.int 0 Z):=⟨_,rfl⟩;rwa[F.ok RH (by symm) @bi];obtain ⟨m,ru,i,h,hs,l,H0,M,c,wf,rfl,hH,hl,ag,U,R,ok,i1,al,wl,gl,Y,q⟩:=h;have B:=U;obtain ⟨dx,lc,lw,ll,xs,ys,zs,a⟩:=U;obtain ⟨t,hx,hi,ht,ab⟩:=a.atC R;obtain ⟨b,bs,et,eb,db⟩:=id ht;have W:=I.i.cl;obtain ⟨L,j⟩:=Int.eq_ofNat_of_zero_le ok.m0;rwa[⟨_,(aa (ay @a (ac Il) ap) (ac (ay @a @cn @F))),?_⟩];rwa[cg a W I.cabins (v:= .ref lc) rfl ?_];rwa[bd @cC hi ?_];rwa[ao (aD.of et) rfl ?_];rw [j]
 have S:c.mr.toNat=L:=by rw [j];rfl
 erw[fi.mk _ 0 rfl @b ?_];by_cases O:L.testBit 0=true
 ·rwa[bG O ?_];exact q M H (.inl ⟨by rw [S];exact O,rfl⟩) (.refl _) B
 ·have aq:L.testBit 0=false:=by simpa using O
  rwa[bf aq ?_];rwa[cg a W I.fire (v:= .bl M.fire) rfl ?_];rwa[bf Y ?_];exact DJ.mk _ _ _ _ _ _ _ _ _ _ rfl hH hl ag B R ok i1 al wl gl λM' H' hg st J=>q M' H' (.inr (.inr ⟨by rw [S];exact aq,Y,hg⟩)) st J
inductive d8 (K:Fg)(H:Hp)(st:Addr)(cs:List Cb)(ws:List aL)(last:Int)(fire:Bool):Prop
 |mk (tc tw xs ys:_) (_:aD K H st [.ref tc,.ref tw,.int last,.bl fire]) (_:aD K H tc xs) (_:aD K H tw ys) (_:Paired (d4 K H) xs cs) (_:aC K H ys @eD)
theorem d8.keep {H H':Hp}{st:Addr}{cs:List Cb}{ws:List aL}{last:Int}{j:Bool}(h:d8 K H st cs ws last j)(s:aI H H'):d8 K H' st cs ws last j:=by
 obtain ⟨tc,F,xs,ys,h1,h2,L,B,S⟩:=h;exact ⟨tc,F,xs,ys,s.sqT h1,s.sqT h2,s.sqT L,Paired.imp' (λx c z=>d4.keep z s) B,s.dens S (gA _)⟩
inductive DH (K:Fg)(vs:List V)(H:Hp)(Q:VK)(_e:XK):Prop
 |mk (a h st C dx tc tw xs ys last fire:_) (_:vs=[.ref a,.ref h,.ref st]) (_:H a=some (.ins C dx [])) (_:xY K C) (_:aD K H st [.ref tc,.ref tw,.int last,.bl fire]) (_:aD K H tc xs) (_:aD K H tw ys) (_:∀lc lw ll H',eW a H H'->H lc=none->H lw=none->H ll=none->lc≠lw->lc≠ll->lw≠ll->H' a=some (.ins C dx (rR h lc lw last fire 0 ll))->H' lc=some (.lst xs)->H' lw=some (.lst ys)->H' ll=some (.lst [])->Q .non H')
theorem fL {a:Addr}{H H':Hp}{C dx:Addr}{fs:List (Str×V)}(s:eW a H H')(e:H a=some (.ins C dx fs)){p:Addr}{xs:List V}(h:aD K H p xs):aD K H' p xs:=by
 rcases h with (h|⟨u,h⟩)|h
 ·exact .inl (.inl (s _ _ (λz=>by rw [z,e] at h;cases h) h))
 ·exact .inl (.inr ⟨u,s _ _ (λz=>by rw [z,e] at h;cases h) h⟩)
 ·exact .inr h
theorem EY (F:bh K "__init__" "Moment.__init__" ig f fd)(dD:mg "list"=none):ar P w K mg base aQ 1 f fd ["self","house","state"] (DH K):=by
 rwa[F.ok uD (by symm) (λaD A outer s H vs Q E hr h=> ?_)];obtain ⟨a,h,st,C,dx,tc,tw,xs,ys,L,O,rfl,U,R,h1,h2,h3,q⟩:=h;have Y:=R.i.cl;rwa[⟨_,(aa @bE (aa (cE rfl (wv 0) @bc) (aa (cE rfl (wv 0) @bc) (aa @cV (aa @cV (aa (cE rfl (wv 0) bA) (ac (cE rfl (wv 0) (yg aq))))))))),?_⟩];rwa[cI U Y R.house @b ?_];generalize W:upd H a _=H1
 have p1:eW a H H1:=by rw [<-W];exact λb o n e=>by rw [ag n];exact e
 have ae:H1 a=some (.ins C dx [(s!"house",.ref h)]):=by rw [<-W];exact af
 clear W;rwa[ao (fL p1 U h1) rfl ?_];rwa[gC (.inr (fL p1 U h2)) λlc H2 s2 n2 e2=> ?_];have aB:=s2 _ _ ae;rwa[cI aB Y R.cabins (by show 1<1000;decide) ?_];generalize ab:upd H2 a _=H3
 have p3:eW a H H3:=by rw [<-ab];exact λb o n e=>by rw [ag n];exact s2 _ _ (p1 b o n e)
 have ah:H3 a=some (.ins C dx [(s!"house",.ref h),(s!"cabins",.ref lc)]):=by rw [<-ab];exact af
 have aO:lc≠a:=λz=>by rw [z,ae] at n2;cases n2
 have e3:H3 lc=some (.lst xs):=by rw [<-ab,ag aO];exact e2
 have am:H lc=none:=by
  cases y:H lc with
  |none=>rfl
  |some o=>rw [p1 _ _ aO y] at n2;cases n2
 clear ab;rwa[ao (fL p3 U h1) rfl ?_];rwa[gC (.inr (fL p3 U h3)) λlw H4 s4 Z e4=> ?_];have al:=s4 _ _ ah;rwa[cI al Y R.waiting (by show 2<1000;decide) ?_];generalize J:upd H4 a _=H5
 have p5:eW a H H5:=by rw [<-J];exact λb o n e=>by rw [ag n];exact s4 _ _ (p3 b o n e)
 have an:H5 a=some (.ins C dx [(s!"house",.ref h),(s!"cabins",.ref lc),(s!"waiting",.ref lw)]):=by rw [<-J];exact af
 have j:lw≠a:=λz=>by rw [z,ah] at Z;cases Z
 have aA:lc≠lw:=λz=>by rw [<-z,e3] at Z;cases Z
 have e5:H5 lw=some (.lst ys):=by rw [<-J,ag j];exact e4
 have az:H5 lc=some (.lst xs):=by rw [<-J,ag aO];exact s4 _ _ e3
 have ak:H lw=none:=by
  cases y:H lw with
  |none=>rfl
  |some o=>rw [p3 _ _ j y] at Z;cases Z
 clear J;rwa[ao (fL p5 U h1) rfl ?_];rwa[cI an Y R.last (by show 3<1000;decide) ?_];generalize I:upd H5 a _=H6
 have p6:eW a H H6:=by rw [<-I];exact λb o n e=>by rw [ag n];exact p5 b o n e
 have aw:H6 a=some (.ins C dx [(s!"house",.ref h),(s!"cabins",.ref lc),(s!"waiting",.ref lw),(s!"last",.int L)]):=by rw [<-I];exact af
 have e6:H6 lw=some (.lst ys):=by rw [<-I,ag j];exact e5
 have ay:H6 lc=some (.lst xs):=by rw [<-I,ag aO];exact az
 clear I;rwa[ao (fL p6 U h1) rfl ?_];rwa[cI aw Y R.fire (by show 4<1000;decide) ?_];generalize B:upd H6 a _=H7
 have p7:eW a H H7:=by rw [<-B];exact λb o n e=>by rw [ag n];exact p6 b o n e
 have ax:H7 a=some (.ins C dx [(s!"house",.ref h),(s!"cabins",.ref lc),(s!"waiting",.ref lw),(s!"last",.int L),(s!"fire",.bl O)]):=by rw [<-B];exact af
 have e7:H7 lw=some (.lst ys):=by rw [<-B,ag j];exact e6
 have ap:H7 lc=some (.lst xs):=by rw [<-B,ag aO];exact ay
 clear B;rwa[cI ax Y R.blocked (by show 5<1000;decide) ?_];generalize be:upd H7 a _=H8
 have p8:eW a H H8:=by rw [<-be];exact λb o n e=>by rw [ag n];exact p7 b o n e
 have aj:H8 a=some (.ins C dx [(s!"house",.ref h),(s!"cabins",.ref lc),(s!"waiting",.ref lw),(s!"last",.int L),(s!"fire",.bl O),(s!"blocked",.int 0)]):=by rw [<-be];exact af
 have e8:H8 lw=some (.lst ys):=by rw [<-be,ag j];exact e7
 have ad:H8 lc=some (.lst xs):=by rw [<-be,ag aO];exact ap
 clear be;rwa[fP (bq (by show 0<=1000000;decide)) λll H9 s9 S e9=> ?_];have as:=s9 _ _ aj;rwa[cI as Y R.log (by show 6<1000;decide) ?_]
 have ai:ll≠a:=λz=>by rw [z,aj] at S;cases S
 have aC:lc≠ll:=λz=>by rw [<-z,ad] at S;cases S
 have au:lw≠ll:=λz=>by rw [<-z,e8] at S;cases S
 rwa[q lc lw ll _ (λb o n e=> ?_) am ak ?_ aA aC au af ?_ ?_ ?_]
 ·rw [ag n];exact s9 _ _ (p8 b o n e)
 ·cases y:H ll with
  |none=>rfl
  |some o=>rw [p8 _ _ ai y] at S;cases S
 ·rw [ag aO];exact s9 _ _ ad
 ·rw [ag j];exact s9 _ _ e8
 ·rw [ag ai];exact e9
unseal fO in
theorem RU {C:Addr}{E:XK}{H:Hp}{h st:Addr}{cs:List Cb}{ws:List aL}{last:Int}{j:Bool}{Q:VK}(cM:xY K C)(hs:d8 K H st cs ws last j)(g:∀m H',gW K C H H' m h ⟨cs,ws,last,j,0,[]⟩->Q (.ref m) H'):fO C (DH K) E [.ref h,.ref st] H Q:=by
 show ∀a dx,H a=none->H dx=none->dx≠a->DH K (.ref a::([.ref h,.ref st]++[])) @p (λv H2=>v= .non/\Q (.ref a) H2) E;intro a dx h1 h2 h3;have B:ak H @p:=d9 h1 h2;obtain ⟨tc,tw,xs,ys,Y,i2,O,i4,L⟩:=hs;rwa[⟨a,h,st,C,dx,tc,tw,xs,ys,last,j,rfl,af,cM,B.seqT Y,B.seqT i2,B.seqT O,λlc lw ll H' sp J W R cw F wl S Z U el=>⟨rfl,g a H' ?_⟩⟩];have I:ak H H':=λb o e=>sp b o (λz=>by rw [z,h1] at e;cases e) (B b o e);exact ⟨dx,lc,lw,ll,xs,ys,[],I,h1,none_of B J,none_of B W,none_of B R,cw,F,wl,S,Z,U,el,Paired.imp' (λx c z=>d4.keep z I.st) i4,aC.same L I,.nil,rfl⟩
inductive Aq (K:Fg)(C:Addr)(vs:List V)(H:Hp)(Q:VK)(_e:XK):Prop
 |mk (m h H0 M:_) (_:vs=[.ref m]) (_:gW K C H0 H m h M) (_:∀st H',ak H H'->d8 K H' st M.cs M.ws M.last M.fire->Q (.ref st) H')
theorem Mi {C:Addr}(F:Z0 K "state_of" pU f fd)(j:xY K C)(J:mg "tuple"=none):ar P w K mg base aQ 1 f fd ["moment"] (Aq K C):=by
 rwa[F.ok Bx (by symm) @bj];obtain ⟨m,h,H0,M,rfl,⟨dx,lc,lw,ll,xs,ys,zs,a⟩,q⟩:=h;have z:=j.i.cl;rwa[⟨_,(ac (aj (gc (av (aJ @eC rfl J boot_tuple @E) (av (aJ @eC rfl J boot_tuple @E) (av @a @E)))))),?_⟩];rwa[cg a z j.cabins (v:= .ref lc) rfl ?_];rwa[jo @cC λtc H1 O n1 W=> ?_];have B:=a.same O;rwa[cg B z j.waiting (v:= .ref lw) rfl ?_];rwa[jo (az.of B.ew) λtw H2 R n2 U=> ?_];have I:=B.same R;rwa[cg I z j.last (v:= .int M.last) rfl ?_];rwa[cg I z j.fire (v:= .bl M.fire) rfl ?_];rwa[bZ (bq (by show 4<=1000000;decide)) λst S L n3 Z=> ?_];have Y:=I.same L;exact q st S (O.trans (R.trans L)) ⟨tc,tw,xs,ys,aD.of Z,aD.of (L _ _ (R _ _ W)),aD.of (L _ _ U),Y.dc,Y.dw⟩
structure rC (hs:Hs)(n:Nat)(M:MS):Prop where
 len:M.cs.length=hs.ls.length
 cs:∀c∈M.cs,ng hs.fl c
 ws:∀r∈M.ws,hV hs.fl r
 sum:M.log.length+M.ws.length<=n
theorem AC {α:Type}{l:List α}{i:Nat}{x y:α}(h:y∈l.set i x):y∈l\/y=x:=mem_or_eq_of_mem_set h
theorem rC.deed {hs:Hs}{n:Nat}{M:MS}(o:rC hs n M){d:Dd}(j:d.fit hs.fl hs.ls.length):rC hs (n+1) (tz hs.lo M d):=by
 have U:∀ {M':MS},rC hs n M'->rC hs (n+1) M':=λz=>⟨z.len,z.cs,z.ws,by have:=z.sum;lia⟩
 cases d with
 |come t s g k=>
  obtain ⟨W,O,B,I,F⟩:=j;show rC hs (n+1) (eS hs.lo M t s g k);unfold eS;have J:=o.sum;split
  ·exact ⟨o.len,o.cs,o.ws,by show (M.log++_).length+M.ws.length<=_;rw [length_append];simp;lia⟩
  split
  ·exact ⟨o.len,o.cs,o.ws,by show (M.log++_).length+M.ws.length<=_;rw [length_append];simp;lia⟩
  ·rwa[⟨o.len,o.cs,λr Y=> ?_,by show M.log.length+(M.ws++_).length<=_;rw [length_append];simp;lia⟩]
   rcases mem_append.mp Y with z|z
   ·exact o.ws r z
   ·rw [mem_singleton.mp z];exact ⟨W,O,B,I,F⟩
 |lf x i=>exact U ⟨o.len,o.cs,o.ws,o.sum⟩
 |sg x=>exact False.elim j
theorem rC.dealt {hs:Hs}{n:Nat}{M:MS}(o:rC hs n M){dl:vV}{p:Nat}{r:aL}(Y:hV hs.fl r):rC hs (n+1) @gB:=by
 unfold fS;have B:=o.sum;split
 ·exact ⟨o.len,o.cs,o.ws,by show M.log.length+M.ws.length<=_;lia⟩
 ·rwa[⟨o.len,o.cs,λs j=> ?_,by show (M.log++_).length+(M.ws.set _ _).length<=_;rw [length_append,length_set];simp;lia⟩]
  rcases AC j with z|z
  ·exact o.ws s z
  ·rw [z];exact ⟨Y.s0,Y.s1,Y.g0,Y.g1,Y.ne⟩
theorem rC.deals {hs:Hs}{n:Nat}{M:MS}(o:rC hs n M){dl:vV}{W:List aL}(F:∀r∈W,hV hs.fl r):∀i,rC hs (n+i) @gC
 |0=>o
 |i+1=>by
  have h:=rC.deals (dl:=dl) o F i;unfold aO;split
  ·rename_i r Y;split
   ·exact h.dealt (F r (mem_of_getElem? Y))
   ·exact ⟨h.len,h.cs,h.ws,by have:=h.sum;lia⟩
  ·exact ⟨h.len,h.cs,h.ws,by have:=h.sum;lia⟩
def G3 (hs:Hs)(wf:Wf):Nat->MS->MS->Prop
 |0,M,M'=>M'=M
 |i+1,M,M''=>∃M' c l,G3 hs wf i M M'/\atC M' (i:Int) c/\hs.ls[i]? =some l/\CU hs wf M' (i:Int) c l M''
structure jh (hs:Hs)(M0:MS)(i:Nat)(M:MS):Prop where
 len:M.cs.length=M0.cs.length
 cs:∀j,i<=j->M.cs[j]? =M0.cs[j]?
 ws:∀r∈M.ws,r∈M0.ws
 wl:M.ws.length<=M0.ws.length
 log:M.log.length<=M0.log.length+128*i
 fire:M.fire=M0.fire
theorem jh.set {hs:Hs}{z M:MS}{i:Nat}(o:jh hs z i M){c:Cb}{lg:List D}{ws:List aL}(B:∀r∈ws,r∈M.ws)(W:ws.length<=M.ws.length)(F:lg.length<=M.log.length+128):jh hs z (i+1) {M with cs:=M.cs.set i c,ws:=ws,log:=lg}:=by
 rwa[⟨by rw [length_set];exact o.len,λj Z=> ?_,λr Y=>o.ws r (B r Y),Nat.le_trans W o.wl,by have:=o.log;show lg.length<=_;lia,o.fire⟩];rw [getElem?_set_ne @c];exact o.cs j @c
theorem jh.go {hs:Hs}{wf:Wf}{F M M':MS}{i:Nat}{c:Cb}{l:Lf}(o:jh hs F i M)(J:c.ps.length<=64)(L:M.ws.length<=64)(h:CU hs wf M (i:Int) c l M'):jh hs F (i+1) M':=by
 have z:jh hs F (i+1) M:=⟨o.len,λj Z=>o.cs j @c,o.ws,o.wl,by have:=o.log;lia,o.fire⟩
 have e:((i:Int)).toNat=i:=by lia
 have B:∀I,jh hs F (i+1) (kh M (i:Int) I):=λI=>by
  have:=o.set (c:=I) (lg:=M.log) (ws:=M.ws) (λr h=>h) @e @c;unfold kh;rw [e];exact this
 rcases h with ⟨_,rfl⟩|⟨_,_,rfl⟩|⟨_,_,h⟩
 ·exact z
 ·exact z
 ·unfold x9 at h;split at h
  ·rw [h];unfold sV kh zy;rw [e];rwa[o.set (λr h=>(mem_filter.mp h).1) @bd ?_];rw [length_append,length_append,length_map,length_map];have h1:=wT (pl:=c.pl) (ps:=c.ps);have h2:=xq (hs:=hs) (c:=c) (l:=l) (rs:=aF (i:Int) M);have O:(aF (i:Int) M).length<=M.ws.length:=length_filter_le _ _;lia
  split at h
  ·rw [h];exact B _
  ·obtain ⟨R,u,d,_,_,_,rfl⟩:=h;exact B _
noncomputable def OD:Dd->List Int
 | .come t _ _ _=>[t]
 |_=>[]
def zH (fl:Int)(n:Nat):List Int->List Dd->Prop
 |_,[]=>True
 |ts,d::ds=>d.fit fl n/\(∀t∈OD d,t∉ts)/\zH fl n (ts++OD d) ds
theorem zG {fl:Int}{n:Nat}:∀ {ds:List Dd} {ts:List Int},zH fl n ts ds->∀d∈ds,d.fit fl n
 |[],_,_,d,J=>by cases J
 |e::ds,ts,h,d,J=>by
  rcases mem_cons.mp J with rfl|J
  ·exact h.1
  ·exact zG h.2.2 d J
noncomputable def bu (cs:List Cb)(ws:List aL):List Int:=ws.map (·.tag)++cs.flatMap λc=>c.ps.map (·.1)
def xW (K:Fg)(H:Hp)(p:Addr)(ds:List Dd):Prop:=∃xs,az K H p xs/\Paired (λx d=>∃a,x=V.ref a/\vP H a d) xs ds
inductive Ar (K:Fg)(vs:List V)(H:Hp)(Q:VK)(_e:XK):Prop
 |mk (h st dl hs cs ws last fire ds:_) (_:vs=[.ref h,.ref st,.ref dl]) (_:lC K H h hs) (_:d8 K H st cs ws last fire) (_:xW K H dl ds) (_:ws.length<=64) (_:(∀c∈cs,c.ps.length<=64)) (_:cs.length<=10) (_:ds.length<=100) (_:zH (Hs.fl hs) hs.ls.length @cM ds) (_:∀H',ak H H'->Q .non H')
structure Hf (K:Fg)(C:Addr):Prop where
 i:fW K C
 house:aK K C "house"
 rule:aK K C "rule"
 dealer:aK K C "dealer"
abbrev mV (h ru df:Addr):List (Str×V):=[(s!"house",.ref h),(s!"rule",.ref ru),(s!"dealer",.ref df)]
noncomputable def aN (lo:Nat)(M:MS)(ds:List Dd):MS:=ds.foldl (tz lo) M
noncomputable def oz (dl:vV)(M:MS):MS:=aO dl M.ws M.ws.length M
theorem nQ {lo:Nat}:∀ {ds:List Dd} {M:MS},(aN lo M ds).fire=M.fire
 |[],M=>rfl
 |d::ds,M=>(nQ (ds:=ds) (M:=tz lo M d)).trans Ct
inductive yq (P:Program)(w:World)(K:Fg)(mg:Str->Option Value)(base:Heap)(GG:Hp->Prop)(pre:List Cb->List aL->aL->Int->Prop)(dl:vV)(vs:List V)(H:Hp)(Q:VK)(_e:XK):Prop
 |mk (a st dp C dx h ru df hs wf cs ws last ds:_) (_:vs=[.ref a,.ref st,.ref dp]) (_:H a=some (.ins C dx @eU)) (_:Hf K C) (_:lC K H h hs) (_:CS P w K mg base H ru wf) (_:jP P w K mg base 5 df @fa) (_:GG H) (_:d8 K H st cs ws last false) (_:xW K H dp ds) (_:rC hs ws.length ⟨cs,ws,last,false,0,[]⟩) (_:ws.length+ds.length<=64) (_:zH (Hs.fl hs) hs.ls.length @cM ds) (_:(∀i r,(aN hs.lo ⟨cs,ws,last,false,0,[]⟩ ds).ws[i]? =some r->r.lift= -1->pre (aO dl (aN hs.lo ⟨cs,ws,last,false,0,[]⟩ ds).ws i @v).cs (aO dl (aN hs.lo ⟨cs,ws,last,false,0,[]⟩ ds).ws i @v).ws r (aO dl (aN hs.lo ⟨cs,ws,last,false,0,[]⟩ ds).ws i @v).last)) (_:(∀r st' ll M' H',aM H H'->GG H'->H' r=some (.tup [.ref st',.ref ll])->d8 K H' st' M'.cs M'.ws M'.last M'.fire->G3 hs wf hs.ls.length (oz dl @v) M'->Q (.ref r) H'))
theorem qM {lo:Nat}{M:MS}{ds:List Dd}{i:Nat}{d:Dd}(h:ds[i]? =some d):aN lo M (ds.take (i+1))=tz lo (aN lo M @fq) d:=by
 unfold aN;rw [take_add_one,h,foldl_append];rfl
theorem rC.deeds {hs:Hs}{n:Nat}{M:MS}(o:rC hs n M):∀ {ds:List Dd},(∀d∈ds,d.fit hs.fl hs.ls.length)->∀i,rC hs (n+i) (aN hs.lo M @fq)
 |ds,h,0=>by
  rw [take_zero];exact o
 |ds,h,i+1=>by
  have z:=rC.deeds o h i
  cases e:ds[i]? with
  |none=>
   rw [take_add_one,e];simp only [Option.toList_none,append_nil];exact ⟨z.len,z.cs,z.ws,by have:=z.sum;lia⟩
  |some d=>
   rw [qM e];have:=h d (mem_of_getElem? e);exact z.deed this
theorem Kg {H H':Hp}(s:aM H H'){a:Addr}{h:Hs}(c:lC K H a h):lC K H' a h:=by
 obtain ⟨o,p,xs,h1,h2,L⟩:=c;exact ⟨o,p,xs,s.sqT h1,s.sqT h2,Paired.imp' (λx l ⟨b,e,z⟩=>⟨b,e,s.sqT z⟩) L⟩
theorem J2 {H H':Hp}(s:aM H H'){a:Addr}{wf:Wf}(r:CS P w K mg base H a wf):CS P w K mg base H' a wf:=by
 obtain ⟨C,dx,fs,sp,h1,h2,L,j,S⟩:=r;exact ⟨C,dx,fs,sp,s _ _ (λ_ z=>by cases z) h1,h2,L,j,S⟩
theorem sk {H H':Hp}(s:aM H H'){st:Addr}{cs:List Cb}{ws:List aL}{last:Int}{j:Bool}(h:d8 K H st cs ws last j):d8 K H' st cs ws last j:=by
 obtain ⟨tc,F,xs,ys,h1,h2,L,B,S⟩:=h;exact ⟨tc,F,xs,ys,s.sqT h1,s.sqT h2,s.sqT L,Paired.imp' (λx c z=>d4.nt s z) B,s.dens S⟩
theorem IH {Y:Addr}{GG:Hp->Prop}{pre:List Cb->List aL->aL->Int->Prop}{dl:vV}(gT:GT GG)(F:bh K "turn" "Court.turn" gz f fd)(cM:xY K Y)(bH:mg "len"=none)(aU:mg "range"=none)(fq:aS P w K mg base 7 "need_deeds" ["house","state","deeds"] (Ar K))(kG:iC P w K mg base aQ 1 "Moment" Y (DH K))(k9:aS P w K mg base 5 "do_deed" ["moment","deed"] (HL K Y))(iU:aS P w K mg base 7 "deal_all" ["moment","dealer"] (j8 P w K mg base Y GG pre dl))(bj:aS P w K mg base 8 "go" ["moment","rule","lift"] (HK P w K mg base Y))(iT:aS P w K mg base 1 "state_of" ["moment"] (Aq K Y)):ar P w K mg base aQ 9 f fd ["self","state","deeds"] (yq P w K mg base GG pre dl):=by
 rwa[F.ok nF (by symm) (λbr A outer s H vs Q E hr h=> ?_)];obtain ⟨a,st,dp,C,dx,h,ru,df,hs,wf,cs,ws,aT,ds,rfl,ea,cC,hH,a3,ax,a4,aJ,aF,af,bm,ak,O,q⟩:=h;have B:=cC.i.cl;have cl:=cM.i.cl;have l3:=hH.1.l3
 have az:cs.length<=10:=by have:=af.len;have:cs.length=hs.ls.length:=this;lia
 have aH:∀c∈cs,c.ps.length<=64:=λc hc=>(af.cs c hc).len;rwa[⟨_,(aa @dC (aa (bM (i:=3) nF.nd rfl @o (ge kG gS hr @b rfl @gk)) (aa @cp (fm (ay (dB @a) @F ap) (aa (b9 PassesOwn.never rfl @fz @a @F) @g))))),?_⟩];rwa[dG ea B cC.house (v:= .ref h) rfl ?_];rwa[Ar.mk _ _ _ _ _ _ _ _ _ rfl hH aJ aF @c aH az @c ak λH1 U=> ?_];have aC:=zG ak;obtain ⟨xd,a5,pd⟩:=aF;have ae:=U _ _ ea;rwa[dG ae B cC.house (v:= .ref h) rfl ?_];rwa[RU cM (aJ.keep U.st) λm H2 aP=> ?_];have a9:=gT _ _ (U.trans aP.s).st a4;have bg:=aP.s.st;have aP:=aP.onto (qo H1);have aK:=Fh H1;have s2:=aP.s;have ae:=qp ae (λ_ z=>by cases z);generalize aB:(⟨cs,ws,aT,false,0,[]⟩:MS)=M0 at aP af O q
 have aZ:M0.fire=false:=by rw [<-aB]
 have bo:M0.ws.length=ws.length:=by rw [<-aB]
 have al:=(Fi H1).sqL (U.seq a5);rwa[bF (s2.seq al) ?_];have xl:xd.length=ds.length:=pd.len;have an:=Kg (Fi H1) (hH.same U);have ag:=J2 (Fi H1) (a3.same U);have bc:aI (x8 H1) H1:=(qo H1).st;generalize a2:x8 H1=Hb at aP aK s2 ae al an ag bc;have aW:∀i,rC hs (ws.length+i) (aN hs.lo M0 @fq):=λi=>af.deeds aC i;rwa[cx (xs:=xd) (λi σ I=>gW K Y Hb I m h (aN hs.lo M0 @fq)/\aI H1 I/\GG I/\∃R S,σ=[some (.ref a),some (.ref st),some (.ref dp),some (.ref m),R,S]) ⟨by rw [take_zero];exact aP,bg,a9,_,_,rfl⟩ (λi σ I _ W=>W.1.s.seq al) @dl @dm]
 ·obtain ⟨hM,ab,gX,R,S,rfl⟩:=W;obtain ⟨d,hd,ad,rfl,bd⟩:=pd.get1 hx;have il:i<ds.length:=(List.getElem?_eq_some_iff.mp hd).1;have mo:=aW i;have sm:=mo.sum;rwa[HL.mk _ _ _ _ _ _ _ rfl ((hH.same U).keep ab) ((bd.same U).keep ab) (aC d (mem_of_getElem? hd)) hM @c @c λH' j J=> ?_];rw [<-qM hd] at J;exact ⟨J,ab.trans j,gT _ _ j gX,_,_,rfl⟩
 obtain ⟨hM,ab,gX,R,S,rfl⟩:=W;rw [xl,take_of_length_le @e] at hM;have mo:=aW ds.length;rw [take_of_length_le @e] at mo;have au:(aN hs.lo M0 ds).fire=false:=nQ.trans aZ;generalize bn:aN hs.lo M0 ds=Z at hM mo O q au;have bu:=mo.sum;have aw:=hM;obtain ⟨bt,bk,bw,bv,bB,bx,bA,ma⟩:=hM;rwa[xw (λσ H3=>gW K Y Hb H3 m h (oz dl Z)/\GG H3/\∃R S,σ=[some (.ref a),some (.ref st),some (.ref dp),some (.ref m),R,S]) ?_ ?_]
 ·ext;rwa[cg ma cl cM.fire (v:= .bl Z.fire) rfl ?_];rwa[bG (by rw [au];rfl) ?_];rwa[dG (aw.s _ _ ae) B cC.dealer (v:= .ref df) rfl ?_];exact j8.mk _ _ _ _ _ rfl ax gX aK aw @c @c (by rw [mo.len];lia) O λH' j gY J=>⟨J,gY,_,_,rfl⟩
 rintro σ' H3 ⟨a0,g3,R,S,rfl⟩;have L:rC hs (ws.length+ds.length+Z.ws.length) (oz dl Z):=mo.deals mo.ws Z.ws.length;have h1:(oz dl Z).ws.length=Z.ws.length:=(eQ _).1;have aG:(oz dl Z).fire=false:=(nR _).trans au;generalize bi:oz dl Z=M2 at a0 L q h1 aG
 have bp:M2.ws.length<=64:=by lia
 have bz:=L.sum;have s3:=a0.s;rwa[dG (s3 _ _ ae) B cC.house (v:= .ref h) rfl ?_];obtain ⟨_,ph,bs,bf,a7,ba⟩:=an.same s3;rwa[ao bf rfl ?_];rwa[gm a7 ?_];rw [ba.len];rwa[⟨⟨by lia,by lia⟩,?_⟩];rwa[eM (λi σ I=>∃M',gW K Y Hb I m h M'/\G3 hs wf i M2 M'/\jh hs M2 i M'/\GG I/\∃R S,σ=[some (.ref a),some (.ref st),some (.ref dp),some (.ref m),R,S]) ⟨M2,a0,rfl,⟨rfl,λ_ _=>rfl,λ_ h=>h,Nat.le_refl _,by lia,rfl⟩,g3,_,_,rfl⟩ (λi σ I hi W=> ?_) @dm]
 ·obtain ⟨M',J,hg,ah,am,R,S,rfl⟩:=W
  have i0:(0:Int)+(i:Nat)=((i:Nat):Int):=by lia
  rw [i0]
  have il:i<hs.ls.length:=by lia
  have hl:hs.ls[i]? =some hs.ls[i]:=getElem?_eq_getElem il
  have ic:i<M2.cs.length:=by rw [L.len];exact il
  have hc:M'.cs[i]? =some M2.cs[i]:=by rw [ah.cs i @e];exact getElem?_eq_getElem ic
  have ai:ng hs.fl M2.cs[i]:=L.cs _ (getElem_mem ic);have aM:atC M' (i:Int) M2.cs[i]:=⟨by lia,by rw [show ((i:Int)).toNat=i by lia];exact hc⟩
  have aA:M'.ws.length<=64:=by have:=ah.wl;lia
  rwa[dG (J.s _ _ ae) B cC.rule (v:= .ref ru) rfl ?_];rwa[HK.mk _ _ _ _ _ _ _ _ _ _ rfl an (by rw [show ((i:Int)).toNat=i by lia];exact hl) ag J aM ai @c (λr hr=>L.ws r (ah.ws r hr)) aA (by have:=ah.log;lia) (ah.fire.trans aG) λM'' H' aV j aO=> ?_];exact ⟨M'',aO,⟨M',_,_,hg,aM,hl,aV⟩,ah.go ai.len aA aV,gT _ _ j am,_,_,rfl⟩
 obtain ⟨M',J,hg,ah,am,R,S,rfl⟩:=W;rw [show ((hs.ls.length:Int)).toNat=hs.ls.length by lia] at hg;obtain ⟨a1,bb,a6,as,aX,aY,be,fa⟩:=J;rwa[Aq.mk _ _ _ _ rfl ⟨a1,bb,a6,as,aX,aY,be,fa⟩ λj H4 s4 aR=> ?_];have aD:=fa.same s4;rwa[cg aD cl cM.log (v:= .ref as) rfl ?_];rwa[bZ (bq (by show 2<=1000000;decide)) λr H5 s5 n5 e5=> ?_];have a8:=aD.same s5;exact q r j as M' H5 (U.nt.trans (MH (by rw [a2];exact a8.s))) (gT _ _ (s4.trans s5).st am) e5 (aR.keep s5.st) hg
def xV (K:Fg)(H:Hp)(a:Addr)(fl:Int)(n:Nat):Prop:=∃p c0 so ls,aD K H a [.int fl,.ref p,c0,so]/\aD K H p ls/\ls.length=n/\2<=fl/\fl<=8/\1<=n/\n<=3
theorem xV.same {H H':Hp}{a:Addr}{fl:Int}{n:Nat}(h:xV K H a fl n)(s:ak H H'):xV K H' a fl n:=by
 obtain ⟨p,Y,j,z,h1,h2,r⟩:=h;exact ⟨p,Y,j,z,s.seqT h1,s.seqT h2,r⟩
theorem lC.at' {H:Hp}{h:Addr}{hs:Hs}(c:lC K H h hs):xV K H h hs.fl hs.ls.length:=by
 obtain ⟨o,p,xs,h1,h2,L⟩:=c;exact ⟨p,_,_,xs,h1,h2,L.len,o.f2,o.f8,o.l1,o.l3⟩
inductive j4 (K:Fg)(vs:List V)(H:Hp)(Q:VK)(_e:XK):Prop
 |mk (h fl n i:_) (_:vs=[.ref h,.int i]) (_:xV K H h fl n) (_:0<=i) (_:i<fl) (_:Q .non H)
theorem BW (F:Z0 K "need_floor" jx f fd):ar P w K mg base aQ 1 f fd ["house","floor"] (j4 K):=by
 rwa[F.ok wH (by symm) (λj A outer s H B Q E Y h=> ?_)];obtain ⟨h,fl,n,i,rfl,⟨p,O,I,z,L,J,W,U,f8,Z,n3⟩,R,S,q⟩:=h;rwa[⟨_,(ac @bw),?_⟩];left;exact q
inductive uq (K:Fg)(vs:List V)(H:Hp)(Q:VK)(_e:XK):Prop
 |mk (h fl:_) (n:Nat) (i:Int) (_:vs=[.ref h,.int i]) (_:xV K H h fl n) (_:0<=i) (_:i<(n:Int)) (_:Q .non H)
theorem EX (F:Z0 K "need_lift" l9 f fd)(Z:mg "len"=none):ar P w K mg base aQ 1 f fd ["house","lift"] (uq K):=by
 rwa[F.ok yH (by symm) (λB A outer s H I Q E Y h=> ?_)];obtain ⟨h,fl,n,i,rfl,⟨p,R,so,z,L,O,W,f2,J,n1,n3⟩,U,S,q⟩:=h
 have j:(z.length:Int)=n:=by rw [W]
 rwa[⟨_,(ac @bw),?_⟩];left;exact q
inductive j3 (K:Fg)(vs:List V)(H:Hp)(Q:VK)(_e:XK):Prop
 |mk (h fl n st go:_) (_:vs=[.ref h,.int st,.int go]) (_:xV K H h fl n) (_:0<=st) (_:st<fl) (_:0<=go) (_:go<fl) (_:st≠go) (_:Q .non H)
theorem EW (F:Z0 K "need_ride" l8 f fd)(B:aS P w K mg base 1 "need_floor" ["house","floor"] (j4 K)):ar P w K mg base aQ 2 f fd ["house","start","goal"] (j3 K):=by
 rwa[F.ok yG (by symm) (λj A outer s H J Q E Y h=> ?_)];obtain ⟨h,fl,n,st,I,rfl,L,W,O,U,z,R,q⟩:=h;rwa[⟨_,(aa @dC (aa @dC (ac @ed))),?_⟩];rwa[j4.mk _ _ _ _ rfl L W O ?_];rwa[j4.mk _ _ _ _ rfl L U z ?_];left;exact q
inductive yr (K:Fg)(vs:List V)(H:Hp)(Q:VK)(_e:XK):Prop
 |mk (h fl n a d:_) (_:vs=[.ref h,.ref a]) (_:xV K H h fl n) (_:vP H a d) (_:Dd.fit fl n d) (_:∀H',ak H H'->Q .non H')
theorem IN (F:Z0 K "need_deed" me f fd)(gM:aS P w K mg base 2 "need_ride" ["house","start","goal"] (j3 K))(qU:aS P w K mg base 1 "need_lift" ["house","lift"] (uq K)):ar P w K mg base aQ 3 f fd ["house","deed"] (yr K):=by
 rwa[F.ok yI (by symm) @bj];obtain ⟨h,fl,n,a,d,rfl,L,⟨Y,ok⟩,z,q⟩:=h;have O:=aD.of (K:=K) Y;rwa[⟨_,(ac (ay @a @F (ac (ay (cB (oK rfl) @a @a @N) @F ap)))),?_⟩]
 cases d with
 |come t s g k=>
  have O:aD K H a [.str An,.int t,.int s,.int g,.bl k]:=O;obtain ⟨W,j,U,R,J⟩:=z;rwa[ao O rfl ?_];rwa[bG rfl ?_];left;exact j3.mk _ _ _ _ _ rfl L W j U R J (q _ (.refl _))
 |lf x i=>
  obtain ⟨B,Z,I⟩:=z;have O:aD K H a [.str x,.int i]:=O;rwa[ao O rfl ?_];rwa[hU (by rw [B];decide+kernel) ?_];rwa[ao O rfl ?_];rwa[bZ (bq (by show 2<=1000000;decide)) λl1 H1 j n1 S=> ?_];rwa[sr @fY rfl rfl ?_];rw [show vn (.str x) [.str "fire",.str "calm"]=false by rw [B];rfl];rwa[bG rfl ?_];rwa[ao (j.seqT O) rfl ?_];exact uq.mk _ _ _ _ rfl (L.same j) Z I (q _ j)
 |sg x=>exact False.elim z
inductive pA (K:Fg)(vs:List V)(H:Hp)(Q:VK)(_e:XK):Prop
 |mk (st cs ws last fire:_) (_:vs=[.ref st]) (_:d8 K H st cs ws last fire) (_:ws.length<=64) (_:(∀c∈cs,c.ps.length<=64)) (_:cs.length<=10) (_:∀l H',ak H H'->H' l=some (.lst ((bu cs ws).map V.int))->Q (.ref l) H')
theorem qI {cs:List Cb}(h:∀c∈cs,c.ps.length<=64):(cs.flatMap λc=>c.ps.map (·.1)).length<=64*cs.length:=by
 induction cs with
 |nil=>simp
 |cons c cs ih=>
  rw [flatMap_cons,length_append,length_map,length_cons];have:=h c (.head _);have:=ih λc I=>h c (.tail _ I);lia
theorem II (F:Z0 K "tags_in" uJ f fd):ar P w K mg base aQ 1 f fd ["state"] (pA K):=by
 rwa[F.ok wD (by symm) (λam A outer s H vs Q E hr h=> ?_)];obtain ⟨st,U,O,ah,ag,rfl,⟨tc,tw,xs,ys,h1,h2,h3,h4,h5⟩,wl,Z,cl,q⟩:=h;have yl:ys.length=O.length:=aG h5;have xl:xs.length=U.length:=h4.len;rwa[⟨_,(aa (dN (i:=1) rfl wD.nd rfl @o @W @a @s @r @R) (aa (b9 PassesOwn.never rfl @a @a (ac (aE (gQ rfl PySem.F.plainAttrs_list PySem.F.slot_list_extend PySem.F.type_list_extend pe (wv 1) (av (bD rfl (aB (N':=["tag","goal"]) (pk:=[none,none]) @j) @a @n @r @R) aq))))) @eK)),?_⟩];rwa[ao h1 rfl ?_];rwa[d3 h3 ?_];rwa[cQ (xs:=ys) (λj B z=>ak H z/\B=((O.take j).map (·.tag)).map V.int) @Z (λj B z h=>by rw [h.2,length_map,length_map,length_take];exact Nat.min_le_left _ _) ⟨.refl _,rfl⟩ (λj B z _ h=>h.1.seqT h3) @ch (λB z J l n=> ?_)]
 ·obtain ⟨R,rfl⟩:=J;obtain ⟨r,ae,dr⟩:=bE (f:=aL.d) h5 hy;obtain ⟨ra,rfl,hT⟩:=fk (br.same dr R);rwa[fh hT rfl ?_];rwa[⟨jV,?_⟩];rwa[⟨R,?_⟩];rw [take_add_one,ae,map_append,map_append];rfl
 obtain ⟨R,rfl⟩:=J;rw [yl,take_of_length_le @e];have s2:ak z (upd z l (.lst ((O.map (·.tag)).map V.int))):= .upd n;have e2:upd z l (.lst ((O.map (·.tag)).map V.int)) l=some (.lst ((O.map (·.tag)).map V.int)):=af;generalize al:upd z l (.lst ((O.map (·.tag)).map V.int))=H2 at s2 e2 ⊢;have n0:H l=none:=none_of R n;have L:=R.trans s2;rwa[ao (L.seqT h1) rfl ?_];rwa[d3 (L.seqT h2) ?_];rwa[xk (xs:=xs) (λi σ I=>ak H I/\I l=some (.lst ((O.map (·.tag)++(U.take i).flatMap λc=>c.ps.map (·.1)).map V.int))/\∃o2 o3 o4 o5 o6,σ=[some (.ref st),some (.ref l),o2,o3,o4,o5,o6]) ⟨L,by rw [take_zero,flatMap_nil,append_nil];exact e2,_,_,_,_,_,rfl⟩ (λi σ I _ W=>W.1.seqT h2) @dl @dm]
 ·obtain ⟨sY,Y,o2,o3,o4,o5,o6,rfl⟩:=W;obtain ⟨c,hc,t,rfl,ad⟩:=h4.get1 hx;obtain ⟨b,bs,et,eb,db⟩:=ad.keep sY.st;have bl:bs.length=c.ps.length:=aG db;have ai:=Z c (mem_of_getElem? hc);rwa[fh (aD.of et) rfl ?_];rwa[⟨.inl ⟨rfl,_,az.of Y⟩,?_⟩];rwa[d3 @eN ?_];rwa[cQ (xs:=bs) (λj B z=>ak I z/\B=((c.ps.take j).map (·.1)).map V.int) @Z (λj B z h=>by rw [h.2,length_map,length_map,length_take];exact Nat.min_le_left _ _) ⟨.refl _,rfl⟩ (λj B z _ h=>h.1.seqT @eN) @ch (λB HZ J l3 n3=> ?_)]
  ·obtain ⟨R,rfl⟩:=J;obtain ⟨p,pt,hp,rfl,ab⟩:=kz db hy;rwa[fh (R.seqT ab) rfl ?_];rwa[⟨fI,?_⟩];rwa[⟨R,?_⟩];rw [take_add_one,hp,map_append,map_append];rfl
  obtain ⟨R,rfl⟩:=J;rw [bl,take_of_length_le @e];have s3:ak HZ (upd HZ l3 (.lst ((c.ps.map (·.1)).map V.int))):= .upd n3;have e3:upd HZ l3 (.lst ((c.ps.map (·.1)).map V.int)) l3=some (.lst ((c.ps.map (·.1)).map V.int)):=af;generalize an:upd HZ l3 (.lst ((c.ps.map (·.1)).map V.int))=H3 at s3 e3 ⊢;have S:=R.trans s3;rwa[Kh (S _ _ Y) e3 (bq ?_) ?_]
  ·have h1:((U.take i).flatMap λc=>c.ps.map (·.1)).length<=64*(U.take i).length:=qI λc hc=>Z c (mem_of_mem_take hc)
   have h2:(U.take i).length<=10:=by rw [length_take];lia
   simp only [length_map,length_append];lia
  ·rwa[⟨ak.updF (sY.trans S) n0,?_,_,_,_,_,_,rfl⟩];rw [af,take_add_one,hc];simp only [Option.toList_some,flatMap_append,flatMap_cons,flatMap_nil,append_nil,map_append,append_assoc]
 obtain ⟨sY,Y,o2,o3,o4,o5,o6,rfl⟩:=W;rw [xl,take_of_length_le @e] at Y;exact q l I sY Y
def i6 (ts:List Int)(kvs:List (dg×V)):Prop:=∀t:Int,(dJ kvs (Sum.inl t)).isSome=decide (t∈ts)
theorem i6.nil:i6 [] []:=λt=>by
 show (none:Option V).isSome=_;simp
theorem i6.put {ts:List Int}{kvs:List (dg×V)}(h:i6 ts kvs)(t:Int)(v:V):i6 (ts++[t]) (fN kvs (Sum.inl t) v):=λu=>by
 rw [Df];by_cases e:u=t
 ·subst e;rw [if_pos rfl];simp
 ·rw [if_neg (λz=>e (by cases z;rfl)),h u];simp [e]
theorem Cr {ts:List Int}:∀ {us:List Int} {kvs:List (dg×V)},i6 us kvs->i6 (us++ts) (fQ kvs (ts.map λt=>(Sum.inl t,V.bl true))):=by
 induction ts with
 |nil=>intro us kvs h;rw [append_nil];exact h
 |cons t ts ih=>
  intro us kvs h;have:=ih (h.put t (V.bl true));rw [append_assoc] at this;exact this
theorem Mo (F:Z0 K "need_deeds" jy f fd)(Fu:mg "dict"=none)(kW:aS P w K mg base 1 "tags_in" ["state"] (pA K))(qV:aS P w K mg base 3 "need_deed" ["house","deed"] (yr K)):ar P w K mg base aQ 7 f fd ["house","state","deeds"] (Ar K):=by
 rwa[F.ok nu (by symm) (λaG A outer s H vs Q E hr h=> ?_)];obtain ⟨h,st,dl,hs,cs,ws,ax,aw,ds,rfl,hH,al,⟨xd,a5,pd⟩,wl,ah,Y,an,gd,q⟩:=h;have xl:xd.length=ds.length:=pd.len;rwa[⟨_,(aa (bM (i:=3) nu.nd rfl @o (aJ (Hl rfl) rfl Fu boot_dict (av (bD rfl (aB (N':=["tag"]) (pk:=[none]) @j) @a @h @r @h) aq))) (ac (b9 PassesOwn.never rfl @a @a (aa @dC (ac (ay @a (aa (ay (Er (L5 (Ke hr) @a (wv 3))) @cn ap) (ac (Im (Ke hr) (wv 3) @a i7 rfl))) ap)))))),?_⟩];rwa[pA.mk _ _ _ _ _ rfl al wl ah Y λl H1 s1 e1=> ?_]
 have tl:(bu cs ws).length<=1000:=by
  unfold bu;rw [length_append,length_map];have:=qI ah;lia
 generalize aC:bu cs ws=B at e1 gd tl;rwa[bF @eM ?_];rwa[bx (xs:=B.map V.int) (λj L J=>ak H1 J/\Paired (λx (p:dg×V)=>∃b,x=V.ref b/\J b=some (.tup [kV p.1,p.2])) L ((B.take j).map λt=>(Sum.inl t,V.bl true))) (bq (by rw [length_map];lia)) (λj L J h=>by have:=h.2.len;rw [length_map,length_take] at this;lia) ⟨.refl _,.nil⟩ (λj L J _ h=>h.1.seq @eM) (λj y L J hy hP=> ?_) (λL J hP l2 n2=> ?_)]
 ·obtain ⟨sx,hp⟩:=hP;rw [getElem?_map] at hy;obtain ⟨v,hv,rfl⟩:=Option.map_eq_some_iff.mp hy;rwa[⟨bQ,?_⟩];rwa[bZ (bq (by show 2<=1000000;decide)) λb H3 s3 n3 e3=>⟨sx.trans s3,?_⟩];rw [take_add_one,hv,map_append];exact Paired.app (Paired.imp' (λx p ⟨c,ec,hc⟩=>⟨c,ec,s3 _ _ hc⟩) hp) (.cons ⟨b,rfl,e3⟩ .nil)
 obtain ⟨sx,hp⟩:=hP;rw [length_map,take_of_length_le @e] at hp;have s2:ak J (upd J l2 (.lst L)):= .upd n2;have e2:upd J l2 (.lst L) l2=some (.lst L):=af;generalize aA:upd J l2 (.lst L)=H2 at s2 e2 ⊢;have Z:=s1.trans (sx.trans s2);rwa[⟨L,B.map λt=>(Sum.inl t,V.bl true),e2,Paired.imp' (λx p ⟨c,ec,hc⟩=>⟨c,ec,s2 _ _ hc⟩) hp,vS (by rw [length_map];lia),λd nd=> ?_⟩];have s3:ak H2 (upd H2 d (.dK (fQ [] (B.map λt=>(Sum.inl t,V.bl true))))):= .upd nd;have e3:upd H2 d (.dK (fQ [] (B.map λt=>(Sum.inl t,V.bl true)))) d=some (.dK (fQ [] (B.map λt=>(Sum.inl t,V.bl true)))):=af;generalize aI:upd H2 d (.dK (fQ [] (B.map λt=>(Sum.inl t,V.bl true))))=H3 at s3 e3 ⊢;have au:H d=none:=none_of Z nd
 have k0:i6 B (fQ [] (B.map λt=>(Sum.inl t,V.bl true))):=by
  have:=Cr (ts:=B) i6.nil;rw [nil_append] at this;exact this
 have aj:∀(U:List (dg×V)) (a:List (dg×V)),(fQ a U).length<=a.length+U.length:=by
  intro U
  induction U with
  |nil=>intro a;exact Nat.le_refl _
  |cons p U ih=>
   intro a;have h1:=ih (fN a p.1 p.2);have h2:=c4 a p.1 p.2;show (fQ (fN a p.1 p.2) U).length<=_;rw [length_cons];lia
 have l0:=aj (B.map λt=>(Sum.inl t,V.bl true)) [];rw [length_map,length_nil] at l0;have ag:=Z.trans s3;generalize aH:fQ [] (B.map λt=>((Sum.inl t:dg),V.bl true))=am at e3 k0 l0;rwa[bF (ag.seq a5) ?_];rwa[cx (xs:=xd) (λi σ S=>ak H S/\∃z kvs o4,S d=some (.dK kvs)/\i6 z kvs/\kvs.length<=1000+i/\zH hs.fl hs.ls.length z (ds.drop i)/\σ=[some (.ref h),some (.ref st),some (.ref dl),some (.ref d),o4]) ⟨ag,B,am,_,e3,k0,by lia,gd,rfl⟩ (λi σ S _ pv=>pv.1.seq a5) (λi x σ S hx pv=> ?_) (λσ S pv=> ?_)]
 ·obtain ⟨sY,z,kvs,o4,eY,kk,kl,I,rfl⟩:=pv;obtain ⟨dd,R,ad,rfl,as⟩:=pd.get1 hx;have il:i<ds.length:=(List.getElem?_eq_some_iff.mp R).1;have O:=as.same sY
  have ai:ds.drop i=dd::ds.drop (i+1):=by
   rw [drop_eq_getElem_cons il];rw [getElem?_eq_getElem il] at R;cases R;rfl
  rw [ai] at I;obtain ⟨g1,g2,W⟩:=I;rwa[yr.mk _ _ _ _ _ rfl ((hH.same sY).at') O g1 λHZ sZ=> ?_];have ab:=sY.trans sZ;have eZ:=sZ _ _ eY;obtain ⟨ae,aF⟩:=O.same sZ
  cases dd with
  |come t' s' g' k'=>
   have hT:aD K HZ ad [.str An,.int t',.int s',.int g',.bl k']:=aD.of ae;rwa[ao hT rfl ?_];rwa[bG rfl ?_];rwa[ao hT rfl ?_];rwa[⟨d,_,rfl,G5.k (k:=Sum.inl t') eZ,?_⟩];rwa[⟨_,rfl,?_⟩];rwa[bf (by rw [kk t'];exact decide_eq_false (g2 t' (.head _))) ?_];rwa[ao hT rfl ?_];rwa[⟨d,_,rfl,G4.k (k:=Sum.inl t') eZ @dk,?_⟩];exact ⟨ak.updF ab au,z++[t'],_,_,af,kk.put t' (.bl true),by have:=c4 kvs (Sum.inl t') (V.bl true);lia,W,rfl⟩
  |lf x' i'=>
   have hT:aD K HZ ad [.str x',.int i']:=aD.of ae;have W:zH hs.fl hs.ls.length (z++[]) (ds.drop (i+1)):=W;rw [append_nil] at W;rwa[ao hT rfl ?_];rwa[hU (by rw [g1.1];decide+kernel) ?_];exact ⟨ab,z,kvs,_,eZ,kk,by lia,W,rfl⟩
  |sg x'=>exact False.elim g1
 ·obtain ⟨sY,z,kvs,o4,eY,kk,kl,I,rfl⟩:=pv;exact q S sY
def bO (K:Fg)(H:Hp)(p:Addr)(cs:List lE):Prop:=∃xs,(az K H p xs\/aD K H p xs)/\aC K H xs (cs.map lE.d)
theorem bO.same {H H':Hp}{p:Addr}{cs:List lE}(h:bO K H p cs)(s:ak H H'):bO K H' p cs:=let ⟨xs,h1,h2⟩:=h;⟨xs,s.any h1,aC.same h2 s⟩
theorem A6 {H:Hp}{x:V}{c:lE}(h:br K H x c.d):∃a b,x= .ref a/\aD K H a [.int c.pl,.int c.li,.int c.dr,.int c.mr,.ref b]:=by
 obtain ⟨a,xs,rfl,h1,h2⟩:=h.outT
 cases h2 with|cons q0 t0=>cases t0 with|cons q1 t1=>cases t1 with|cons q2 t2=>cases t2 with|cons q3 t3=>cases t3 with|cons q4 t4=>
 cases t4;cases q0.isInt;cases q1.isInt;cases q2.isInt;cases q3.isInt;obtain ⟨b,ys,rfl,_⟩:=q4.outT;exact ⟨a,b,rfl,h1⟩
theorem y0 {H:Hp}{x:V}{r:Rd}(h:br K H x r.d):∃a,x= .ref a/\aD K H a [.int r.t,.int r.s,.int r.g,.int r.l]:=by
 obtain ⟨a,xs,rfl,h1,h2⟩:=h.outT
 cases h2 with|cons q0 t0=>cases t0 with|cons q1 t1=>cases t1 with|cons q2 t2=>cases t2 with|cons q3 t3=>
 cases t3;cases q0.isInt;cases q1.isInt;cases q2.isInt;cases q3.isInt;exact ⟨a,rfl,h1⟩
theorem bO.at {H:Hp}{p:Addr}{cs:List lE}(h:bO K H p cs){i:Int}(B:0<=i)(h1:i<cs.length){Q:VK}(g:∀c a b,cs[i.toNat]? =some c->aD K H a [.int c.pl,.int c.li,.int c.dr,.int c.mr,.ref b]->Q (.ref a) H):kj K p i H Q:=by
 obtain ⟨xs,F,J⟩:=h;have W:=aG J;obtain ⟨j,rfl⟩:=Int.eq_ofNat_of_zero_le B
 have Z:j<xs.length:=by lia
 obtain ⟨c,I,z⟩:=bE J (getElem?_eq_getElem Z);obtain ⟨a,b,O,L⟩:=A6 z;rwa[DX F (v:= .ref a) (bz (by rw [getElem?_eq_getElem Z,O])) (g c a b ?_ L)];rw [show ((j:Int)).toNat=j by lia];exact I
theorem bO.len {H:Hp}{p:Addr}{cs:List lE}(h:bO K H p cs){Q:VK}(g:Q (.int cs.length) H):ie K p H Q:=by
 obtain ⟨xs,z,J⟩:=h;rwa[Av z ?_];rw [aG J];exact g
inductive sq (K:Fg)(vs:List V)(H:Hp)(Q:VK)(_e:XK):Prop
 |mk (a x0 x1 x2 m x4:_) (_:vs=[.ref a]) (_:aD K H a [x0,x1,x2,.int m,x4]) (_:Q (.bl (decide (m=0))) H)
theorem Mt (F:Z0 K "is_serving" jB f fd):ar P w K mg base aQ 1 f fd ["cabin"] (sq K):=by
 rwa[F.ok wN (by symm) @q];obtain ⟨a,B,R,J,m,z,rfl,O,q⟩:=h;rwa[⟨_,@g,?_⟩];rwa[ao O rfl ?_];exact q
noncomputable abbrev aY (cs:List lE):List Bool:=cs.map lE.srv
theorem Dz {cs:List lE}{i:Nat}{c:lE}(h:cs[i]? =some c):(aY cs).getD i false=decide (c.mr=0):=by
 rw [getD_eq_getElem?_getD,getElem?_map,h];rfl
inductive Lq (K:Fg)(vs:List V)(H:Hp)(Q:VK)(_e:XK):Prop
 |mk (p cs first:_) (_:vs=[.ref p,.int first]) (_:bO K H p cs) (_:1<=cs.length) (_:cs.length<=3) (_:0<=first) (_:Q (.int (sf @dQ first)) H)
theorem Pb (F:Z0 K "serving_from" gv f fd)(bH:mg "len"=none)(aU:mg "range"=none){Y:Tok}(bg:mg "NO_LIFT"=some (.int (-1) Y))(fu:aS P w K mg base 1 "is_serving" ["cabin"] (sq K)):ar P w K mg base aQ 2 f fd ["cabins","first"] (Lq K):=by
 have fM:ax (.int (-1)) (.int (-1) Y):=⟨_,rfl⟩;rwa[F.ok rM (by symm) @y];obtain ⟨p,B,first,rfl,U,c1,c3,f0,q⟩:=h;have W:(aY B).length=B.length:=length_map _;rwa[⟨_,(aa @a (aa (b9 PassesOwn.never rfl (cq rfl aU @fr) @a (aa @a (ac (ay @a (ac (aj (wv 4))) ap)))) @g)),?_⟩];rwa[U.len ?_];rwa[⟨⟨by lia,by lia⟩,?_⟩];rwa[eM (λi σ R=>R=H/\sf (aY B) first=Lx (aY B) first i (B.length - i)/\∃I J,σ=[some (.ref p),some (.int first),some (.int B.length),I,J]) ⟨rfl,by unfold sf;rw [W];rfl,_,_,rfl⟩ (λi σ R hi O=> ?_) (λσ R O=> ?_)]
 ·obtain ⟨rfl,j,I,J,rfl⟩:=O
  have hi:i<B.length:=by lia
  have i0:(0:Int)+(i:Nat)=((i:Nat):Int):=by lia
  rw [i0];have L:0<=(first+(i:Int))% (B.length:Int):=Int.emod_nonneg _ @c;have S:(first+(i:Int))% (B.length:Int)<(B.length:Int):=Int.emod_lt_of_pos _ @c;rw [show B.length - i=(B.length - (i+1))+1 by lia] at j
  have j:sf (aY B) first=if (aY B).getD ((first+(i:Int))% (aY B).length).toNat false=true then (first+(i:Int))% (aY B).length else Lx (aY B) first (i+1) (B.length - (i+1)):=j
  rw [W] at j;rwa[⟨by lia,?_⟩];rwa[U.at L S λc a b Z hT=> ?_];rwa[sq.mk _ _ _ _ _ _ rfl hT ?_];rw [Dz Z] at j;rwa[iy @t @t]
  ·rw [if_pos @dd] at j;rw [j] at q;exact q
  ·rw [if_neg (by rw [decide_eq_false z];decide)] at j;exact ⟨rfl,j,_,_,rfl⟩
 obtain ⟨rfl,j,I,J,rfl⟩:=O;rw [show ((B.length:Int)).toNat=B.length by lia,Nat.sub_self] at j
 have j:sf (aY B) first= -1:=j
 rw [j] at q;exact q
inductive oN (K:Fg)(vs:List V)(H:Hp)(Q:VK)(_e:XK):Prop
 |mk (p cs x1 x2 last:_) (_:vs=[.ref p,x1,x2,.int last]) (_:bO K H p cs) (_:1<=cs.length) (_:cs.length<=3) (_:0<=last) (_:∀r H',ak H H'->H' r=some (.tup [.int (sf @dQ (last+1)),.int (if sf @dQ (last+1)= -1 then last else sf @dQ (last+1))])->Q (.ref r) H')
theorem EO (F:Z0 K "by_turns" qf f fd){B:Tok}(bg:mg "NO_LIFT"=some (.int (-1) B))(S:aS P w K mg base 2 "serving_from" ["cabins","first"] (Lq K)):ar P w K mg base aQ 3 f fd ["cabins","waiting","rider","last"] (oN K):=by
 have fM:ax (.int (-1)) (.int (-1) B):=⟨_,rfl⟩;rwa[F.ok BJ (by symm) (λO A outer s H U Q E W h=> ?_)];obtain ⟨p,Z,x1,x2,L,rfl,J,c1,I,l0,q⟩:=h;rwa[⟨_,@fE,?_⟩];rwa[Lq.mk _ _ _ rfl J c1 I @c ?_];rwa[iy @t @t]
 ·ext;rw [if_pos z] at q;exact bZ (bq (by show 2<=1000000;decide)) λr H2 R Y j=>q r H2 R j
 ·ext;rw [if_neg z] at q;exact bZ (bq (by show 2<=1000000;decide)) λr H2 R Y j=>q r H2 R j
theorem GE {cs:List lE}:(aY cs).length=cs.length:=length_map _
inductive lM (K:Fg)(vs:List V)(H:Hp)(Q:VK)(_e:XK):Prop
 |mk (p cs:_) (_:vs=[.ref p]) (_:bO K H p cs) (_:cs.length<=3) (_:∀l H',ak H H'->H l=none->H' l=some (.lst ((srv @dQ).map λi:Nat=>V.int i))->Q (.ref l) H')
theorem IJ (F:Z0 K "serving" pV f fd)(be:mg "enumerate"=none)(fu:aS P w K mg base 1 "is_serving" ["cabin"] (sq K)):ar P w K mg base aQ 2 f fd ["cabins"] (lM K):=by
 rwa[F.ok By (by symm) @y];obtain ⟨p,B,rfl,hC,c3,q⟩:=h;rwa[⟨_,(ac (aj (bD rfl (aB (N':=["lift","cabin"]) (pk:=[none,none]) @j) (oH rfl rfl be (wv 0)) @n @bb @R))),?_⟩];obtain ⟨xs,I,hd⟩:=hC;have hl:xs.length=B.length:=aG hd
 have Y:∀ys H',ak H H'/\ys=(iV (aY B) xs.length).map (λi:Nat=>V.int i)->∀p,H' p=none->Q (.ref p) (upd H' p (.lst ys)):=by
  rintro ys H' ⟨U,rfl⟩ p0 n0;rwa[q p0 _ (U.trans (.upd n0)) ?_ ?_]
  ·cases z:H p0 with
   |none=>rfl
   |some o=>rw [U _ _ z] at n0;cases n0
  ·rw [af,hl,<-GE (cs:=B)]
 have aa:∀(i:Nat) x (ys:List V) H1 T H',xs[i]? =some x->(ak H H1/\ys=(iV (aY B) i).map (λi:Nat=>V.int i))->ak H1 H'->H' T=some (.tup [.int i,x])->∃c a b,x= .ref a/\B[i]? =some c/\aD K H' a [.int c.pl,.int c.li,.int c.dr,.int c.mr,.ref b]/\aD K H' T [.int i,.ref a]/\ak H H':=by
  rintro i x ys H1 T H' j ⟨U,_⟩ R L;obtain ⟨c,O,dc⟩:=bE hd j;obtain ⟨a,b,rfl,ha⟩:=A6 dc;exact ⟨c,a,b,rfl,O,(U.trans R).seqT ha,aD.of L,U.trans R⟩
 have S:∀(i:Nat) (c:lE),B[i]? =some c->iV (aY B) (i+1)=iV (aY B) i++(if decide (c.mr=0)=true then [i] else []):=λi c O=>by rw [Bq,Dz O]
 have W:∀(i:Nat) x (ys:List V) H1 T H',xs[i]? =some x->(ak H H1/\ys=(iV (aY B) i).map (λi:Nat=>V.int i))->ak H1 H'->H' T=some (.tup [.int i,x])->Bk K 2 T H' λxs=>
  yf (ja 0) (yf (ja 1) JT) xs (cj [none,none] (L2.start [s!"cabins"] [V.ref p])) H' λZ H2=>rZ (cj [none,none] (L2.start [s!"cabins"] [V.ref p])) Z/\
   Oe K (Ao (sq K) [] E0 (Ds (Hn 1) Li)) Z H2 λb H3=>if b=true then Hn 0 Z H3 λv H4=>ak H H4/\ys++[v]=List.map (λi:Nat=>V.int i) (iV (aY B) (i+1)) else ak H H3/\ys=List.map (λi:Nat=>V.int i) (iV (aY B) (i+1)):=by
  intro i x ys H1 T H' j J R L;obtain ⟨c,a,b,rfl,O,ha,hT,s3⟩:=aa i x ys H1 T H' j J R L;rwa[fh hT rfl ?_];rwa[⟨⟨rfl,λi v h=>match i,h with|0,h=>(nomatch h)|1,h=>(nomatch h)|(i+2),h=>(nomatch h)⟩,?_⟩];rwa[sq.mk _ _ _ _ _ _ rfl ha ?_];show if decide (c.mr=0)=true then _ else _;by_cases z:c.mr=0
  ·rw [if_pos @dd];rwa[⟨s3,?_⟩];rw [S i c O,if_pos @dd,J.2,map_append];rfl
  ·rw [if_neg (by rw [decide_eq_false z];decide)];rwa[⟨s3,?_⟩];rw [S i c O,if_neg (by rw [decide_eq_false z];decide),J.2,append_nil]
 ext
 rcases I with I|I
 ·rwa[.inl ⟨xs,I,?_⟩];exact xx (xs:=xs) (λi ys H'=>ak H H'/\ys=(iV (aY B) i).map (λi:Nat=>V.int i)) @Z (λi ys H' h=>by rw [h.2,length_map];exact ww) ⟨.refl _,rfl⟩ (λi ys H' _ h=>h.1.seq I) (λi x ys H1 T H' j J R L=>W i x ys H1 T H' j J R L) (λys H' h=>Y ys H' h)
 ·rwa[.inr ⟨xs,I,?_⟩];exact Gp (xs:=xs) (λi ys H'=>ak H H'/\ys=(iV (aY B) i).map (λi:Nat=>V.int i)) @Z (λi ys H' h=>by rw [h.2,length_map];exact ww) ⟨.refl _,rfl⟩ (λi ys H' _ h=>h.1.seqT I) (λi x ys H1 T H' j J R L=>W i x ys H1 T H' j J R L) (λys H' h=>Y ys H' h)
theorem az.nt {H H':Hp}(s:aM H H'){a:Addr}{xs:List V}(h:az K H a xs):az K H' a xs:=by
 rcases h with (h|⟨o,h⟩)|h
 ·exact .inl (.inl (s _ _ (λps z=>by cases z) h))
 ·exact .inl (.inr ⟨o,s _ _ (λps z=>by cases z) h⟩)
 ·exact .inr h
theorem aD.nt {H H':Hp}(s:aM H H'){a:Addr}{xs:List V}(h:aD K H a xs):aD K H' a xs:=by
 rcases h with (h|⟨o,h⟩)|h
 ·exact .inl (.inl (s _ _ (λps z=>by cases z) h))
 ·exact .inl (.inr ⟨o,s _ _ (λps z=>by cases z) h⟩)
 ·exact .inr h
theorem br.nt {H H':Hp}(s:aM H H'){x:V}{d:D}(h:br K H x d):br K H' x d:=by
 induction h with
 |non=>exact .non
 |bl a=>exact .bl a
 |int a=>exact .int a
 |str a=>exact .str a
 |lst h hl hi ih=>exact .lst (az.nt s h) hl λi x d S R=>ih i x d S R
 |tup h hl hi ih=>exact .tup (aD.nt s h) hl λi x d S R=>ih i x d S R
theorem aC.nt {H H':Hp}(s:aM H H'){xs:List V}{ds:List D}(h:aC K H xs ds):aC K H' xs ds:=Paired.imp' (λ_ _ z=>br.nt s z) h
theorem bO.nt {H H':Hp}(s:aM H H'){p:Addr}{cs:List lE}(h:bO K H p cs):bO K H' p cs:=let ⟨xs,h1,h2⟩:=h;⟨xs,h1.elim (λz=> .inl (az.nt s z)) (λz=> .inr (aD.nt s z)),aC.nt s h2⟩
theorem Ir {cs:List lE}{i:Nat}{c:lE}(h:cs[i]? =some c):LW cs i=c.pl:=by unfold LW;rw [h]
theorem Be {cs:List lE}{i:Nat}{c:lE}(h:cs[i]? =some c):Nz cs i=c.ab.length:=by unfold Nz;rw [h]
theorem iJ {cs:List lE}{i:Nat}{v:V}(h:((srv @dQ).map λi:Nat=>V.int i)[i]? =some v):∃j,(srv @dQ)[i]? =some j/\v= .int (j:Nat)/\(srv @dQ).getD i 0=j/\j<cs.length:=by
 rw [getElem?_map] at h;obtain ⟨j,Z,rfl⟩:=Option.map_eq_some_iff.mp h;rwa[⟨j,Z,rfl,by rw [getD_eq_getElem?_getD,Z];rfl,?_⟩];have:=(oM.mp (mem_of_getElem? Z)).1;rw [GE] at this;exact this
def Fq:Expr->Expr
 | .Call _ _ (⟨_,l,_⟩::_) _=>l
 |e=>e
noncomputable def AH:Expr:=match bt d5 with
 |[_,.Return (some (.Tuple (e::_) _ _)) _]=>Fq e
 |_=> .Constant .none 0 ⟨0,0,0,0⟩
noncomputable def xc:Expr:=match bt cG with
 |[_,.Assign _ e _,_]=>Fq e
 |_=> .Constant .none 0 ⟨0,0,0,0⟩
noncomputable def Jg (st:Stmt):Expr->Scope
 | .Lambda _ _ sc _=>sc
 |_=>ae st
theorem MU:iF ["lift"] ["cabins","place"] (Jg d5 AH):=⟨rfl,rfl,rfl,by decide+kernel,by decide+kernel,by decide+kernel,by decide+kernel,by decide+kernel⟩
theorem Jh:iF ["lift"] ["cabins","dealt"] (Jg cG xc):=⟨rfl,rfl,rfl,by decide+kernel,by decide+kernel,by decide+kernel,by decide+kernel,by decide+kernel⟩
abbrev qN:Str:="near"++".<locals>."++"<lambda>"
abbrev qL:Str:="least"++".<locals>."++"<lambda>"
inductive uo (K:Fg)(Pn:Addr)(vs:List V)(H:Hp)(Q:VK)(_e:XK):Prop
 |mk (p cs x1 rv r last:_) (_:vs=[.ref p,x1,rv,.int last]) (_:bO K H p cs) (_:cs.length<=3) (_:br K H rv (Rd.d r)) (_:cA H Pn qN) (_:∀m t H',cW @dQ (sI cs r.s) m->eW Pn H H'->cA H' Pn qN->H' t=some (.tup [.int m,.int last])->Q (.ref t) H')
theorem IP {c Pn:Addr}{kV Y pm ct oc:Value}{an od:Option Addr}{am:Array @J}{t1:Tok}(lk:K.lookup f=some ⟨oc,od,.func (W.fnOf "near" "near" (bS d5) (bt d5) @gu .none kV Y pm an (.ref c) ct),am⟩)(as:W.codeIn K (.ref c) "near"=true)
(S:PySem.W.CodeHd base c Pn)(Z:jg base mg)(B9:mg "min"=none)(MT:mg "abs"=none)(bg:mg "NO_LIFT"=some (.int (-1) t1))(kY:aS P w K mg base 2 "serving" ["cabins"] (lM K)):
 ar P w K mg base aQ 5 f (W.fnOf "near" "near" (bS d5) (bt d5) @gu .none kV Y pm an (.ref c) ct) ["cabins","waiting","rider","last"] (uo K Pn):=by
 have fM:ax (.int (-1)) (.int (-1) t1):=⟨_,rfl⟩;rwa[xn lk as LB @bJ (λA outer s H vs Q E hr h=> ?_)]
 ·obtain ⟨p,B,x1,rv,r,J,rfl,_⟩:=h;rfl
 obtain ⟨p,B,x1,rv,r,J,rfl,hC,c3,ai,I,q⟩:=h;have R:PySem.closureFor (Jg d5 AH) (envOfC "near" (ae d5) s.heap.objs.size f (.ref c))=(pure [("place",s.heap.objs.size+1+1),("cabins",s.heap.objs.size+1)]:Sem (List (Str×Addr))):=rfl;have ab:oq (qP aQ P w K mg base ["cabins","waiting","rider","last","place"] "near" (ae d5) f (.ref c) A outer s H E).nox ["cabins","place"] [0,4] [("place",s.heap.objs.size+1+1),("cabins",s.heap.objs.size+1)]:=oq.two @b rfl rfl rfl rfl rfl rfl (.inr rfl);have U:=MU;rwa[⟨_,(aa @a (ac (aj (gc (av (ED rfl rfl B9 hr @a (EE rfl S Z rfl R) @a U ab rfl (λ_ _ _=>rfl) (λ_ _ s H hr=>(cu Oc rfl MT boot_abs @E))) (av (wv 3) aq)))))),?_⟩];obtain ⟨ra,rfl,af⟩:=y0 ai;rwa[ao af rfl ?_];rwa[⟨fF @b @b,?_⟩];rwa[lM.mk _ _ rfl hC c3 λl H1 s1 n1 e1=> ?_];rwa[⟨I.same s1,λf' c' ag H2 sP nf ef ec al=> ?_⟩];obtain ⟨ps,hP,_⟩:=I.same s1;have sN:=sP.nt hP;have e2:H2 l=some (.lst ((srv (aY B)).map λi:Nat=>V.int i)):=sN l _ (λps z=>by cases z) e1;have ah:bO K H2 p B:=(hC.same s1).nt sN
 have ad:∀m F,cW (aY B) (sI B r.s) m->ak H2 F->MN [.int m,.int J] F Q:=λm F hb L=>
  bZ (bq (by show 2<=1000000;decide)) λt H4 s4 n4 e4=>q m t H4 hb (λb o nb z=>s4 _ _ (L _ _ (sP b o nb (s1 b o z)))) ((al.same L).same s4) e4
 show ∃l f xs,_;rwa[⟨l,f',_,rfl,rfl,e2,λhx=> ?_,λhx=> ?_⟩]
 ·have hs:srv (aY B)=[]:=map_eq_nil_iff.mp hx;exact ad (-1) H2 (vC hs) (.refl _)
 ·rwa[⟨c',ag,[.ref p,.int (2*r.s)],λi=>sI B r.s ((srv (aY B)).getD i 0),λF=>ak H2 F,rfl,.refl _,λF L=>⟨L _ _ e2,L _ _ ef,L _ _ ec⟩,λi v F hv L=> ?_,λi v F hv hb L=> ?_⟩]
  ·obtain ⟨j,hj,rfl,gj,jl⟩:=iJ hv;rwa[(ah.same L).at (by lia) @c λcb a b O au=> ?_];rwa[ao au rfl ?_];rwa[⟨?_,L⟩];have O:B[j]? =some cb:=O;show V.int _=V.int (sI B r.s ((srv (aY B)).getD i 0));rw [gj];unfold sI Qa;rw [Ir O]
  ·obtain ⟨j,hj,rfl,gj,jl⟩:=iJ hv;rwa[ad _ F (vB hj λi' ap=> ?_) L];exact hb i' (by rw [length_map];exact ap)
theorem Gx {H:Hp}{x:V}{c:lE}(h:br K H x c.d):∃a b ys,x= .ref a/\aD K H a [.int c.pl,.int c.li,.int c.dr,.int c.mr,.ref b]/\aD K H b ys/\ys.length=c.ab.length:=by
 obtain ⟨a,xs,rfl,h1,h2⟩:=h.outT
 cases h2 with|cons q0 t0=>cases t0 with|cons q1 t1=>cases t1 with|cons q2 t2=>cases t2 with|cons q3 t3=>cases t3 with|cons q4 t4=>
 cases t4;cases q0.isInt;cases q1.isInt;cases q2.isInt;cases q3.isInt;obtain ⟨b,ys,rfl,B,R⟩:=q4.outT;exact ⟨a,b,ys,rfl,h1,B,by have:=R.length;rw [length_map] at this;exact this⟩
theorem bO.at2 {H:Hp}{p:Addr}{cs:List lE}(h:bO K H p cs){i:Int}(B:0<=i)(h1:i<cs.length){Q:VK}(g:∀c a b ys,cs[i.toNat]? =some c->aD K H a [.int c.pl,.int c.li,.int c.dr,.int c.mr,.ref b]->aD K H b ys->ys.length=c.ab.length->Q (.ref a) H):kj K p i H Q:=by
 obtain ⟨xs,F,J⟩:=h;have W:=aG J;obtain ⟨j,rfl⟩:=Int.eq_ofNat_of_zero_le B
 have Z:j<xs.length:=by lia
 obtain ⟨c,I,z⟩:=bE J (getElem?_eq_getElem Z);obtain ⟨a,b,ys,O,L,S,R⟩:=Gx z;rwa[DX F (v:= .ref a) (bz (by rw [getElem?_eq_getElem Z,O])) (g c a b ys ?_ L S R)];rw [show ((j:Int)).toNat=j by lia];exact I
def Kt (K:Fg)(H:Hp)(p:Addr)(rs:List Rd):Prop:=∃xs,(az K H p xs\/aD K H p xs)/\aC K H xs (rs.map Rd.d)
abbrev fe (rs:List Rd):List Int:=rs.map λr=>r.l
inductive As (K:Fg)(Pl:Addr)(vs:List V)(H:Hp)(Q:VK)(_e:XK):Prop
 |mk (p cs wp rs x2 last:_) (_:vs=[.ref p,.ref wp,x2,.int last]) (_:bO K H p cs) (_:cs.length<=3) (_:Kt K H wp rs) (_:rs.length<=64) (_:cA H Pl qL) (_:∀m t H',cW @dQ (fD cs (fe rs)) m->eW Pl H H'->cA H' Pl qL->H' t=some (.tup [.int m,.int last])->Q (.ref t) H')
theorem E3 {c Pl:Addr}{kV aD pm ct oc:Value}{an od:Option Addr}{aH:Array @J}{t1:Tok}(lk:K.lookup f=some ⟨oc,od,.func (PySem.W.fnOf "least" "least" (bS cG) (bt cG) @gv .none kV aD pm an (.ref c) ct),aH⟩)(aI:PySem.W.codeIn K (.ref c) "least"=true)
(ai:PySem.W.CodeHd base c Pl)(aF:jg base mg)(B9:mg "min"=none)(bH:mg "len"=none)(bg:mg "NO_LIFT"=some (.int (-1) t1))(kY:aS P w K mg base 2 "serving" ["cabins"] (lM K)):
 ar P w K mg base aQ 5 f (PySem.W.fnOf "least" "least" (bS cG) (bt cG) @gv .none kV aD pm an (.ref c) ct) ["cabins","waiting","rider","last"] (As K Pl):=by
 have fM:ax (.int (-1)) (.int (-1) t1):=⟨_,rfl⟩;rwa[xn lk aI uE @bJ (λA outer s H vs Q E hr h=> ?_)]
 ·obtain ⟨p,J,wp,I,x2,ad,rfl,_⟩:=h;rfl
 obtain ⟨p,J,wp,I,x2,ad,rfl,hC,c3,hR,aJ,S,q⟩:=h;have au:PySem.closureFor (Jg cG xc) (envOfC "least" (ae cG) s.heap.objs.size f (.ref c))=(pure [("dealt",s.heap.objs.size+1+1),("cabins",s.heap.objs.size+1)]:Sem (List (Str×Addr))):=rfl;have aE:oq (qP aQ P w K mg base ["cabins","waiting","rider","last","dealt","fewest"] "least" (ae cG) f (.ref c) A outer s H E).nox ["cabins","dealt"] [0,4] [("dealt",s.heap.objs.size+1+1),("cabins",s.heap.objs.size+1)]:=oq.two @b rfl rfl rfl rfl rfl rfl (.inr rfl);have aC:=Jh;rwa[⟨_,(aa (bM (i:=4) uE.nd rfl @fR (bD rfl @W @a @s @r (λC s H ex=>(wv 3)))) (aa (bM (i:=5) uE.nd rfl @o (ED rfl rfl B9 hr @a (EE rfl ai aF rfl au) @a aC aE rfl (λ_ _ _=>rfl) (λ_ _ s H hr=>(cz @dU @a (gQ rfl PySem.F.plainAttrs_list PySem.F.slot_list_count PySem.F.type_list_count (Hm rfl) (wv 2) (av (wv 0) aq)))))) @g)),?_⟩];obtain ⟨xs,Y,hd⟩:=hR;have hl:xs.length=I.length:=aG hd;ext
 rcases Y with Y|Y
 ·rwa[bF Y ?_];rwa[bx (xs:=xs) (λi ys H'=>ak H H'/\ys=((fe I).take i).map V.int) @Z (λi ys H' h=>by rw [h.2,length_map];exact length_take_le _ _) ⟨.refl _,rfl⟩ (λi ys H' _ h=>h.1.seq Y) (λi x ys H' ap U=> ?st) (λys H1 U d n0=> ?rs)]
  case st=>
   obtain ⟨r,am,dr⟩:=bE hd ap;obtain ⟨a,rfl,hT⟩:=y0 (br.same dr U.1);rwa[fh hT rfl ?_];rwa[⟨⟨rfl,λi v h=>match i,h with|0,h=>(nomatch h)|1,h=>(nomatch h)|2,h=>(nomatch h)|3,h=>(nomatch h)|(i+4),h=>(nomatch h)⟩,?_⟩];rwa[⟨U.1,?_⟩];rw [U.2,take_add_one,getElem?_map,am,map_append];rfl
  have e1:upd H1 d (.lst (((fe I).take xs.length).map V.int)) d=some (.lst ((fe I).map V.int)):=by rw [af,take_of_length_le (by rw [length_map];lia)]
  have s1:ak H (upd H1 d (.lst (((fe I).take xs.length).map V.int))):=U.1.trans (.upd n0);rw [U.2];generalize upd H1 d (.lst (((fe I).take xs.length).map V.int))=H2 at e1 s1;rwa[lM.mk _ _ rfl @gG c3 λl H3 s3 n3 e3=> ?_];have L:=s1.trans s3;rwa[⟨S.same L,λf' c' ag Z sP nf ef ec aw=> ?_⟩];obtain ⟨ps,ah,_⟩:=S.same L;have sN:=sP.nt ah;have e4:Z l=some (.lst ((srv (aY J)).map λi:Nat=>V.int i)):=sN l _ (λps z=>by cases z) e3;have ed:Z d=some (.lst ((fe I).map V.int)):=sN d _ (λps z=>by cases z) (s3 _ _ e1);have as:bO K Z p J:=(hC.same L).nt sN
  have ab:∀m O,cW (aY J) (fD J (fe I)) m->ak Z O->MN [.int m,.int ad] O Q:=λm O hb B=>
   bZ (bq (by show 2<=1000000;decide)) λt H6 s6 n6 e6=>q m t H6 hb (λb o nb z=>s6 _ _ (B _ _ (sP b o nb (L b o z)))) ((aw.same B).same s6) e6
  show ∃l f xs,_;rwa[⟨l,f',_,rfl,rfl,e4,λY=> ?_,λY=> ?_⟩]
  ·have hs:srv (aY J)=[]:=map_eq_nil_iff.mp Y;exact ab (-1) Z (vC hs) (.refl _)
  ·rwa[⟨c',ag,[.ref p,.ref d],λi=>fD J (fe I) ((srv (aY J)).getD i 0),λO=>ak Z O,rfl,.refl _,λO B=>⟨B _ _ e4,B _ _ ef,B _ _ ec⟩,λi v O hv B=> ?_,λi v O hv hb B=> ?_⟩]
   ·obtain ⟨j,hj,rfl,gj,jl⟩:=iJ hv;rwa[(as.same B).at2 @c @c λcb a b ys R al hb hy=> ?_];rwa[ao al rfl ?_];rwa[gm hb ?_];rwa[⟨.inl ⟨rfl,_,az.of @fH⟩,?_⟩];rwa[⟨fe I,az.of @fH,?_⟩];rwa[⟨?_,B⟩];have R:J[j]? =some cb:=R;show V.int _=V.int (fD J (fe I) ((srv (aY J)).getD i 0));rw [gj];unfold fD;rw [Be R,hy]
   ·obtain ⟨j,hj,rfl,gj,jl⟩:=iJ hv;rwa[ab _ O (vB hj λi' ay=> ?_) B];exact hb i' (by rw [length_map];exact ay)
 ·rwa[d3 Y ?_];rwa[cQ (xs:=xs) (λi ys H'=>ak H H'/\ys=((fe I).take i).map V.int) @Z (λi ys H' h=>by rw [h.2,length_map];exact length_take_le _ _) ⟨.refl _,rfl⟩ (λi ys H' _ h=>h.1.seqT Y) (λi x ys H' ap U=> ?stT) (λys H1 U d n0=> ?rsT)]
  case stT=>
   obtain ⟨r,am,dr⟩:=bE hd ap;obtain ⟨a,rfl,hT⟩:=y0 (br.same dr U.1);rwa[fh hT rfl ?_];rwa[⟨⟨rfl,λi v h=>match i,h with|0,h=>(nomatch h)|1,h=>(nomatch h)|2,h=>(nomatch h)|3,h=>(nomatch h)|(i+4),h=>(nomatch h)⟩,?_⟩];rwa[⟨U.1,?_⟩];rw [U.2,take_add_one,getElem?_map,am,map_append];rfl
  have e1:upd H1 d (.lst (((fe I).take xs.length).map V.int)) d=some (.lst ((fe I).map V.int)):=by rw [af,take_of_length_le (by rw [length_map];lia)]
  have s1:ak H (upd H1 d (.lst (((fe I).take xs.length).map V.int))):=U.1.trans (.upd n0);rw [U.2];generalize upd H1 d (.lst (((fe I).take xs.length).map V.int))=H2 at e1 s1;rwa[lM.mk _ _ rfl @gG c3 λl H3 s3 n3 e3=> ?_];have L:=s1.trans s3;rwa[⟨S.same L,λf' c' ag Z sP nf ef ec aw=> ?_⟩];obtain ⟨ps,ah,_⟩:=S.same L;have sN:=sP.nt ah;have e4:Z l=some (.lst ((srv (aY J)).map λi:Nat=>V.int i)):=sN l _ (λps z=>by cases z) e3;have ed:Z d=some (.lst ((fe I).map V.int)):=sN d _ (λps z=>by cases z) (s3 _ _ e1);have as:bO K Z p J:=(hC.same L).nt sN
  have ab:∀m O,cW (aY J) (fD J (fe I)) m->ak Z O->MN [.int m,.int ad] O Q:=λm O hb B=>
   bZ (bq (by show 2<=1000000;decide)) λt H6 s6 n6 e6=>q m t H6 hb (λb o nb z=>s6 _ _ (B _ _ (sP b o nb (L b o z)))) ((aw.same B).same s6) e6
  show ∃l f xs,_;rwa[⟨l,f',_,rfl,rfl,e4,λY=> ?_,λY=> ?_⟩]
  ·have hs:srv (aY J)=[]:=map_eq_nil_iff.mp Y;exact ab (-1) Z (vC hs) (.refl _)
  ·rwa[⟨c',ag,[.ref p,.ref d],λi=>fD J (fe I) ((srv (aY J)).getD i 0),λO=>ak Z O,rfl,.refl _,λO B=>⟨B _ _ e4,B _ _ ef,B _ _ ec⟩,λi v O hv B=> ?_,λi v O hv hb B=> ?_⟩]
   ·obtain ⟨j,hj,rfl,gj,jl⟩:=iJ hv;rwa[(as.same B).at2 @c @c λcb a b ys R al hb hy=> ?_];rwa[ao al rfl ?_];rwa[gm hb ?_];rwa[⟨.inl ⟨rfl,_,az.of @fH⟩,?_⟩];rwa[⟨fe I,az.of @fH,?_⟩];rwa[⟨?_,B⟩];have R:J[j]? =some cb:=R;show V.int _=V.int (fD J (fe I) ((srv (aY J)).getD i 0));rw [gj];unfold fD;rw [Be R,hy]
   ·obtain ⟨j,hj,rfl,gj,jl⟩:=iJ hv;rwa[ab _ O (vB hj λi' ay=> ?_) B];exact hb i' (by rw [length_map];exact ay)
inductive Dk where
 |near|least|turns
noncomputable def c8 (c:Cb):lE:=⟨c.pl,c.li,c.dr,c.mr,c.ps⟩
noncomputable def RK (r:aL):Rd:=⟨r.tag,r.start,r.goal,r.lift⟩
noncomputable def xQ (bs:List Bool)(ws:Nat->Int):Int:=Classical.epsilon (cW bs ws)
theorem lj {bs:List Bool}{ws:Nat->Int}{m:Int}(h:cW bs ws m):m=xQ bs ws:=h.uniq (Classical.epsilon_spec ⟨m,h⟩)
noncomputable def ez (cs:List Cb)(last:Int):Int:=sf (aY @U) (last+1)
noncomputable def jJ:Dk->vV
 | .near=>λcs ws r last=>(xQ (aY @U) (sI @U r.start),last)
 | .least=>λcs ws r last=>(xQ (aY @U) (fD @U (fe (ws.map RK))),last)
 | .turns=>λcs ws r last=>(ez cs last,if ez cs last= -1 then last else ez cs last)
def qi:List Cb->List aL->aL->Int->Prop:=λcs ws r last=>1<=cs.length/\cs.length<=3/\ws.length<=64/\0<=last
def ow (Pn Pl:Addr)(H:Hp):Prop:=cA H Pn qN/\cA H Pl qL
theorem kK {Pn Pl:Addr}:GT @ce:=λH H' s h=>⟨h.1.st s,h.2.st s⟩
theorem vy {H:Hp}{tc:Addr}{xs:List V}{cs:List Cb}(h1:H tc=some (.tup xs))(h2:Paired (d4 K H) xs cs):bO K H tc @U:=by
 rwa[⟨xs,.inr (aD.of h1),?_⟩];rw [map_map];rwa[PySem.Paired.of (by rw [length_map];exact h2.len) λi x d S R=> ?_];rw [getElem?_map] at R;obtain ⟨c,I,t,rfl,z⟩:=h2.get1 S;rw [I] at R;cases R;exact z.den
theorem LQ {H:Hp}{F:Addr}{ys:List V}{ws:List aL}(h1:H F=some (.tup ys))(h2:aC K H ys @eD):Kt K H F (ws.map RK):=by
 rwa[⟨ys,.inr (aD.of h1),?_⟩];rw [map_map];exact h2
def Dk.ad (kn kl kT:Addr):Dk->Addr
 | .near=>kn| .least=>kl| .turns=>kT
theorem Nm {Pn Pl kn Z kT:Addr}(B:Pn≠Pl)(cn:jP P w K mg base 5 kn (uo K Pn))(cl:jP P w K mg base 5 Z (As K Pl))(ct:jP P w K mg base 3 kT (oN K))(k:Dk):jP P w K mg base 5 (k.ad kn Z kT) @dV:=by
 cases k with
 |near=>
  rwa[cn.imp @e λvs H Q E h=> ?_];obtain ⟨tc,tw,x,cs,Y,r,L,xs,ys,rfl,h1,h2,O,R,S,W,⟨c1,I,j,l0⟩,q⟩:=h;rwa[uo.mk _ _ _ _ (RK r) _ rfl (vy h1 h2) (by rw [length_map];exact I) S W.1 λm t H' U z F e=> ?_];obtain ⟨ps,J,_⟩:=id W.1;rwa[q t H' (z.nt J) ⟨F,W.2.sameP z J B.symm⟩ ?_];rw [lj U] at e;exact e
 |least=>
  rwa[cl.imp @e λvs H Q E h=> ?_];obtain ⟨tc,tw,x,cs,Y,r,L,xs,ys,rfl,h1,h2,O,R,S,W,⟨c1,I,j,l0⟩,q⟩:=h;rwa[As.mk _ _ _ _ _ _ rfl (vy h1 h2) (by rw [length_map];exact I) (LQ O R) (by rw [length_map];exact j) W.2 λm t H' U z F e=> ?_];obtain ⟨ps,J,_⟩:=id W.2;rwa[q t H' (z.nt J) ⟨W.1.sameP z J B,F⟩ ?_];rw [lj U] at e;exact e
 |turns=>
  rwa[ct.imp @b λvs H Q E h=> ?_];obtain ⟨tc,tw,x,cs,Y,r,L,xs,ys,rfl,h1,h2,O,R,S,W,⟨c1,I,j,l0⟩,q⟩:=h;rwa[oN.mk _ _ _ _ _ rfl (vy h1 h2) (by rw [length_map];exact c1) (by rw [length_map];exact I) l0 λt H' s e=> ?_];exact q t H' s.nt (kK _ _ s.st W) e
abbrev wo:Str:=s!"o"
abbrev wx:Str:=s!"x"
abbrev wu:Str:=s!"u"
abbrev wd:Str:=s!"d"
abbrev ws:Str:=s!"s"
noncomputable def dq (li he up dn:Int):Str:=if he=2 then wo else if he=1/\((li=1/\up=0)\/(li= -1/\dn=0)) then wx else if li= -1/\0<dn then wd else if 0<up then wu else if 0<dn then wd else ws
noncomputable def Pi (he up dn:Int):Str:=if 0<he then (if he=2 then wo else wx) else if 0<up/\(dn=0\/up<=dn) then wu else if 0<dn then wd else ws
noncomputable def wB (top fl li he:Int):Str:=if he=2 then wo else if he=1/\((fl=top/\li=1)\/(fl=0/\li= -1)) then wx else if li= -1 then (if fl≠0 then wd else wu) else if fl≠top then wu else wd
noncomputable def xi (fl li he up dn:Int):Str:=if dq li he up dn=ws/\fl≠0 then wd else dq li he up dn
theorem eV.li {li S U dn:Int}(s:eV li S U dn):li= -1\/li=0\/li=1:=by have:=s.l0;have:=s.l1;lia
theorem eV.he {li S U dn:Int}(s:eV li S U dn):S=0\/S=1\/S=2:=by have:=s.h0;have:=s.h1;lia
inductive jZ (vs:List V)(H:Hp)(Q:VK)(_e:XK):Prop
 |mk (li he up dn:Int) (_:vs=[.int li,.int he,.int up,.int dn]) (_:eV li he up dn) (_:Q (.str (dq li he up dn)) H)
theorem Lo {H:Hp}{Q:VK}{x y:Str}(q:Q (.str x) H)(e:x=y):Q (.str y) H:=e▸q
set_option maxHeartbeats 0 in
theorem ET (F:Z0 K "swept" yQ f fd):ar P w K mg base aQ 1 f fd ["light","here","up","down"] jZ:=by
 rwa[F.ok HV @dW @ba]
 ·obtain ⟨li,S,U,dn,rfl,_⟩:=h;rfl
 obtain ⟨li,S,U,dn,rfl,j,q⟩:=h;rwa[⟨_,(aa @C (aa @C (aa @C (aa @C @g)))),?_⟩];have O:=j.u0;have R:=j.d0;have J:=j.li;have B:=j.he;clear j
 iterate 16 (all_goals (try ((ext);first|refine bG rfl ?_|refine bf rfl ?_|refine kJ @c ?_|refine hU @c ?_|refine iy @t @t)))
 all_goals
  rwa[Lo q ?_];unfold dq
  repeat (first|rw [if_pos @c]|rw [if_neg @c])
inductive lP (vs:List V)(H:Hp)(Q:VK)(_e:XK):Prop
 |mk (he up dn:Int) (_:vs=[.int he,.int up,.int dn]) (_:0<=he) (_:he<=2) (_:0<=up) (_:0<=dn) (_:Q (.str (Pi he up dn)) H)
set_option maxHeartbeats 0 in
theorem zh (F:Z0 K "nearest" pY f fd):ar P w K mg base aQ 1 f fd ["here","up","down"] lP:=by
 rwa[F.ok BC @dW @q]
 ·obtain ⟨S,U,dn,rfl,_⟩:=h;rfl
 obtain ⟨S,U,dn,rfl,B,h1,O,R,q⟩:=h;rwa[⟨_,(aa @bO (aa @C @g)),?_⟩]
 iterate 16 (all_goals (try ((ext);first|refine bG rfl ?_|refine bf rfl ?_|refine kJ @c ?_|refine hU @c ?_|refine iy @t @t)))
 all_goals
  rwa[Lo q ?_];unfold Pi
  repeat (first|rw [if_pos @c]|rw [if_neg @c])
inductive jp (vs:List V)(H:Hp)(Q:VK)(_e:XK):Prop
 |mk (top fl li he:Int) (_:vs=[.int top,.int fl,.int li,.int he]) (_: -1<=li) (_:li<=1) (_:0<=he) (_:he<=2) (_:0<top) (_:Q (.str (wB top fl li he)) H)
set_option maxHeartbeats 0 in
theorem wX (F:Z0 K "shuttled" lX f fd):ar P w K mg base aQ 1 f fd ["top","floor","light","here"] jp:=by
 rwa[F.ok yD @dW @Q]
 ·obtain ⟨j,fl,li,S,rfl,_⟩:=h;rfl
 obtain ⟨j,fl,li,S,rfl,l0,l1,I,h1,J,q⟩:=h;rwa[⟨_,(aa @a (aa @C (aa @C (aa @bO @g)))),?_⟩]
 iterate 16 (all_goals (try ((ext);first|refine bG rfl ?_|refine bf rfl ?_|refine kJ @c ?_|refine hU @c ?_|refine iy @t @t|refine Px @c ?_|refine FM @c ?_|refine R1 @t @t)))
 all_goals
  rwa[Lo q ?_];unfold wB
  repeat (first|rw [if_pos @c]|rw [if_neg @c])
noncomputable def oA:List Nat:=[111,120,117,100,115]
theorem Cd:(s!"oxuds").cps.toList=oA:=by decide+kernel
unseal np F8 in
theorem Bn (c:Nat):np ⟨#[c]⟩ @fQ=decide (c∈oA):=by
 unfold np;rw [PySem.StrLaws.found_one,Cd]
def zm (s:Str):Prop:=s.length=36/\∀c∈s.cps.toList,c∈oA
noncomputable instance (s:Str):Decidable (zm s):=by unfold zm;infer_instance
inductive jY (K:Fg)(_:Addr)(vs:List V)(H:Hp)(Q:VK)(_e:XK):Prop
 |mk (a s C dx:_) (_:vs=[.ref a,.str s]) (_:H a=some (.ins C dx [])) (_:tS K C) (_:aK K C "letters") (_:zm s) (_:∀H',(∀b o,b≠a->H b=some o->H' b=some o)->H' a=some (.ins C dx [(s!"letters",.str s)])->Q .non H')
theorem ES {qB:Addr}{R L:Tok}(F:bh K "__init__" "Table.__init__" jv f fd)(bH:mg "len"=none)(MQ:mg "any"=none)(fo:mg "TABLE_SIZE"=some (.int 36 R))(FU:mg "WORDS"=some (.str "oxuds" L)):ar P w K mg base @cm 1 f fd ["self","letters"] (jY K qB):=by
 have wS:ax (.int 36) (.int 36 R):=⟨_,rfl⟩;have B:ax (.str "oxuds") (.str "oxuds" L):=⟨_,rfl⟩;rwa[F.okX wF (by symm) @y];obtain ⟨a,z,C,dx,rfl,Z,U,W,Y,q⟩:=h;rwa[⟨_,(aa (ay (PW.pt (v5 @a (u1 (r9 rfl (cu (N8 rfl rfl) rfl MQ boot_any (av (bD rfl (aB (N':=["letter"]) (pk:=[none]) @j) @a @h @r (λC s H ex=>(cr (oK rfl) (wv 0) @a @N))) aq)))))) @cn ap) (ac @bE)),?_⟩];have j:z.length<=sizeLine:=bq (by rw [Y.1];decide);rwa[⟨j,?_⟩];rwa[FM (by rw [Y.1];rfl) ?_];rwa[Gm (λi ys H'=>H'=H/\ys=(z.cps.toList.take i).map λc=>V.bl (!decide (c∈oA))) (by show z.length<=sizeLine;exact j) (λi ys H' p=>by rw [p.2,length_map,length_take];exact Nat.min_le_left _ _) ⟨rfl,rfl⟩ (λi c ys H' I p=> ?_) (λys H' p l n=> ?_)]
 ·obtain ⟨rfl,rfl⟩:=p;rwa[⟨bQ,?_⟩]
  have ad:z.cps.toList[i]? =some c:=by rw [Array.getElem?_toList];exact I
  rwa[⟨rfl,?_⟩];show _++[V.bl (!np ⟨#[c]⟩ @fQ)]=_;rw [Bn,take_add_one,ad,map_append];rfl
 ·obtain ⟨rfl,rfl⟩:=p
  have S:upd H' l (.lst ((z.cps.toList.take z.cps.size).map λc=>V.bl (!decide (c∈oA)))) l=some (.lst (List.map V.bl (z.cps.toList.map λc=> !decide (c∈oA)))):=by
   rw [af,take_of_length_le @f,map_map];rfl
  have O:ak H' (upd H' l (.lst ((z.cps.toList.take z.cps.size).map λc=>V.bl (!decide (c∈oA))))):= .upd n;generalize upd H' l (.lst ((z.cps.toList.take z.cps.size).map λc=>V.bl (!decide (c∈oA))))=H1 at S O ⊢;rwa[P7 (az.of S) ?_];rw [any_map];rwa[bf (any_eq_false.mpr λc I=>by simp [Y.2 c I]) ?_];rwa[cI (O.get Z) U W @b ?_];rwa[q _ (λb o J e=> ?_) af];rw [ag J];exact O b o e
noncomputable def rQ (li he up dn:Int):Int:=12*(li+1)+4*he+2*(if 0<up then 1 else 0)+(if 0<dn then 1 else 0)
theorem qm {li S U dn:Int}(s:eV li S U dn):0<=rQ li S U dn/\rQ li S U dn<36:=by
 have:=s.l0;have:=s.l1;have:=s.h0;have:=s.h1;unfold rQ;split<;>split<;>lia
inductive uk (vs:List V)(H:Hp)(Q:VK)(_e:XK):Prop
 |mk (li he up dn:Int) (_:vs=[.int li,.int he,.int up,.int dn]) (_:Q (.int (rQ li he up dn)) H)
theorem EV (F:Z0 K "place_in_table" fC f fd):ar P w K mg base aQ 1 f fd ["light","here","up","down"] uk:=by
 rwa[F.ok pL (by symm) @q];obtain ⟨li,S,U,dn,rfl,q⟩:=h;rwa[⟨_,@g,?_⟩];unfold rQ at q;by_cases z:0<U<;>by_cases J:0<dn
 ·rw [if_pos z,if_pos J] at q;left;exact q
 ·rw [if_pos z,if_neg J] at q;left;exact q
 ·rw [if_neg z,if_pos J] at q;left;exact q
 ·rw [if_neg z,if_neg J] at q;left;exact q
inductive Rk where
 |sw|ho|ne
 |ba (top:Int)
 |ta (s:Str)
noncomputable def Rk.ix:Rk->Nat
 | .sw=>0| .ho=>1| .ne=>2| .ba _=>3| .ta _=>4
noncomputable def Ps (s:Str)(k:Int):Str:=⟨#[s.cps.toList.getD k.toNat 0]⟩
noncomputable def Rk.word (r:Rk)(fl li he up dn:Int):Str:=match r with
 | .sw=>dq li he up dn
 | .ho=>xi fl li he up dn
 | .ne=>Pi he up dn
 | .ba top=>wB top fl li he
 | .ta s=>Ps s (rQ li he up dn)
noncomputable def Rk.fs:Rk->List (Str×V)
 | .ba top=>[(s!"top",.int top)]
 | .ta s=>[(s!"letters",.str s)]
 |_=>[]
def Rk.ok:Rk->Prop
 | .ba top=>0<top
 | .ta s=>zm s
 |_=>True
structure Ks where
 r:Addr
 h:Addr
 n:Addr
 s:Addr
 t:Addr
noncomputable def Rk.cl (k:Ks):Rk->Addr
 | .sw=>k.r| .ho=>k.h| .ne=>k.n| .ba _=>k.s| .ta _=>k.t
structure NN (K:Fg)(C:Addr):Prop where
 i:fW K C
 n:aK K C "top"
 l:aK K C "letters"
inductive dA (K:Fg)(i:Nat)(vs:List V)(H:Hp)(Q:VK)(_e:XK):Prop
 |mk (rk:Rk) (a s C dx:Addr) (fl li he up dn:Int) (_:vs=[.ref a,.ref s]) (_:rk.ix=i) (_:rk.ok) (_:H a=some (.ins C dx rk.fs)) (_:NN K C) (_:aD K H s [.int fl,.int li,.int he,.int up,.int dn]) (_:eV li he up dn) (_:Q (.str (rk.word fl li he up dn)) H)
theorem EN (F:bh K "word" "Rule.word" lY f fd)(O:aS P w K mg base 1 "swept" ["light","here","up","down"] jZ):ar P w K mg base aQ 2 f fd ["self","seen"] (dA K 0):=by
 rwa[F.ok yE (by symm) @bo];obtain ⟨j,a,z,C,dx,fl,li,W,U,dn,rfl,J,Z,S,L,hs,B,q⟩:=h;cases j<;>cases J;rwa[⟨_,@g,?_⟩];left;exact jZ.mk _ _ _ _ rfl B q
theorem zd (F:bh K "word" "Homing.word" ii f fd)(O:aS P w K mg base 1 "swept" ["light","here","up","down"] jZ):ar P w K mg base aQ 2 f fd ["self","seen"] (dA K 1):=by
 rwa[F.ok uG (by symm) @bo];obtain ⟨j,a,z,C,dx,fl,li,S,U,dn,rfl,J,Z,W,L,hs,B,q⟩:=h;cases j<;>cases J;rwa[⟨_,@fE,?_⟩];have q:Q (.str (xi fl li S U dn)) H:=q;unfold xi at q;left;rwa[jZ.mk _ _ _ _ rfl B ?_];by_cases h1:dq li S U dn=ws
 ·by_cases h2:fl=0
  ·rw [if_neg (λz=>z.2 h2)] at q;left;exact q
  ·rw [if_pos ⟨h1,h2⟩] at q;left;exact q
 ·rw [if_neg @cT] at q;left;exact q
theorem wW (F:bh K "word" "Nearest.word" gx f fd)(W:aS P w K mg base 1 "nearest" ["here","up","down"] lP):ar P w K mg base aQ 2 f fd ["self","seen"] (dA K 2):=by
 rwa[F.ok rN (by symm) (λI A outer s H O Q E Y h=> ?_)];obtain ⟨B,a,z,C,dx,fl,li,S,U,dn,rfl,J,Z,R,L,hs,j,q⟩:=h;cases B<;>cases J;rwa[⟨_,@g,?_⟩];left;exact lP.mk _ _ _ rfl j.h0 j.h1 j.u0 j.d0 q
theorem wV (F:bh K "word" "Shuttle.word" gq f fd)(S:aS P w K mg base 1 "shuttled" ["top","floor","light","here"] jp):ar P w K mg base aQ 2 f fd ["self","seen"] (dA K 3):=by
 rwa[F.ok rK (by symm) (λL A outer s H R Q E Z h=> ?_)];obtain ⟨I,a,z,C,dx,fl,li,W,U,dn,rfl,O,Y,J,B,hs,j,q⟩:=h;cases I<;>cases O;rwa[⟨_,@g,?_⟩];left;rwa[dG J B.i.cl B.n rfl ?_];left;exact jp.mk _ _ _ _ rfl j.l0 j.l1 j.h0 j.h1 Y q
theorem BS (F:bh K "word" "Table.word" ju f fd)(gU:aS P w K mg base 1 "place_in_table" ["light","here","up","down"] uk):ar P w K mg base aQ 2 f fd ["self","seen"] (dA K 4):=by
 rwa[F.ok wE (by symm) (λL A outer s H vs Q E hr h=> ?_)];obtain ⟨B,a,z,C,dx,fl,li,S,U,dn,rfl,R,Y,J,j,hs,I,q⟩:=h;cases B<;>cases R;rename_i t;rwa[⟨_,@g,?_⟩];have Y:zm t:=Y;obtain ⟨Z,O⟩:=qm I;left;rwa[dG J j.i.cl j.l rfl ?_];left;erw[uk.mk _ _ _ _ rfl ?_]
 have W:t.cps.toList.length=36:=by rw [aP];exact Y.1
 rwa[uz (bq (by rw [Y.1];decide)) (c:=t.cps.toList.getD (rQ li S U dn).toNat 0) ?_ q];unfold oF zA;rw [if_pos Z,if_pos (by rw [W];exact O)];show t.cps.toList[(rQ li S U dn).toNat]? =_;rw [getElem?_eq_getElem @c,getD_eq_getElem?_getD,getElem?_eq_getElem @c];rfl
theorem AW (rk:Rk):rk.fs.lookup (s!"word")=none:=by cases rk<;>rfl
structure QJ (K:Fg)(P:Program)(w:World)(mg:Str->Option Value)(base:Heap)(k:Ks):Prop where
 c:∀rk:Rk,NN K @eE
 m:∀rk:Rk,iE P w K mg base aQ 2 "word" (rk.cl k) (dA K rk.ix)
unseal fO in
theorem Pk {C j:Addr}{E:XK}{s:Str}{H:Hp}{Q:VK}(c:NN K C)(Y:zm s)(g:∀a dx H',ak H H'->H a=none->H' a=some (.ins C dx [(s!"letters",.str s)])->Q (.ref a) H'):fO C (jY K j) E [.str s] H Q:=by
 show ∀a dx,H a=none->H dx=none->dx≠a->jY K j (.ref a::([.str s]++[])) @p (λv H2=>v= .non/\Q (.ref a) H2) E;intro a dx h1 h2 I;rwa[jY.mk _ _ _ _ rfl af c.i.cl c.l Y (λH' B F=>⟨rfl,g a dx H' (λL o e=> ?_) h1 F⟩)];exact B L o (λz=>by rw [z,h1] at e;cases e) (d9 h1 h2 L o e)
inductive DB (K:Fg)(vs:List V)(H:Hp)(Q:VK)(_e:XK):Prop
 |mk (a t C dx:_) (_:vs=[.ref a,.int t]) (_:H a=some (.ins C dx [])) (_:tS K C) (_:aK K C "top") (_:Q .non (upd H a (.ins C dx [(s!"top",.int t)])))
theorem EU (F:bh K "__init__" "Shuttle.__init__" gu f fd):ar P w K mg base aQ 1 f fd ["self","top"] (DB K):=by
 rwa[F.ok rL (by symm) @Q];obtain ⟨a,t,C,dx,rfl,I,j,z,q⟩:=h;rwa[⟨_,(ac @bE),?_⟩];exact cI I j z @b q
unseal fO in
theorem Pm {C:Addr}{E:XK}{t:Int}{H:Hp}{Q:VK}(c:NN K C)(g:∀a dx H',ak H H'->H a=none->H' a=some (.ins C dx [(s!"top",.int t)])->Q (.ref a) H'):fO C (DB K) E [.int t] H Q:=by
 show ∀a dx,H a=none->H dx=none->dx≠a->DB K (.ref a::([.int t]++[])) @p (λv H2=>v= .non/\Q (.ref a) H2) E;intro a dx h1 h2 L;rwa[DB.mk _ _ _ _ rfl af c.i.cl c.n ⟨rfl,g a dx _ ?_ h1 af⟩];intro b u z;rw [ag (λe=>by rw [e,h1] at z;cases z)];exact d9 h1 h2 b u z
theorem Ei {iW cK bR bL dP:Addr}(ac:iE P w K mg base aQ 2 "word" iW (dA K 0))(W:iE P w K mg base aQ 2 "word" cK (dA K 1))(z:iE P w K mg base aQ 2 "word" bR (dA K 2))(J:iE P w K mg base aQ 2 "word" bL (dA K 3))(Y:iE P w K mg base aQ 2 "word" dP (dA K 4))(af:fW K iW)(ae:aK K iW "top")(ad:aK K iW "letters")(R:fW K cK)(U:aK K cK "top")(S:aK K cK "letters")(B:fW K bR)(L:aK K bR "top")(F:aK K bR "letters")(I:fW K bL)(j:aK K bL "top")(O:aK K bL "letters")(ab:fW K dP)(aa:aK K dP "top")(Z:aK K dP "letters"):QJ K P w mg base ⟨iW,cK,bR,bL,dP⟩ where
 c:=λrk=>by
  cases rk with
  |sw=>exact ⟨af,ae,ad⟩
  |ho=>exact ⟨R,U,S⟩
  |ne=>exact ⟨B,L,F⟩
  |ba top=>exact ⟨I,j,O⟩
  |ta s=>exact ⟨ab,aa,Z⟩
 m:=λrk=>by
  cases rk with
  |sw=>exact ac
  |ho=>exact W
  |ne=>exact z
  |ba top=>exact J
  |ta s=>exact Y
theorem IZ {s:Str}(h:zm s):QQ s:=λc I=>by
 have:=h.2 c I;simp only [oA,mem_cons,not_mem_nil,or_false] at this;lia
abbrev Lh:Str:=s!"sweep"
abbrev Qz:Str:=s!"homing"
abbrev Qy:Str:=s!"nearest"
abbrev Qw:Str:=s!"shuttle"
abbrev rG:Str:=s!"table "
noncomputable def eI (s:Str)(fl:Int):Option Rk:=if s=Lh then some .sw else if s=Qz then some .ho else if s=Qy then some .ne else if s=Qw then some (.ba (fl - 1)) else
 if Txt.slice s none @fc=rG/\zm (Txt.slice s @fc none) then some (.ta (Txt.slice s @fc none)) else none
theorem kq {s:Str}{fl:Int}(h:2<=fl){rk:Rk}(e:eI s fl=some rk):rk.ok:=by
 unfold eI at e;split at e
 ·cases e;trivial
 split at e
 ·cases e;trivial
 split at e
 ·cases e;trivial
 split at e
 ·cases e;show 0<fl - 1;lia
 split at e
 ·rename_i h;cases e;exact h.2
 ·cases e
theorem Bp {s:Str}:uc s rG=decide (Txt.slice s none @fc=rG):=by
 have c:=kg (x:=s) (n:=6) @b
 have W:rG.cps.toList.length=6:=by decide
 unfold uc Builtin.Str.subAt
 have e:(decide (0+rG.length<=s.length)&&(s.cps.extract 0 (0+rG.length)==rG.cps))=decide (s.cps.toList.take 6=rG.cps.toList):=by
  rw [Bool.eq_iff_iff,Bool.and_eq_true,decide_eq_true_eq,decide_eq_true_eq,beq_iff_eq]
  have R:(s.cps.extract 0 (0+rG.length)).toList=s.cps.toList.take 6:=by
   show (s.cps.extract 0 6).toList=_;simp
  constructor
  ·rintro ⟨_,h⟩;rw [<-R,h]
  ·intro h;rwa[⟨?_,Array.toList_inj.mp (by rw [R,h])⟩];have:=congrArg List.length h;rw [length_take,W,aP] at this;show 0+6<=s.length;lia
 rw [e];rwa[decide_eq_decide.mpr ⟨λh=>ub (by rw [c];exact h),λh=> ?_⟩];have:=congrArg (λz:Str=>z.cps.toList) h;rw [<-this];exact c.symm
def Kr (s:Str):Prop:=s.length<=1000/\QQ s
def fJ (K:Fg)(k:Ks)(_:Addr):Sp:=λvs H Q _=>∃s fl rk,vs=[.str s,.int fl]/\s.length<=1000/\eI s fl=some rk/\∀a dx H',ak H H'->H a=none->H' a=some (.ins @eE dx rk.fs)->Q (.ref a) H'
theorem oQ {k:Ks}{j:Addr}{H:Hp}{s:Str}{fl:Int}{rk:Rk}{Q:VK}{E:XK}(h1:s.length<=1000)(h:eI s fl=some rk)(g:∀a dx H',ak H H'->H a=none->H' a=some (.ins @eE dx rk.fs)->Q (.ref a) H'):fJ K k j [.str s,.int fl] H Q E:=⟨s,fl,rk,rfl,h1,h,g⟩
theorem BV {k:Ks}{qB:Addr}{J:Tok}(F:Z0 K "rule_of" uL f fd)(bH:mg "len"=none)(Z:NN K k.s)(cT:NN K k.t)(FX:mg "Rule"=some (.ref k.r))(O:mg "Homing"=some (.ref k.h))(qG:mg "Nearest"=some (.ref k.n))(Fm:Ku K k.r)(vc:Ku K k.h)(qu:Ku K k.n)(qx:iC P w K mg base aQ 1 "Shuttle" k.s (DB K))(zt:iC P w K mg base @cm 1 "Table" k.t (jY K qB))(kL:mg "TABLE_START"=some (.str "table " J)):ar P w K mg base @cm 3 f fd ["text","floors"] (fJ K k qB):=by
 have B:ax (.str "table ") (.str "table " J):=⟨_,rfl⟩;rwa[F.okX D1 (λU H Q E h=> ?_) (λab A outer s H U Q E Y h=> ?_)]
 ·obtain ⟨s,fl,L,rfl,_⟩:=h;rfl
 obtain ⟨z,fl,L,rfl,R,j,q⟩:=h;rwa[⟨_,(aa (ay @a (ac (aj (y8 Fm rfl FX))) ap) (aa (ay @a (ac (aj (y8 vc rfl O))) ap) (aa (ay @a (ac (aj (y8 qu rfl qG))) ap) (aa (ay @a (ac (aj (ge qx gS Y @b rfl @E))) ap) (aa (ay (r9 rfl (gQ rfl PySem.F.plainAttrs_str PySem.F.slot_str_startswith PySem.F.type_str_startswith C7 (wv 0) @E)) (ac (aj (ge zt Ju.passes Y @b rfl @E))) ap) @cn))))),?_⟩];have W:z.length<=sizeLine:=bq @c;unfold eI at j;rwa[iy @bx @bx]
 ·rw [if_pos h] at j;cases j;exact MO q
 rw [if_neg h] at j;rwa[iy @bx @bx]
 ·rw [if_pos h] at j;cases j;exact MO q
 rw [if_neg h] at j;rwa[iy @bx @bx]
 ·rw [if_pos h] at j;cases j;exact MO q
 rw [if_neg h] at j;rwa[iy @bx @bx]
 ·rw [if_pos h] at j;cases j;exact Pm Z q
 rw [if_neg h] at j;have I:=Bp (s:=z);erw[⟨rfl,?_⟩];rw [I];rwa[iy @dI @dI]
 ·split at j
  ·cases j;rename_i ok;rwa[⟨bq @b,?_⟩];rwa[⟨W,?_⟩];exact Pk cT ok.2 q
  ·cases j
 ·rw [if_neg (λy=>S y.1)] at j;cases j
seal fJ
noncomputable def K5 (k:Int):List V:=[.int 1,.int (k / 12 - 1),.int (k / 4% 3),.int (k / 2% 2),.int (k% 2)]
theorem lH {k:Int}(B:0<=k)(h1:k<36):eV (k / 12 - 1) (k / 4% 3) (k / 2% 2) (k% 2):=⟨by lia,by lia,by lia,by lia,by lia,by lia⟩
inductive pB (K:Fg)(vs:List V)(H:Hp)(Q:VK)(_e:XK):Prop
 |mk (k:Int) (_:vs=[.int k]) (_:∀r H',ak H H'->H r=none->H' r=some (.tup (K5 k))->Q (.ref r) H')
theorem BU (F:Z0 K "seen_at" uK f fd):ar P w K mg base aQ 1 f fd ["place"] (pB K):=by
 rwa[F.ok DZ (by symm) (λz A outer s H L Q E Y h=> ?_)];obtain ⟨k,rfl,q⟩:=h;rwa[⟨_,@g,?_⟩];left;rwa[⟨by decide,?_⟩];left;rwa[⟨by decide,?_⟩];left;rwa[⟨by decide,?_⟩];left;exact bZ QB λr H1 O j S=>q r H1 O j S
theorem sR {z:Str}(F:z.length=0){ts:List Str}(h:∀t∈ts,t.length=1):(Builtin.Str.glued z ts).length<=ts.length/\ts.toArray.foldl (· + ·.length+z.length) 0<=ts.length:=by
 have L:∀(l:List Str) (j:Array Nat),(∀t∈l,t.length=1)->(l.foldl (λj p=>j++z.cps++p.cps) j).size=j.size+l.length:=by
  intro l
  induction l with
  |nil=>intro j _;simp
  |cons p l ih=>
   intro j W;have S:p.cps.size=1:=W p mem_cons_self;have R:z.cps.size=0:=F;rw [foldl_cons,ih _ λt J=>W t @dR,Array.size_append,Array.size_append,S,R,length_cons];lia
 have B:∀(l:List Str) (n:Nat),(∀t∈l,t.length=1)->l.foldl (λO I=>O+I.length+z.length) n=n+l.length:=by
  intro l
  induction l with
  |nil=>intro n _;simp
  |cons p l ih=>
   intro n W;rw [foldl_cons,ih _ λt J=>W t @dR,W p mem_cons_self,F,length_cons];lia
 rwa[⟨?_,?_⟩]
 ·cases ts with
  |nil=>exact Nat.le_refl _
  |cons p l=>
   show (l.foldl (λj p=>j++z.cps++p.cps) p.cps).size<=_;rw [L l _ λt J=>h t @dR];have S:p.cps.size=1:=h p mem_cons_self;rw [S,length_cons];lia
 ·rw [foldl_toArray,B ts 0 h];lia
def isL (x:Str):Prop:=x.length=1/\∀c∈x.cps.toList,c∈oA
theorem AN {x:Str}(h:x=wo\/x=wx\/x=wu\/x=wd\/x=ws):isL x:=by
 rcases h with rfl|rfl|rfl|rfl|rfl<;>exact ⟨by decide,by decide⟩
theorem Ap (li S U dn:Int):isL (dq li S U dn):=AN (by unfold dq;repeat (first|split|simp))
theorem MJ (S U dn:Int):isL (Pi S U dn):=AN (by unfold Pi;repeat (first|split|simp))
theorem Lv (j fl li S:Int):isL (wB j fl li S):=AN (by unfold wB;repeat (first|split|simp))
theorem Nb (fl li S U dn:Int):isL (xi fl li S U dn):=by
 unfold xi;split
 ·exact AN (.inr (.inr (.inr (.inl rfl))))
 ·exact Ap ..
theorem Rk.isL {rk:Rk}(h:rk.ok){fl li S U dn:Int}(j:eV li S U dn):My.isL (rk.word fl li S U dn):=by
 cases rk with
 |sw=>exact Ap ..
 |ho=>exact Nb ..
 |ne=>exact MJ ..
 |ba top=>exact Lv ..
 |ta s=>
  have h:zm s:=h;obtain ⟨Z,z⟩:=qm j
  have W:s.cps.toList.length=36:=by rw [aP];exact h.1
  rwa[⟨rfl,λc I=> ?_⟩];have I:c∈[s.cps.toList.getD (rQ li S U dn).toNat 0]:=I;rw [mem_singleton.mp I,getD_eq_getElem?_getD,getElem?_eq_getElem (show (rQ li S U dn).toNat<s.cps.toList.length by lia)];exact h.2 _ (getElem_mem _)
noncomputable def Rk.at (rk:Rk)(k:Int):Str:=rk.word 1 (k / 12 - 1) (k / 4% 3) (k / 2% 2) (k% 2)
noncomputable def Rk.tbl (rk:Rk):Str:=Builtin.Str.glued "" ((List.range 36).map λ(k:Nat)=>rk.at k)
inductive DR (K:Fg)(k:Ks)(vs:List V)(H:Hp)(Q:VK)(_e:XK):Prop
 |mk (rk:Rk) (a dx:Addr) (_:vs=[.ref a]) (_:rk.ok) (_:H a=some (.ins @eE dx rk.fs)) (_:∀H',ak H H'->Q (.str rk.tbl) H')
theorem ME {k:Ks}{L:Tok}(F:Z0 K "as_table" qh f fd)(S:mg "range"=none)(R:QJ K P w mg base k)(fo:mg "TABLE_SIZE"=some (.int 36 L))(xC:aS P w K mg base 1 "seen_at" ["place"] (pB K)):ar P w K mg base aQ 3 f fd ["rule"] (DR K k):=by
 have wS:ax (.int 36) (.int 36 L):=⟨_,rfl⟩;rwa[F.ok BL (by symm) (λaa A outer s H vs Q E U h=> ?_)];obtain ⟨j,a,dx,rfl,Y,J,q⟩:=h;rwa[⟨_,(ac (aj (gQ rfl PySem.F.plainAttrs_str PySem.F.slot_str_join PySem.F.type_str_join (yh rfl) cJ (av (bD rfl (aB (N':=["place","rule"]) (pk:=[none,some 0]) @j) (cq rfl S @E) @h @r (λC s H ex=>(C2 (P:=P) (w:=w) (K:=K) (mg:=mg) (base:=base) (n:=2) rfl rfl rfl rfl rfl gS U @b (wv 1) @E))) aq)))),?_⟩];left;rwa[⟨rfl,?_⟩];rwa[⟨⟨by decide,by decide⟩,?_⟩];rwa[gI (λi ys H'=>ak H H'/\ys=((List.range i).map λ(k:Nat)=>j.at k).map V.str) (bq @b) (λi ys H' p=>by rw [p.2];simp) ⟨.refl _,rfl⟩ (λi ys H' hi p=> ?_) (λys H' p l n=> ?_)]
 ·obtain ⟨B,rfl⟩:=p;rwa[⟨bQ,?_⟩];rwa[iL (B.get J) (AW j) (R.m j) ?_];erw[pB.mk _ rfl λz H1 O n1 e1=> ?_]
  have I:(0+(i:Int))<36:=by lia
  rwa[dA.mk _ _ _ _ _ _ _ _ _ _ rfl rfl Y ((B.trans O).get J) (R.c j) (aD.of e1) (lH @c I) ?_];rwa[⟨B.trans O,?_⟩];rw [range_succ,map_append,map_append];show _++[V.str (j.at (0+(i:Int)))]=_;rw [Int.zero_add];rfl
 ·obtain ⟨B,rfl⟩:=p
  obtain ⟨W,Z⟩:=sR (z:=s!"") @z (ts:=(List.range 36).map λ(k:Nat)=>j.at k) (λt ht=>by
   obtain ⟨k,hk,rfl⟩:=mem_map.mp ht;have:=mem_range.mp hk
   exact (Rk.isL Y (lH @c @c)).1)
  simp only [length_map,length_range] at W Z;exact FG (ts:=(List.range 36).map λ(k:Nat)=>j.at k) @eL @Z @Z (q _ (B.trans (.upd n)))
theorem xj {z:Str}(B:z.cps.toList=[])(ts:List Str):(Builtin.Str.glued z ts).cps.toList=(ts.map λt=>t.cps.toList).flatten:=by
 have L:∀(l:List Str) (j:Array Nat),(l.foldl (λj p=>j++z.cps++p.cps) j).toList=j.toList++(l.map λt=>t.cps.toList).flatten:=by
  intro l
  induction l with
  |nil=>intro j;simp
  |cons p l ih=>intro j;rw [foldl_cons,ih];simp [B]
 unfold Builtin.Str.glued;show ((ts.drop 1).foldl (λj p=>j++z.cps++p.cps) (ts.headD Str.empty).cps).toList=_;rw [L]
 cases ts with
 |nil=>rfl
 |cons t ts=>rfl
def Qj (ts:List Str):Prop:=ts.length=36/\∀x∈ts,isL x
theorem sU:∀(ts:List Str),(∀x∈ts,isL x)->((ts.map λt=>t.cps.toList).flatten).length=ts.length
 |[],_=>rfl
 |t::ts,h=>by
  have h1:=(h t (.head _)).1;have h2:=sU ts λx z=>h x (.tail _ z);rw [map_cons,flatten_cons,length_append,h2,aP,h1,length_cons];lia
theorem AF {ts:List Str}(h:Qj ts):zm (Builtin.Str.glued "" ts):=by
 have I:=xj (z:=s!"") @z ts;rwa[⟨?_,λc j=> ?_⟩]
 ·rw [<-aP,I,sU ts h.2,h.1]
 ·rw [I] at j;obtain ⟨l,W,j⟩:=mem_flatten.mp j;obtain ⟨x,ai,rfl⟩:=mem_map.mp W;exact (h.2 x ai).2 c j
theorem FA {i:Int}(B:0<=i)(h1:i<5):∃c,oF (s!"oxuds").cps.toList i=some c/\isL ⟨#[c]⟩:=by
 rcases (show i=0\/i=1\/i=2\/i=3\/i=4 by lia) with rfl|rfl|rfl|rfl|rfl<;>exact ⟨_,rfl,rfl,by decide⟩
theorem Dm {rk:Rk}(h:rk.ok):Qj ((List.range 36).map λ(k:Nat)=>rk.at k):=⟨by simp,λx z=>by
 obtain ⟨k,R,rfl⟩:=mem_map.mp z;have:=mem_range.mp R
 exact Rk.isL h (lH @c @c)⟩
theorem K8 {rk:Rk}(h:rk.ok):zm rk.tbl:=AF (Dm h)
theorem R0 {x:Str}(h:isL x):x∈cF:=by
 obtain ⟨h1,h2⟩:=h
 have W:x.cps.toList.length=1:=by rw [aP];exact h1
 obtain ⟨⟨l⟩⟩:=x
 match l,W with
 |[c],_=>
  have I:c∈oA:=h2 c @f;unfold oA at I;simp only [mem_cons,not_mem_nil,or_false] at I
  rcases I with rfl|rfl|rfl|rfl|rfl
  ·exact (show (⟨#[111]⟩:Str)=s!"o" by decide+kernel)▸ .head _
  ·exact (show (⟨#[120]⟩:Str)=s!"x" by decide+kernel)▸ .tail _ (.head _)
  ·exact (show (⟨#[117]⟩:Str)=s!"u" by decide+kernel)▸ .tail _ (.tail _ (.head _))
  ·exact (show (⟨#[100]⟩:Str)=s!"d" by decide+kernel)▸ .tail _ (.tail _ (.tail _ (.head _)))
  ·exact (show (⟨#[115]⟩:Str)=s!"s" by decide+kernel)▸ .tail _ (.tail _ (.tail _ (.tail _ (.head _))))
theorem LK {k:Ks}(R:QJ K P w mg base k){H:Hp}{a dx:Addr}{rk:Rk}(Y:rk.ok)(e:H a=some (.ins @eE dx rk.fs)):CS P w K mg base H a rk.word:=
 ⟨rk.cl k,dx,rk.fs,dA K rk.ix,e,AW rk,R.m rk,λfl li S U dn s=>R0 (Rk.isL Y s),λH' z fl li S U dn Q E h1 h2 L j=>dA.mk _ _ _ _ _ _ _ _ _ _ rfl rfl Y h1 (R.c rk) h2 L j⟩
def GO (x:Str):Prop:=x.length<=1000/\QQ x
instance (x:Str):Decidable (GO x):=by unfold GO QQ;infer_instance
def gb.d (l:gb):D:= .tup [.int l.start,.int l.room,.int l.turns,.str l.kind]
def AR (fl:Int)(ls:List gb)(lo:Int)(so:Str):List D:=[.int fl,.tup @fL,.int lo,.str so]
def vO (K:Fg)(H:Hp)(t:V)(fl:Int)(ls:List gb)(lo:Int)(so:Str):Prop:=∃p xs,t= .ref p/\H p=some (.tup xs)/\aC K H xs (AR fl ls lo so)
def GP (K:Fg)(H:Hp)(a:Addr)(ds:List D):Prop:=br K H (.ref a) (.lst ds)\/br K H (.ref a) (.tup ds)
def jq (K:Fg)(_:Addr):Sp:=λvs H Q _=>∃fl a lo so ls,vs=[.int fl,.ref a,.int lo,.str so]/\GP K H a @fL/\ls.length<=700/\MG fl ls lo so=true/\∀t H',ak H H'->vO K H' t fl ls lo so->Q t H'
theorem Ka {c:Addr}{H:Hp}{fl:Int}{a:Addr}{lo:Int}{so:Str}{j:List gb}{Q:VK}{E:XK}(h1:GP K H a (j.map gb.d))(L:j.length<=700)(z:MG fl j lo so=true)(g:∀t H',ak H H'->vO K H' t fl j lo so->Q t H'):jq K c [.int fl,.ref a,.int lo,.str so] H Q E:=
 ⟨fl,a,lo,so,j,rfl,h1,L,z,g⟩
seal jq
inductive yy (K:Fg)(vs:List V)(H:Hp)(Q:VK)(_e:XK):Prop
 |mk (fl:_) (l:gb) (_:vs=[.int fl,.int l.start,.int l.room,.int l.turns,.str l.kind]) (_:Q (.bl (l.ok fl)) H)
theorem GH {a x:Str}:(a==x)=decide (x=a):=by
 by_cases h:x=a
 ·rw [decide_eq_true h,h,beq_self_eq_true]
 ·rw [decide_eq_false h,beq_eq_false_iff_ne.mpr (Ne.symm h)]
theorem SI {x a b c:Str}:vn (.str x) [.str a,.str b,.str c]=decide (x=a\/x=b\/x=c):=by
 show ((a==x)||((b==x)||((c==x)||false)))=_;rw [GH,GH,GH,Bool.or_false,<-Bool.decide_or,<-Bool.decide_or]
theorem SJ {x a b:Str}:vn (.str x) [.str a,.str b]=decide (x=a\/x=b):=by
 show ((a==x)||((b==x)||false))=_;rw [GH,GH,Bool.or_false,<-Bool.decide_or]
theorem IW {j:Addr}{Z U:Tok}(F:Z0 K "fits_lift" mi f fd)(qH:mg "MOST_ROOM"=some (.int 6 Z))(nL:mg "MOST_TURNS"=some (.int 4 U))(nO:mg "DOOR_KINDS"=some (.ref j))(iB:∀H:Hp,aD K H j [.str "plain",.str "hasty",.str "slow"]):ar P w K mg base aQ 1 f fd ["floors","start","room","turns","kind"] (yy K):=by
 have I:ax (.int 6) (.int 6 Z):=⟨_,rfl⟩;have B:ax (.int 4) (.int 4 U):=⟨_,rfl⟩;rwa[F.ok yL (by symm) @y];obtain ⟨fl,⟨st,O,tu,J⟩,rfl,q⟩:=h;have T:=iB H
 have L: ¬(0<=st/\st<fl/\1<=O/\O<=6/\1<=tu/\tu<=4/\(J=s!"plain"\/J=s!"hasty"\/J=s!"slow"))->Q (.bl false) H:=λz=>by
  rw [show gb.ok fl ⟨st,O,tu,J⟩=false from decide_eq_false z] at q;exact q
 rwa[⟨_,(aa @ea @g),?_⟩];by_cases h1:0<=st
 ·by_cases h2:st<fl
  ·by_cases W:1<=O
   ·by_cases Y:O<=6
    ·by_cases S:1<=tu
     ·by_cases R:tu<=4
      ·left;rwa[Ly T rfl rfl ?_];rw [SI];have e:gb.ok fl ⟨st,O,tu,J⟩=decide (J=s!"plain"\/J=s!"hasty"\/J=s!"slow"):=decide_eq_decide.mpr ⟨λz=>z.2.2.2.2.2.2,λz=>⟨h1,h2,W,Y,S,R,z⟩⟩;rw [e] at q;exact q
      ·left;exact L λz=>R z.2.2.2.2.2.1
     ·left;exact L λz=>S z.2.2.2.2.1
    ·left;exact L λz=>Y z.2.2.2.1
   ·left;exact L λz=>W z.2.2.1
  ·left;exact L λz=>h2 z.2.1
 ·left;exact L λz=>h1 z.1
inductive yx (K:Fg)(vs:List V)(H:Hp)(Q:VK)(_e:XK):Prop
 |mk (fl a:_) (ls:List gb) (_:vs=[.int fl,.ref a]) (_:GP K H a @fL) (_:ls.length<=700) (_:∀H',ak H H'->Q (.bl (decide (1<=ls.length/\ls.length<=3)&&ls.all @dq)) H')
theorem GP.out {H:Hp}{a:Addr}{ds:List D}(h:GP K H a ds):∃xs,(az K H a xs\/aD K H a xs)/\aC K H xs ds:=by
 rcases h with h|h
 ·obtain ⟨_,xs,e,h1,h2⟩:=h.outL;cases e;exact ⟨xs,.inl h1,h2⟩
 ·obtain ⟨_,xs,e,h1,h2⟩:=h.outT;cases e;exact ⟨xs,.inr h1,h2⟩
theorem IV {J:Tok}(F:Z0 K "fits_lifts" jE f fd)(bH:mg "len"=none)(MR:mg "all"=none)(nM:mg "MOST_LIFTS"=some (.int 3 J))(rc:aS P w K mg base 1 "fits_lift" ["floors","start","room","turns","kind"] (yy K)):ar P w K mg base aQ 2 f fd ["floors","lifts"] (yx K):=by
 have j:ax (.int 3) (.int 3 J):=⟨_,rfl⟩;rwa[F.ok wP (by symm) (λZ A outer s H vs Q E hr h=> ?_)];obtain ⟨fl,a,B,rfl,W,hl,q⟩:=h;obtain ⟨xs,L,dx⟩:=W.out;have hx:=aG dx;rwa[⟨_,(aa @ea (ac (aj (cu (Oa rfl rfl) rfl MR boot_all (av (bD rfl (aB (N':=["start","room","turns","kind","floors"]) (pk:=[none,none,none,none,some 0]) @j) @a @s @r @h) aq))))),?_⟩]
 have S: ¬(1<=B.length/\B.length<=3)->Q (.bl false) H:=λz=>by
  have:=q H (.refl _);rw [decide_eq_false z] at this;exact this
 rwa[Av L ?_];by_cases h1:1<=B.length
 ·by_cases h2:B.length<=3
  ·left
   rcases L with L|L
   all_goals
    first|refine bF L ?_|refine d3 L ?_
    first
     |refine bx (xs:=xs) (λi ys H'=>H'=H/\ys=((B.map @dq).take i).map V.bl) @Z (λi ys H' p=>by rw [p.2,length_map,length_take];exact Nat.min_le_left _ _) ⟨rfl,rfl⟩ (λi ys H' _ p=>by rw [p.1];exact L) (λi x ys H' I p=> ?_) @cg
     |refine cQ (xs:=xs) (λi ys H'=>H'=H/\ys=((B.map @dq).take i).map V.bl) @Z (λi ys H' p=>by rw [p.2,length_map,length_take];exact Nat.min_le_left _ _) ⟨rfl,rfl⟩ (λi ys H' _ p=>by rw [p.1];exact L) (λi x ys H' I p=> ?_) @cg
    ·obtain ⟨rfl,rfl⟩:=p;obtain ⟨l,O,U⟩:=bE dx I;obtain ⟨u,us,rfl,hu,R⟩:=U.outT
     cases R with|cons q0 t0=>cases t0 with|cons q1 J=>cases J with|cons q2 t2=>cases t2 with|cons q3 t3=>
     cases t3;cases q0.isInt;cases q1.isInt;cases q2.isInt;cases q3.isStr;left;rwa[⟨jV,?_⟩];left;rwa[yy.mk _ l rfl ?_];rwa[⟨rfl,?_⟩];rw [take_succ,map_append,getElem?_map,O];rfl
    ·obtain ⟨rfl,rfl⟩:=p;rwa[P8 (bs:=B.map @dq) (az.of (by rw [af,take_of_length_le (by rw [length_map];lia)])) ?_];have:=q _ (ak.upd (o:= .lst (((B.map @dq).take xs.length).map V.bl)) Y);rw [decide_eq_true ⟨h1,h2⟩,Bool.true_and] at this;rw [all_map];exact this
  ·left;exact S λz=>h2 z.2
 ·left;exact S λz=>h1 z.1
inductive ut (vs:List V)(H:Hp)(Q:VK)(_e:XK):Prop
 |mk (fl lo:Int) (_:vs=[.int fl,.int lo]) (_:2<=fl) (_:fl<=8) (_:Q (.bl (decide (0<=lo/\lo<2^fl.toNat/\lo% 2=0))) H)
theorem E7 (F:Z0 K "fits_locked" ij f fd)(R:aS P w K mg base 1 "bit" ["k"] j9)(O:Z03 P w K mg base):ar P w K mg base aQ 3 f fd ["floors","locked"] ut:=by
 rwa[F.ok uH (by symm) (λj A outer s H I Q E Y h=> ?_)];obtain ⟨fl,lo,rfl,L,J,q⟩:=h;rwa[⟨_,@g,?_⟩];obtain ⟨n,rfl⟩:=Int.eq_ofNat_of_zero_le (show 0<=fl by lia)
 have B:((2:Int)^((n:Int)).toNat)=((2^n:Nat):Int):=by rw [Int.toNat_natCast,Int.natCast_pow];rfl
 by_cases h1:0<=lo
 ·obtain ⟨M,rfl⟩:=Int.eq_ofNat_of_zero_le h1;left;erw[j9.mk _ rfl @c ?_];rw [B] at q;by_cases h2:(M:Int)<((2^n:Nat):Int)
  ·rwa[kJ h2 ?_];rwa[fi.mk _ 0 rfl @b ?_]
   have e:decide (0<=(M:Int)/\(M:Int)<((2^n:Nat):Int)/\(M:Int)% 2=0)= !(M.testBit 0):=by
    rw [Nat.testBit_zero,<-decide_not];exact decide_eq_decide.mpr ⟨λz=>by lia,λz=>⟨h1,h2,by lia⟩⟩
   rw [e] at q;exact q
  ·rwa[hU h2 ?_];rw [decide_eq_false (λz=>h2 z.2.1)] at q;left;exact q
 ·rw [decide_eq_false @cT] at q;left;exact q
unseal jq in
theorem IQ {AJ j:Addr}{t1 t2:Tok}(F:Z0 K "made_house" jA f fd)(bW:mg "tuple"=none)(i9:mg "LEAST_FLOORS"=some (.int 2 t1))(kN:mg "MOST_FLOORS"=some (.int 8 t2))(zI:mg "SORTS"=some (.ref j))(z9:∀H:Hp,aD K H j [.str "free",.str "way"])
(oh:aS P w K mg base 2 "fits_lifts" ["floors","lifts"] (yx K))(k7:aS P w K mg base 3 "fits_locked" ["floors","locked"] ut):
 ar P w K mg base @cm 4 f fd ["floors","lifts","locked","sort"] (jq K AJ):=by
 have B:ax (.int 2) (.int 2 t1):=⟨_,rfl⟩;have I:ax (.int 8) (.int 8 t2):=⟨_,rfl⟩;rwa[F.okX wK @bJ @y]
 ·obtain ⟨fl,a,lo,so,ls,rfl,_⟩:=h;rfl
 obtain ⟨fl,a,lo,so,ls,rfl,hD,hl,af,q⟩:=h;obtain ⟨xs,hq,dx⟩:=hD.out;obtain ⟨⟨f2,f8⟩,O,R,Z,W⟩:=u8.mp af;rwa[⟨_,(aa @bw (aa @bw (aa @bw (aa (ay (cB (oK rfl) (wv 3) (ky rfl zI) @N) @cn ap) (ac (aj (gc (av (wv 0) (av (aJ @eC rfl bW boot_tuple @bk) (av (wv 2) (av (wv 3) aq))))))))))),?_⟩];left;rwa[yx.mk _ _ _ rfl hD hl λH1 S=> ?_];rw [decide_eq_true O,R];rwa[bf rfl ?_];rwa[ut.mk _ _ rfl f2 f8 ?_];rw [decide_eq_true Z];rwa[bf rfl ?_];rwa[sr (z9 H1) rfl rfl ?_];rw [SJ];rwa[FM W ?_];have z:=S.any hq;have J:=aC.same dx S
 rcases z with z|z
 ·rwa[jo z λl H2 s2 n2 e2=> ?_];rwa[bZ (bq (by show 4<=1000000;decide)) λU H3 L n3 Y=> ?_];exact q _ _ ((S.trans s2).trans L) ⟨U,_,rfl,Y,.cons (.int _) (.cons (eO (aD.of (L.get e2)) (aC.same (aC.same J s2) L)) (.cons (.int _) (.cons (.str _) .nil)))⟩
 ·rwa[OA z ?_];rwa[bZ (bq (by show 4<=1000000;decide)) λU H3 L n3 Y=> ?_];exact q _ _ (S.trans L) ⟨U,_,rfl,Y,.cons (.int _) (.cons (eO (L.seqT z) (aC.same J L)) (.cons (.int _) (.cons (.str _) .nil)))⟩
inductive HM (K:Fg)(vs:List V)(H:Hp)(Q:VK)(_e:XK):Prop
 |mk (a h ru df C dx:_) (_:vs=[.ref a,.ref h,.ref ru,.ref df]) (_:H a=some (.ins C dx [])) (_:Hf K C) (_:∀H',eW a H H'->H' a=some (.ins C dx @eU)->Q .non H')
theorem Fb (F:bh K "__init__" "Court.__init__" jG f fd):ar P w K mg base aQ 1 f fd ["self","house","rule","dealer"] (HM K):=by
 rwa[F.ok wQ (by symm) (λz A outer s H L Q E Y h=> ?_)];obtain ⟨a,h,J,I,C,dx,rfl,B,j,q⟩:=h;rwa[⟨_,(aa @bE (aa (cE rfl (wv 0) (wv 2)) (ac (cE rfl (wv 0) (wv 3))))),?_⟩];rwa[cI B j.i.cl j.house @b ?_];rwa[cI af j.i.cl j.rule (by show 1<1000;decide) ?_];rwa[cI af j.i.cl j.dealer (by show 2<1000;decide) ?_];rwa[q _ (λb o n e=> ?_) af];rw [ag n,ag n,ag n];exact e
unseal fO in
theorem RV {C:Addr}{E:XK}{H:Hp}{h j I:Addr}{Q:VK}(F:Hf K C)(g:∀a dx H',ak H H'->H a=none->H' a=some (.ins C dx (mV h j I))->Q (.ref a) H'):fO C (HM K) E [.ref h,.ref j,.ref I] H Q:=by
 show ∀a dx,H a=none->H dx=none->dx≠a->HM K (.ref a::([.ref h,.ref j,.ref I]++[])) @p (λv H2=>v= .non/\Q (.ref a) H2) E;intro a dx h1 h2 L;have B:ak H @p:=d9 h1 h2;exact ⟨a,h,j,I,C,dx,rfl,af,F,λH' sp e=>⟨rfl,g a dx H' (λb o e=>sp b o (λz=>by rw [z,h1] at e;cases e) (B b o e)) h1 e⟩⟩
def xb (l:gb):Lf:=⟨l.start,l.room,l.turns,l.kind⟩
def xR (hs:Hs):Prop:=∀l∈hs.ls,0<=l.st/\l.st<hs.fl
theorem Pr {H:Hp}{x:V}{l:gb}(h:br K H x l.d):NE K H x (xb l):=by
 obtain ⟨a,xs,rfl,h1,h2⟩:=h.outT
 cases h2 with|cons q0 t0=>cases t0 with|cons q1 t1=>cases t1 with|cons q2 t2=>cases t2 with|cons q3 t3=>
 cases t3;cases q0.isInt;cases q1.isInt;cases q2.isInt;cases q3.isStr;exact ⟨a,rfl,h1⟩
theorem xh {H:Hp}{t:V}{fl:Int}{j:List gb}{lo:Int}{so:Str}(h:vO K H t fl j lo so)(ok:MG fl j lo so=true):∃p,t= .ref p/\lC K H p ⟨fl,j.map xb,lo.toNat,so⟩/\xR ⟨fl,j.map xb,lo.toNat,so⟩:=by
 obtain ⟨⟨Z,f8⟩,⟨l1,Y⟩,O,⟨J,_,_⟩,hs⟩:=u8.mp ok;obtain ⟨p,xs,rfl,h1,h2⟩:=h;unfold AR at h2
 cases h2 with|cons q0 t0=>cases t0 with|cons q1 t1=>cases t1 with|cons q2 t2=>cases t2 with|cons q3 t3=>
 cases t3;cases q0.isInt;cases q2.isInt;cases q3.isStr;obtain ⟨b,ys,rfl,U,I⟩:=q1.outT;have F:∀l∈j,gb.ok fl l=true:=λl W=>all_eq_true.mp O l W;rwa[⟨p,rfl,⟨⟨Z,f8,by show 1<=(j.map xb).length;rw [length_map];exact l1,by show (j.map xb).length<=3;rw [length_map];exact Y,λl W=> ?_,hs⟩,b,ys,?_,U,?_⟩,λl W=> ?_⟩]
 ·obtain ⟨m,B,rfl⟩:=mem_map.mp W;have z:=F m B;unfold gb.ok at z;have z:=of_decide_eq_true z;exact ⟨z.2.2.1,z.2.2.2.1,z.2.2.2.2.1,z.2.2.2.2.2.1,z.2.2.2.2.2.2⟩
 ·have e:((lo.toNat:Nat):Int)=lo:=by lia
  show aD K H p [.int fl,.ref b,.int ((lo.toNat:Nat):Int),.str so];rw [e];exact aD.of h1
 ·rwa[PySem.Paired.of (by rw [length_map];exact aG I) λi x l S R=> ?_];obtain ⟨m,B,L⟩:=bE I S;rw [getElem?_map,B] at R;cases R;exact Pr L
 ·obtain ⟨m,B,rfl⟩:=mem_map.mp W;have z:=F m B;unfold gb.ok at z;have z:=of_decide_eq_true z;exact ⟨z.1,z.2.1⟩
def Nu (l:Lf):Cb:=⟨2*l.st,0,0,0,[]⟩
inductive DP (K:Fg)(vs:List V)(H:Hp)(Q:VK)(_e:XK):Prop
 |mk (x l:_) (_:vs=[x]) (_:NE K H x l) (_:∀v H',ak H H'->d4 K H' v (Nu l)->Q v H')
theorem MB (F:Z0 K "cabin_of" qe f fd):ar P w K mg base aQ 1 f fd ["lift"] (DP K):=by
 rwa[F.ok BI (by symm) (λz A outer s H L Q E I h=> ?_)];obtain ⟨x,l,rfl,⟨b,rfl,O⟩,q⟩:=h;rwa[⟨_,@g,?_⟩];rwa[ao O rfl ?_];rwa[⟨fF @b @b,?_⟩];rwa[bZ (bq (by show 0<=1000000;decide)) λb H1 B J S=> ?_];exact bZ (bq (by show 5<=1000000;decide)) λa H2 R Y j=>q _ H2 (B.trans R) ⟨a,rfl,b,[],j,R _ _ S,.nil⟩
inductive uv (K:Fg)(vs:List V)(H:Hp)(Q:VK)(_e:XK):Prop
 |mk (a C dx h ru df hs:_) (_:vs=[.ref a]) (_:H a=some (.ins C dx @eU)) (_:Hf K C) (_:lC K H h hs) (_:∀st H',ak H H'->d8 K H' st (hs.ls.map Nu) [] ((hs.ls.length:Int) - 1) false->Q (.ref st) H')
theorem Fd (F:bh K "begin" "Court.begin" ik f fd)(bH:mg "len"=none)(bW:mg "tuple"=none)(tK:aS P w K mg base 1 "cabin_of" ["lift"] (DP K)):ar P w K mg base aQ 2 f fd ["self"] (uv K):=by
 rwa[F.ok km (by symm) @y];obtain ⟨a,C,dx,h,ru,df,hs,rfl,ea,W,⟨U,p,xs,h1,h2,h3⟩,q⟩:=h;have l3:=U.l3;have xl:=h3.len;rwa[⟨_,(aa (bM (i:=1) km.nd rfl @o (aJ @eC rfl bW boot_tuple (av (bD rfl (aB (N':=["lift"]) (pk:=[none]) @j) @a @h @r @h) aq))) @g),?_⟩];rwa[dG ea W.i.cl W.house (v:= .ref h) rfl ?_];rwa[ao h1 rfl ?_];rwa[d3 h2 ?_];rwa[cQ (xs:=xs) (λi ys H'=>ak H H'/\Paired (d4 K H') ys ((hs.ls.take i).map Nu)) @Z (λi ys H' p=> ?_) ⟨.refl _,by rw [take_zero];exact .nil⟩ (λi ys H' _ p=>p.1.seqT h2) (λi x ys H' L p=> ?_) (λys H' p l nl=> ?_)]
 ·rw [p.2.len,length_map,length_take];lia
 ·obtain ⟨I,B⟩:=p;obtain ⟨lf,S,O⟩:=h3.get1 L;obtain ⟨b,rfl,hb⟩:=O;rwa[⟨bQ,?_⟩];rwa[DP.mk _ _ rfl ⟨b,rfl,I.seqT hb⟩ λv H2 R hv=>⟨I.trans R,?_⟩];rw [take_add_one,S,map_append];exact Paired.app (Paired.imp' (λx c z=>d4.keep z R.st) B) (.cons hv .nil)
 ·obtain ⟨I,B⟩:=p;have R:ak H' (upd H' l (.lst ys)):= .upd nl;rw [xl,take_of_length_le @e] at B
  have yl:ys.length=hs.ls.length:=by rw [B.len,length_map]
  rwa[jo @eL λtc H3 s3 n3 Y=> ?_];rwa[bZ (bq (by show 0<=1000000;decide)) λtw H4 Z n4 e4=> ?_];erw[gm (aD.of (Z _ _ Y)) ?_];rw [yl];have j:=((R.trans s3).trans Z);rwa[bZ (bq (by show 4<=1000000;decide)) λst H5 J n5 e5=>q st H5 ((I.trans j).trans J) ⟨tc,tw,ys,[],aD.of e5,aD.of (J _ _ (Z _ _ Y)),aD.of (J _ _ e4),Paired.imp' (λx c z=>d4.keep z (j.trans J).st) B,.nil⟩]
def Dk.tx:Dk->Str
 | .near=>s!"near"| .least=>s!"least"| .turns=>s!"turns"
def DL (kn kl kT:Addr):Sp:=λvs H Q _=>∃(k:Dk) (h:Addr),vs=[.str k.tx,.ref h]/\Q (.ref (k.ad kn kl kT)) H
theorem SN {Y Z j h:Addr}{k:Dk}{H:Hp}{Q:VK}{E:XK}(g:Q (.ref (k.ad Y Z j)) H):DL Y Z j [.str k.tx,.ref h] H Q E:=⟨k,h,rfl,g⟩
theorem Pf {B z j:Addr}{J:Tok}(F:Z0 K "dealer_of" mv f fd)(Z:mg "len"=none)(W:mg "MOST_FIXED"=some (.int 9 J))(U:mg "near"=some (.ref B))(O:mg "least"=some (.ref z))(L:mg "by_turns"=some (.ref j)):ar P w K mg base @cm 2 f fd ["text","house"] (DL B z j):=by
 have I:ax (.int 9) (.int 9 J):=⟨_,rfl⟩;rwa[F.okX yO (λR H Q E h=> ?_) (λS A outer s H R Q E Y h=> ?_)]
 ·obtain ⟨k,h,rfl,_⟩:=h;rfl
 obtain ⟨k,h,rfl,q⟩:=h;rwa[⟨_,(aa (ay @a (ac (aj (ky rfl U))) ap) (aa (ay @a (ac (aj (ky rfl O))) ap) (aa (ay @a (ac (aj (ky rfl L))) ap) (aa @a (aa @a (aa @ed (aa @ed @cn))))))),?_⟩]
 cases k with
 |near=>
  rwa[kJ rfl ?_];exact q
 |least=>
  rwa[hU @z ?_];rwa[kJ rfl ?_];exact q
 |turns=>
  rwa[hU @z ?_];rwa[hU @z ?_];rwa[kJ rfl ?_];exact q
seal DL
theorem NO.uniq {hs:Hs}{wf:Wf}{M:MS}{i:Int}{c:Cb}{l:Lf}{rs:List aL}{A B:MS}(h:NO hs wf M i c l rs A)(k:NO hs wf M i c l rs B):A=B:=by
 obtain ⟨f,u,d,e,z,J,rfl⟩:=h;obtain ⟨F,O,L,I,av,j,rfl⟩:=k
 obtain rfl:f=F:=by lia
 rw [z.uniq av,J.uniq j]
theorem x9.uniq {hs:Hs}{wf:Wf}{M:MS}{i:Int}{c:Cb}{l:Lf}{A B:MS}(h:x9 hs wf M i c l A)(k:x9 hs wf M i c l B):A=B:=by
 unfold x9 at h k;split at h
 ·rename_i z;rw [if_pos z] at k;rw [h,k]
 ·rename_i z;rw [if_neg z] at k;split at h
  ·rename_i y;rw [if_pos y] at k;rw [h,k]
  ·rename_i y;rw [if_neg y] at k;exact h.uniq k
theorem CU.uniq {hs:Hs}{wf:Wf}{M:MS}{i:Int}{c:Cb}{l:Lf}{A B:MS}(h:CU hs wf M i c l A)(k:CU hs wf M i c l B):A=B:=by
 rcases h with ⟨h1,h2⟩|⟨h1,h2,L⟩|⟨h1,h2,L⟩<;>rcases k with ⟨O,Y⟩|⟨O,Y,R⟩|⟨O,Y,R⟩
 ·rw [h2,Y]
 ·rw [h1] at O;cases O
 ·rw [h1] at O;cases O
 ·rw [h1] at O;cases O
 ·rw [L,R]
 ·rw [h2] at Y;cases Y
 ·rw [h1] at O;cases O
 ·rw [h2] at Y;cases Y
 ·exact L.uniq R
theorem G3.uniq {hs:Hs}{wf:Wf}{M:MS}:∀ {n:Nat} {A B:MS},G3 hs wf n M A->G3 hs wf n M B->A=B
 |0,A,B,h,k=>by rw [show A=M from h,show B=M from k]
 |n+1,A,B,⟨M1,c1,l1,h1,h2,h3,h4⟩,⟨M2,c2,l2,k1,k2,k3,k4⟩=>by
  obtain rfl:=G3.uniq h1 k1
  have I:c1=c2:=by have:=h2.2.symm.trans k2.2;exact Option.some.inj this
  have W:l1=l2:=by have:=h3.symm.trans k3;exact Option.some.inj this
  subst I;subst W;exact h4.uniq k4
structure NM (hs:Hs)(n:Nat)(cs:List Cb)(ws:List aL)(last:Int):Prop where
 len:cs.length=hs.ls.length
 ck:∀c∈cs,ng hs.fl c
 rk:∀r∈ws,hV hs.fl r
 w:ws.length<=n
 l0:0<=last
theorem HH {so:Str}{room pl fl:Int}{s:CL}{r:aL}(J:room<=64)(W: -1<=s.light/\s.light<=1)(R:s.kept.length<=64)(j:∀p∈s.kept,0<=p.2/\p.2<fl)(Y:hV fl r):(-1<=(cN so room pl s r).light/\(cN so room pl s r).light<=1)/\(cN so room pl s r).kept.length<=64/\∀p∈(cN so room pl s r).kept,0<=p.2/\p.2<fl:=by
 unfold cN;split
 ·rename_i e;unfold gF at e
  have B:(s.kept.length:Int)<room:=by
   rw [Bool.and_eq_true,Bool.and_eq_true] at e;exact of_decide_eq_true e.1.2
  rwa[⟨?_,by show (s.kept++_).length<=64;rw [length_append];simp;lia,λp F=> ?_⟩]
  ·show -1<=(if so=s!"way" then v9 r else s.light)/\(if so=s!"way" then v9 r else s.light)<=1;split
   ·unfold v9;split<;>lia
   ·exact W
  ·rcases mem_append.mp F with z|z
   ·exact j p z
   ·rw [mem_singleton.mp z];exact ⟨Y.g0,Y.g1⟩
 ·exact ⟨W,R,j⟩
theorem pj {so:Str}{room pl fl:Int}(J:room<=64):∀(rs:List aL) (s:CL),(-1<=s.light/\s.light<=1)->s.kept.length<=64->(∀p∈s.kept,0<=p.2/\p.2<fl)->(∀r∈rs,hV fl r)->(-1<=(bo so room pl s rs).light/\(bo so room pl s rs).light<=1)/\(bo so room pl s rs).kept.length<=64/\∀p∈(bo so room pl s rs).kept,0<=p.2/\p.2<fl
 |[],s,hl,hk,hg,_=>⟨hl,hk,hg⟩
 |r::rs,s,hl,hk,hg,hr=>by
  have h:=HH (so:=so) (room:=room) (pl:=pl) (fl:=fl) J hl hk hg (hr r (.head _));exact pj J rs @bC h.1 h.2.1 h.2.2 λq L=>hr q (.tail _ L)
theorem DV {α:Type}{xs:List α}{i:Nat}{x:α}(h:xs[i]? =some x):xs.set i x=xs:=by
 obtain ⟨h1,h2⟩:=List.getElem?_eq_some_iff.mp h;rw [<-h2];exact set_getElem_self h1
theorem Dx {hs:Hs}{l:Lf}{c:Cb}{F:Str}{f0:Nat}(Y:ng hs.fl c)(e:c.pl=2*(f0:Int))(J: ¬0<c.dr)(I:F∈cF):ng hs.fl (pq hs l c F):=by
 have S:=Nh (hZ (so:=hs.so) (pl:=c.pl) (li:=c.li) (ps:=c.ps) I);have B:=Y.p0;have U:=Y.p1;have l0:=Y.l0;have l1:=Y.l1
 have j: -1<=(if c.ps=[] then (0:Int) else c.li)/\(if c.ps=[] then (0:Int) else c.li)<=1:=by split<;>lia
 unfold pq;generalize bv hs.so c.pl c.li c.ps F=x at S
 rcases S with rfl|rfl|rfl|rfl|rfl
 ·rw [Gf];exact ⟨B,U,l0,l1,Y.m0,λ_=>by show c.pl% 2=0;lia,Y.len,Y.gs⟩
 ·rw [Gd];exact ⟨B,U,by show (-1:Int)<=0;decide,by show (0:Int)<=1;decide,Y.m0,λ_=>by show c.pl% 2=0;lia,Y.len,Y.gs⟩
 ·by_cases z:c.pl / 2<hs.fl - 1
  ·rw [zM z];exact ⟨by show 0<=c.pl+1;lia,by show c.pl+1<=_;lia,by show (-1:Int)<=1;decide,by show (1:Int)<=1;decide,Y.m0,λy=>absurd y J,Y.len,Y.gs⟩
  ·rw [zN z];exact ⟨B,U,j.1,j.2,Y.m0,λy=>absurd y J,Y.len,Y.gs⟩
 ·by_cases z:0<c.pl
  ·rw [zO z];exact ⟨by show 0<=c.pl - 1;lia,by show c.pl - 1<=_;lia,by show (-1:Int)<= -1;decide,by show (-1:Int)<=1;decide,Y.m0,λy=>absurd y J,Y.len,Y.gs⟩
  ·rw [zP z];exact ⟨B,U,j.1,j.2,Y.m0,λy=>absurd y J,Y.len,Y.gs⟩
 ·rw [Ge];exact ⟨B,U,j.1,j.2,Y.m0,λy=>absurd y J,Y.len,Y.gs⟩
theorem mK {so:Str}{li:Int}{a b c:Bool}:0<=dQ so li a b c/\dQ so li a b c<=2:=by
 unfold dQ;split
 ·lia
 ·split
  ·lia
  ·split<;>lia
theorem CU.ok {hs:Hs}{wf:Wf}{M M':MS}{i:Int}{c:Cb}{l:Lf}(h:CU hs wf M i c l M')(Y:ng hs.fl c)(I:atC M i c)(l6:l.rm<=6)(j:M.fire=false)(R:∀fl li he up dn,eV li he up dn->wf fl li he up dn∈cF)(J:∀r∈M.ws,hV hs.fl r):M'.fire=false/\M'.last=M.last/\∃c',ng hs.fl c'/\M'.cs=M.cs.set i.toNat c':=by
 rcases h with ⟨_,rfl⟩|⟨_,h2,_⟩|⟨_,_,L⟩
 ·exact ⟨j,rfl,c,Y,(DV I.2).symm⟩
 ·rw [j] at h2;cases h2
 ·unfold x9 at L;split at L
  ·rename_i z;subst L;rwa[⟨j,rfl,_,?_,rfl⟩];have ax:∀r∈aF i M,hV hs.fl r:=λr aj=>J r (by unfold aF at aj;exact (mem_filter.mp aj).1);have S:∀p∈dE c.pl c.ps,0<=p.2/\p.2<hs.fl:=λp F=>Y.gs p (mem_filter.mp F).1;have st:=pj (so:=hs.so) (pl:=c.pl) (fl:=hs.fl) (show l.rm<=64 by lia) @co ⟨c.li,dE c.pl c.ps,[]⟩ ⟨Y.l0,Y.l1⟩ (Nat.le_trans @bd Y.len) S ax;exact ⟨Y.p0,Y.p1,st.1.1,st.1.2,Y.m0,λ_=>Y.ev z,st.2.1,st.2.2⟩
  ·rename_i z;split at L
   ·rename_i y;subst L;have Z:=Y.p0;have W:=Y.p1;have l0:=Y.l0;have l1:=Y.l1;exact ⟨j,rfl,⟨c.pl+c.li,c.li,0,c.mr,c.ps⟩,⟨by show 0<=c.pl+c.li;lia,by show c.pl+c.li<=_;lia,l0,l1,Y.m0,λy=>absurd y (by show ¬(0:Int)<0;decide),Y.len,Y.gs⟩,rfl⟩
   ·obtain ⟨U,u,d,e,B,O,rfl⟩:=L;rwa[⟨j,rfl,_,Dx Y e z (R _ _ _ _ _ ?_),rfl⟩];exact ⟨Y.l0,Y.l1,mK.1,mK.2,by rcases B with ⟨h,_⟩|⟨h,_⟩<;>lia,by rcases O with ⟨h,_⟩|⟨h,_⟩<;>lia⟩
theorem G3.ok {hs:Hs}{wf:Wf}{M:MS}(R:hs.ok)(O:∀fl li he up dn,eV li he up dn->wf fl li he up dn∈cF)(J:M.fire=false)(I:∀c∈M.cs,ng hs.fl c)(Y:∀r∈M.ws,hV hs.fl r)(L:M.ws.length<=64):∀ {n:Nat} {M':MS},G3 hs wf n M M'->M'.fire=false/\M'.last=M.last/\(∀c∈M'.cs,ng hs.fl c)/\jh hs M n M'
 |0,M',h=>by
  obtain rfl:M'=M:=h;exact ⟨J,rfl,I,⟨rfl,λ_ _=>rfl,λ_ h=>h,Nat.le_refl _,by lia,rfl⟩⟩
 |n+1,M',⟨M1,c,l,h1,h2,h3,h4⟩=>by
  obtain ⟨W,l1,c1,B⟩:=G3.ok R O J I Y L h1;have j:c∈M1.cs:=mem_of_getElem? h2.2;have S:M1.ws.length<=64:=Nat.le_trans B.wl L;obtain ⟨g1,g2,c',U,Z⟩:=h4.ok (c1 c j) h2 (R.lf l (mem_of_getElem? h3)).2.1 W O λr aj=>Y r (B.ws r aj);rwa[⟨g1,g2.trans l1,λx F=> ?_,B.go (c1 c j).len S h4⟩];rw [Z] at F
  rcases AC F with z|z
  ·exact c1 x z
  ·rw [z];exact U
theorem Lw {bs:List Bool}{first:Int}(h:0<=first): -1<=sf bs first:=by
 have L:∀(n k:Nat),-1<=Lx bs first k n:=by
  intro n
  induction n with
  |zero=>intro k;simp [Lx]
  |succ n ih=>
   intro k;unfold Lx;split
   ·by_cases z:(bs.length:Int)=0
    ·rw [z,Int.emod_zero];lia
    ·have:=Int.emod_nonneg (first+(k:Int)) z;lia
   ·exact ih _
 exact L _ _
theorem Gh {k:Dk}{cs:List Cb}{ws:List aL}{r:aL}{last:Int}(h:0<=last):0<=(jJ k cs ws r last).2:=by
 cases k with
 |near=>exact h
 |least=>exact h
 |turns=>
  show 0<=(if ez cs last= -1 then last else ez cs last);split
  ·exact h
  ·have:=Lw (bs:=aY @U) (first:=last+1) @c;rename_i z;unfold ez at z ⊢;lia
theorem qO {dl:vV}(J:∀cs ws r last,0<=last->0<=(dl cs ws r last).2){W:List aL}{M:MS}(h:0<=M.last):∀i,0<=(aO dl W i M).last/\(aO dl W i M).fire=M.fire
 |0=>⟨h,rfl⟩
 |i+1=>by
  have j:=qO J (W:=W) h i;unfold aO;split
  ·split
   ·unfold fS;split
    ·exact ⟨J _ _ _ _ j.1,j.2⟩
    ·exact ⟨J _ _ _ _ j.1,j.2⟩
   ·exact j
  ·exact j
theorem F7 {α:Type}{CX:nh}{k:Nat}{ps:List Str}{sp:α->Sp}(F:∀a,ar P w K mg base CX k f fd ps (sp a))(I:∀vs H Q E,(∃a,sp a vs H Q E)->vs.length=ps.length):ar P w K mg base CX k f fd ps (λvs H Q E=>∃a,sp a vs H Q E):=
 ⟨λvs H Q E ⟨a,q⟩=>(F a).len vs H Q E q,λA outer s H z j vs Q E Y S B W ⟨a,hs⟩=>(F a).run A outer s H z j vs Q E Y S B W hs⟩
theorem A5 {n:Nat}{x:Str}{ps:List Str}{sp j:Sp}(c:aS P w K mg base n x ps sp)(h:∀vs H Q E,j vs H Q E->sp vs H Q E):aS P w K mg base n x ps j:=by
 obtain ⟨f,fd,F,b⟩:=c.ex;exact ⟨f,fd,F.imp h,b⟩
def oP (P:Program)(w:World)(K:Fg)(mg:Str->Option Value)(base:Heap)(C Pn Pl:Addr):Sp:=λvs H Q E=>∃k:Dk,uu P w K mg base C @ce qi (jJ k) vs H Q E
def j6 (P:Program)(w:World)(K:Fg)(mg:Str->Option Value)(base:Heap)(C Pn Pl:Addr):Sp:=λvs H Q E=>∃k:Dk,j8 P w K mg base C @ce qi (jJ k) vs H Q E
def jX (P:Program)(w:World)(K:Fg)(mg:Str->Option Value)(base:Heap)(Pn Pl:Addr):Sp:=λvs H Q E=>∃k:Dk,yq P w K mg base @ce qi (jJ k) vs H Q E
theorem E9 {C Pn Pl:Addr}{I:Tok}(F:Z0 K "deal" Aw f fd)(B:xY K C)(J:mg "tuple"=none)(j:mg "NO_LIFT"=some (.int (-1) I))(z:aS P w K mg base 1 "dealt_to" ["rider","lift"] (oO K)):ar P w K mg base aQ 6 f fd ["moment","dealer","place","rider"] (oP P w K mg base C Pn Pl):=
 F7 (λk=>AA (dl:=jJ k) (pre:=qi) F kK B J j z) λL H Q E ⟨k,h⟩=>(AA (P:=P) (w:=w) (base:=base) (dl:=jJ k) (pre:=qi) F kK B J j z).len L H Q E h
theorem B2 {C Pn Pl:Addr}{B:Tok}(F:Z0 K "deal_all" ko f fd)(J:xY K C)(O:mg "list"=none)(z:mg "enumerate"=none)(j:mg "NO_LIFT"=some (.int (-1) B))(I:aS P w K mg base 6 "deal" ["moment","dealer","place","rider"] (oP P w K mg base C Pn Pl)):ar P w K mg base aQ 7 f fd ["moment","dealer"] (j6 P w K mg base C Pn Pl):=by
 have G:∀k,ar P w K mg base aQ 7 f fd ["moment","dealer"] (j8 P w K mg base C @ce qi (jJ k)):=λk=>Fa F kK J O z j (A5 I λL H Q E h=>⟨k,h⟩);exact F7 G λL H Q E ⟨k,h⟩=>(G k).len L H Q E h
theorem EQ {Y Pn Pl:Addr}(F:bh K "turn" "Court.turn" gz f fd)(R:xY K Y)(Z:mg "len"=none)(J:mg "range"=none)(I:aS P w K mg base 7 "need_deeds" ["house","state","deeds"] (Ar K))(O:iC P w K mg base aQ 1 "Moment" Y (DH K))(B:aS P w K mg base 5 "do_deed" ["moment","deed"] (HL K Y))(j:aS P w K mg base 7 "deal_all" ["moment","dealer"] (j6 P w K mg base Y Pn Pl))(bj:aS P w K mg base 8 "go" ["moment","rule","lift"] (HK P w K mg base Y))(z:aS P w K mg base 1 "state_of" ["moment"] (Aq K Y)):ar P w K mg base aQ 9 f fd ["self","state","deeds"] (jX P w K mg base Pn Pl):=by
 have G:∀k,ar P w K mg base aQ 9 f fd ["self","state","deeds"] (yq P w K mg base @ce qi (jJ k)):=λk=>IH kK F R Z J I O B (A5 j λL H Q E h=>⟨k,h⟩) bj z;exact F7 G λL H Q E ⟨k,h⟩=>(G k).len L H Q E h
seal oP j6
def xU (fl:Int)(k:Int×Int):Prop:=0<=k.1/\k.1<fl/\0<=k.2/\k.2<fl/\k.1≠k.2
def iG (K:Fg)(H:Hp)(p:Addr)(fl:Int)(ks:List (Int×Int)):Prop:=∃xs,H p=some (.lst xs)/\aC K H xs @gl/\1<=ks.length/\ks.length<=4/\∀k∈ks,xU fl k
theorem iG.nt {H H':Hp}(s:aM H H'){p:Addr}{fl:Int}{ks:List (Int×Int)}(h:iG K H p fl ks):iG K H' p fl ks:=by
 obtain ⟨xs,h1,h2,r⟩:=h;exact ⟨xs,s _ _ (λ_ z=>by cases z) h1,s.dens h2,r⟩
structure vU (K:Fg)(H:Hp)(st:Addr)(hs:Hs)(n:Nat)(cs:List Cb)(ws:List aL)(last:Int):Prop where
 a:d8 K H st cs ws last false
 o:NM hs n cs ws last
 h:hs.ok
theorem vU.nt {H H':Hp}(s:aM H H'){st:Addr}{hs:Hs}{n:Nat}{cs:List Cb}{ws:List aL}{last:Int}(h:vU K H st hs n cs ws last):vU K H' st hs n cs ws last:=⟨sk s h.a,h.o,h.h⟩
theorem vU.cl {H:Hp}{st:Addr}{hs:Hs}{n:Nat}{cs:List Cb}{ws:List aL}{last:Int}(h:vU K H st hs n cs ws last):cs.length<=10:=by have:=h.o.len;have:=h.h.l3;lia
theorem vU.c64 {H:Hp}{st:Addr}{hs:Hs}{n:Nat}{cs:List Cb}{ws:List aL}{last:Int}(h:vU K H st hs n cs ws last):∀c∈cs,c.ps.length<=64:=λc I=>(h.o.ck c I).len
def fB (K:Fg):Sp:=λvs H Q _=>∃st hs n cs ws last k,vs=[.ref st,.int k]/\vU K H st hs n cs ws last/\n<=64/\∀H',ak H H'->Q (.bl (decide (k∈bu cs ws))) H'
theorem Ew {H:Hp}{st:Addr}{hs:Hs}{n:Nat}{cs:List Cb}{ws:List aL}{last k:Int}{Q:VK}{E:XK}(h1:vU K H st hs n cs ws last)(h2:n<=64)(g:∀H',ak H H'->Q (.bl (decide (k∈bu cs ws))) H'):fB K [.ref st,.int k] H Q E:=⟨st,hs,n,cs,ws,last,k,rfl,h1,h2,g⟩
theorem IM (F:Z0 K "present" pX f fd)(R:aS P w K mg base 1 "tags_in" ["state"] (pA K)):ar P w K mg base aQ 2 f fd ["state","kind"] (fB K):=by
 rwa[F.ok Bz (λz H Q E h=> ?_) (λI A outer s H z Q E Y h=> ?_)]
 ·obtain ⟨st,hs,n,B,j,L,k,rfl,_⟩:=h;rfl
 obtain ⟨st,hs,n,B,j,L,k,rfl,O,bm,q⟩:=h;rwa[⟨_,@g,?_⟩];rwa[pA.mk _ _ _ _ _ rfl O.a (Nat.le_trans O.o.w bm) O.c64 O.cl λl H1 J S=> ?_];rwa[pJ (az.of S) rfl (mP _) ?_];rw [vm];exact q H1 J
seal fB
def F0 (ts:List Int)(i:Nat):List Int:=((List.range i).filter λ(k:Nat)=> !decide ((k:Int)∈ts)).map λk:Nat=>(k:Int)
def jK (n:Nat)(ts:List Int):List Int:= -1::F0 ts n
theorem oX {ts:List Int}{i:Nat}:(F0 ts i).length<=i:=by
 unfold F0;rw [length_map];exact Nat.le_trans @bd @f
def DO (K:Fg):Sp:=λvs H Q _=>∃st kp hs n cs ws last fl ks,vs=[.ref st,.ref kp]/\vU K H st hs n cs ws last/\n<=64/\iG K H kp fl ks/\∀l H',ak H H'->H l=none->H' l=some (.lst ((jK ks.length @cM).map V.int))->Q (.ref l) H'
theorem SO {H:Hp}{st J:Addr}{hs:Hs}{n:Nat}{cs:List Cb}{ws:List aL}{last fl:Int}{ks:List (Int×Int)}{Q:VK}{E:XK}(h1:vU K H st hs n cs ws last)(h2:n<=64)(L:iG K H J fl ks)(g:∀l H',ak H H'->H l=none->H' l=some (.lst ((jK ks.length @cM).map V.int))->Q (.ref l) H'):DO K [.ref st,.ref J] H Q E:=⟨st,J,hs,n,cs,ws,last,fl,ks,rfl,h1,h2,L,g⟩
theorem A3 {i:Nat}{ts:List Int}:F0 ts (i+1)=F0 ts i++if decide ((i:Int)∈ts)=true then [] else [(i:Int)]:=by
 unfold F0;rw [range_succ,filter_append,map_append];congr 1;cases e:decide ((i:Int)∈ts)<;>simp [e]
theorem Pg {J:Tok}(F:Z0 K "choices" qd f fd)(bH:mg "len"=none)(aU:mg "range"=none)(oW:mg "NOBODY"=some (.int (-1) J))(k6:aS P w K mg base 2 "present" ["state","kind"] (fB K)):ar P w K mg base aQ 3 f fd ["state","kinds"] (DO K):=by
 have Ig:ax (.int (-1)) (.int (-1) J):=⟨_,rfl⟩;rwa[F.ok BH (λZ H Q E h=> ?_) (λaa A outer s H Z Q E hr h=> ?_)]
 ·obtain ⟨st,kp,hs,n,j,O,L,fl,ks,rfl,_⟩:=h;rfl
 obtain ⟨st,kp,hs,n,j,O,L,fl,ks,rfl,hS,bm,⟨xs,Y,hd,k1,k4,hk⟩,q⟩:=h;have U:xs.length=ks.length:=aG hd;rwa[⟨_,(ac (aj (cz @dU @a (bD rfl (aB (N':=["kind","state"]) (pk:=[none,some 0]) @j) @fz @h (λC s H ex=>(d7 (dB @a))) @R)))),?_⟩];rwa[fP @bv λl1 H1 I n1 e1=> ?_];erw[cf (az.of (I _ _ Y)) ?_];rw [U];rwa[⟨⟨by lia,by lia⟩,?_⟩];rwa[gI (λi ys H'=>ak H1 H'/\ys=(F0 (bu j O) i).map V.int) @Z (λi ys H' p=> ?_) ⟨.refl _,rfl⟩ (λi ys H' hi p=> ?_) (λys H' p l nl=> ?_)]
 ·rw [p.2,length_map];exact oX
 ·obtain ⟨B,rfl⟩:=p;rwa[⟨bQ,?_⟩];rwa[Ew ((hS.nt I.nt).nt B.nt) bm λH2 R=> ?_]
  have i0:(0:Int)+(i:Nat)=((i:Nat):Int):=by lia
  rw [i0];ext
  cases S:decide ((i:Int)∈bu j O) with
  |true=>
   rwa[⟨B.trans R,?_⟩];rw [A3,S];simp
  |false=>
   rwa[⟨B.trans R,?_⟩];rw [A3,S];simp
 ·obtain ⟨B,rfl⟩:=p;rw [show ((ks.length:Int)).toNat=ks.length by lia];have R:ak H' (upd H' l (.lst ((F0 (bu j O) ks.length).map V.int))):= .upd nl;rwa[A4 (R _ _ (B _ _ e1)) af (bq ?_) λl3 W s3 n3 e3=> ?_]
  ·have:=oX (ts:=bu j O) (i:=ks.length);simp only [length_map,length_cons,length_nil];lia
  ·have z:=((I.trans B).trans R).trans s3;rwa[q l3 W z (none_of ((I.trans B).trans R) n3) ?_];rw [e3];rfl
seal DO
def om (hs:Hs)(wf:Wf)(k:Dk)(cs:List Cb)(ws:List aL)(last:Int)(ds:List Dd)(cs':List Cb)(ws':List aL)(last':Int):Prop:=∃M',G3 hs wf hs.ls.length (oz (jJ k) @v) M'/\M'.cs=cs'/\M'.ws=ws'/\M'.last=last'
theorem om.uniq {hs:Hs}{wf:Wf}{k:Dk}{cs:List Cb}{ws:List aL}{last:Int}{ds:List Dd}{a F:List Cb}{b L:List aL}{c z:Int}(h:om hs wf k cs ws last ds a b c)(h':om hs wf k cs ws last ds F L z):a=F/\b=L/\c=z:=by
 obtain ⟨M,h1,rfl,rfl,rfl⟩:=h;obtain ⟨M',j,rfl,rfl,rfl⟩:=h';rw [h1.uniq j];exact ⟨rfl,rfl,rfl⟩
def Aa (fl:Int)(ts:List Int)(ds:List Dd):Prop:=ds=[]\/∃t s g,ds=[.come t s g false]/\xU fl (s,g)/\t∉ts
theorem Aa.good {fl:Int}{n:Nat}{ts:List Int}{ds:List Dd}(h:Aa fl ts ds):zH fl n ts ds:=by
 rcases h with rfl|⟨t,s,g,rfl,k,J⟩
 ·trivial
 ·exact ⟨k,λu j z=>by rw [mem_singleton.mp j] at z;exact J z,trivial⟩
theorem Aa.deeds {fl:Int}{ts:List Int}{ds:List Dd}{lo:Nat}{cs:List Cb}{ws:List aL}{last:Int}(h:Aa fl ts ds)(Y:∀r∈ws,hV fl r):(aN lo ⟨cs,ws,last,false,0,[]⟩ ds).fire=false/\(aN lo ⟨cs,ws,last,false,0,[]⟩ ds).cs=cs/\(aN lo ⟨cs,ws,last,false,0,[]⟩ ds).last=last/\(aN lo ⟨cs,ws,last,false,0,[]⟩ ds).ws.length<=ws.length+1/\∀r∈(aN lo ⟨cs,ws,last,false,0,[]⟩ ds).ws,hV fl r:=by
 rcases h with rfl|⟨t,s,g,rfl,⟨O,j,R,L,B⟩,J⟩
 ·exact ⟨rfl,rfl,rfl,Nat.le_succ _,Y⟩
 ·show (eS lo ⟨cs,ws,last,false,0,[]⟩ t s g false).fire=false/\(eS lo ⟨cs,ws,last,false,0,[]⟩ t s g false).cs=cs/\(eS lo ⟨cs,ws,last,false,0,[]⟩ t s g false).last=last/\(eS lo ⟨cs,ws,last,false,0,[]⟩ t s g false).ws.length<=ws.length+1/\∀r∈(eS lo ⟨cs,ws,last,false,0,[]⟩ t s g false).ws,hV fl r;unfold eS;split
  ·exact ⟨rfl,rfl,rfl,Nat.le_succ _,Y⟩
  ·rw [if_neg (λz=>by have z:false=true:=z;cases z)];rwa[⟨rfl,rfl,rfl,by simp,λr aj=> ?_⟩]
   rcases mem_append.mp aj with z|z
   ·exact Y r z
   ·rw [mem_singleton.mp z];exact ⟨O,j,R,L,B⟩
theorem JZ {Pn Pl C:Addr}{H:Hp}{a st J dx h R Y:Addr}{hs:Hs}{wf:Wf}{cs:List Cb}{ws:List aL}{last:Int}{ds:List Dd}{n:Nat}{k:Dk}{Q:VK}{E:XK}(h1:H a=some (.ins C dx (mV h R Y)))(cC:Hf K C)(hH:lC K H h hs)(ag:CS P w K mg base H R wf)(Z:jP P w K mg base 5 Y @dV)(hg:ow Pn Pl H)(O:vU K H st hs n cs ws last)(ac:n<60)(S:xW K H J ds)(hd:Aa hs.fl @cM ds)
(g:∀r st' ll cs' ws' last' H',aM H H'->ow Pn Pl H'->H' r=some (.tup [.ref st',.ref ll])->vU K H' st' hs (n+1) cs' ws' last'->om hs wf k cs ws last ds cs' ws' last'->Q (.ref r) H'):jX P w K mg base Pn Pl [.ref a,.ref st,.ref J] H Q E:=by
 have ak:=hd.good (n:=hs.ls.length);have hw:=O.o.w
 have al:ds.length<=1:=by rcases hd with rfl|⟨t,s,g,rfl,_⟩<;>simp
 obtain ⟨f1,c1,l1,w1,r1⟩:=hd.deeds (lo:=hs.lo) (cs:=cs) (last:=last) O.o.rk;have B:∀i,0<=(aO (jJ k) (aN hs.lo ⟨cs,ws,last,false,0,[]⟩ ds).ws i @v).last/\(aO (jJ k) (aN hs.lo ⟨cs,ws,last,false,0,[]⟩ ds).ws i @v).fire=(aN hs.lo ⟨cs,ws,last,false,0,[]⟩ ds).fire:=qO (λ_ _ _ _ h=>Gh h) (by rw [l1];exact O.o.l0)
 have aa:∀fl li he up dn,eV li he up dn->wf fl li he up dn∈cF:=by
  obtain ⟨_,_,_,_,_,_,_,z,_⟩:=ag;exact z
 have ab:=O.h.l1;have ad:=O.h.l3;have cl:=O.o.len;rwa[⟨k,a,st,J,C,dx,h,R,Y,hs,wf,cs,ws,last,ds,rfl,h1,cC,hH,ag,Z,hg,O.a,S,⟨O.o.len,O.o.ck,O.o.rk,by simp⟩,by lia,ak,λi r _ _=> ?_,λr st' ll M' H' sN U er aR aV=> ?_⟩]
 ·have j:=eQ (dl:=jJ k) (W:=(aN hs.lo ⟨cs,ws,last,false,0,[]⟩ ds).ws) (M:=aN hs.lo ⟨cs,ws,last,false,0,[]⟩ ds) i;rwa[⟨?_,?_,?_,(B i).1⟩]
  ·rw [j.2.1,c1];lia
  ·rw [j.2.1,c1];lia
  ·rw [j.1];lia
 ·have mo:rC hs (ws.length+1) @v:=by
   have z:rC hs ws.length ⟨cs,ws,last,false,0,[]⟩:=⟨O.o.len,O.o.ck,O.o.rk,by simp⟩;have:=z.deeds (ds:=ds) (λd I=> ?_) ds.length
   ·rw [take_of_length_le @e] at this;exact ⟨this.len,this.cs,this.ws,by have:=this.sum;lia⟩
   ·exact zG ak d I
  have j:=eQ (dl:=jJ k) (W:=(aN hs.lo ⟨cs,ws,last,false,0,[]⟩ ds).ws) (M:=aN hs.lo ⟨cs,ws,last,false,0,[]⟩ ds) (aN hs.lo ⟨cs,ws,last,false,0,[]⟩ ds).ws.length;have L:=mo.deals (dl:=jJ k) mo.ws (aN hs.lo ⟨cs,ws,last,false,0,[]⟩ ds).ws.length;obtain ⟨g1,g2,g3,F⟩:=aV.ok O.h aa ((B _).2.trans f1) L.cs L.ws (by rw [j.1];lia);rwa[g r st' ll M'.cs M'.ws M'.last H' sN U er ⟨?_,⟨?_,g3,λr hr=>L.ws r (F.ws r hr),?_,?_⟩,O.h⟩ ⟨M',aV,rfl,rfl,rfl⟩]
  ·rw [g1] at aR;exact aR
  ·rw [F.len];exact L.len
  ·have:=F.wl;rw [j.1] at this;lia
  ·rw [g2];exact (B _).1
seal jX
structure G6 (P:Program)(w:World)(K:Fg)(mg:Str->Option Value)(base:Heap)(C Pn Pl:Addr)(H:Hp)(a:Addr)(hs:Hs)(wf:Wf)(k:Dk):Prop where
 ex:∃dx h ru df,H a=some (.ins C dx @eU)/\lC K H h hs/\CS P w K mg base H ru wf/\jP P w K mg base 5 df @dV
 gg:ow Pn Pl H
theorem G6.nt {C Pn Pl:Addr}{H H':Hp}{a:Addr}{hs:Hs}{wf:Wf}{k:Dk}(c:G6 P w K mg base C Pn Pl H a hs wf k)(s:aM H H')(g:ow Pn Pl H'):G6 P w K mg base C Pn Pl H' a hs wf k:=by
 obtain ⟨dx,h,B,I,h1,h2,L,j⟩:=c.ex;exact ⟨⟨dx,h,B,I,s _ _ (λ_ z=>by cases z) h1,Kg s h2,J2 s L,j⟩,g⟩
theorem G6.same {C Pn Pl:Addr}{H H':Hp}{a:Addr}{hs:Hs}{wf:Wf}{k:Dk}(c:G6 P w K mg base C Pn Pl H a hs wf k)(s:ak H H'):G6 P w K mg base C Pn Pl H' a hs wf k:=c.nt s.nt (kK _ _ s.st c.gg)
def Af (n:Nat)(ts:List Int)(ch:Int):Prop:=ch= -1\/(0<=ch/\ch<(n:Int)/\ch∉ts)
def CQ (ks:List (Int×Int))(ch:Int):List Dd:=if ch= -1 then [] else [.come ch (ks.getD ch.toNat (0,0)).1 (ks.getD ch.toNat (0,0)).2 false]
theorem Nt {fl:Int}{ks:List (Int×Int)}{ts:List Int}{ch:Int}(R:∀k∈ks,xU fl k)(h:Af ks.length ts ch):Aa fl ts (CQ ks ch):=by
 unfold CQ
 rcases h with rfl|⟨B,h1,h2⟩
 ·rw [if_pos rfl];exact .inl rfl
 ·rw [if_neg @c];rwa[.inr ⟨_,_,_,rfl,?_,h2⟩]
  have:ch.toNat<ks.length:=by lia
  rw [getD_eq_getElem?_getD,getElem?_eq_getElem this];exact R _ (getElem_mem this)
def wz (P:Program)(w:World)(K:Fg)(mg:Str->Option Value)(base:Heap)(C Pn Pl:Addr):Sp:=λvs H Q _=>∃a kp st ch hs wf k n cs ws last ks,vs=[.ref a,.ref kp,.ref st,.int ch]/\G6 P w K mg base C Pn Pl H a hs wf k/\iG K H kp hs.fl ks/\vU K H st hs n cs ws last/\n<60/\Af ks.length @cM ch/\∀st' cs' ws' last' H',aM H H'->ow Pn Pl H'->vU K H' st' hs (n+1) cs' ws' last'->om hs wf k cs ws last (CQ ks ch) cs' ws' last'->Q (.ref st') H'
theorem RX {C Pn Pl:Addr}{H:Hp}{a J st:Addr}{ch:Int}{hs:Hs}{wf:Wf}{k:Dk}{n:Nat}{cs:List Cb}{ws:List aL}{last:Int}{ks:List (Int×Int)}{Q:VK}{E:XK}(h1:G6 P w K mg base C Pn Pl H a hs wf k)(h2:iG K H J hs.fl ks)(L:vU K H st hs n cs ws last)(j:n<60)(S:Af ks.length @cM ch)(g:∀st' cs' ws' last' H',aM H H'->ow Pn Pl H'->vU K H' st' hs (n+1) cs' ws' last'->om hs wf k cs ws last (CQ ks ch) cs' ws' last'->Q (.ref st') H'):wz P w K mg base C Pn Pl [.ref a,.ref J,.ref st,.int ch] H Q E:=⟨a,J,st,ch,hs,wf,k,n,cs,ws,last,ks,rfl,h1,h2,L,j,S,g⟩
theorem Pw {H:Hp}{xs:List V}{ks:List (Int×Int)}{ch:Int}(J:aC K H xs @gl)(B:0<=ch)(h1:ch<(ks.length:Int)):∃b,oF xs ch=some (.ref b)/\aD K H b [.int (ks.getD ch.toNat (0,0)).1,.int (ks.getD ch.toNat (0,0)).2]:=by
 have U:xs.length=ks.length:=aG J;obtain ⟨j,rfl⟩:=Int.eq_ofNat_of_zero_le B
 have Z:j<xs.length:=by lia
 obtain ⟨p,z,F,e,O⟩:=kz J (getElem?_eq_getElem Z);rwa[⟨z,by rw [bz (getElem?_eq_getElem Z),e],?_⟩];rw [show ((j:Int)).toNat=j by lia,getD_eq_getElem?_getD,F];exact O
theorem Mq {kC Pn Pl:Addr}{t1:Tok}(F:Z0 K "led" LC f fd)(oW:mg "NOBODY"=some (.int (-1) t1))(cC:Hf K kC)(fz:iE P w K mg base aQ 9 "turn" kC (jX P w K mg base Pn Pl)):ar P w K mg base aQ 10 f fd ["court","kinds","state","choice"] (wz P w K mg base kC Pn Pl):=by
 have Ig:ax (.int (-1)) (.int (-1) t1):=⟨_,rfl⟩;rwa[F.ok OL @bJ @bi]
 ·obtain ⟨a,kp,st,I,hs,wf,k,n,cs,ws,W,ks,rfl,_⟩:=h;rfl
 obtain ⟨a,kp,st,I,hs,wf,k,n,cs,ws,W,ks,rfl,hC,hK,hS,U,Y,q⟩:=h;rwa[⟨_,(aa @a (ac (aj (sG @fM (oJ (n:=9) gS hr @b (wv 0) (av (wv 2) (av (wv 4) aq))) bA @cv)))),?_⟩]
 have ab:Aa hs.fl @cM (CQ ks I):=by obtain ⟨_,_,_,_,_,hk⟩:=hK;exact Nt hk Y
 ext;by_cases z:I= -1
 ·rwa[kJ z ?_];rwa[fP @bv λdp H9 B n9 e9=> ?_]
  have L:xW K H9 dp (CQ ks I):=by unfold CQ;rw [if_pos z];exact ⟨[],az.of e9,.nil⟩
  obtain ⟨dx,h,ru,df,e1,e2,e3,e4⟩:=(hC.same B).ex;rwa[iL e1 rfl fz ?_];rwa[JZ e1 cC e2 e3 e4 (hC.same B).gg (hS.nt B.nt) U L ab λr J ll S R j H3 sN g3 er O ht=> ?_];rwa[ao (aD.of er) rfl ?_];exact q J S R j H3 (B.nt.trans sN) g3 O ht
 ·rwa[hU z ?_]
  obtain ⟨h0,h1,h2⟩:0<=I/\I<(ks.length:Int)/\I∉bu cs ws:=by rcases Y with y|y;exact absurd y z;exact y
  obtain ⟨xs,hx,hd,_,_,_⟩:=id hK;obtain ⟨b,hb,hT⟩:=Pw hd h0 h1;rwa[bd (az.of hx) hb ?_];rwa[ao hT rfl ?_];rwa[bd (az.of hx) hb ?_];rwa[ao hT rfl ?_];rwa[bZ (bq (by show 5<=1000000;decide)) λdt H8 s8 n8 e8=> ?_];rwa[fP @bv λdp H9 Z n9 e9=> ?_];have B:=s8.trans Z
  have L:xW K H9 dp (CQ ks I):=by unfold CQ;rw [if_neg z];exact ⟨_,az.of e9,.cons ⟨dt,rfl,Z _ _ e8,trivial⟩ .nil⟩
  obtain ⟨dx,h,ru,df,e1,e2,e3,e4⟩:=(hC.same B).ex;rwa[iL e1 rfl fz ?_];rwa[JZ e1 cC e2 e3 e4 (hC.same B).gg (hS.nt B.nt) U L ab λr J ll S R j H3 sN g3 er O ht=> ?_];rwa[ao (aD.of er) rfl ?_];exact q J S R j H3 (B.nt.trans sN) g3 O ht
seal wz
noncomputable def P0 (c:Cb):D:= .tup (Gy c.pl c.li c.dr c.mr c.ps)
noncomputable def RE (cs:List Cb)(ws:List aL)(last:Int):D:= .tup [.tup (cs.map P0),.tup @eD,.int last,.bl false]
theorem ue {H:Hp}{st:Addr}{cs:List Cb}{ws:List aL}{last:Int}(h:d8 K H st cs ws last false):br K H (.ref st) (RE cs ws last):=by
 obtain ⟨tc,F,xs,ys,h1,h2,L,j,S⟩:=h;rwa[eO h1 (.cons (eO h2 ?_) (.cons (eO L S) (.cons (.int _) (.cons (.bl _) .nil))))];rwa[PySem.Paired.of (by rw [length_map];exact j.len) λi x d B R=> ?_];rw [getElem?_map] at R;obtain ⟨c,I,t,rfl,z⟩:=j.get1 B;rw [I] at R;cases R;exact z.den
theorem gG {α:Type}{g:α->D}{n:Nat}(h:∀a,gH (g a)<=n):∀as:List α,deps (as.map g)<=n
 |[]=>Nat.zero_le _
 |a::as=>by rw [map_cons,deps];exact Nat.max_le.mpr ⟨h a,gG h as⟩
theorem No (c:Cb):gH (P0 c)<=3:=by
 have:=Cs c.ps;show max 0 (max 0 (max 0 (max 0 (max (deps @fN+1) 0))))+1<=3;lia
theorem Kn {n:Nat}{ts:List Int}{ch:Int}(h:ch∈jK n ts):Af n ts ch:=by
 rcases mem_cons.mp h with z|z
 ·exact .inl z
 ·unfold F0 at z;obtain ⟨k,R,rfl⟩:=mem_map.mp z;have R:=mem_filter.mp R;have U:=mem_range.mp R.1;exact .inr ⟨by lia,by lia,by simpa using R.2⟩
structure SS where
 cs:List Cb
 ws:List aL
 last:Int
noncomputable def SS.d (s:SS):D:=RE s.cs s.ws s.last
noncomputable def SS.ts (s:SS):List Int:=bu s.cs s.ws
noncomputable instance decS:DecidableEq SS:=λ_ _=>Classical.propDecidable _
theorem kE {α β:Type}{f:α->β}(j:∀a b,f a=f b->a=b):∀ {xs ys:List α},xs.map f=ys.map f->xs=ys
 |[],[],_=>rfl
 |[],_::_,h=>by simp at h
 |_::_,[],h=>by simp at h
 |x::xs,y::ys,h=>by
  rw [map_cons,map_cons] at h;injection h with h1 h2;rw [j _ _ h1,kE j h2]
theorem SS.inj {s t:SS}(h:s.d=t.d):s=t:=by
 obtain ⟨J,O,l⟩:=s;obtain ⟨S,R,L⟩:=t;unfold SS.d RE at h;injection h with h;injection h with h1 h;injection h with h2 h;injection h with h3 h;injection h1 with h1;injection h2 with h2;injection h3 with h3
 have B:J=S:=kE (λa b z=>by
  obtain ⟨p,l,d,m,ps⟩:=a;obtain ⟨I,L,U,W,j⟩:=b;unfold P0 Gy at z;injection z with z;injection z with z1 z;injection z with z2 z;injection z with z3 z;injection z with z4 z;injection z with z5 z;injection z1 with z1;injection z2 with z2;injection z3 with z3;injection z4 with z4;injection z5 with z5
  have:ps=j:=kE (λa b y=>by
   obtain ⟨a1,Y⟩:=a;obtain ⟨b1,Z⟩:=b;unfold cY at y;injection y with y;injection y with y1 y;injection y with y2 y;injection y1 with y1;injection y2 with y2;simp only at y1 y2
   rw [y1,y2]) z5
  simp only at z1 z2 z3 z4
  rw [z1,z2,z3,z4,this]) h1
 have F:O=R:=kE (λa b z=>by
  obtain ⟨p,l,d,m⟩:=a;obtain ⟨I,L,U,W⟩:=b;unfold aL.d at z;injection z with z;injection z with z1 z;injection z with z2 z;injection z with z3 z;injection z with z4 z;injection z1 with z1;injection z2 with z2;injection z3 with z3;injection z4 with z4;simp only at z1 z2 z3 z4
  rw [z1,z2,z3,z4]) h2
 simp only at h3;rw [B,F,h3]
theorem va {α:Type}{g:α->D}(h:∀a,oS (g a)=true):∀as:List α,nbDs (as.map g)=true
 |[]=>rfl
 |a::as=>by rw [map_cons,nbDs,h a,va h as];rfl
theorem SS.gd (s:SS):AV s.d:=by
 rwa[⟨?_,_,_,_,rfl,?_,?_,rfl⟩]
 ·have h1:=gG No s.cs;have h2:deps @fs<=1:=gG (λr=>by show max 0 (max 0 (max 0 @fo))+1<=1;decide) s.ws;show max (deps (s.cs.map P0)+1) (max (deps @fs+1) (max 0 @fo))+1<=7;lia
 ·rw [oS];rwa[va (λc=> ?_) _];show (true&&(true&&(true&&(true&&(nbDs @fN&&true)))))=true;rw [va (λp=>rfl)];rfl
 ·rw [oS];exact va (λr=>rfl) _
noncomputable def mG:Nat->List SS->List (D×V)
 |_,[]=>[]
 |n,s::S=>(s.d,.int (n:Int))::mG (n+1) S
theorem FE:∀ {S T:List SS} {n:Nat},mG n (S++T)=mG n S++mG (n+S.length) T
 |[],T,n=>by simp [mG]
 |s::S,T,n=>by
  rw [cons_append,mG,FE,mG,length_cons,cons_append,show n+1+S.length=n+(S.length+1) by lia]
theorem FD:∀ {S:List SS} {n:Nat},(mG n S).length=S.length
 |[],_=>rfl
 |s::S,n=>by rw [mG,length_cons,FD,length_cons]
theorem ve {s:SS}:∀ {S:List SS} {n:Nat},dJ (mG n S) s.d=if s∈S then some (.int ((n+S.idxOf s:Nat):Int)) else none
 |[],_=>by simp [mG,dJ]
 |t::S,n=>by
  rw [mG];by_cases z:t=s
  ·subst z;rw [bT (by rfl),if_pos (.head _),List.idxOf_cons_self];rfl
  ·rw [bU (λy=>z (SS.inj y)),ve];by_cases y:s∈S
   ·rw [if_pos y,if_pos (.tail _ y),show (t::S).idxOf s=(S.idxOf s).succ by rw [List.idxOf_cons,beq_eq_false_iff_ne.mpr z];rfl,show n+1+S.idxOf s=n+(S.idxOf s).succ by lia]
   ·rw [if_neg y,if_neg (λx=>by rcases mem_cons.mp x with x|x;exact z x.symm;exact y x)]
structure Gr where
 S:List SS
 W:List (List (Int×Nat))
 F:List (Option (Nat×Int))
def Gr.push (G:Gr)(s:SS)(f:Option (Nat×Int)):Gr:=⟨G.S++[s],G.W++[[]],G.F++[f]⟩
noncomputable def Gr.put (G:Gr)(s:SS)(f:Option (Nat×Int)):Gr:=if s∈G.S then G else G.push s f
def Gr.way (G:Gr)(n:Nat)(w:Int×Nat):Gr:=⟨G.S,G.W.set n (G.W.getD n []++[w]),G.F⟩
noncomputable def Gr.visit (nx:SS->Int->SS)(s:SS)(n:Nat)(G:Gr)(c:Int):Gr:=(G.put @cw (some (n,c))).way n (c,(G.put @cw (some (n,c))).S.idxOf @cw)
noncomputable def Gr.row (nx:SS->Int->SS)(nk n:Nat)(G:Gr):Gr:=match G.S[n]? with|some s=>(jK nk s.ts).foldl @eO G|none=>G
noncomputable def FS (nx:SS->Int->SS)(nk:Nat)(b:SS):Nat->Gr
 |0=>⟨[b],[[]],[none]⟩
 |n+1=>(FS nx nk b n).row nx nk n
structure GI (nx:SS->Int->SS)(nk:Nat)(b:SS)(Good:SS->Prop)(n:Nat)(c1:List Int)(G:Gr):Prop where
 lw:G.W.length=G.S.length
 lf:G.F.length=G.S.length
 nd:G.S.Nodup
 b0:G.S[0]? =some b
 gd:∀s∈G.S,Good s
 dn:∀i s,i<n->G.S[i]? =some s->G.W[i]? =some ((jK nk s.ts).map λc=>(c,G.S.idxOf @cw))/\∀c∈jK nk s.ts,nx s c∈G.S
 md:∀s,G.S[n]? =some s->G.W[n]? =some (c1.map λc=>(c,G.S.idxOf @cw))/\∀c∈c1,nx s c∈G.S
 rs:∀i,n<i->i<G.S.length->G.W[i]? =some []
 f0:G.F[0]? =some none
 ff:∀j,1<=j->j<G.S.length->∃i c s,G.F[j]? =some (some (i,c))/\i<j/\i<=n/\G.S[i]? =some s/\(i<n->c∈jK nk s.ts)/\(i=n->c∈c1)/\G.S[j]? =some @cw
section
variable {nx:SS->Int->SS}{nk:Nat}{b:SS}{Good:SS->Prop}{n:Nat}{c1:List Int}{G:Gr}{s:SS}{c:Int}
theorem AQ {S T:List SS}{s:SS}(h:s∈S):(S++T).idxOf s=S.idxOf s:=by rw [List.idxOf_append,if_pos h]
theorem qr {S:List SS}{s:SS}(h:S.Nodup)(hs:s∉S):(S++[s]).Nodup:=by
 rw [nodup_append];exact ⟨h,by simp,λa j b B=>by rw [mem_singleton.mp B];rintro rfl;exact hs j⟩
theorem GI.put (I:GI nx nk b Good n c1 G)(hs:G.S[n]? =some s)(hg:Good @cw):∃G',G'=G.put @cw (some (n,c))/\(nx s c∈G.S->G'=G)/\(nx s c∉G.S->G'=G.push @cw (some (n,c)))/\nx s c∈G'.S/\G'.S[n]? =some s/\GI nx nk b Good n (c1++[c]) (G'.way n (c,G'.S.idxOf @cw)):=by
 have Y:n<G.S.length:=(List.getElem?_eq_some_iff.mp hs).1;have B:=I.md s hs;rwa[⟨_,rfl,?_,?_,?_⟩]
 ·intro z;unfold Gr.put;rw [if_pos z]
 ·intro z;unfold Gr.put;rw [if_neg z]
 by_cases z:nx s c∈G.S
 ·unfold Gr.put;rw [if_pos z]
  have hw:G.W.getD n []=c1.map λc=>(c,G.S.idxOf @cw):=by rw [getD_eq_getElem?_getD,B.1];rfl
  rwa[⟨z,hs,⟨?_,I.lf,I.nd,I.b0,I.gd,λi t hi J=> ?_,λt J=> ?_,λi hi R=> ?_,I.f0,λj h1 h2=> ?_⟩⟩]
  ·show (G.W.set n _).length=_;rw [length_set];exact I.lw
  ·show (G.W.set n _)[i]? =_/\_;rw [getElem?_set_ne @c];exact I.dn i t hi J
  ·show (G.W.set n _)[n]? =_/\_
   obtain rfl:s=t:=by have J:G.S[n]? =some t:=J;rw [hs] at J;cases J;rfl
   rw [getElem?_set_self (by rw [I.lw];exact Y),hw,map_append];rwa[⟨rfl,λd O=> ?_⟩]
   rcases mem_append.mp O with y|y
   ·exact B.2 d y
   ·rw [mem_singleton.mp y];exact z
  ·show (G.W.set n _)[i]? =_;rw [getElem?_set_ne @c];exact I.rs i hi R
  ·obtain ⟨i,d,t,e1,e2,e3,e4,e5,e6,Z⟩:=I.ff j h1 h2;exact ⟨i,d,t,e1,e2,e3,e4,e5,λy=>mem_append_left _ (e6 y),Z⟩
 ·unfold Gr.put;rw [if_neg z];show nx s c∈G.S++[nx s c]/\(G.S++[nx s c])[n]? =some s/\GI nx nk b Good n (c1++[c]) ⟨G.S++[nx s c],(G.W++[[]]).set n ((G.W++[[]]).getD n []++[(c,(G.S++[nx s c]).idxOf @cw)]),G.F++[some (n,c)]⟩
  have up:∀ {i:Nat} {t:SS},i<G.S.length->(G.S++[nx s c])[i]? =some t->G.S[i]? =some t:=λhi h=>by rwa [getElem?_append_left hi] at h
  have L:∀ {i:Nat} {t:SS},G.S[i]? =some t->(G.S++[nx s c])[i]? =some t:=λh=>by rw [getElem?_append_left (List.getElem?_eq_some_iff.mp h).1];exact h
  have hw:(G.W++[[]]).getD n []=c1.map λd=>(d,(G.S++[nx s c]).idxOf (nx s d)):=by
   rw [getD_eq_getElem?_getD,getElem?_append_left (by rw [I.lw];exact Y),B.1];rwa[map_congr_left λd O=> ?_];rw [AQ (B.2 d O)]
  have U:nx s c∈G.S++[nx s c]:=by simp
  rwa[⟨U,L hs,⟨?_,?_,qr I.nd z,L I.b0,λt J=> ?_,λi t hi J=> ?_,λt J=> ?_,λi hi R=> ?_,?_,λj h1 h2=> ?_⟩⟩]
  ·show ((G.W++[[]]).set n _).length=(G.S++[nx s c]).length;rw [length_set,length_append,length_append,I.lw];rfl
  ·show (G.F++_).length=(G.S++[nx s c]).length;rw [length_append,length_append,I.lf];rfl
  ·rcases mem_append.mp J with y|y
   ·exact I.gd t y
   ·rw [mem_singleton.mp y];exact hg
  ·have h':=I.dn i t hi (up @c J);rwa[⟨?_,λd O=>mem_append_left _ (h'.2 d O)⟩];show ((G.W++[[]]).set n _)[i]? =_;rw [getElem?_set_ne @c,getElem?_append_left (by rw [I.lw];lia),h'.1];congr 1;rwa[map_congr_left λd O=> ?_];show _=(d,(G.S++[nx s c]).idxOf (nx t d));rw [AQ (h'.2 d O)]
  ·obtain rfl:s=t:=by have:=up Y J;rw [hs] at this;cases this;rfl
   show ((G.W++[[]]).set n _)[n]? =_/\_;rw [getElem?_set_self (by rw [length_append,I.lw];simp;lia),hw,map_append];rwa[⟨rfl,λd O=> ?_⟩]
   rcases mem_append.mp O with y|y
   ·exact mem_append_left _ (B.2 d y)
   ·rw [mem_singleton.mp y];exact U
  ·show ((G.W++[[]]).set n _)[i]? =_;rw [getElem?_set_ne @c];have R:i<(G.S++[nx s c]).length:=R;rw [length_append] at R;by_cases y:i<G.S.length
   ·rw [getElem?_append_left (by rw [I.lw];exact y)];exact I.rs i hi y
   ·rw [getElem?_append_right (by rw [I.lw];lia),I.lw,show i - G.S.length=0 by simp at R;lia];rfl
  ·show (G.F++[some (n,c)])[0]? =some none;rw [getElem?_append_left (by rw [I.lf];lia)];exact I.f0
  ·show ∃i d t,(G.F++[some (n,c)])[j]? =some (some (i,d))/\i<j/\i<=n/\(G.S++[nx s c])[i]? =some t/\(i<n->d∈jK nk t.ts)/\(i=n->d∈c1++[c])/\(G.S++[nx s c])[j]? =some (nx t d);have h2:j<(G.S++[nx s c]).length:=h2;rw [length_append] at h2;by_cases y:j<G.S.length
   ·obtain ⟨i,d,t,e1,e2,e3,e4,e5,e6,Z⟩:=I.ff j h1 y;exact ⟨i,d,t,by rw [getElem?_append_left (by rw [I.lf];exact y)];exact e1,e2,e3,L e4,e5,λx=>mem_append_left _ (e6 x),L Z⟩
   ·have e:j=G.S.length:=by simp at h2;lia
    subst e;rwa[⟨n,c,s,?_,Y,Nat.le_refl _,L hs,λx=>absurd x @G,λ_=>by simp,?_⟩]
    ·rw [getElem?_append_right (by rw [I.lf];exact Nat.le_refl _),I.lf,Nat.sub_self];rfl
    ·rw [getElem?_append_right @e,Nat.sub_self];rfl
theorem GI.next (I:GI nx nk b Good n c1 G)(hs:G.S[n]? =some s)(B:c1=jK nk s.ts):GI nx nk b Good (n+1) [] G:=by
 rwa[⟨I.lw,I.lf,I.nd,I.b0,I.gd,λi t hi J=> ?_,λt J=> ?_,λi hi W=>I.rs i @c W,I.f0,λj h1 h2=> ?_⟩]
 ·by_cases y:i<n
  ·exact I.dn i t y J
  ·obtain rfl:i=n:=by lia
   obtain rfl:s=t:=by rw [hs] at J;cases J;rfl
   rw [<-B];exact I.md s hs
 ·exact ⟨I.rs (n+1) @c (List.getElem?_eq_some_iff.mp J).1,λd O=>nomatch O⟩
 ·obtain ⟨i,d,t,F,R,Y,z,U,L,Z⟩:=I.ff j h1 h2;rwa[⟨i,d,t,F,R,by lia,z,λy=> ?_,λy=>by lia,Z⟩];by_cases x:i<n
  ·exact U x
  ·obtain rfl:i=n:=by lia
   obtain rfl:s=t:=by rw [hs] at z;cases z;rfl
   rw [<-B];exact L rfl
theorem GI.start (B:Good b):GI nx nk b Good 0 [] ⟨[b],[[]],[none]⟩:=by
 rwa[⟨rfl,rfl,by simp,rfl,λs hs=>by rw [mem_singleton.mp hs];exact B,λi s hi=>absurd hi @c,λs _=>⟨rfl,λd J=>nomatch J⟩,λi h1 h2=>by simp at h2;lia,rfl,λj h1 h2=>by simp at h2;lia⟩]
end
def Jn:HO->Prop
 | .tup _=>True
 | .frz _ (.tup _)=>True
 |_=>False
def b6 (H H':Hp):Prop:=∀b o,Jn o->H b=some o->H' b=some o
section
variable {H H' H2:Hp}{a p:Addr}{xs:List V}{x:V}{d:D}
theorem b6.trans (s:b6 H H')(t:b6 H' H2):b6 H H2:=λb o z e=>t b o z (s b o z e)
theorem b6.sqT (s:b6 H H')(h:aD K H a xs):aD K H' a xs:=by
 rcases h with (h|⟨u,h⟩)|h
 ·exact .inl (.inl (s _ _ trivial h))
 ·exact .inl (.inr ⟨u,s _ _ trivial h⟩)
 ·exact .inr h
theorem b6.den (s:b6 H H')(h:br K H x d)(j:L2.noL d=true):br K H' x d:=by
 induction h with
 |non=>exact .non
 |bl b=>exact .bl b
 |int i=>exact .int i
 |str z=>exact .str z
 |lst h hl hi ih=>rw [L2.noL] at j;cases j
 |tup h hl hi ih=>
  rw [L2.noL] at j;exact .tup @fX hl λi x d h1 h2=>ih i x d h1 h2 @fU
theorem b6.dens {ds:List D}(s:b6 H H')(h:aC K H xs ds)(z:∀d∈ds,L2.noL d=true):aC K H' xs ds:=
 PySem.Paired.of h.len λi x d h1 h2=>by
  obtain ⟨e,L,r⟩:=h.get1 h1;rw [h2] at L;cases L;exact s.den r (z _ (mem_of_getElem? h2))
theorem _root_.L2.aM.su (s:aM H H'):b6 H H':=λb o z e=>s b o (λps y=>by subst y;exact z) e
theorem lI {o:HO}(h:∀o,H p=some o-> ¬Jn o):b6 H @ei:=λb u z e=>by
 rw [ag (λy=>by subst y;exact h _ e z)];exact e
theorem d8.su {st:Addr}{cs:List Cb}{ws:List aL}{last:Int}{j:Bool}(h:d8 K H st cs ws last j)(s:b6 H H'):d8 K H' st cs ws last j:=by
 obtain ⟨tc,F,xs,ys,h1,h2,L,B,S⟩:=h;rwa[⟨tc,F,xs,ys,s.sqT h1,s.sqT h2,s.sqT L,Paired.imp' (λx c z=> ?_) B,s.dens S λd J=> ?_⟩]
 ·obtain ⟨t,e,b,U,O,I,R⟩:=z;rwa[⟨t,e,b,U,s _ _ trivial O,s _ _ trivial I,s.dens R λd J=> ?_⟩];obtain ⟨p,_,rfl⟩:=mem_map.mp J;rfl
 ·obtain ⟨p,_,rfl⟩:=mem_map.mp J;rfl
end
def CP (w:Int×Nat):D:= .tup [.int w.1,.int (w.2:Int)]
def Js:Option (Nat×Int)->D
 |none=> .non
 |some f=> .tup [.int (f.1:Int),.int f.2]
theorem FY:∀f,L2.noL (Js f)=true
 |none=>rfl
 |some _=>rfl
structure rD (K:Fg)(H:Hp)(g l0 l1 l2:Addr)(wl:List Addr)(xs zs:List V)(G:Gr):Prop where
 eg:H g=some (.tup [.ref l0,.ref l1,.ref l2])
 e0:H l0=some (.lst xs)
 e1:H l1=some (.lst @fA)
 e2:H l2=some (.lst zs)
 dS:Paired (λx (s:SS)=>∃a,x=V.ref a/\d8 K H a s.cs s.ws s.last false) xs G.S
 lW:wl.length=G.W.length
 dW:∀(i:Nat) a w,wl[i]? =some a->G.W[i]? =some w->∃vs,H a=some (.lst vs)/\aC K H vs (w.map CP)
 dF:aC K H zs @dS
 nd:(l0::l1::l2::wl).Nodup
theorem vt (F:List (Option (Nat×Int))):∀d∈F.map Js,L2.noL d=true:=λd J=>by
 obtain ⟨f,_,rfl⟩:=mem_map.mp J;exact FY f
theorem oG (F:List (Int×Nat)):∀d∈F.map CP,L2.noL d=true:=λd J=>by
 obtain ⟨f,_,rfl⟩:=mem_map.mp J;rfl
section
variable {H H':Hp}{g dn l0 l1 l2:Addr}{wl:List Addr}{xs zs:List V}{G:Gr}
theorem rD.keep (h:rD K H g l0 l1 l2 wl xs zs G)(s:∀b o,(Jn o\/∃xs,o= .lst xs)->H b=some o->H' b=some o):rD K H' g l0 l1 l2 wl xs zs G:=by
 have j:b6 H H':=λb o z e=>s b o (.inl z) e;rwa[⟨s _ _ (.inl trivial) h.eg,s _ _ (.inr ⟨_,rfl⟩) h.e0,s _ _ (.inr ⟨_,rfl⟩) h.e1,s _ _ (.inr ⟨_,rfl⟩) h.e2,Paired.imp' (λx t ⟨a,e,z⟩=>⟨a,e,z.su j⟩) h.dS,h.lW,λi a w I F=> ?_,j.dens h.dF (vt _),h.nd⟩];obtain ⟨B,L,S⟩:=h.dW i a w I F;exact ⟨B,s _ _ (.inr ⟨_,rfl⟩) L,j.dens S (oG _)⟩
theorem rD.nt (h:rD K H g l0 l1 l2 wl xs zs G)(s:aM H H'):rD K H' g l0 l1 l2 wl xs zs G:=h.keep λb o z e=>s b o (λps y=>by subst y;rcases z with z|⟨_,z⟩;exact z;cases z) e
theorem oY {kvs:List (D×V)}(h:fH K H dn kvs)(s:b6 H H')(e:H' dn=H dn)(R:∀p∈kvs,L2.noL p.1=true):fH K H' dn kvs:=by
 obtain ⟨ys,h1,h2,L,j⟩:=h;rwa[⟨ys,e.trans h1,h2,L,PySem.Paired.of j.len λi p q S B=> ?_⟩];obtain ⟨U,z,F,W,J,I⟩:=j.get1 S;rw [B] at z;cases z;exact ⟨F,W,s.den J (R p (mem_of_getElem? S)),I⟩
theorem oR {α:Type}{f:α->D}(h:∀a,L2.noL (f a)=true):∀as:List α,noLs (as.map f)=true
 |[]=>rfl
 |a::as=>by rw [map_cons,noLs,h a,oR h as];rfl
theorem SS.noL (s:SS):L2.noL s.d=true:=by
 show (noLs (s.cs.map P0)&&(noLs @fs&&(true&&(true&&true))))=true;rw [oR (λc=> ?_),oR (λr=>rfl)];rfl;show (true&&(true&&(true&&(true&&(noLs @fN&&true)))))=true;rw [oR (λp=>rfl)];rfl
theorem vf:∀ {S:List SS} {n:Nat},∀p∈mG n S,L2.noL p.1=true
 |[],_,p,h=>nomatch h
 |s::S,n,p,h=>by
  rcases mem_cons.mp h with z|z
  ·rw [z];exact s.noL
  ·exact vf p z
theorem Jp {Pn Pl:Addr}{kvs:List (D×V)}{o:HO}(h:fH K H dn kvs)(g:ow Pn Pl H):ow Pn Pl (upd H dn o):=by
 have ext:∃φ,H dn=some (.ext φ):=by obtain ⟨ys,h1,_⟩:=h;exact ⟨_,h1⟩
 obtain ⟨φ,e⟩:=ext
 have aa:∀ {P:Addr} {q:Str},cA H P q->cA (upd H dn o) P q:=λ{P q} t=>by
  obtain ⟨ps,h1,h2,L⟩:=t;rwa[⟨ps,by rw [ag (λz=>by subst z;rw [e] at h1;cases h1)];exact h1,h2,λpos F z=> ?_⟩];obtain ⟨j,S,R⟩:=L pos F z;exact ⟨j,S,by rw [ag (Jz h R)];exact R⟩
 exact ⟨aa g.1,aa g.2⟩
end
inductive uj (K:Fg)(Pn Pl:Addr)(vs:List V)(H:Hp)(Q:VK)(_e:XK):Prop
 |mk (g dn st x l0 l1 l2 wl xs zs G s f:_) (most:Int) (_:vs=[.ref g,.ref dn,.ref st,x,.int most]) (_:rD K H g l0 l1 l2 wl xs zs G) (_:fH K H dn (mG 0 G.S)) (_:ow Pn Pl H) (_:d8 K H st (SS.cs s) (SS.ws s) @gm false) (_:br K H x (Js f)) (_:s∉G.S) (_:G.S.length<1000) (_:(G.S.length:Int)<most) (_:G.F.length=G.S.length) (_:G.W.length=G.S.length) (_:∀H' a xs' zs',H a=none->(∀b o,b≠dn->b≠l0->b≠l1->b≠l2->H b=some o->H' b=some o)->ow Pn Pl H'->rD K H' g l0 l1 l2 (wl++[a]) xs' zs' (G.push s f)->fH K H' dn (mG 0 (G.push s f).S)->Q .non H')
theorem IL {Pn Pl:Addr}(F:Z0 K "put_state" lZ f fd)(bH:mg "len"=none):ar P w K mg base aQ 1 f fd ["graph","numbers","state","first","most"] (uj K Pn Pl):=by
 rwa[F.ok yF (by symm) (λaP A outer s H vs Q E hr h=> ?_)];obtain ⟨g,dn,st,x,l0,l1,l2,wl,xs,zs,G,s,f,aN,rfl,j,hD,hg,hS,hx,hn,n1,n2,lF,aK,q⟩:=h;have xl:xs.length=G.S.length:=j.dS.len
 have zl:zs.length=G.S.length:=by have:=j.dF.len;rw [length_map] at this;lia
 have aR:wl.length=G.S.length:=j.lW.trans aK;have nd:=j.nd
 obtain ⟨φ,J⟩:∃φ,H dn=some (.ext φ):=by obtain ⟨ys,h1,_⟩:=id hD;exact ⟨_,h1⟩
 have d0:l0≠dn:=λz=>by have:=j.e0;rw [z,J] at this;cases this
 have d1:l1≠dn:=λz=>by have:=j.e1;rw [z,J] at this;cases this
 have d2:l2≠dn:=λz=>by have:=j.e2;rw [z,J] at this;cases this
 have gT:∀ {b:Addr} {o:HO},H b=some o->(Jn o\/∃xs,o= .lst xs)->b≠dn:=λe z y=>by rw [y,J] at e;cases e;rcases z with z|⟨_,z⟩;exact z;cases z
 rwa[⟨_,(aa @a (aa @ed (aa (Et rfl (R3 hr) (wv 1) (wv 2) (wv 5) rfl) (aa @dC (aa @dC @F))))),?_⟩];rwa[ao (aD.of j.eg) rfl ?_];rwa[cf (az.of j.e0) ?_];rw [xl];rwa[hU @c ?_];rwa[⟨dn,rfl,mG 0 G.S,st,s.d,rfl,hD,ue hS,s.gd,vS (by rw [FD];lia),by rw [ve,if_neg hn],λys hd=> ?_⟩];have aj:=hd _ rfl
 have aB:b6 H @gx:=lI λo e z=>by rw [J] at e;cases e;exact z
 have g1:ow Pn Pl @gx:=Jp hD hg
 have k1:∀b o,b≠dn->H b=some o->(upd H dn @eP) b=some o:=λb o z e=>by rw [ag z];exact e
 have o1:∀b,b≠dn->(upd H dn @eP) b=H b:=λb z=>ag z;generalize upd H dn @eP=H1 at aj aB g1 k1 o1;have B:rD K H1 g l0 l1 l2 wl xs zs G:=j.keep λb o z e=>k1 b o (gT e z) e;rwa[ao @gc rfl ?_];rwa[⟨.inl ⟨rfl,_,az.of B.e0⟩,?_⟩];rwa[dY B.e0 @dk ?_]
 have Y:b6 H1 (upd H1 l0 (.lst (xs++[.ref st]))):=lI λo e z=>by rw [B.e0] at e;cases e;exact z
 have g2:=kK _ _ (aI.updL (o:= .lst (xs++[.ref st])) B.e0) g1;have o2:∀b,b≠l0->(upd H1 l0 (.lst (xs++[.ref st]))) b=H1 b:=λb z=>ag z;have ak:(upd H1 l0 (.lst (xs++[.ref st]))) l0=some (.lst (xs++[.ref st])):=af;generalize upd H1 l0 (.lst (xs++[.ref st]))=H2 at Y g2 o2 ak;simp only [nodup_cons,mem_cons,not_or] at nd;obtain ⟨⟨ah,ae,au⟩,⟨ai,am⟩,aG,aJ⟩:=nd;have ax:H2 g=some (.tup [.ref l0,.ref l1,.ref l2]):=Y _ _ trivial B.eg
 have ab:H2 l1=some (.lst @fA):=by rw [o2 l1 @fT];exact B.e1
 have av:H2 l2=some (.lst zs):=by rw [o2 l2 (Ne.symm ae)];exact B.e2
 rwa[ao (aD.of ax) rfl ?_];rwa[⟨.inl ⟨rfl,_,az.of ab⟩,?_⟩];rwa[fP @bv λa H3 s3 L ea=> ?_];have g3:=kK _ _ s3.st g2;have ad:=s3 _ _ ab;rwa[dY ad (vS (by rw [length_map];lia)) ?_]
 have aA:a≠l1:=λz=>by rw [z,ab] at L;cases L
 have aq:a≠l0:=λz=>by rw [z,ak] at L;cases L
 have aw:a≠l2:=λz=>by rw [z,av] at L;cases L
 have R:b6 H3 (upd H3 l1 (.lst (wl.map V.ref++[.ref a]))):=lI λo e z=>by rw [ad] at e;cases e;exact z
 have g4:=kK _ _ (aI.updL (o:= .lst (wl.map V.ref++[.ref a])) ad) g3;have o4:∀b,b≠l1->(upd H3 l1 (.lst (wl.map V.ref++[.ref a]))) b=H3 b:=λb z=>ag z;have al:(upd H3 l1 (.lst (wl.map V.ref++[.ref a]))) l1=some (.lst (wl.map V.ref++[.ref a])):=af;generalize upd H3 l1 (.lst (wl.map V.ref++[.ref a]))=H4 at R g4 o4 al;have aF:H4 g=some (.tup [.ref l0,.ref l1,.ref l2]):=R _ _ trivial (s3 _ _ ax)
 have O:H4 l2=some (.lst zs):=by rw [o4 l2 (Ne.symm ai)];exact s3 _ _ av
 rwa[ao (aD.of aF) rfl ?_];rwa[⟨.inl ⟨rfl,_,az.of O⟩,?_⟩];rwa[dY O @dk ?_]
 have U:b6 H4 (upd H4 l2 (.lst (zs++[x]))):=lI λo e z=>by rw [O] at e;cases e;exact z
 have g5:=kK _ _ (aI.updL (o:= .lst (zs++[x])) O) g4;have o5:∀b,b≠l2->(upd H4 l2 (.lst (zs++[x]))) b=H4 b:=λb z=>ag z;have as:(upd H4 l2 (.lst (zs++[x]))) l2=some (.lst (zs++[x])):=af;generalize upd H4 l2 (.lst (zs++[x]))=H5 at U g5 o5 as;have an:b6 H2 H3:=λb o _ e=>s3 b o e;have I:b6 H H5:=(((aB.trans Y).trans an).trans R).trans U
 have fr:∀b o,b≠dn->b≠l0->b≠l1->b≠l2->H b=some o->H5 b=some o:=λb o z z0 z1 z2 e=>by
  rw [o5 b z2,o4 b z1];exact s3 _ _ (by rw [o2 b z0];exact k1 b o z e)
 have aM:a≠dn:=λz=>by obtain ⟨_,y,_⟩:=id aj;rw [z,o2 dn (Ne.symm d0),y] at L;cases L
 have aH:H a=none:=by rw [<-o1 a aM,<-o2 a aq];exact L
 have aL:a∉wl:=λz=>by
  obtain ⟨i,hi⟩:=mem_iff_getElem?.mp z
  obtain ⟨vs,e,_⟩:=j.dW i a (G.W.getD i []) hi (by
   have:i<G.W.length:=by have:=(List.getElem?_eq_some_iff.mp hi).1;lia
   rw [getD_eq_getElem?_getD,getElem?_eq_getElem this];rfl)
  rw [aH] at e;cases e
 rwa[q H5 a (xs++[.ref st]) (zs++[x]) aH fr g5 ⟨U _ _ trivial aF,?_,?_,as,?_,?_,λi b w' hb Z=> ?_,?_,?_⟩ ?_]
 ·rw [o5 l0 ae,o4 l0 ah];exact s3 _ _ ak
 ·rw [o5 l1 ai,al,map_append];rfl
 ·exact Paired.app (Paired.imp' (λx t ⟨b,e,z⟩=>⟨b,e,z.su I⟩) j.dS) (.cons ⟨st,rfl,hS.su I⟩ .nil)
 ·show (wl++[a]).length=(G.W++[[]]).length;rw [length_append,length_append,j.lW];rfl
 ·have Z:(G.W++[[]])[i]? =some w':=Z;by_cases y:i<wl.length
  ·rw [getElem?_append_left y] at hb;rw [getElem?_append_left (by rw [<-j.lW];exact y)] at Z;obtain ⟨vs,e,z⟩:=j.dW i b w' hb Z;have bm:b∈wl:=mem_of_getElem? hb;exact ⟨vs,fr b _ (gT e (.inr ⟨_,rfl⟩)) (λz=>au (z▸bm)) (λz=>am (z▸bm)) (λz=>aG (z▸bm)) e,I.dens z (oG _)⟩
  ·rw [getElem?_append_right @c] at hb;rw [getElem?_append_right (by rw [<-j.lW];lia),<-j.lW] at Z
   have i0:i - wl.length=0:=by have:=(List.getElem?_eq_some_iff.mp hb).1;simp at this;lia
   rw [i0] at hb Z;simp at hb Z;subst hb;subst Z;rwa[⟨[],?_,.nil⟩];rw [o5 a aw,o4 a aA];exact ea
 ·show aC K H5 (zs++[x]) ((G.F++[f]).map Js);rw [map_append];exact Paired.app (I.dens j.dF (vt _)) (.cons (I.den hx (FY _)) .nil)
 ·simp only [nodup_cons,mem_cons,mem_append,not_or,mem_singleton];rwa[⟨⟨ah,ae,au,Ne.symm aq,by simp⟩,⟨ai,am,Ne.symm aA,by simp⟩,⟨aG,Ne.symm aw,by simp⟩,?_⟩];rw [nodup_append];exact ⟨aJ,by simp,λu hu v hv=>by rw [mem_singleton.mp hv];rintro rfl;exact aL hu⟩
 ·show fH K H5 dn (mG 0 (G.S++[s]));rw [FE,Nat.zero_add]
  have e5:H5 dn=H1 dn:=by
   obtain ⟨aO,y,_⟩:=id aj;rw [o5 dn (Ne.symm d2),o4 dn (Ne.symm d1),y];exact s3 _ _ (by rw [o2 dn (Ne.symm d0)];exact y)
  rwa[oY (H:=H1) aj (((Y.trans an).trans R).trans U) e5 λp hp=> ?_]
  rcases mem_append.mp hp with z|z
  ·exact vf p z
  ·rw [mem_singleton.mp z];exact s.noL
inductive DF (K:Fg)(vs:List V)(H:Hp)(Q:VK)(_e:XK):Prop
 |mk (h kp hs ks:_) (_:vs=[.ref h,.ref kp]) (_:lC K H h hs) (_:iG K H kp hs.fl ks) (_:Q .non H)
theorem Mn (F:Z0 K "need_kinds" jw f fd)(gM:aS P w K mg base 2 "need_ride" ["house","start","goal"] (j3 K)):ar P w K mg base aQ 3 f fd ["house","kinds"] (DF K):=by
 rwa[F.ok wG (by symm) @bj];obtain ⟨h,Z,hs,ks,rfl,S,⟨xs,U,B,_,_,hk⟩,q⟩:=h;rwa[⟨_,(ac @cp),?_⟩];rwa[bF (az.of U) ?_];rwa[cx (xs:=xs) (λi σ j=>j=H/\∃J z,σ=[some (.ref h),some (.ref Z),J,z]) ⟨rfl,_,_,rfl⟩ (λi σ j _ O=>by rw [O.1];exact az.of U) (λi x σ j I O=> ?_) (λσ j O=> ?_)]
 ·obtain ⟨rfl,J,z,rfl⟩:=O;obtain ⟨p,pt,hp,rfl,Y⟩:=kz B I;obtain ⟨W,k2,k3,L,R⟩:=hk p (mem_of_getElem? hp);rwa[fh Y rfl ?_];exact j3.mk _ _ _ _ _ rfl S.at' W k2 k3 L R ⟨rfl,_,_,rfl⟩
 ·obtain ⟨rfl,_⟩:=O;exact q
def TR (hs:Hs)(wf:Wf)(k:Dk)(ks:List (Int×Int))(s:SS)(c:Int)(s':SS):Prop:=om hs wf k s.cs s.ws s.last (CQ ks c) s'.cs s'.ws s'.last
theorem TR.uniq {hs:Hs}{wf:Wf}{k:Dk}{ks:List (Int×Int)}{s:SS}{c:Int}{a b:SS}(h:TR hs wf k ks s c a)(h':TR hs wf k ks s c b):a=b:=by
 obtain ⟨F,I,B⟩:=a;obtain ⟨J,Y,j⟩:=b;obtain ⟨S,R,z⟩:=om.uniq h h';simp only at S R z;rw [S,R,z]
instance:Nonempty SS:=⟨⟨[],[],0⟩⟩
noncomputable def jS (hs:Hs)(wf:Wf)(k:Dk)(ks:List (Int×Int))(s:SS)(c:Int):SS:=Classical.epsilon (TR hs wf k ks s c)
theorem Ph {hs:Hs}{wf:Wf}{k:Dk}{ks:List (Int×Int)}{s:SS}{c:Int}{a:SS}(h:TR hs wf k ks s c a):jS hs wf k ks s c=a:=TR.uniq (Classical.epsilon_spec ⟨a,h⟩) h
def s0 (hs:Hs):SS:=⟨hs.ls.map Nu,[],(hs.ls.length:Int) - 1⟩
structure Bg (hs:Hs)(wf:Wf)(k:Dk)(ks:List (Int×Int))(most:Nat)(Good:SS->Prop):Prop where
 b:Good @cq
 st:∀s c s',Good s->Af ks.length s.ts c->TR hs wf k ks s c s'->Good s'
 ok:∀s,Good s->NM hs 8 s.cs s.ws s.last
 fn:∀L:List SS,L.Nodup->(∀s∈L,Good s)->L.length<=most
theorem rD.way {H:Hp}{g l0 l1 l2 a:Addr}{wl:List Addr}{xs zs vs:List V}{G:Gr}{n:Nat}{J:List (Int×Nat)}{w1:Int×Nat}{t:V}(h:rD K H g l0 l1 l2 wl xs zs G)(I:wl[n]? =some a)(U:G.W[n]? =some J)(ha:H a=some (.lst vs))(dv:aC K H vs (J.map CP))(ht:br K H t (CP w1)):rD K (upd H a (.lst (vs++[t]))) g l0 l1 l2 wl xs zs (G.way n w1):=by
 have B:b6 H (upd H a (.lst (vs++[t]))):=lI λo e z=>by rw [ha] at e;cases e;exact z
 have S:a∈wl:=mem_of_getElem? I;have Y:=h.nd;simp only [nodup_cons,mem_cons,not_or] at Y;obtain ⟨⟨ah,ae,au⟩,⟨ai,O⟩,aG,aJ⟩:=Y;have L:n<G.W.length:=(List.getElem?_eq_some_iff.mp U).1
 have gw:G.W.getD n []=J:=by rw [getD_eq_getElem?_getD,U];rfl
 rwa[⟨B _ _ trivial h.eg,by rw [ag (λz:l0=a=>au (by rw [z];exact S))];exact h.e0,by rw [ag (λz:l1=a=>O (by rw [z];exact S))];exact h.e1,by rw [ag (λz:l2=a=>aG (by rw [z];exact S))];exact h.e2,Paired.imp' (λx s ⟨b,e,z⟩=>⟨b,e,z.su B⟩) h.dS,?_,λi b u F j=> ?_,B.dens h.dF (vt _),h.nd⟩]
 ·show wl.length=(G.W.set n _).length;rw [length_set];exact h.lW
 ·have j:(G.W.set n (G.W.getD n []++[w1]))[i]? =some u:=j;by_cases y:n=i
  ·subst y;rw [I] at F;cases F;rw [getElem?_set_self L,gw] at j;cases j;rwa[⟨_,af,?_⟩];rw [map_append];exact Paired.app (B.dens dv (oG _)) (.cons (B.den ht rfl) .nil)
  ·rw [getElem?_set_ne y] at j;obtain ⟨R,e,z⟩:=h.dW i b u F j
   have Z:b≠a:=λz=>by
    subst z;exact y ((List.getElem?_inj (List.getElem?_eq_some_iff.mp I).1 aJ).mp (I.trans F.symm))
   exact ⟨R,by rw [ag Z];exact e,B.dens z (oG _)⟩
def Hd (H:Hp)(b:Addr):Prop:=∀o,H b=some o->∃ps,o= .tbl ps
theorem mN {H H':Hp}{b:Addr}(s:aM H H')(h:H' b=none):Hd H b:=λo e=>Classical.byContradiction λz=>by
 rw [s b o (λps y=>z ⟨ps,y⟩) e] at h;cases h
theorem gD {H:Hp}{b c:Addr}{o:HO}(j:∀ps,o≠ .tbl ps)(e:H b=some o)(f:Hd H c):b≠c:=λz=>by
 subst z;obtain ⟨ps,y⟩:=f o e;exact j ps y
structure NB (hs:Hs)(wf:Wf)(k:Dk)(ks:List (Int×Int))(Good:SS->Prop)(n:Nat)(G:Gr):Prop where
 e:G=FS @A ks.length @cq n
 ln:n=G.S.length
 a:∀j,j<n->j<(FS @A ks.length @cq j).S.length
 I:GI @A ks.length @cq Good n [] G
inductive ur (P:Program)(w:World)(K:Fg)(mg:Str->Option Value)(base:Heap)(C Pn Pl:Addr)(vs:List V)(H:Hp)(Q:VK)(_e:XK):Prop
 |mk (a kp hs wf k ks Good:_) (most:Nat) (_:vs=[.ref a,.ref kp,.int (most:Int)]) (_:G6 P w K mg base C Pn Pl H a hs wf k) (_:iG K H kp hs.fl ks) (_:Bg hs wf k ks most Good) (_:1<=most) (_:most<=500) (_:∀g l0 l1 l2 wl xs zs n G H',aM H H'->ow Pn Pl H'->rD K H' g l0 l1 l2 wl xs zs G->(∀b∈l0::l1::l2::wl,Hd H b)->NB hs wf k ks Good n G->Q (.ref g) H')
theorem yk {nx:SS->Int->SS}{s:SS}{n:Nat}{G:Gr}{cs:List Int}{c:Int}{i:Nat}(h:cs[i]? =some c):(cs.take (i+1)).foldl @eO G=Gr.visit nx s n ((cs.take i).foldl @eO G) c:=by
 rw [take_add_one,h,foldl_append];rfl
theorem E4 {kC Pn Pl:Addr}(F:Z0 K "graph_of" qa f fd)(cC:Hf K kC)(bH:mg "len"=none)(nW:aS P w K mg base 3 "need_kinds" ["house","kinds"] (DF K))(jL:aS P w K mg base 1 "put_state" ["graph","numbers","state","first","most"] (uj K Pn Pl))(gO:iE P w K mg base aQ 2 "begin" kC (uv K))(xK:aS P w K mg base 3 "choices" ["state","kinds"] (DO K))(P2:aS P w K mg base 10 "led" ["court","kinds","state","choice"] (wz P w K mg base kC Pn Pl)):ar P w K mg base aQ 11 f fd ["court","kinds","most"] (ur P w K mg base kC Pn Pl):=by
 rwa[F.ok lU (by symm) (λb1 A outer s H vs Q E hr h=> ?_)];obtain ⟨a,kp,hs,wf,k,ks,Good,aN,rfl,hC,hK,ab,m1,m5,q⟩:=h;obtain ⟨dx,h,ru,df,ea,eH,eR,eD⟩:=id hC.ex;have bo:hs.ok:=eH.1;rwa[⟨_,(aa @dC (aa @a (aa (bM (i:=4) lU.nd rfl @o EG) (aa (aE (cR jL hr @b rfl (av (wv 3) (av (wv 4) (av (C3 (n:=2) gS hr @b (wv 0)) (av mE @fr)))))) (aa @a (aa (v7 PassesOwn.never @a (aa @a (aa (b9 PassesOwn.never rfl @a @a (aa @a (fm (ay (Er (y9 rfl (R3 hr) (wv 8) (wv 4))) @F ap) (ac (aE (gQ rfl PySem.F.plainAttrs_list PySem.F.slot_list_append PySem.F.type_list_append pf @a (av (gc (av (wv 7) (av (EH rfl (R3 hr) (wv 4) (wv 8) @cv) aq))) aq))))))) (ac (Eu (i:=5) lU.nd rfl @o bA FJ))))) (ac (aj (wv 3))))))))),?_⟩];rwa[dG ea cC.i.cl cC.house (v:= .ref h) rfl ?_];rwa[DF.mk _ _ _ _ rfl eH hK ?_];rwa[fP @bv λl0 H1 s1 n1 e1=> ?_];rwa[fP @bv λl1 H2 s2 n2 e2=> ?_];rwa[fP @bv λl2 H3 s3 n3 e3=> ?_];rwa[bZ @bv λg H4 Z n4 e4=> ?_];intro dn nd a2;have aT:=((s1.trans s2).trans s3).trans Z;have bS:=Z _ _ (s3 _ _ (s2 _ _ e1));have bO:=Z _ _ @ft;have bE:=Z _ _ e3
 have bJ:l0≠l1:=λz=>by subst z;rw [e1] at n2;cases n2
 have bI:l0≠l2:=λz=>by subst z;rw [s2 _ _ e1] at n3;cases n3
 have bK:l1≠l2:=λz=>by subst z;rw [e2] at n3;cases n3
 have f0:Hd H l0:=mN (.refl _) n1;have f1:Hd H l1:=mN s1.nt n2;have f2:Hd H l2:=mN (s1.trans s2).nt n3;have fd:Hd H dn:=mN aT.nt nd;have s5:ak H4 (upd H4 dn (cP dn [])):= .upd nd;have al:fH K (upd H4 dn (cP dn [])) dn (mG 0 []):=Np a2;generalize upd H4 dn (cP dn [])=H5 at s5 al;have aK:rD K H5 g l0 l1 l2 [] [] [] ⟨[],[],[]⟩:=⟨s5 _ _ e4,s5 _ _ bS,s5 _ _ bO,s5 _ _ bE,.nil,rfl,λi a w h=>by simp at h,.nil,by simp [bJ,bI,bK]⟩;have bg:=hC.same (aT.trans s5);obtain ⟨bY,h',b0,b2,a8,bT,b5,b4⟩:=id bg.ex;rwa[iL a8 rfl gO ?_];rwa[uv.mk _ _ _ _ _ _ _ rfl a8 cC bT λst H6 R ax=> ?_];have bw:=(aT.trans s5).trans R;have bk:=aK.nt R.nt;have a9:b6 H5 H6:=R.nt.su
 have a0:fH K H6 dn (mG 0 []):=oY al a9 (by obtain ⟨_,y,_⟩:=id al;rw [y];exact R _ _ y) λp hp=>nomatch hp
 have nx:=jS hs wf k ks;rwa[uj.mk _ _ _ _ _ _ _ _ _ _ _ @cq none _ rfl bk a0 ((bg.same R).gg) ax .non (λz=>nomatch z) @b (by show ((0:Nat):Int)<_;lia) rfl rfl λH7 a7 bm bv bB bx g7 bb bl=> ?_];rwa[C0 (λm σ HX=>∃n wl xs zs o6 o7 o8,aM H HX/\ow Pn Pl HX/\rD K HX g l0 l1 l2 wl xs zs @fO/\fH K HX dn (mG 0 (FS @A ks.length @cq n).S)/\(∀b∈wl,Hd H b)/\GI @A ks.length @cq Good n [] @fO/\(∀j,j<n->j<(FS @A ks.length @cq j).S.length)/\n<=(FS @A ks.length @cq n).S.length/\m=1000 - n/\σ=[some (.ref a),some (.ref kp),some (.int (aN:Int)),some (.ref g),some (.ref dn),some (.int (n:Int)),o6,o7,o8]) ⟨_,0,[a7],bm,bv,_,_,_,?_,g7,bb,bl,?_,GI.start ab.b,λj hj=>absurd hj (Nat.not_lt_zero _),Nat.zero_le _,rfl,rfl⟩ λm σ HX hW=> ?_]
 ·exact λb o nt e=>bx b o (gD nt e fd) (gD nt e f0) (gD nt e f1) (gD nt e f2) (bw b o e)
 ·intro b hb;rw [mem_singleton.mp hb];exact mN bw.nt bB
 clear bb bl g7 bx bB bm bv a0 bk ax nx;obtain ⟨n,wl,xs,zs,o6,o7,o8,sN,gX,B,hD,fw,O,hA,bU,rfl,rfl⟩:=hW;generalize aV:FS @A ks.length @cq n=G at B hD O bU;have xl:xs.length=G.S.length:=B.dS.len;have bX:=ab.fn G.S O.nd O.gd;rwa[ao @gc rfl ?_];rwa[cf @gd ?_];rw [xl];by_cases z:n<G.S.length
 ·rwa[kJ @c ?_];rwa[⟨_,λσ' H' y=>y,?_⟩];have be:=getElem?_eq_getElem (show n<xs.length by lia);obtain ⟨s,ad,st,ax,I⟩:=B.dS.get1 be;rwa[ao @gc rfl ?_];rwa[bd @gd (v:= .ref st) (by rw [bz be,ax]) ?_];have gs:=O.gd s (mem_of_getElem? ad);have hS:vU K HX st hs 8 s.cs s.ws s.last:=⟨I,ab.ok s gs,bo⟩;rwa[SO hS @b (hK.nt sN) λlc H2 s2 aO au=> ?_]
  have aA:∀ {L:Hp} {kvs:List (D×V)},fH K L dn kvs->∃φ,L dn=some (.ext φ):=λh=>by obtain ⟨ys,h1,_⟩:=h;exact ⟨_,h1⟩
  have ah:∀ {L HZ:Hp} {S:List SS},aM L HZ->fH K L dn (mG 0 S)->fH K HZ dn (mG 0 S):=λ{L HZ S} s h=>oY h s.su (by obtain ⟨φ,e⟩:=aA h;rw [e];exact s _ _ (λ_ z=>by cases z) e) vf
  have c0:lc≠l0:=λz=>by rw [z,B.e0] at aO;cases aO
  have c1:lc≠l1:=λz=>by rw [z,B.e1] at aO;cases aO
  have c2:lc≠l2:=λz=>by rw [z,B.e2] at aO;cases aO
  have cd:lc≠dn:=λz=>by obtain ⟨φ,e⟩:=aA hD;rw [z,e] at aO;cases aO
  have cw:lc∉wl:=λz=>by
   obtain ⟨i,hi⟩:=mem_iff_getElem?.mp z
   have:i<G.W.length:=by have:=(List.getElem?_eq_some_iff.mp hi).1;have:=B.lW;lia
   obtain ⟨vs,e,_⟩:=B.dW i lc _ hi (getElem?_eq_getElem this);rw [aO] at e;cases e
  rwa[bF (az.of au) ?_]
  refine cx (xs:=(jK ks.length @ee).map V.int) (λi σ L=>∃wl xs zs o7 o8,aM H L/\ow Pn Pl L/\rD K L g l0 l1 l2 wl xs zs (((jK ks.length s.ts).take i).foldl @bP G)/\fH K L dn (mG 0 (((jK ks.length s.ts).take i).foldl @bP G).S)/\(∀b∈wl,Hd H b)/\GI @A ks.length @cq Good n ((jK ks.length s.ts).take i) (((jK ks.length s.ts).take i).foldl @bP G)/\L lc=some (.lst ((jK ks.length @ee).map V.int))/\lc∉wl/\(((jK ks.length s.ts).take i).foldl @bP G).S[n]? =some s/\d8 K L st s.cs s.ws s.last false/\σ=[some (.ref a),some (.ref kp),some (.int (aN:Int)),some (.ref g),some (.ref dn),some (.int (n:Int)),some (.ref st),o7,o8])
   ⟨wl,xs,zs,_,_,sN.trans s2.nt,kK _ _ s2.st gX,B.nt s2.nt,ah s2.nt hD,fw,O,au,cw,ad,sk s2.nt I,rfl⟩ (λi σ L _ pv=>by obtain ⟨_,_,_,_,_,_,_,_,_,_,_,e,_⟩:=pv;exact az.of e) (λi x σ L hx pv=> ?_) (λσ L pv=> ?_)
  ·obtain ⟨wl,xs,zs,o7,o8,sY,gY,B,hD,fw,O,au,cw,ad,I,rfl⟩:=pv
   obtain ⟨c,hc,rfl⟩:∃c,(jK ks.length s.ts)[i]? =some c/\x= .int c:=by
    rw [getElem?_map] at hx;obtain ⟨c,h1,h2⟩:=Option.map_eq_some_iff.mp hx;exact ⟨c,h1,h2.symm⟩
   have bt:c∈jK ks.length s.ts:=mem_of_getElem? hc;have hv:=yk (nx:=jS hs wf k ks) (s:=s) (n:=n) (G:=G) hc;rw [hv]
   have bV:(jK ks.length s.ts).take (i+1)=(jK ks.length s.ts).take i++[c]:=by rw [take_add_one,hc];rfl
   rw [bV]
   have l5:((jK ks.length s.ts).take i).length<=5:=by
    have h1:((jK ks.length s.ts).take i).length<=(jK ks.length s.ts).length:=by rw [length_take];exact Nat.min_le_right _ _
    have h2:=oX (ts:=s.ts) (i:=ks.length);have h3:(jK ks.length s.ts).length=(F0 s.ts ks.length).length+1:=rfl;obtain ⟨_,_,_,_,k4,_⟩:=hK;lia
   generalize (jK ks.length s.ts).take i=bN at *;generalize b3:bN.foldl @bP G=Gi at *;rwa[RX (hC.nt sY gY) (hK.nt sY) ⟨I,ab.ok s gs,bo⟩ @b (Kn bt) λaf bj a4 ae H3 ai g3 bp ht=> ?_];have aJ:jS hs wf k ks s c=⟨bj,a4,ae⟩:=Ph (a:=⟨bj,a4,ae⟩) ht
   have bs:Good @gn:=by rw [aJ];exact ab.st s c _ gs (Kn bt) ht
   obtain ⟨J,bC,p1,p2,pm,ps,pI⟩:=O.put (c:=c) ad bs;have aU:=B.nt ai;have aB:=ah ai hD;have aF:=sk ai I
   have aR:d8 K H3 af (jS hs wf k ks s c).cs (jS hs wf k ks s c).ws (jS hs wf k ks s c).last false:=by rw [aJ];exact bp.a
   have ba:=sY.trans ai;have bn:=ai _ _ (λ_ z=>by cases z) au;clear bp ht aJ;unfold Gr.visit;rw [<-bC];generalize jS hs wf k ks s c=s' at *;rwa[xw (λσ HZ=>∃wl xs zs,aM H HZ/\ow Pn Pl HZ/\rD K HZ g l0 l1 l2 wl xs zs J/\fH K HZ dn (mG 0 J.S)/\(∀b∈wl,Hd H b)/\HZ lc=some (.lst ((jK ks.length @ee).map V.int))/\lc∉wl/\d8 K HZ st s.cs s.ws s.last false/\d8 K HZ af s'.cs s'.ws s'.last false/\σ=[some (.ref a),some (.ref kp),some (.int (aN:Int)),some (.ref g),some (.ref dn),some (.int (n:Int)),some (.ref st),some (.int c),some (.ref af)]) ?_ ?_]
   ·rwa[⟨dn,dJ (mG 0 Gi.S) s'.d,rfl,⟨mG 0 Gi.S,af,s'.d,rfl,aB,ue aR,s'.gd,rfl⟩,?_⟩];rw [ve];by_cases y:s'∈Gi.S
    ·rw [if_pos y,p1 y];rwa[⟨_,rfl,bf rfl ?_⟩];exact ⟨wl,xs,zs,ba,g3,aU,aB,fw,bn,cw,aF,aR,rfl⟩
    ·rw [if_neg y,p2 y];rwa[⟨_,rfl,bG rfl ?_⟩];rwa[bZ @bv λtf H4 Z n4 e4=> ?_]
     have aC:=ab.fn (Gi.S++[s']) (qr O.nd y) λu hu=>by
      rcases mem_append.mp hu with x|x
      ·exact O.gd u x
      ·rw [mem_singleton.mp x];exact bs
     rw [length_append] at aC;simp only [length_cons,length_nil] at aC;rwa[uj.mk _ _ _ _ _ _ _ _ _ _ _ _ (some (n,c)) _ rfl (aU.nt Z.nt) (ah Z.nt aB) (kK _ _ Z.st g3) (sk Z.nt aR) (eO (aD.of e4) (.cons (.int _) (.cons (.int _) .nil))) y @c @c O.lf O.lw λH5 a5 bQ bR aX aW g5 aK al=> ?_];have a6:=ba.trans Z.nt;have bc:=Z _ _ bn
     have a3:b6 H4 H5:=λb o z e=>by
      have aL:=aU.nt Z.nt;obtain ⟨φ,ed⟩:=aA (ah Z.nt aB);exact aW b o (λy=>by rw [y,ed] at e;cases e;exact z) (λy=>by rw [y,aL.e0] at e;cases e;exact z) (λy=>by rw [y,aL.e1] at e;cases e;exact z) (λy=>by rw [y,aL.e2] at e;cases e;exact z) e
     rwa[⟨wl++[a5],bQ,bR,λb o nt e=> ?_,g5,aK,al,λb hb=> ?_,aW _ _ cd c0 c1 c2 bc,λx=> ?_,(sk Z.nt aF).su a3,(sk Z.nt aR).su a3,rfl⟩]
     ·exact aW b o (gD nt e fd) (gD nt e f0) (gD nt e f1) (gD nt e f2) (a6 b o nt e)
     ·rcases mem_append.mp hb with x|x
      ·exact fw b x
      ·rw [mem_singleton.mp x];exact mN a6 aX
     ·rcases mem_append.mp x with x|x
      ·exact cw x
      ·rw [<-mem_singleton.mp x,bc] at aX;cases aX
   ·rintro σ' HZ ⟨wl,xs,zs,sZ,gZ,am,aP,aZ,bL,bi,br,aG,rfl⟩
    have bP:J.W.length=J.S.length:=by
     have:=pI.lw;rw [show (J.way n (c,J.S.idxOf s')).W=J.W.set n (J.W.getD n []++[(c,J.S.idxOf s')]) from rfl,length_set] at this;exact this
    have as:n<J.W.length:=by rw [bP];exact (List.getElem?_eq_some_iff.mp ps).1
    obtain ⟨an,aw⟩:∃an,wl[n]? =some an:=⟨_,getElem?_eq_getElem (by rw [am.lW];exact as)⟩;obtain ⟨vs,aH,dvs⟩:=am.dW n an _ aw (getElem?_eq_getElem as);have aY:an∈wl:=mem_of_getElem? aw;rwa[ao (aD.of am.eg) rfl ?_];rwa[bd (az.of am.e1) (v:= .ref an) (bz (by rw [getElem?_map,aw];rfl)) ?_];rwa[⟨.inl ⟨rfl,_,az.of aH⟩,?_⟩];rwa[⟨dn,.int ((J.S.idxOf s':Nat):Int),rfl,⟨mG 0 J.S,af,s'.d,rfl,aP,ue aG,s'.gd,by rw [ve,if_pos pm,Nat.zero_add]⟩,?_⟩];rwa[bZ @bv λtp H6 R n6 e6=> ?_];have U:=R _ _ aH
    have bW:vs.length<=100:=by
     have h1:=(pI.md s ps).1;rw [show (J.way n (c,J.S.idxOf s')).W=J.W.set n (J.W.getD n []++[(c,J.S.idxOf s')]) from rfl,getElem?_set_self as] at h1;have h2:=congrArg List.length (Option.some.inj h1);rw [length_append,length_map,length_append,getD_eq_getElem?_getD,getElem?_eq_getElem as] at h2;have h3:=dvs.len;rw [length_map] at h3;simp only [Option.getD_some,length_cons,length_nil] at h2;lia
    rwa[dY U @dk ?_]
    have a1:b6 H6 (upd H6 an (.lst (vs++[.ref tp]))):=lI λo e z=>by rw [U] at e;cases e;exact z
    have bD:dn≠an:=λz=>by obtain ⟨φ,e⟩:=aA aP;rw [z,aH] at e;cases e
    rwa[⟨wl,xs,zs,_,_,λb o nt e=> ?_,kK _ _ (R.st.trans (aI.updL U)) gZ,(am.nt R.nt).way (w1:=(c,J.S.idxOf s')) aw (getElem?_eq_getElem as) U (R.nt.dens dvs) (eO (aD.of e6) (.cons (.int _) (.cons (.int _) .nil))),?_,aZ,pI,?_,bi,ps,((br.su R.nt.su).su a1),rfl⟩]
    ·rw [ag (gD nt e (aZ an aY))];exact R _ _ (sZ b o nt e)
    ·rwa[oY (ah R.nt aP) a1 (ag bD) vf]
    ·rw [ag (λz:lc=an=>bi (by rw [z];exact aY))];exact R _ _ bL
  ·obtain ⟨wl,xs,zs,o7,o8,sY,gY,B,hD,fw,O,au,cw,Y,I,rfl⟩:=pv;rw [show ((jK ks.length @ee).map V.int).length=(jK ks.length s.ts).length from length_map ..] at B hD O Y;rw [take_length] at B hD O Y
   have e1:FS @A ks.length @cq (n+1)=(jK ks.length s.ts).foldl @bP G:=by
    show (FS @A ks.length @cq n).row _ _ n=_;rw [aV];unfold Gr.row;rw [ad]
   rwa[⟨_,rfl,(n:Int),1,rfl,rfl,?_⟩];rwa[⟨1000 - (n+1),by lia,n+1,wl,xs,zs,_,_,_,sY,gY,by rw [e1];exact B,by rw [e1];exact hD,fw,by rw [e1];exact O.next Y rfl,λj hj=> ?_,by rw [e1];exact (List.getElem?_eq_some_iff.mp Y).1,rfl,rfl⟩];by_cases y:j<n
   ·exact hA j y
   ·obtain rfl:j=n:=by lia
    rw [aV];exact z
 ·rwa[hU @c ?_]
  have e:n=G.S.length:=by lia
  exact q g l0 l1 l2 wl xs zs n G HX sN gX B (λb hb=>by
   rcases mem_cons.mp hb with rfl|hb
   ·exact f0
   ·rcases mem_cons.mp hb with rfl|hb
    ·exact f1
    ·rcases mem_cons.mp hb with rfl|hb
     ·exact f2
     ·exact fw b hb) ⟨aV.symm,e,hA,O⟩
theorem lh {bs:List Bool}{ws:Nat->Int}(h1:bs=[true]\/bs=[true,true]):0<=xQ bs ws/\xQ bs ws<(bs.length:Int):=by
 rcases h1 with rfl|rfl
 ·have h:cW [true] ws 0:= .inr ⟨0,rfl,by decide,rfl,λj Z _=>by
   obtain rfl:j=0:=by simp at Z;lia
   exact ⟨Int.le_refl _,λz=>absurd z @G⟩⟩
  rw [<-lj h];decide
 ·by_cases z:ws 0<=ws 1
  ·have h:cW [true,true] ws 0:= .inr ⟨0,rfl,by decide,rfl,λj Z _=>by
    rcases (show j=0\/j=1 by simp at Z;lia) with rfl|rfl
    ·exact ⟨Int.le_refl _,λz=>absurd z @G⟩
    ·exact ⟨z,λz=>absurd z @c⟩⟩
   rw [<-lj h];decide
  ·have h:cW [true,true] ws 1:= .inr ⟨1,rfl,by decide,rfl,λj Z _=>by
    rcases (show j=0\/j=1 by simp at Z;lia) with rfl|rfl
    ·exact ⟨by lia,λ_=>by lia⟩
    ·exact ⟨Int.le_refl _,λz=>absurd z @G⟩⟩
   rw [<-lj h];decide
theorem PU {k:Dk}{cs:List Cb}{ws:List aL}{r:aL}{last:Int}(B:aY @U=[true]\/aY @U=[true,true])(l0:0<=last)(l1:last<((aY @U).length:Int)):0<=(jJ k cs ws r last).1/\(jJ k cs ws r last).1<((aY @U).length:Int)/\0<=(jJ k cs ws r last).2/\(jJ k cs ws r last).2<((aY @U).length:Int):=by
 cases k with
 |near=>exact ⟨(lh B).1,(lh B).2,l0,l1⟩
 |least=>exact ⟨(lh B).1,(lh B).2,l0,l1⟩
 |turns=>
  have h:0<=ez cs last/\ez cs last<((aY @U).length:Int):=by
   unfold ez
   rcases B with e|e
   ·rw [e] at l1 ⊢
    obtain rfl:last=0:=by simp at l1;lia
    decide
   ·rw [e] at l1 ⊢
    rcases (show last=0\/last=1 by simp at l1;lia) with rfl|rfl<;>decide
  show 0<=ez cs last/\ez cs last<_/\0<=(if ez cs last= -1 then last else ez cs last)/\(if ez cs last= -1 then last else ez cs last)<_;rw [if_neg @c];exact ⟨h.1,h.2,h.1,h.2⟩
theorem mU {dl:vV}{W:List aL}{M:MS}:∀n,(∀i r,i<n->W[i]? =some r->r.lift≠ -1)->aO dl W n M=M
 |0,_=>rfl
 |n+1,h=>by
  have j:=mU (dl:=dl) (W:=W) (M:=M) n λi r hi=>h i r @c;unfold aO;split
  ·rename_i r Y;rw [if_neg (h n r @c Y),j]
  ·exact j
theorem Fs {k:Dk}{lo:Nat}{cs:List Cb}{ws:List aL}{last:Int}{ks:List (Int×Int)}{c:Int}(B:∀r∈ws,r.lift≠ -1)(j:aY @U=[true]\/aY @U=[true,true])(l0:0<=last)(l1:last<((aY @U).length:Int)):
 ∃ws' last' lg,oz (jJ k) (aN lo ⟨cs,ws,last,false,0,[]⟩ (CQ ks c))=⟨cs,ws',last',false,0,lg⟩/\0<=last'/\last'<((aY @U).length:Int)/\(ws'=ws\/c≠ -1/\∃i:Int,0<=i/\i<((aY @U).length:Int)/\ws'=ws++[⟨c,(ks.getD c.toNat (0,0)).1,(ks.getD c.toNat (0,0)).2,i⟩]):=by
 have F:∀M:MS,M.ws=ws->oz (jJ k) M=M:=λM e=>by
  unfold oz;exact mU _ λi r _ Y=>B r (by rw [<-e];exact mem_of_getElem? Y)
 unfold CQ;by_cases z:c= -1
 ·rw [if_pos z];exact ⟨ws,last,[],F _ rfl,l0,l1,.inl rfl⟩
 ·rw [if_neg z];show ∃ws' last' lg,oz (jJ k) (eS lo ⟨cs,ws,last,false,0,[]⟩ c (ks.getD c.toNat (0,0)).1 (ks.getD c.toNat (0,0)).2 false)=_/\_;unfold eS;split
  ·exact ⟨ws,last,_,F _ rfl,l0,l1,.inl rfl⟩
  ·rw [if_neg (λy=>by have y:false=true:=y;cases y)];generalize Y:(⟨c,(ks.getD c.toNat (0,0)).1,(ks.getD c.toNat (0,0)).2,-1⟩:aL)=r;have d:=PU (k:=k) (ws:=ws++[r]) (r:=r) j l0 l1;rwa[⟨ws++[{r with lift:=(jJ k cs (ws++[r]) r last).1}],(jJ k cs (ws++[r]) r last).2,[LO r.tag (jJ k cs (ws++[r]) r last).1],?_,d.2.2.1,d.2.2.2,.inr ⟨z,_,d.1,d.2.1,by rw [<-Y]⟩⟩]
   have W:r.lift= -1:=by rw [<-Y]
   unfold oz;show aO (jJ k) (ws++[_]) (ws++[_]).length _=_;rw [length_append];show aO (jJ k) (ws++[_]) (ws.length+1) _=_;unfold aO;rw [getElem?_append_right @e,Nat.sub_self];show (if r.lift= -1 then _ else _)=_;rw [if_pos W,mU _ λi r hi Y=>B r (by rw [getElem?_append_left hi] at Y;exact mem_of_getElem? Y)];unfold fS;rw [if_neg (by show ¬(jJ k cs (ws++[r]) r last).1= -1;lia)];show (⟨cs,(ws++[r]).set ws.length _,_,false,0,[]++[_]⟩:MS)=_;rw [List.set_append_right _ _ @e,Nat.sub_self];rfl
theorem nq {so:Str}{room pl:Int}:∀(rs:List aL) (s:CL),∃I,List.Sublist I rs/\(bo so room pl s rs).kept=s.kept++I.map (λr=>(r.tag,r.goal))/\(bo so room pl s rs).ins=s.ins++I.map aL.tag
 |[],s=>⟨[],.slnil,by simp [bo],by simp [bo]⟩
 |r::rs,s=>by
  obtain ⟨I,h1,h2,L⟩:=nq rs @bC;have e:bo so room pl s (r::rs)=bo so room pl @bC rs:=rfl;rw [e,h2,L];unfold cN;split
  ·exact ⟨r::I,h1.cons_cons r,by simp,by simp⟩
  ·exact ⟨I,h1.cons r,rfl,rfl⟩
theorem sub_le {α:Type}{xs:List α}:∀ {ys:List α},xs.Nodup->(∀x∈xs,x∈ys)->xs.length<=ys.length:=by
 classical
 induction xs with
 |nil=>exact λ_ _=>Nat.zero_le _
 |cons x xs ih=>
  intro ys L h;rw [nodup_cons] at L;have j:=h x (.head _);have:=ih (ys:=ys.erase x) L.2 λy R=>(List.mem_erase_of_ne (λz=>L.1 (by rw [<-z];exact R))).mpr (h y (.tail _ R));rw [List.length_erase_of_mem j] at this;have:0<ys.length:=List.length_pos_of_mem j;simp only [length_cons];lia
theorem few {α:Type}{Good:SS->Prop}{f:SS->α}{ys:List α}(j:∀s t,Good s->Good t->f s=f t->s=t)(U:∀s,Good s->f s∈ys){L:List SS}(B:L.Nodup)(F:∀s∈L,Good s):L.length<=ys.length:=by
 have h:(L.map f).Nodup:=by
  rw [List.Nodup,List.pairwise_map];exact List.Pairwise.imp_of_mem (λ{a b} I J z y=>z (j a b (F a I) (F b J) y)) B
 have:=sub_le h λy R=>by
  obtain ⟨s,hs,rfl⟩:=mem_map.mp R;exact U s (F s hs)
 rwa [length_map] at this
def FR (ks:List (Int×Int))(r:aL):Prop:=r.lift=0/\0<=r.tag/\r.tag<(ks.length:Int)/\r.start=(ks.getD r.tag.toNat (0,0)).1/\r.goal=(ks.getD r.tag.toNat (0,0)).2
def FP (ks:List (Int×Int))(p:Int×Int):Prop:=0<=p.1/\p.1<(ks.length:Int)/\p.2=(ks.getD p.1.toNat (0,0)).2
structure fX (hs:Hs)(ks:List (Int×Int))(s:SS):Prop where
 ex:∃c:Cb,s.cs=[c]/\0<=c.pl/\c.pl<=2*(hs.fl - 1)/\ -1<=c.li/\c.li<=1/\0<=c.dr/\(∀l∈hs.ls,c.dr<=l.tn)/\c.mr=0/\(c.pl% 2=1->c.dr=0/\c.li≠0)/\(∀p∈c.ps,FP ks p)/\(c.ps.map (·.1)++s.ws.map aL.tag).Nodup
 fr:∀r∈s.ws,FR ks r
 l:s.last=0
theorem F4 {ks:List (Int×Int)}:∀ {ps qs:List (Int×Int)},(∀p∈ps,FP ks p)->(∀p∈qs,FP ks p)->ps.map (·.1)=qs.map (·.1)->ps=qs
 |[],[],_,_,_=>rfl
 |[],_::_,_,_,h=>by simp at h
 |_::_,[],_,_,h=>by simp at h
 |p::ps,q::qs,h1,h2,h=>by
  rw [map_cons,map_cons] at h;injection h with e1 e2;have a:=h1 p (.head _);have b:=h2 q (.head _);rw [F4 (λx z=>h1 x (.tail _ z)) (λx z=>h2 x (.tail _ z)) e2];congr 1;exact Prod.ext e1 (by rw [a.2.2,b.2.2,e1])
theorem FZ {ks:List (Int×Int)}:∀ {ps qs:List aL},(∀p∈ps,FR ks p)->(∀p∈qs,FR ks p)->ps.map aL.tag=qs.map aL.tag->ps=qs
 |[],[],_,_,_=>rfl
 |[],_::_,_,_,h=>by simp at h
 |_::_,[],_,_,h=>by simp at h
 |p::ps,q::qs,h1,h2,h=>by
  rw [map_cons,map_cons] at h;injection h with e1 e2;obtain ⟨L,_,_,B,F⟩:=h1 p (.head _);obtain ⟨J,_,_,j,I⟩:=h2 q (.head _);rw [FZ (λx z=>h1 x (.tail _ z)) (λx z=>h2 x (.tail _ z)) e2];congr 1;cases p;cases q;simp only at e1 L B F J j I;rw [B,F,j,I,L,J,e1]
def hd1 (s:SS):Cb:=s.cs.headD ⟨0,0,0,0,[]⟩
def Nr (s:SS):(Int×Int×Int)×(List Int×List Int):=(((hd1 s).pl,(hd1 s).li,(hd1 s).dr),((hd1 s).ps.map (·.1),s.ws.map aL.tag))
def Nv (F T:Nat):List (Int×Int×Int):=((List.range F).flatMap λp:Nat=>[-1,0,1].flatMap λl:Int=>(List.range (T+1)).map λd:Nat=>(2*(p:Int),l,(d:Int)))++((List.range (F - 1)).flatMap λp:Nat=>[(2*(p:Int)+1,-1,0),(2*(p:Int)+1,1,0)])
def Dn:List (List Int×List Int):=[([],[]),([],[0]),([],[1]),([],[0,1]),([],[1,0]),([0],[]),([0],[1]),([1],[]),([1],[0]),([0,1],[]),([1,0],[])]
def K9:List (List Int×List Int):=[([],[]),([],[0]),([0],[])]
theorem wm:∀ {xs:List Int},xs.Nodup->(∀x∈xs,x=0\/x=1)->xs∈[[],[0],[1],[0,1],[1,0]]
 |[],_,_=>by simp
 |[x],_,h=>by rcases h x @f with rfl|rfl<;>simp
 |[x,y],nd,h=>by
  rcases h x @f with rfl|rfl<;>rcases h y @f with rfl|rfl<;>simp at nd ⊢
 |x::y::z::r,nd,h=>by
  exfalso;simp only [nodup_cons,mem_cons,not_or] at nd;have j:=h x @f;have R:=h y @f;have B:=h z @f;lia
theorem Am {xs ys:List Int}(L:(xs++ys).Nodup)(h:∀x∈xs++ys,x=0\/x=1):(xs,ys)∈Dn:=by
 have j:=(nodup_append.mp L);have h1:=wm j.1 λx z=>h x (mem_append_left _ z);have h2:=wm j.2.1 λx z=>h x (mem_append_right _ z);have B:=j.2.2;simp only [mem_cons,not_mem_nil,or_false] at h1 h2;unfold Dn
 rcases h1 with rfl|rfl|rfl|rfl|rfl<;>rcases h2 with rfl|rfl|rfl|rfl|rfl<;>first|exact absurd L @b|simp
theorem Hu {xs ys:List Int}(L:(xs++ys).Nodup)(h:∀x∈xs++ys,x=0):(xs,ys)∈K9:=by
 have h1:(xs,ys)∈Dn:=Am L λx z=> .inl (h x z);unfold Dn at h1;unfold K9;simp only [mem_cons,Prod.mk.injEq,not_mem_nil,or_false] at h1 ⊢
 rcases h1 with ⟨rfl,rfl⟩|⟨rfl,rfl⟩|⟨rfl,rfl⟩|⟨rfl,rfl⟩|⟨rfl,rfl⟩|⟨rfl,rfl⟩|⟨rfl,rfl⟩|⟨rfl,rfl⟩|⟨rfl,rfl⟩|⟨rfl,rfl⟩|⟨rfl,rfl⟩<;>first|decide|(exfalso;have y:=h 1 @b;exact absurd y @b)
theorem JE {F T:Nat}{p l d:Int}(B:0<=p)(U:p<=2*((F:Int) - 1))(l0: -1<=l)(l1:l<=1)(R:0<=d)(L:d<=(T:Int))(od:p% 2=1->d=0/\l≠0):(p,l,d)∈Nv F T:=by
 unfold Nv;by_cases z:p% 2=1
 ·rwa[mem_append_right _ (mem_flatMap.mpr ⟨(p / 2).toNat,mem_range.mpr @c,?_⟩)];obtain ⟨rfl,W⟩:=od z;rw [show 2*(((p / 2).toNat:Nat):Int)+1=p by lia]
  rcases (show l= -1\/l=1 by lia) with rfl|rfl<;>simp
 ·rwa[mem_append_left _ (mem_flatMap.mpr ⟨(p / 2).toNat,mem_range.mpr @c,mem_flatMap.mpr ⟨l,?_,mem_map.mpr ⟨d.toNat,mem_range.mpr @c,?_⟩⟩⟩)]
  ·rcases (show l= -1\/l=0\/l=1 by lia) with rfl|rfl|rfl<;>simp
  ·rw [show 2*(((p / 2).toNat:Nat):Int)=p by lia,show ((d.toNat:Nat):Int)=d by lia]
theorem PJ {hs:Hs}{ks:List (Int×Int)}{F T:Nat}{tg:List (List Int×List Int)}(hf:hs.fl<=(F:Int))(t2:∃l∈hs.ls,l.tn<=(T:Int))(O:∀ {xs ys:List Int},(xs++ys).Nodup->(∀x∈xs++ys,0<=x/\x<(ks.length:Int))->(xs,ys)∈tg){L:List SS}(nd:L.Nodup)(hL:∀s∈L,fX hs ks s):L.length<=((Nv F T).flatMap λc=>tg.map λt=>(c,t)).length:=by
 rwa[few (f:=Nr) (Good:=fX hs ks) (λs t j I e=> ?_) (λs j=> ?_) nd hL]
 ·obtain ⟨c,S,_,_,_,_,_,_,m,_,fp,_⟩:=j.ex;obtain ⟨c',B,_,_,_,_,_,_,m',_,J,_⟩:=I.ex;have l:=j.l;have l':=I.l;have fr:=j.fr;have z:=I.fr;obtain ⟨cs,ws,Y⟩:=s;obtain ⟨ab,aa,R⟩:=t;simp only at S B l l' fr z;subst S;subst B;subst l;subst l';unfold Nr hd1 at e;simp only [List.headD_cons,Prod.mk.injEq] at e;obtain ⟨⟨z1,Z,W⟩,z4,z5⟩:=e;have y1:=F4 fp J z4;have y2:=FZ fr z z5;cases c;cases c';simp only at z1 Z W y1 m m';rw [z1,Z,W,y1,y2,m,m']
 ·obtain ⟨c,S,p0,p1,l0,l1,d0,d1,m,od,fp,U⟩:=j.ex;obtain ⟨l,hl,lt⟩:=t2;have d1:=d1 l hl;unfold Nr hd1;rw [S];simp only [List.headD_cons];rwa[mem_flatMap.mpr ⟨(c.pl,c.li,c.dr),JE p0 @c l0 l1 d0 @c od,mem_map.mpr ⟨(c.ps.map (·.1),s.ws.map aL.tag),O U λx hx=> ?_,rfl⟩⟩]
  rcases mem_append.mp hx with y|y
  ·obtain ⟨p,hp,rfl⟩:=mem_map.mp y;have:=fp p hp;exact ⟨this.1,this.2.1⟩
  ·obtain ⟨r,hr,rfl⟩:=mem_map.mp y;have:=j.fr r hr;exact ⟨this.2.1,this.2.2.1⟩
structure QL (hs:Hs)(ks:List (Int×Int))(l:Lf):Prop where
 ls:hs.ls=[l]
 ok:hs.ok
 kl:ks.length<=2
 kd:∀k∈ks,xU hs.fl k
theorem Nk {k:Str}{t n:Int}{b s:Bool}(h1:1<=n)(h2:n<=t):0<=eN k t n b s/\eN k t n b s<=t:=by
 unfold eN;split
 ·lia
 ·split<;>lia
theorem FR.ok {fl:Int}{ks:List (Int×Int)}{r:aL}(j:∀k∈ks,xU fl k)(h:FR ks r):hV fl r:=by
 obtain ⟨_,h1,h2,B,F⟩:=h
 have W:r.tag.toNat<ks.length:=by lia
 have I:ks.getD r.tag.toNat (0,0)∈ks:=by rw [getD_eq_getElem?_getD,getElem?_eq_getElem W];exact getElem_mem W
 obtain ⟨O,Y,R,L,z⟩:=j _ I;rw [<-B] at O Y z;rw [<-F] at R L z;exact ⟨O,Y,R,L,z⟩
theorem FP.ok {fl:Int}{ks:List (Int×Int)}{p:Int×Int}(j:∀k∈ks,xU fl k)(h:FP ks p):0<=p.2/\p.2<fl:=by
 obtain ⟨h1,h2,z⟩:=h
 have W:p.1.toNat<ks.length:=by lia
 have B:ks.getD p.1.toNat (0,0)∈ks:=by rw [getD_eq_getElem?_getD,getElem?_eq_getElem W];exact getElem_mem W
 obtain ⟨O,Y,R,L,F⟩:=j _ B;rw [z];exact ⟨R,L⟩
theorem Ht {xs:List Int}{n:Nat}(L:xs.Nodup)(h:∀x∈xs,0<=x/\x<(n:Int)):xs.length<=n:=by
 have:=sub_le L (ys:=(List.range n).map λi:Nat=>(i:Int)) λx z=>mem_map.mpr ⟨x.toNat,mem_range.mpr (by have:=h x z;lia),by have:=h x z;lia⟩;rwa [length_map,length_range] at this
theorem fX.len {hs:Hs}{ks:List (Int×Int)}{s:SS}(g:fX hs ks s):(∃c,s.cs=[c]/\c.ps.length<=ks.length)/\s.ws.length<=ks.length:=by
 obtain ⟨c,e,_,_,_,_,_,_,_,_,fp,L⟩:=g.ex
 have h:=Ht (n:=ks.length) L λx z=>by
  rcases mem_append.mp z with y|y
  ·obtain ⟨p,F,rfl⟩:=mem_map.mp y;have:=fp p F;exact ⟨this.1,this.2.1⟩
  ·obtain ⟨r,Y,rfl⟩:=mem_map.mp y;have:=g.fr r Y;exact ⟨this.2.1,this.2.2.1⟩
 rw [length_append,length_map,length_map] at h;exact ⟨⟨c,e,by lia⟩,by lia⟩
theorem fX.sok {hs:Hs}{ks:List (Int×Int)}{l:Lf}{s:SS}(o:QL hs ks l)(g:fX hs ks s):NM hs 8 s.cs s.ws s.last:=by
 obtain ⟨⟨L,j,O⟩,lw⟩:=g.len;obtain ⟨c,e,I,U,l0,l1,R,S,m,F,fp,W⟩:=g.ex;rw [j] at e;cases e;have Z:=o.kl;rwa[⟨by rw [j,o.ls];rfl,λx B=> ?_,λr Y=>(g.fr r Y).ok o.kd,by lia,by rw [g.l];decide⟩];rw [j] at B;rw [mem_singleton.mp B]
 exact ⟨I,U,l0,l1,by lia,(λz=>by
  have: ¬L.pl% 2=1:=λy=>by have:=(F y).1;lia
  lia),by lia,λp J=>(fp p J).ok o.kd⟩
theorem fX.start {hs:Hs}{ks:List (Int×Int)}{l:Lf}(o:QL hs ks l)(st:xR hs):fX hs ks @cq:=by
 have h:=st l (by rw [o.ls];exact .head _);rwa[⟨⟨Nu l,by unfold s0;rw [o.ls];rfl,?_⟩,(λr Y=>nomatch Y),by unfold s0;rw [o.ls];rfl⟩];show 0<=2*l.st/\2*l.st<=2*(hs.fl - 1)/\(-1:Int)<=0/\(0:Int)<=1/\(0:Int)<=0/\(∀l∈hs.ls,(0:Int)<=l.tn)/\(0:Int)=0/\(2*l.st% 2=1->_)/\(∀p∈([]:List (Int×Int)),FP ks p)/\([]:List Int).Nodup;exact ⟨by lia,by lia,by decide,by decide,by decide,λl W=>by have:=(o.ok.lf l W).2.2.1;lia,rfl,λz=>by lia,(λp F=>nomatch F),.nil⟩
theorem fX.step {hs:Hs}{wf:Wf}{k:Dk}{ks:List (Int×Int)}{l:Lf}(o:QL hs ks l)(hw:∀fl li he up dn,eV li he up dn->wf fl li he up dn∈cF){s s':SS}{c:Int}(g:fX hs ks s)(hc:Af ks.length s.ts c)(ht:TR hs wf k ks s c s'):fX hs ks s':=by
 obtain ⟨b,e,p0,p1,l0,l1,d0,d1,m,od,fp,nd⟩:=g.ex
 have hb:aY (s.cs.map c8)=[true]:=by
  rw [e];show [decide (b.mr=0)]=[true];rw [m];rfl
 obtain ⟨j,aa,B,em,a1,a2,al⟩:=Fs (k:=k) (lo:=hs.lo) (last:=s.last) (ks:=ks) (c:=c) (λr Y z=>by have:=(g.fr r Y).1;lia) (.inl hb) (by rw [g.l];decide) (by rw [g.l,hb];decide);rw [hb] at a2 al
 have el:aa=0:=by simp at a2;lia
 subst el
 have L:∀r∈j,FR ks r:=by
  rcases al with rfl|⟨z,i,i0,i1,rfl⟩
  ·exact g.fr
  ·intro r Y
   rcases mem_append.mp Y with y|y
   ·exact g.fr r y
   ·rw [mem_singleton.mp y]
    obtain ⟨c0,c1,_⟩:0<=c/\c<(ks.length:Int)/\c∉s.ts:=by rcases hc with x|x;exact absurd x z;exact x
    exact ⟨by simp at i1;show i=0;lia,c0,c1,rfl,rfl⟩
 have ab:(b.ps.map (·.1)++j.map aL.tag).Nodup:=by
  rcases al with rfl|⟨z,i,i0,i1,rfl⟩
  ·exact nd
  ·obtain ⟨_,_,c2⟩:0<=c/\c<(ks.length:Int)/\c∉s.ts:=by rcases hc with x|x;exact absurd x z;exact x
   rw [map_append,<-append_assoc,nodup_append];rwa[⟨nd,by simp,λx hx y W=> ?_⟩]
   have W:y=c:=by simpa using W
   rw [W];rintro rfl;rwa[c2 ?_];unfold SS.ts bu;rw [e]
   rcases mem_append.mp hx with w|w
   ·exact mem_append_right _ (by simpa using w)
   ·exact mem_append_left _ w
 obtain ⟨M',aV,S,f2,f3⟩:=ht;rw [em,o.ls,e] at aV;obtain ⟨M0,c',U,h0,Z,hl,hR⟩:=aV;obtain rfl:M0=_:=h0;rw [o.ls] at hl;have hl:some l=some U:=hl;cases hl;have Z:some b=some c':=Z.2;cases Z;have af:=o.ok.lf l (by rw [o.ls];exact .head _)
 rcases hR with ⟨z,_⟩|⟨_,z,_⟩|⟨_,_,hG⟩
 ·rw [m] at z;exact absurd z @b
 ·have z:false=true:=z;cases z
 unfold x9 at hG;split at hG
 ·
  rename_i dr;subst hG
  have ev:b.pl% 2=0:=by
   have: ¬b.pl% 2=1:=λy=>by have:=(od y).1;lia
   lia
  have ax:aF 0 ⟨[b],j,0,false,0,B⟩=j:=by
   unfold aF;exact List.filter_eq_self.mpr λr Y=>decide_eq_true (L r Y).1
  obtain ⟨I,s1,s2,s3⟩:=nq (so:=hs.so) (room:=l.rm) (pl:=b.pl) j ⟨b.li,dE b.pl b.ps,[]⟩
  have sl:=pj (so:=hs.so) (pl:=b.pl) (fl:=hs.fl) (show l.rm<=64 by lia) j ⟨b.li,dE b.pl b.ps,[]⟩ ⟨l0,l1⟩ (by
   have:=(g.len).1;obtain ⟨x,ex,lx⟩:=this;rw [e] at ex;cases ex;have k2:=o.kl
   exact Nat.le_trans @bd @c) (λp O=>(fp p (mem_filter.mp O).1).ok o.kd) (λr Y=>(L r Y).ok o.kd)
  have kp:∀p∈dE b.pl b.ps,p∈b.ps:=λp O=>(mem_filter.mp O).1;have ae:∀r∈I,r∈j:=λr Y=>s1.subset Y;rwa[⟨⟨_,S.symm,?_⟩,λr Y=> ?_,f3.symm⟩]
  ·have dl:=Nk (k:=l.kd) (b:=(0:Nat).testBit 0) (s:=decide (((cZ b.pl b.ps).length:Int)+((c7 hs b l @m).ins.length:Int)>0)) (show 1<=b.dr by lia) (d1 l (by rw [o.ls];exact .head _));rwa[⟨p0,p1,?_,?_,dl.1,λU J=>by rw [o.ls] at J;rw [mem_singleton.mp J];exact dl.2,m,λy=>by have y:b.pl% 2=1:=y;lia,?_,?_⟩]
   ·show -1<=(c7 hs b l @m).light;rw [ax];exact sl.1.1
   ·show (c7 hs b l @m).light<=1;rw [ax];exact sl.1.2
   ·intro p O;have O:p∈(c7 hs b l @m).kept:=O;rw [ax] at O;rw [show (c7 hs b l j).kept=dE b.pl b.ps++I.map (λr=>(r.tag,r.goal)) from s2] at O
    rcases mem_append.mp O with y|y
    ·exact fp p (kp p y)
    ·obtain ⟨r,Y,rfl⟩:=mem_map.mp y;obtain ⟨_,r1,r2,_,r4⟩:=L r (ae r Y);exact ⟨r1,r2,r4⟩
   ·rw [<-f2];show ((c7 hs b l @m).kept.map (·.1)++(j.filter λr=> !decide (r.tag∈(c7 hs b l @m).ins)).map aL.tag).Nodup;rw [ax,show (c7 hs b l j).kept=dE b.pl b.ps++I.map (λr=>(r.tag,r.goal)) from s2,show (c7 hs b l j).ins=[]++I.map aL.tag from s3,nil_append,map_append,map_map,append_assoc];obtain ⟨na,nb,nc⟩:=nodup_append.mp ab;have fs:(j.filter λr=> !decide (r.tag∈I.map aL.tag)).Sublist j:=List.filter_sublist;rw [nodup_append];rwa[⟨(List.filter_sublist.map _).nodup na,?_,λx hx y W=> ?_⟩]
    ·show (I.map aL.tag++_).Nodup;rw [nodup_append];rwa[⟨(s1.map _).nodup nb,(fs.map _).nodup nb,λx hx y W=> ?_⟩];obtain ⟨r,Y,rfl⟩:=mem_map.mp W;have:=(mem_filter.mp Y).2;rintro rfl;simp only [Bool.not_eq_true',decide_eq_false_iff_not] at this;exact this hx
    ·obtain ⟨p,O,rfl⟩:=mem_map.mp hx;rwa[nc _ (mem_map.mpr ⟨p,kp p O,rfl⟩) y ?_]
     rcases mem_append.mp W with w|w
     ·obtain ⟨r,Y,rfl⟩:=mem_map.mp w;exact mem_map.mpr ⟨r,ae r Y,rfl⟩
     ·obtain ⟨r,Y,rfl⟩:=mem_map.mp w;exact mem_map.mpr ⟨r,(mem_filter.mp Y).1,rfl⟩
  ·rw [<-f2] at Y;exact L r (mem_filter.mp Y).1
 rename_i dr
 have ac:b.dr=0:=by lia
 split at hG
 ·rename_i ad;subst hG;obtain ⟨_,li⟩:=od ad;rwa[⟨⟨_,S.symm,?_,?_,l0,l1,Int.le_refl _,λU J=>by have:=(o.ok.lf U J).2.2.1;show (0:Int)<=_;lia,m,λy=> ?_,fp,by rw [<-f2];exact ab⟩,λr Y=>L r (by rw [<-f2] at Y;exact Y),f3.symm⟩]
  ·show 0<=b.pl+b.li;lia
  ·show b.pl+b.li<=_;lia
  ·have y:(b.pl+b.li)% 2=1:=y;lia
 ·rename_i ad;obtain ⟨R,u,d,e1,hu,hd,rfl⟩:=hG;have h5:=Nh (hZ (so:=hs.so) (pl:=b.pl) (li:=b.li) (ps:=b.ps) (hw R b.li (dQ hs.so b.li (tk l.rm b.ps @m R) (CK b.ps R) (Bc @m R b.li)) u d ⟨l0,l1,mK.1,mK.2,by rcases hu with ⟨h,_⟩|⟨h,_⟩<;>lia,by rcases hd with ⟨h,_⟩|⟨h,_⟩<;>lia⟩))
  have lt: -1<=(if b.ps=[] then (0:Int) else b.li)/\(if b.ps=[] then (0:Int) else b.li)<=1:=by split<;>lia
  have ag:l∈hs.ls:=by rw [o.ls];exact .head _
  have tl:∀U∈hs.ls,l.tn<=U.tn:=λU J=>by rw [o.ls] at J;rw [mem_singleton.mp J];exact Int.le_refl _
  have F:∀ {q:Int×Int×Int},0<=q.1->q.1<=2*(hs.fl - 1)-> -1<=q.2.1->q.2.1<=1->0<=q.2.2->(∀U∈hs.ls,q.2.2<=U.tn)->(q.1% 2=1->q.2.2=0/\q.2.1≠0)->[(⟨q.1,q.2.1,q.2.2,b.mr,b.ps⟩:Cb)]=s'.cs->fX hs ks s':=λh1 h2 h3 h4 h5 h6 h7 h8=>⟨⟨_,h8.symm,h1,h2,h3,h4,h5,h6,m,h7,fp,by rw [<-f2];exact ab⟩,λr Y=>L r (by rw [<-f2] at Y;exact Y),f3.symm⟩;have S:[(⟨(dH hs.fl l.tn b.pl b.li b.dr b.ps @D).1,(dH hs.fl l.tn b.pl b.li b.dr b.ps @D).2.1,(dH hs.fl l.tn b.pl b.li b.dr b.ps @D).2.2,b.mr,b.ps⟩:Cb)]=s'.cs:=S;generalize bv hs.so b.pl b.li b.ps _=x at h5 S;have t1:=af.2.2.1
  rcases h5 with rfl|rfl|rfl|rfl|rfl
  ·rw [Gf] at S;exact F p0 p1 l0 l1 (by show 0<=l.tn;lia) tl (λy=>by have y:b.pl% 2=1:=y;lia) S
  ·rw [Gd] at S;exact F p0 p1 (by show (-1:Int)<=0;decide) (by show (0:Int)<=1;decide) (by show 0<=l.tn;lia) tl (λy=>by have y:b.pl% 2=1:=y;lia) S
  ·by_cases z:b.pl / 2<hs.fl - 1
   ·rw [zM z] at S;exact F (by show 0<=b.pl+1;lia) (by show b.pl+1<=_;lia) (by show (-1:Int)<=1;decide) (by show (1:Int)<=1;decide) d0 d1 (λ_=>⟨ac,by show (1:Int)≠0;decide⟩) S
   ·rw [zN z] at S;exact F p0 p1 lt.1 lt.2 d0 d1 (λy=>by have y:b.pl% 2=1:=y;lia) S
  ·by_cases z:0<b.pl
   ·rw [zO z] at S;exact F (by show 0<=b.pl - 1;lia) (by show b.pl - 1<=_;lia) (by show (-1:Int)<= -1;decide) (by show (-1:Int)<=1;decide) d0 d1 (λ_=>⟨ac,by show (-1:Int)≠0;decide⟩) S
   ·rw [zP z] at S;exact F p0 p1 lt.1 lt.2 d0 d1 (λy=>by have y:b.pl% 2=1:=y;lia) S
  ·rw [Ge] at S;exact F p0 p1 lt.1 lt.2 d0 d1 (λy=>by have y:b.pl% 2=1:=y;lia) S
theorem DU {hs:Hs}{wf:Wf}{k:Dk}{ks:List (Int×Int)}{l:Lf}(o:QL hs ks l)(st:xR hs)(R:hs.fl<=3/\l.tn<=2\/ks.length=1)(S:∀fl li he up dn,eV li he up dn->wf fl li he up dn∈cF):Bg hs wf k ks 500 (fX hs ks):=by
 rwa[⟨.start o st,λs c s' g J U=>g.step o S J U,λs g=>g.sok o,λL j I=> ?_⟩]
 have B:l∈hs.ls:=by rw [o.ls];exact .head _
 rcases R with ⟨W,O⟩|Y
 ·rwa[Nat.le_trans (PJ (F:=3) (T:=2) (tg:=Dn) W ⟨l,B,O⟩ (λj h=>Am j λx z=> ?_) j I) @z];have:=h x z;have:=o.kl;lia
 ·rwa[Nat.le_trans (PJ (F:=8) (T:=4) (tg:=K9) o.ok.f8 ⟨l,B,(o.ok.lf l B).2.2.2.1⟩ (λj h=>Hu j λx z=> ?_) j I) @z];have:=h x z;lia
abbrev T3:=Int×Int×Int
def JS (st:Int):List T3:=[(2*st,-1,0),(2*st,0,0),(2*st,1,0),(2*st,-1,1),(2*st,0,1),(2*st,1,1),(1,2*st - 1,0),(2*(1 - st),-1,0),(2*(1 - st),0,0),(2*(1 - st),1,0)]
def Kq (st:Int):List T3:=[(2*st,-1,0),(2*st,0,0),(2*st,1,0),(1,1 - 2*st,0),(2*(1 - st),1 - 2*st,0),(2*(1 - st),1 - 2*st,1)]
def zD:List T3:=[(0,0,0),(0,-1,0),(2,0,0),(2,1,0)]
noncomputable def Nc (so kd:Str)(rm:Int)(c:T3)(ps:List (Int×Int))(rs:List aL):T3×List (Int×Int)×List Int:=
 if 0<c.2.2 then ((c.1,(mR so rm c.1 c.2.1 ps rs).light,eN kd 1 c.2.2 false (decide (((cZ c.1 ps).length:Int)+((mR so rm c.1 c.2.1 ps rs).ins.length:Int)>0))),(mR so rm c.1 c.2.1 ps rs).kept,(mR so rm c.1 c.2.1 ps rs).ins)
 else if c.1% 2=1 then ((c.1+c.2.1,c.2.1,0),ps,[])
 else (dH 2 1 c.1 c.2.1 c.2.2 ps (bv so c.1 c.2.1 ps (dq c.2.1 (dQ so c.2.1 (tk rm ps rs (c.1 / 2)) (CK ps (c.1 / 2)) (Bc rs (c.1 / 2) c.2.1)) (if c.1=0/\tk rm ps rs 1=true then 1 else 0) (if c.1=2/\tk rm ps rs 0=true then 1 else 0))),ps,[])
def vR (c:Cb):T3:=(c.pl,c.li,c.dr)
def Sa (t:T3)(ps:List (Int×Int)):Cb:=⟨t.1,t.2.1,t.2.2,0,ps⟩
theorem zE {hs:Hs}{wf:Wf}{M M':MS}{i:Int}{c:Cb}{l:Lf}(fl:hs.fl=2)(W:l.tn=1)(hw:∀fl li he up dn,eV li he up dn->wf fl li he up dn=dq li he up dn)(F:M.bl=0)(m:c.mr=0)(I:M.fire=false)(p3:c.pl=0\/c.pl=1\/c.pl=2)(l0: -1<=c.li)(l1:c.li<=1)(U:∀f,tk l.rm c.ps @co f=true->f=0\/f=1)(h:CU hs wf M i c l M'):
 M'.cs=M.cs.set i.toNat (Sa (Nc hs.so l.kd l.rm (vR c) c.ps @co).1 (Nc hs.so l.kd l.rm (vR c) c.ps @co).2.1)/\M'.ws=M.ws.filter (λr=> !decide (r.tag∈(Nc hs.so l.kd l.rm (vR c) c.ps @co).2.2))/\M'.last=M.last/\M'.fire=false/\M'.bl=0:=by
 have j:M.ws.filter (λr=> !decide (r.tag∈([]:List Int)))=M.ws:=List.filter_eq_self.mpr λr _=>by simp
 rcases h with ⟨z,_⟩|⟨_,z,_⟩|⟨_,_,B⟩
 ·rw [m] at z;exact absurd z @b
 ·rw [I] at z;cases z
 unfold x9 at B;unfold Nc vR;simp only;split at B
 ·rename_i d;rw [if_pos d];subst B;rwa[⟨?_,rfl,rfl,I,F⟩];show M.cs.set i.toNat ⟨c.pl,(c7 hs c l @co).light,eN l.kd l.tn c.dr (M.bl.testBit i.toNat) _,c.mr,(c7 hs c l @co).kept⟩=_;rw [F,Nat.zero_testBit,W,m];rfl
 ·rename_i d;rw [if_neg d];split at B
  ·rename_i J;rw [if_pos J];subst B;rwa[⟨?_,j.symm,rfl,I,F⟩];show M.cs.set i.toNat ⟨c.pl+c.li,c.li,0,c.mr,c.ps⟩=_;rw [m];rfl
  ·rename_i J;rw [if_neg J];obtain ⟨R,u,Z,e,S,Y,rfl⟩:=B
   have eu:u=if c.pl=0/\tk l.rm c.ps @co 1=true then 1 else 0:=by
    rcases S with ⟨O,h1⟩|⟨h1,h2,L,h4⟩
    ·rw [if_neg (λz=>by
      have:=h1 1 @b @b
      rw [show (R:Int)+1=1 by lia,z.2] at this;cases this)]
     exact O
    ·have:=U _ L;rw [if_pos ⟨by lia,by rw [show (1:Int)=(R:Int)+u by lia];exact L⟩];lia
   have ed:Z=if c.pl=2/\tk l.rm c.ps @co 0=true then 1 else 0:=by
    rcases Y with ⟨O,h1⟩|⟨h1,h2,h5,L,h4⟩
    ·rw [if_neg (λz=>by
      have:=h1 1 @b @b @c
      rw [show (R:Int) - 1=0 by lia,z.2] at this;cases this)]
     exact O
    ·have:=U _ L;rw [if_pos ⟨by lia,by rw [show (0:Int)=(R:Int) - Z by lia];exact L⟩];lia
   have ef:c.pl / 2=(R:Int):=by lia
   rwa[⟨?_,j.symm,rfl,I,F⟩];show M.cs.set i.toNat (pq hs l c _)=_;rw [hw _ _ _ _ _ ⟨l0,l1,mK.1,mK.2,by rcases S with ⟨h,_⟩|⟨h,_⟩<;>lia,by rcases Y with ⟨h,_⟩|⟨h,_⟩<;>lia⟩,<-eu,<-ed,ef];unfold pq Sa;rw [fl,W,m]
def im (st i:Int):aL:=⟨0,st,1 - st,i⟩
noncomputable def QI (so kd:Str)(rm st:Int):Bool:=
 (zD.all λt=>decide (Nc so kd rm t [] []∈zD.map λt=>(t,([]:List (Int×Int)),([]:List Int))))&&
 ([0,1].all λi=>(JS st).all λt=>decide (Nc so kd rm t [] [im st i]∈((JS st).map λt=>(t,([]:List (Int×Int)),([]:List Int)))++((Kq st).map λt=>(t,[((0:Int),1 - st)],[(0:Int)]))))&&
 ((Kq st).all λt=>decide (Nc so kd rm t [(0,1 - st)] []∈((Kq st).map λt=>(t,[((0:Int),1 - st)],([]:List Int)))++(zD.map λt=>(t,([]:List (Int×Int)),([]:List Int)))))
theorem zU {so j:Str}{rm st:Int}(h1:so=s!"free"\/so=s!"way")(h2:j=y6\/j=hst)(L:rm=1\/rm=2)(z:st=0\/st=1):QI so j rm st=true:=by
 rcases h1 with rfl|rfl<;>rcases h2 with rfl|rfl<;>rcases L with rfl|rfl<;>rcases z with rfl|rfl<;>decide+kernel
structure Sg (hs:Hs)(st:Int)(la lb:Lf):Prop where
 ls:hs.ls=[la,lb]
 fl:hs.fl=2
 ok:hs.ok
 ta:la.tn=1
 tb:lb.tn=1
 ka:la.kd=y6\/la.kd=hst
 kb:lb.kd=y6\/lb.kd=hst
 ra:la.rm=1\/la.rm=2
 rb:lb.rm=1\/lb.rm=2
 s:st=0\/st=1
def Ha (c:Cb):Prop:=c.mr=0/\c.ps=[]/\vR c∈zD
def Qc (st:Int)(c:Cb):Prop:=c.mr=0/\c.ps=[]/\vR c∈JS st
def Qt (st:Int)(c:Cb):Prop:=c.mr=0/\c.ps=[(0,1 - st)]/\vR c∈Kq st
def G2 (st:Int)(a b:Cb)(ws:List aL):Prop:=(ws=[]/\Ha a/\Ha b)\/(ws=[im st 0]/\Qc st a/\Ha b)\/(ws=[im st 1]/\Ha a/\Qc st b)\/(ws=[]/\Qt st a/\Ha b)\/(ws=[]/\Ha a/\Qt st b)
def lD (st:Int)(s:SS):Prop:=∃a b,s.cs=[a,b]/\0<=s.last/\s.last<2/\G2 st a b s.ws
def JR (t:T3):Prop:=(t.1=0\/t.1=1\/t.1=2)/\ -1<=t.2.1/\t.2.1<=1/\0<=t.2.2/\(0<t.2.2->t.1% 2=0)
instance (t:T3):Decidable (JR t):=by unfold JR;exact inferInstance
theorem zY {c:Cb}(h:vR c∈zD):JR (vR c):=(show ∀t∈zD,JR t by decide) _ h
theorem zX {st:Int}{c:Cb}(hs:st=0\/st=1)(h:vR c∈JS st):JR (vR c):=(show ∀t∈JS st,JR t by rcases hs with rfl|rfl<;>decide) _ h
theorem zZ {st:Int}{c:Cb}(hs:st=0\/st=1)(h:vR c∈Kq st):JR (vR c):=(show ∀t∈Kq st,JR t by rcases hs with rfl|rfl<;>decide) _ h
theorem Kc {st:Int}{c:Cb}(hs:st=0\/st=1)(h:Ha c):Qc st c:=by
 have k:∀t∈zD,t∈JS st:=by rcases hs with rfl|rfl<;>decide
 exact ⟨h.1,h.2.1,k _ h.2.2⟩
structure oo (hs:Hs)(wf:Wf)(st:Int)(l:Lf):Prop where
 fl:hs.fl=2
 so:hs.so=s!"free"\/hs.so=s!"way"
 tn:l.tn=1
 kd:l.kd=y6\/l.kd=hst
 rm:l.rm=1\/l.rm=2
 s:st=0\/st=1
 hw:∀fl li he up dn,eV li he up dn->wf fl li he up dn=dq li he up dn
section
variable {hs:Hs}{wf:Wf}{st:Int}{l:Lf}{M M':MS}{i:Int}{c:Cb}
theorem qT {t:T3}{ps:List (Int×Int)}:vR (Sa t ps)=t:=rfl
theorem oo.idle (L:oo hs wf st l)(B:Ha c)(bl:M.bl=0)(O:M.fire=false)(I:aF i M=[])(h:CU hs wf M i c l M'):∃c',Ha c'/\M'.cs=M.cs.set i.toNat c'/\M'.ws=M.ws/\M'.last=M.last/\M'.fire=false/\M'.bl=0:=by
 obtain ⟨m,p,t⟩:=B;obtain ⟨U,Y,F,b4,b5⟩:=zY t;obtain ⟨S,R,J,W,Z⟩:=zE L.fl L.tn L.hw bl m O U Y F (λf z=>by rw [p,I] at z;simp [tk] at z) h;have j:=zU L.so L.kd L.rm L.s;unfold QI at j;simp only [Bool.and_eq_true,all_eq_true,decide_eq_true_eq] at j;have:=j.1.1 _ t;rw [p,I] at S R;obtain ⟨t',h1,h2⟩:=mem_map.mp this;rw [<-h2] at S R;exact ⟨_,⟨rfl,rfl,by rw [qT];exact h1⟩,S,by rw [R];exact List.filter_eq_self.mpr λr _=>by simp,J,W,Z⟩
theorem oo.wait (L:oo hs wf st l)(hi:i=0\/i=1)(J:Qc st c)(bl:M.bl=0)(Z:M.fire=false)(I:aF i M=[im st i])(h:CU hs wf M i c l M'):∃c',M'.cs=M.cs.set i.toNat c'/\((Qc st c'/\M'.ws=M.ws)\/(Qt st c'/\M'.ws=M.ws.filter λr=> !decide (r.tag∈[(0:Int)])))/\M'.last=M.last/\M'.fire=false/\M'.bl=0:=by
 obtain ⟨m,p,t⟩:=J;obtain ⟨b1,Y,O,b4,b5⟩:=zX L.s t;have aa:=L.s
 obtain ⟨S,R,B,F,U⟩:=zE L.fl L.tn L.hw bl m Z b1 Y O (λf z=>by
  rw [p,I] at z;simp [tk,im] at z
  lia) h
 have j:=zU L.so L.kd L.rm L.s;unfold QI at j;simp only [Bool.and_eq_true,all_eq_true,decide_eq_true_eq] at j;have:=j.1.2 i (by rcases hi with rfl|rfl<;>simp) _ t;rw [p,I] at S R
 rcases mem_append.mp this with z|z
 ·obtain ⟨W,h1,h2⟩:=mem_map.mp z;rw [<-h2] at S R;exact ⟨_,S,.inl ⟨⟨rfl,rfl,by rw [qT];exact h1⟩,by rw [R];exact List.filter_eq_self.mpr λr _=>by simp⟩,B,F,U⟩
 ·obtain ⟨W,h1,h2⟩:=mem_map.mp z;rw [<-h2] at S R;exact ⟨_,S,.inr ⟨⟨rfl,rfl,by rw [qT];exact h1⟩,R⟩,B,F,U⟩
theorem oo.ride (L:oo hs wf st l)(J:Qt st c)(bl:M.bl=0)(Z:M.fire=false)(I:aF i M=[])(h:CU hs wf M i c l M'):∃c',M'.cs=M.cs.set i.toNat c'/\(Qt st c'\/Ha c')/\M'.ws=M.ws/\M'.last=M.last/\M'.fire=false/\M'.bl=0:=by
 obtain ⟨m,p,t⟩:=J;obtain ⟨b1,Y,O,b4,b5⟩:=zZ L.s t;have aa:=L.s
 obtain ⟨S,R,B,F,U⟩:=zE L.fl L.tn L.hw bl m Z b1 Y O (λf z=>by
  rw [p,I] at z;simp [tk] at z
  lia) h
 have j:=zU L.so L.kd L.rm L.s;unfold QI at j;simp only [Bool.and_eq_true,all_eq_true,decide_eq_true_eq] at j;have:=j.2 _ t;rw [p,I] at S R
 rcases mem_append.mp this with z|z
 ·obtain ⟨W,h1,h2⟩:=mem_map.mp z;rw [<-h2] at S R;exact ⟨_,S,.inl ⟨rfl,rfl,by rw [qT];exact h1⟩,by rw [R];exact List.filter_eq_self.mpr λr _=>by simp,B,F,U⟩
 ·obtain ⟨W,h1,h2⟩:=mem_map.mp z;rw [<-h2] at S R;exact ⟨_,S,.inr ⟨rfl,rfl,by rw [qT];exact h1⟩,by rw [R];exact List.filter_eq_self.mpr λr _=>by simp,B,F,U⟩
end
theorem eK {M:MS}{i:Int}(h:M.ws=[]):aF i M=[]:=by unfold aF;rw [h];rfl
theorem wY {M:MS}{st i:Int}(h:M.ws=[im st i]):aF i M=[im st i]:=by
 unfold aF;rw [h,filter_cons_of_pos (by simp [im])];rfl
theorem wZ {M:MS}{st i j:Int}(h:M.ws=[im st i])(z:i≠j):aF j M=[]:=by
 unfold aF;rw [h,filter_cons_of_neg (by simp [im,z])];rfl
theorem Py {st i:Int}:[im st i].filter (λr=> !decide (r.tag∈[(0:Int)]))=[]:=by
 rw [filter_cons_of_neg (by simp [im])];rfl
theorem lD.step {hs:Hs}{wf:Wf}{k:Dk}{st:Int}{la lb:Lf}(o:Sg hs st la lb)(hw:∀fl li he up dn,eV li he up dn->wf fl li he up dn=dq li he up dn){s s':SS}{c:Int}(g:lD st s)(hc:Af 1 s.ts c)(ht:TR hs wf k [(st,1 - st)] s c s'):lD st s':=by
 obtain ⟨a,b,e,g0,g1,hg⟩:=g;have os:=o.s
 have hm:a.mr=0/\b.mr=0:=by
  rcases hg with ⟨_,x,y⟩|⟨_,x,y⟩|⟨_,x,y⟩|⟨_,x,y⟩|⟨_,x,y⟩<;>exact ⟨x.1,y.1⟩
 have hb:aY (s.cs.map c8)=[true,true]:=by
  rw [e];show [decide (a.mr=0),decide (b.mr=0)]=[true,true];rw [hm.1,hm.2];rfl
 have ai:∀r∈s.ws,r.lift≠ -1:=λr hr=>by
  rcases hg with ⟨x,_⟩|⟨x,_⟩|⟨x,_⟩|⟨x,_⟩|⟨x,_⟩<;>rw [x] at hr
  ·cases hr
  ·rw [mem_singleton.mp hr];show (0:Int)≠ -1;decide
  ·rw [mem_singleton.mp hr];show (1:Int)≠ -1;decide
  ·cases hr
  ·cases hr
 obtain ⟨ag,aa,lg,em,a1,a2,al⟩:=Fs (k:=k) (lo:=hs.lo) (last:=s.last) (ks:=[(st,1 - st)]) (c:=c) ai (.inr hb) g0 (by rw [hb];exact g1);rw [hb] at a2 al;have a2:aa<2:=a2
 have ah:G2 st a b ag:=by
  rcases al with rfl|⟨z,i,i0,i1,rfl⟩
  ·exact hg
  ·obtain ⟨c0,c1,c2⟩:0<=c/\c<((1:Nat):Int)/\c∉s.ts:=by rcases hc with x|x;exact absurd x z;exact x
   obtain rfl:c=0:=by lia
   have hi:i=0\/i=1:=by have i1:i<2:=i1;lia
   unfold SS.ts bu at c2;rw [e] at c2;simp only [mem_append,not_or] at c2
   rcases hg with ⟨x,J,F⟩|⟨x,J,F⟩|⟨x,J,F⟩|⟨x,J,F⟩|⟨x,J,F⟩
   ·rw [x]
    rcases hi with rfl|rfl
    ·exact .inr (.inl ⟨rfl,Kc os J,F⟩)
    ·exact .inr (.inr (.inl ⟨rfl,J,Kc os F⟩))
   ·exact absurd (by rw [x];simp [im]) c2.1
   ·exact absurd (by rw [x];simp [im]) c2.1
   ·exact absurd (by simp [J.2.1]) c2.2
   ·exact absurd (by simp [F.2.1]) c2.2
 obtain ⟨M',aV,f1,f2,f3⟩:=ht;rw [em,o.ls,e] at aV;obtain ⟨M1,cb,l',⟨M0,ca,l,h0,ab,ay,ad⟩,af,ae,W⟩:=aV;obtain rfl:M0=_:=h0;rw [o.ls] at ay ae;have ay:some la=some l:=ay;cases ay;have ae:some lb=some l':=ae;cases ae;have ab:some a=some ca:=ab.2;cases ab;have La:oo hs wf st la:=⟨o.fl,o.ok.so,o.ta,o.ka,o.ra,os,hw⟩;have Lb:oo hs wf st lb:=⟨o.fl,o.ok.so,o.tb,o.kb,o.rb,os,hw⟩;have j:∀ {Z b':Cb},M'.cs=[Z,b']->M'.last=aa->G2 st Z b' M'.ws->lD st s':=λh1 h2 h3=>⟨_,_,by rw [<-f1];exact h1,by rw [<-f3,h2];exact a1,by rw [<-f3,h2];exact a2,by rw [<-f2];exact h3⟩
 have ac:∀ {Z:Cb},M1.cs=[Z,b]->cb=b:=λh=>by
  have:=af.2;rw [h] at this;have:some b=some cb:=this;cases this;rfl
 have B:∀ {Z b':Cb},M1.cs=[Z,b]->M'.cs=M1.cs.set 1 b'->M'.cs=[Z,b']:=λh1 h2=>by rw [h2,h1];rfl
 rcases ah with ⟨x,J,F⟩|⟨x,J,F⟩|⟨x,J,F⟩|⟨x,J,F⟩|⟨x,J,F⟩
 ·obtain ⟨Z,I,O,Y,U,k4,k5⟩:=La.idle J rfl rfl (eK x) ad;obtain rfl:=ac O;obtain ⟨b',aq,R,L,S,m4,m5⟩:=Lb.idle F k5 k4 (eK @bs) W;exact j @em @bZ (.inl ⟨L.trans @bs,I,aq⟩)
 ·obtain ⟨Z,O,kk,U,k4,k5⟩:=La.wait (.inl rfl) J rfl rfl (wY x) ad;obtain rfl:=ac O
  rcases kk with ⟨I,Y⟩|⟨I,Y⟩
  ·obtain ⟨b',aq,R,L,S,m4,m5⟩:=Lb.idle F k5 k4 (wZ @bs (by show (0:Int)≠1;decide)) W;exact j @em @bZ (.inr (.inl ⟨L.trans @bs,I,aq⟩))
  ·have Y:M1.ws=[]:=by rw [Y,show ({cs:=[a,cb],ws:=ag,last:=aa,fire:=false,bl:=0,log:=lg}:MS).ws=[im st 0] from x];exact Py
   obtain ⟨b',aq,R,L,S,m4,m5⟩:=Lb.idle F k5 k4 (eK Y) W;exact j @em @bZ (.inr (.inr (.inr (.inl ⟨L.trans Y,I,aq⟩))))
 ·obtain ⟨Z,I,O,Y,U,k4,k5⟩:=La.idle J rfl rfl (wZ x @b) ad;obtain rfl:=ac O;obtain ⟨b',R,mm,S,m4,m5⟩:=Lb.wait (.inr rfl) F k5 k4 (wY @bs) W
  rcases mm with ⟨aq,L⟩|⟨aq,L⟩
  ·exact j @em @bZ (.inr (.inr (.inl ⟨L.trans @bs,I,aq⟩)))
  ·exact j @em @bZ (.inr (.inr (.inr (.inr ⟨by rw [L,Y.trans x];exact Py,I,aq⟩))))
 ·obtain ⟨Z,O,I,Y,U,k4,k5⟩:=La.ride J rfl rfl (eK x) ad;obtain rfl:=ac O;obtain ⟨b',aq,R,L,S,m4,m5⟩:=Lb.idle F k5 k4 (eK @bs) W
  rcases I with I|I
  ·exact j @em @bZ (.inr (.inr (.inr (.inl ⟨L.trans @bs,I,aq⟩))))
  ·exact j @em @bZ (.inl ⟨L.trans @bs,I,aq⟩)
 ·obtain ⟨Z,I,O,Y,U,k4,k5⟩:=La.idle J rfl rfl (eK x) ad;obtain rfl:=ac O;obtain ⟨b',R,aq,L,S,m4,m5⟩:=Lb.ride F k5 k4 (eK @bs) W
  rcases aq with aq|aq
  ·exact j @em @bZ (.inr (.inr (.inr (.inr ⟨L.trans @bs,I,aq⟩))))
  ·exact j @em @bZ (.inl ⟨L.trans @bs,I,aq⟩)
def P9 (st:Int):List ((T3×T3)×(List (Int×Int)×List (Int×Int))×List Int×Int):=
 let pr (xs ys:List T3) (pa pb:List (Int×Int)) (w:List Int):=xs.flatMap λx=>ys.flatMap λy=>[(((x,y):T3×T3),(pa,pb),w,(0:Int)),((x,y),(pa,pb),w,1)]
 pr zD zD [] [] []++pr (JS st) zD [] [] [0]++pr zD (JS st) [] [] [1]++pr (Kq st) zD [(0,1 - st)] [] []++pr zD (Kq st) [] [(0,1 - st)] []
def Nq (s:SS):(T3×T3)×(List (Int×Int)×List (Int×Int))×List Int×Int:=((vR (hd1 s),vR (s.cs.getD 1 (hd1 s))),((hd1 s).ps,(s.cs.getD 1 (hd1 s)).ps),s.ws.map aL.lift,s.last)
theorem R6 {st:Int}(hs:st=0\/st=1){L:List SS}(nd:L.Nodup)(hL:∀s∈L,lD st s):L.length<=500:=by
 have j:∀ {xs ys:List T3} {x y:T3} {R O:List (Int×Int)} {w:List Int} {l:Int},x∈xs->y∈ys->0<=l->l<2->((x,y),(R,O),w,l)∈xs.flatMap λx=>ys.flatMap λy=>[(((x,y):T3×T3),(R,O),w,(0:Int)),((x,y),(R,O),w,1)]:=λ{xs ys x y R O w l} h1 h2 h3 h4=>by
  rwa[mem_flatMap.mpr ⟨x,h1,mem_flatMap.mpr ⟨y,h2,?_⟩⟩]
  rcases (show l=0\/l=1 by lia) with rfl|rfl<;>simp
 have h:=few (f:=Nq) (ys:=P9 st) (Good:=lD st) (λs t gs gt e=> ?_) (λs gs=> ?_) nd hL
 ·exact Nat.le_trans h (by rcases hs with rfl|rfl<;>decide+kernel)
 ·obtain ⟨a,b,Y,_,_,g⟩:=gs;obtain ⟨a',b',B,_,_,g'⟩:=gt;obtain ⟨cs,ws,ab⟩:=s;obtain ⟨ac,aa,Z⟩:=t;simp only at Y B g g';subst Y;subst B;unfold Nq hd1 at e;simp only [List.headD_cons,List.getD_cons_succ,List.getD_cons_zero,Prod.mk.injEq] at e;obtain ⟨⟨J,S⟩,⟨z3,z4⟩,z5,z6⟩:=e
  have hw:ws=aa:=by
   rcases g with ⟨x,_⟩|⟨x,_⟩|⟨x,_⟩|⟨x,_⟩|⟨x,_⟩<;>rcases g' with ⟨z,_⟩|⟨z,_⟩|⟨z,_⟩|⟨z,_⟩|⟨z,_⟩<;>rw [x,z] at z5 ⊢ <;>first|rfl|(exact absurd z5 (by simp [im]))
  have m1:a.mr=0/\b.mr=0:=by rcases g with ⟨_,x,y⟩|⟨_,x,y⟩|⟨_,x,y⟩|⟨_,x,y⟩|⟨_,x,y⟩<;>exact ⟨x.1,y.1⟩
  have m2:a'.mr=0/\b'.mr=0:=by rcases g' with ⟨_,x,y⟩|⟨_,x,y⟩|⟨_,x,y⟩|⟨_,x,y⟩|⟨_,x,y⟩<;>exact ⟨x.1,y.1⟩
  cases a;cases b;cases a';cases b';unfold vR at J S;simp only [Prod.mk.injEq] at J S z3 z4 m1 m2;rw [hw,z6,J.1,J.2.1,J.2.2,S.1,S.2.1,S.2.2,z3,z4,m1.1,m1.2,m2.1,m2.2]
 ·obtain ⟨a,b,Y,U,W,g⟩:=gs;unfold Nq hd1;rw [Y];simp only [List.headD_cons,List.getD_cons_succ,List.getD_cons_zero];unfold P9;simp only [mem_append]
  rcases g with ⟨x,I,F⟩|⟨x,I,F⟩|⟨x,I,F⟩|⟨x,I,F⟩|⟨x,I,F⟩<;>rw [x,I.2.1,F.2.1]
  ·exact .inl (.inl (.inl (.inl @ca)))
  ·exact .inl (.inl (.inl (.inr @ca)))
  ·exact .inl (.inl (.inr @ca))
  ·exact .inl (.inr @ca)
  ·exact .inr @ca
theorem lD.sok {hs:Hs}{st:Int}{Z W:Lf}{s:SS}(o:Sg hs st Z W)(g:lD st s):NM hs 8 s.cs s.ws s.last:=by
 obtain ⟨a,b,e,g0,g1,g⟩:=g;have fl:=o.fl;have os:=o.s
 have j:∀ {c:Cb},JR (vR c)->c.mr=0->(c.ps=[]\/c.ps=[(0,1 - st)])->ng hs.fl c:=λ{c} h m O=>by
  obtain ⟨R,U,S,b4,b5⟩:=h;have R:c.pl=0\/c.pl=1\/c.pl=2:=R;rwa[⟨by lia,by lia,U,S,by lia,b5,?_,λp L=> ?_⟩]
  ·rcases O with z|z<;>rw [z]<;>simp
  ·rcases O with z|z<;>rw [z] at L
   ·cases L
   ·rw [mem_singleton.mp L];show 0<=1 - st/\1 - st<hs.fl;lia
 have J:∀i,hV hs.fl (im st i):=λi=>⟨by show 0<=st;lia,by show st<_;lia,by show 0<=1 - st;lia,by show 1 - st<_;lia,by show st≠1 - st;lia⟩;rwa[⟨by rw [e,o.ls];rfl,λx B=> ?_,λr Y=> ?_,?_,g0⟩]
 ·rw [e] at B
  rcases g with ⟨_,I,F⟩|⟨_,I,F⟩|⟨_,I,F⟩|⟨_,I,F⟩|⟨_,I,F⟩<;>rcases mem_cons.mp B with rfl|B<;>first|exact j (zY I.2.2) I.1 (.inl I.2.1)|exact j (zX os I.2.2) I.1 (.inl I.2.1)|exact j (zZ os I.2.2) I.1 (.inr I.2.1)|(rw [mem_singleton.mp B];first|exact j (zY F.2.2) F.1 (.inl F.2.1)|exact j (zX os F.2.2) F.1 (.inl F.2.1)|exact j (zZ os F.2.2) F.1 (.inr F.2.1))
 ·rcases g with ⟨x,_⟩|⟨x,_⟩|⟨x,_⟩|⟨x,_⟩|⟨x,_⟩<;>rw [x] at Y
  ·cases Y
  ·rw [mem_singleton.mp Y];exact J 0
  ·rw [mem_singleton.mp Y];exact J 1
  ·cases Y
  ·cases Y
 ·rcases g with ⟨x,_⟩|⟨x,_⟩|⟨x,_⟩|⟨x,_⟩|⟨x,_⟩<;>rw [x]<;>simp
theorem Lr {hs:Hs}{wf:Wf}{k:Dk}{st:Int}{Z j:Lf}(o:Sg hs st Z j)(so:xR hs)(J:∀fl li he up dn,eV li he up dn->wf fl li he up dn=dq li he up dn):Bg hs wf k [(st,1 - st)] 500 (lD st):=by
 rwa[⟨⟨Nu Z,Nu j,by unfold s0;rw [o.ls];rfl,(by show (0:Int)<=(hs.ls.length:Int) - 1;rw [o.ls];show (0:Int)<=2 - 1;decide),(by show (hs.ls.length:Int) - 1<2;rw [o.ls];show (2:Int) - 1<2;decide),.inl ⟨rfl,?_,?_⟩⟩,λs c s' g I O=>g.step o J I O,λs g=>g.sok o,λL B F=>R6 o.s B F⟩]
 ·have h:=so Z (by rw [o.ls];exact .head _);rw [o.fl] at h;rwa[⟨rfl,rfl,?_⟩];show (2*Z.st,(0:Int),(0:Int))∈zD
  rcases (show Z.st=0\/Z.st=1 by lia) with z|z<;>rw [z]<;>decide
 ·have h:=so j (by rw [o.ls];exact .tail _ (.head _));rw [o.fl] at h;rwa[⟨rfl,rfl,?_⟩];show (2*j.st,(0:Int),(0:Int))∈zD
  rcases (show j.st=0\/j.st=1 by lia) with z|z<;>rw [z]<;>decide
inductive uh (vs:List V)(H:Hp)(Q:VK)(_e:XK):Prop
 |mk (i:Int) (_:vs=[.int i]) (_:Q (.bl true) H)
theorem EM (F:Z0 K "_law_whole" uQ f fd)(j:mg "isinstance"=none)(z:mg "int"=none)(I:mg "bool"=none):ar P w K mg base aQ 1 f fd ["_law_thing"] uh:=by
 rwa[F.ok D6 (by symm) @Q];obtain ⟨i,rfl,q⟩:=h;rwa[⟨_,(ac (aj (tX (cu (yi rfl) rfl j boot_isinstance (av (wv 0) (av (u5 (v:= .ty "int") rfl z boot_int rfl) aq))) (u4 (C1 rfl (cu (yi rfl) rfl j boot_isinstance (av (wv 0) (av (u5 (v:= .ty "bool") rfl I boot_bool rfl) aq)))))))),?_⟩];rwa[⟨rfl,bG rfl ⟨rfl,q⟩⟩]
theorem bB {H H':Hp}{a:Addr}{R:List Int}(h:GQ K H a R)(s:ak H H'):GQ K H' a R:=⟨s.seq h.1,h.2⟩
theorem MW (j:List gb):noLs (j.map gb.d)=true:=by
 induction j with
 |nil=>rfl
 |cons l j ih=>rw [map_cons,noLs,ih];rfl
theorem DS {i:Int}(B:0<=i)(h1:i<2):∃s,oF [V.str "free",.str "way"] i=some (.str s)/\(s=s!"free"\/s=s!"way")/\GO s:=by
 rcases (show i=0\/i=1 by lia) with rfl|rfl
 ·exact ⟨_,rfl,.inl rfl,by decide+kernel⟩
 ·exact ⟨_,rfl,.inr rfl,by decide+kernel⟩
def Qp (m:Nat)(hs:Hs):Prop:=match m with
 |0=>hs.fl<=3/\∃l,hs.ls=[l]/\l.tn<=2
 |1=>hs.fl=2/\∃la lb,hs.ls=[la,lb]/\la.tn=1/\lb.tn=1/\(la.kd=y6\/la.kd=hst)/\(lb.kd=y6\/lb.kd=hst)/\(la.rm=1\/la.rm=2)/\(lb.rm=1\/lb.rm=2)
 |_=>4<=hs.fl/\∃l,hs.ls=[l]
def SR (two:Bool)(tu:Int)(x:gb):Prop:=x.turns=tu/\(x.room=1\/x.room=2)/\(two=true->x.kind=y6\/x.kind=hst)
theorem FF {i:Int}{two:Bool}(B:0<=i)(h1:i<3 - (if two then 1 else 0)):∃s,oF [V.str "plain",.str "hasty",.str "slow"] i=some (.str s)/\(s=s!"plain"\/s=s!"hasty"\/s=s!"slow")/\(two=true->s=y6\/s=hst):=by
 rcases (show i=0\/i=1\/i=2 by split at h1<;>lia) with rfl|rfl|rfl
 ·exact ⟨_,rfl,.inl rfl,λ_=> .inl rfl⟩
 ·exact ⟨_,rfl,.inr (.inl rfl),λ_=> .inr rfl⟩
 ·exact ⟨_,rfl,.inr (.inr rfl),λz=>by rw [z] at h1;simp at h1⟩
inductive DA (K:Fg)(vs:List V)(H:Hp)(Q:VK)(_e:XK):Prop
 |mk (a ns:_) (_:vs=[.ref a]) (_:GQ K H a ns) (_:∀p hs H',ak H H'->lC K H' p hs->xR hs->Qp 2 hs->Q (.ref p) H')
theorem Fy {fl z:Int}(L:2<=fl)(J:fl<=8):0<=2*(if decide (z=1)=true then (1:Int) else 0)/\2*(if decide (z=1)=true then (1:Int) else 0)<2^fl.toNat/\2*(if decide (z=1)=true then (1:Int) else 0)% 2=0:=by
 have W:(4:Int)<=2^fl.toNat:=by
  rcases (show fl=2\/fl=3\/fl=4\/fl=5\/fl=6\/fl=7\/fl=8 by lia) with rfl|rfl|rfl|rfl|rfl|rfl|rfl<;>decide
 split<;>lia
abbrev Z00:=λP w K mg base=>aS P w K mg base 1 "_law_draw" ["_law_script","_law_k","_law_many"] (jR K)
theorem Mh {J:Addr}(F:Z0 K "_law_tall" yR f fd)(kF:mg "int"=none)(bX:Z00 P w K mg base)(c9:aS P w K mg base 4 "made_house" ["floors","lifts","locked","sort"] (λvs H Q _=>jq K J vs H Q E0)):ar P w K mg base aQ 5 f fd ["_law_script"] (DA K):=by
 rwa[F.ok HW (by symm) @bS];obtain ⟨a,ns,rfl,O,q⟩:=h;rwa[⟨_,(aa @a (aa @a (aa @a (ac (aj (cR c9 hr @b rfl (av (wv 1) (av @a (av (cz Ai bA @da) @E))))))))),?_⟩];rwa[jR.mk _ _ _ _ rfl O @b @b @b λj f0 f1=> ?_];obtain ⟨fl,Y⟩:∃fl:Int,4+j=fl:=⟨_,rfl⟩;rwa[fP @bv λlk H1 s1 n1 e1=> ?_];have aI:=bB O s1;rwa[jR.mk _ _ _ _ rfl aI @b @b @b λi i0 i1=> ?_];obtain ⟨kd,ek,hk,_⟩:=FF (two:=false) i0 i1;rwa[bd @eM ek ?_];rwa[jR.mk _ _ _ _ rfl aI @b @b (by show 0<4+j;lia) λst U aw=> ?_];rwa[jR.mk _ _ _ _ rfl aI @b @b @b λr r0 r1=> ?_];rwa[jR.mk _ _ _ _ rfl aI @b @b @b λI ah ae=> ?_];rwa[bZ (bq (by show 4<=1000000;decide)) λt H2 s2 n2 e2=> ?_];rwa[fP @bv λl H3 s3 n3 e3=> ?_];have L:=(s1.trans s2).trans s3;have bp:=bB O L;rwa[jR.mk _ _ _ _ rfl bp @b @b @b λz z0 z1=> ?_];rwa[⟨fF @b @b,?_⟩];rwa[fP @bv λl2 H4 Z n4 e4=> ?_];rwa[jR.mk _ _ _ _ rfl (bB bp Z) @b @b @b λi' R ab=> ?_];obtain ⟨so,es,W,ag⟩:=DS R ab;rwa[bd (az.of e4) es ?_];have B:=Fy (fl:=fl) (z:=z) @c @c;generalize 2*(if decide (z=1)=true then (1:Int) else 0)=lo at B;have aw:st<4+j:=aw
 have af:MG fl [⟨st,1+r,1+I,kd⟩] lo so=true:=u8.mpr ⟨⟨by lia,by lia⟩,⟨by simp,by simp⟩,all_eq_true.mpr λx hx=>by
  rw [mem_singleton.mp hx];unfold gb.ok
  exact decide_eq_true ⟨U,by show st<fl;lia,by show 1<=1+r;lia,by show 1+r<=6;lia,by show 1<=1+I;lia,by show 1+I<=4;lia,hk⟩,B,W⟩
 have S:aC K H4 [.ref t] ([⟨st,1+r,1+I,kd⟩].map gb.d):= .cons (eO (aD.of ((s3.trans Z) _ _ e2)) (.cons (.int _) (.cons (.int _) (.cons (.int _) (.cons (.str _) .nil))))) .nil;rw [Y];rwa[Ka (.inl (xu (az.of (Z _ _ e3)) S)) @f af λt' H5 s5 hh=> ?_];obtain ⟨p,rfl,hC,ad⟩:=xh hh af;exact q p _ H5 ((L.trans Z).trans s5) hC ad ⟨by show 4<=fl;lia,_,rfl⟩
inductive yv (K:Fg)(vs:List V)(H:Hp)(Q:VK)(_e:XK):Prop
 |mk (a ns two:_) (_:vs=[.ref a,.bl two]) (_:GQ K H a ns) (_:∀p hs m H',ak H H'->lC K H' p hs->xR hs->Qp m hs->(two=true↔m=1)->Q (.ref p) H')
theorem IT {ah:Addr}(F:Z0 K "_law_house" uT f fd)(aU:mg "range"=none)(kF:mg "int"=none)(bX:Z00 P w K mg base)(c9:aS P w K mg base 4 "made_house" ["floors","lifts","locked","sort"] (λvs H Q _=>jq K ah vs H Q E0))(tG:aS P w K mg base 5 "_law_tall" ["_law_script"] (DA K)):ar P w K mg base aQ 6 f fd ["_law_script","_law_two"] (yv K):=by
 rwa[F.ok pM (by symm) (λaA A outer s H vs Q E hr h=> ?_)];obtain ⟨a,ns,B,rfl,hS,q⟩:=h;rwa[⟨_,(fm @bO (aa @a (aa @a (fm @ej (fm @ej (aa @a (aa (b9 PassesOwn.never rfl (cq rfl aU (av (cz @dU bA (aJ wc rfl kF boot_int @bk)) aq)) @a (aa (bM (i:=6) pM.nd rfl @o (sG @fM @a (cR bX hr @b rfl (av (wv 0) (av @a (av (cz Ah bA (aJ wc rfl kF boot_int @bk)) aq)))) @cv)) @F)) (aa (bM (i:=7) pM.nd rfl @o (cz Ai bA @da)) (ac (aj (cR c9 hr @b rfl (av (wv 2) (av (wv 4) (av (wv 7) @E)))))))))))))),?_⟩];rwa[xw (λσ O=>O=H/\∃o2 o3 o4 W S R,σ=[some (.ref a),some (.bl B),o2,o3,o4,W,S,R]) ?_ ?_]
 ·cases B with
  |true=>exact bf rfl (bf rfl ⟨rfl,_,_,_,_,_,_,rfl⟩)
  |false=>
   rwa[bG rfl ?_];rwa[jR.mk _ _ _ _ rfl hS @b @b @b λd d0 d1=> ?_];rwa[iy @cb @cb]
   ·exact DA.mk _ _ rfl hS λp hs H' s' hC Z hP=>q p hs 2 H' s' hC Z hP ⟨(λz=>nomatch z),λz=>nomatch z⟩
   ·exact ⟨rfl,_,_,_,_,_,_,rfl⟩
 rintro σ H ⟨rfl,o2,o3,o4,W,S,R,rfl⟩;rwa[xw (λσ O=>O=H/\∃(fl:Int) (o4 W S R:Option V),σ=[some (.ref a),some (.bl B),some (.int fl),some (.int 1),o4,W,S,R]/\2<=fl/\fl<=3/\(B=true->fl=2)) ?_ ?_]
 ·cases B with
  |true=>exact bf rfl (bf rfl ⟨rfl,2,_,_,_,_,rfl,by decide,by decide,λ_=>rfl⟩)
  |false=>
   rwa[bG rfl ?_];rwa[jR.mk _ _ _ _ rfl hS @b @b @b λd d0 d1=> ?_];rwa[iy @cb @cb]
   ·exact ⟨rfl,3,_,_,_,_,rfl,by decide,by decide,λz=>nomatch z⟩
   ·exact ⟨rfl,2,_,_,_,_,rfl,by decide,by decide,λ_=>rfl⟩
 rintro σ O ⟨rfl,fl,o4,W,S,R,rfl,f2,f3,ft⟩;rwa[xw (λσ HY=>HY=O/\∃(tu:Int) (o4 W S R:Option V),σ=[some (.ref a),some (.bl B),some (.int fl),some (.int tu),o4,W,S,R]/\1<=tu/\tu<=2/\(B=true->tu=1)) ?_ ?_]
 ·cases B with
  |true=>exact bf rfl (bf rfl ⟨rfl,1,_,_,_,_,rfl,by decide,by decide,λ_=>rfl⟩)
  |false=>
   rwa[bG rfl ?_];rwa[jR.mk _ _ _ _ rfl hS @b @b @b λd d0 d1=> ?_];rwa[iy @cb @cb]
   ·exact ⟨rfl,2,_,_,_,_,rfl,by decide,by decide,λz=>nomatch z⟩
   ·exact ⟨rfl,1,_,_,_,_,rfl,by decide,by decide,λ_=>rfl⟩
 rintro σ HY ⟨rfl,tu,aB,ax,as,au,rfl,t1,t2,tt⟩;rwa[fP @bv λl H1 s1 n1 e1=> ?_];rwa[⟨⟨by cases B<;>decide,by cases B<;>decide⟩,?_⟩];rwa[eM (λj σ O=>ak HY O/\∃(ys:List V) (J:List gb) (W S R:Option V),σ=[some (.ref a),some (.bl B),some (.int fl),some (.int tu),some (.ref l),W,S,R]/\O l=some (.lst ys)/\aC K O ys (J.map gb.d)/\J.length=j/\∀x∈J,gb.ok fl x=true/\SR B tu x) ⟨s1,[],[],_,_,_,rfl,e1,.nil,rfl,λx L=>nomatch L⟩ (λj σ O hj pv=> ?_) (λσ O pv=> ?_)]
 ·obtain ⟨sX,ys,J,W,S,R,rfl,eX,dX,rfl,L⟩:=pv
  have ao:(J.length:Int)<2:=by
   have:(1+if B=true then (1:Int) else 0).toNat<=2:=by cases B<;>decide
   lia
  have yl:ys.length=J.length:=aG dX;have I:=bB hS sX;rwa[fP @bv λlk H2 U n2 e2=> ?_];rwa[jR.mk _ _ _ _ rfl (bB I U) @c @c (by cases B<;>decide) λi i0 i1=> ?_];obtain ⟨kd,ek,hk,al⟩:=FF (two:=B) i0 i1;rwa[bd (az.of e2) ek ?_];rwa[⟨.inl ⟨rfl,_,az.of (U _ _ eX)⟩,?_⟩];rwa[jR.mk _ _ _ _ rfl (bB I U) @c @c @c λst am aw=> ?_];rwa[jR.mk _ _ _ _ rfl (bB I U) @c @c @b λr r0 r1=> ?_];rwa[bZ (bq (by show 4<=1000000;decide)) λt H3 s3 n3 e3=> ?_];have Y:=U.trans s3;rwa[dY (Y _ _ eX) @dk ?_];have ad:=Y _ _ eX;rwa[⟨ak.updF (sX.trans Y) n1,ys++[.ref t],J++[⟨st,1+r,tu,kd⟩],_,_,_,rfl,af,?_,by simp,λx ai=> ?_⟩]
  ·rw [map_append];exact Paired.app (kR (aC.same dX Y) (MW J) ad) (.cons (br.noL (d:=gb.d ⟨st,1+r,tu,kd⟩) (eO @fF (.cons (.int _) (.cons (.int _) (.cons (.int _) (.cons (.str _) .nil))))) rfl ad) .nil)
  ·rcases mem_append.mp ai with z|z
   ·exact L x z
   ·rw [mem_singleton.mp z];unfold gb.ok;exact ⟨decide_eq_true ⟨am,aw,by show 1<=1+r;lia,by show 1+r<=6;lia,by show 1<=tu;lia,by show tu<=4;lia,hk⟩,rfl,by show 1+r=1\/1+r=2;lia,al⟩
 obtain ⟨sX,ys,J,W,S,R,rfl,eX,dX,hl,L⟩:=pv;have I:=bB hS sX;rwa[jR.mk _ _ _ _ rfl I @b @b @b λz z0 z1=> ?_];rwa[⟨fF @b @b,?_⟩];rwa[fP @bv λl2 H2 U n2 e2=> ?_];rwa[jR.mk _ _ _ _ rfl (bB I U) @b @b @b λi i0 i1=> ?_];obtain ⟨so,es,an,aF⟩:=DS i0 i1;rwa[bd (az.of e2) es ?_];have ag:=Fy (fl:=fl) (z:=z) f2 @c;generalize 2*(if decide (z=1)=true then (1:Int) else 0)=lo at ag
 have ab:J.length=1+(if B=true then 1 else 0):=by cases B<;>simp at hl ⊢ <;>lia
 have ae:MG fl J lo so=true:=u8.mpr ⟨⟨f2,by lia⟩,⟨by lia,by split at ab<;>lia⟩,all_eq_true.mpr λx ai=>(L x ai).1,ag,an⟩;rwa[Ka (.inl (xu (az.of (U _ _ eX)) (aC.same dX U))) (by split at ab<;>lia) ae λt H3 s3 hh=> ?_];obtain ⟨p,rfl,hC,Z⟩:=xh hh ae
 cases B with
 |false=>
  match J,ab,L with
  |[x],_,L=>exact q p _ 0 H3 ((sX.trans U).trans s3) hC Z ⟨f3,xb x,rfl,by show x.turns<=2;rw [(L x (.head _)).2.1];exact t2⟩ ⟨(λz=>nomatch z),λz=>nomatch z⟩
 |true=>
  match J,ab,L with
  |[x,y],_,L=>
   obtain ⟨x1,x2,x3⟩:=(L x (.head _)).2;obtain ⟨y1,y2,y3⟩:=(L y (.tail _ (.head _))).2;exact q p _ 1 H3 ((sX.trans U).trans s3) hC Z ⟨ft rfl,xb x,xb y,rfl,x1.trans (tt rfl),y1.trans (tt rfl),x3 rfl,y3 rfl,x2,y2⟩ ⟨λ_=>rfl,λ_=>rfl⟩
theorem Do {s:Str}{fl:Int}(h:zm s):eI (rG++s) fl=some (.ta s)/\Kr (rG++s):=by
 have W:s.cps.toList.length=36:=by rw [aP];exact h.1
 have B:rG.cps.toList.length=6:=by decide
 have j:(rG++s).cps.toList=rG.cps.toList++s.cps.toList:=m6 ..
 have S:Txt.slice (rG++s) none @fc=rG:=by
  apply ub;rw [kg @b,j];show (rG.cps.toList++s.cps.toList).take 6=_;rw [take_append_of_le_length @c,take_of_length_le @c]
 have R:Txt.slice (rG++s) @fc none=s:=by
  apply ub;rw [jt @b,j];show (rG.cps.toList++s.cps.toList).drop 6=_;rw [drop_append_of_le_length @c,drop_of_length_le @c,nil_append]
 have O:∀t:Str,t.cps.toList.length<40->rG++s≠t:=λt J z=>by
  have:=congrArg (λx:Str=>x.cps.toList.length) z;simp only [j,length_append] at this;lia
 rwa[⟨?_,?_,?_⟩]
 ·unfold eI;rw [if_neg (O _ @b),if_neg (O _ @b),if_neg (O _ @b),if_neg (O _ @b),S,R,if_pos ⟨rfl,h⟩]
 ·rw [<-aP,j,length_append];lia
 ·intro c I;rw [j] at I
  rcases mem_append.mp I with z|z
  ·exact (show ∀c∈rG.cps.toList,c<128 by decide) c z
  ·exact IZ h c z
theorem LU {s:Str}{k:Int}{c:Nat}(h:zm s)(F:0<=k)(O:k<36)(I:isL ⟨#[c]⟩):zm (Txt.slice s none (some k)++⟨#[c]⟩++Txt.slice s (some (k+1)) none):=by
 have W:s.cps.toList.length=36:=by rw [aP];exact h.1
 have j:(Txt.slice s none (some k)++⟨#[c]⟩++Txt.slice s (some (k+1)) none).cps.toList=s.cps.toList.take k.toNat++[c]++s.cps.toList.drop (k+1).toNat:=by
  rw [m6,m6,kg F,jt @c]
 rwa[⟨?_,λx B=> ?_⟩]
 ·rw [<-aP,j];simp only [length_append,length_take,length_drop,length_cons,length_nil];lia
 ·rw [j] at B
  rcases mem_append.mp B with z|z
  ·rcases mem_append.mp z with z|z
   ·exact h.2 x (mem_of_mem_take z)
   ·rw [mem_singleton.mp z];exact I.2 c @f
  ·exact h.2 x (mem_of_mem_drop z)
theorem Cp {i fl:Int}(B:0<=i)(h1:i<4):∃s rk,oF [V.str Lh,.str Qz,.str Qy,.str Qw] i=some (.str s)/\eI s fl=some rk/\Kr s:=by
 rcases (show i=0\/i=1\/i=2\/i=3 by lia) with rfl|rfl|rfl|rfl
 ·exact ⟨Lh,.sw,rfl,by unfold eI;rw [if_pos rfl],by decide,show ∀c∈Lh.cps.toList,c<128 by decide⟩
 ·exact ⟨Qz,.ho,rfl,by unfold eI;rw [if_neg @b,if_pos rfl],by decide,show ∀c∈Qz.cps.toList,c<128 by decide⟩
 ·exact ⟨Qy,.ne,rfl,by unfold eI;rw [if_neg @b,if_neg @b,if_pos rfl],by decide,show ∀c∈Qy.cps.toList,c<128 by decide⟩
 ·exact ⟨Qw,.ba (fl - 1),rfl,by unfold eI;rw [if_neg @b,if_neg @b,if_neg @b,if_pos rfl],by decide,show ∀c∈Qw.cps.toList,c<128 by decide⟩
inductive DC (K:Fg)(k:Ks)(vs:List V)(H:Hp)(Q:VK)(_e:XK):Prop
 |mk (a ns fl:_) (_:vs=[.ref a,.int fl]) (_:GQ K H a ns) (_:2<=fl) (_:∀ra dx (rk:Rk) H',rk.ok->ak H H'->H' ra=some (.ins @eE dx rk.fs)->Q (.ref ra) H')
theorem Mj {k:Ks}{ag:Addr}(F:Z0 K "_law_rule" yS f fd)(aU:mg "range"=none)(bX:Z00 P w K mg base)(dU:aS P w K mg base 3 "rule_of" ["text","floors"] (λvs H Q _=>fJ K k ag vs H Q E0))(mZ:aS P w K mg base 3 "as_table" ["rule"] (DR K k)):ar P w K mg base aQ 4 f fd ["_law_script","_law_floors"] (DC K k):=by
 rwa[F.ok uF (by symm) @bS];obtain ⟨a,ns,fl,rfl,hS,f2,q⟩:=h;rwa[⟨_,(aa @a (aa (ay @a (ac (aj (cR dU hr @b rfl @gk))) ap) (aa (bM (i:=3) uF.nd rfl @o (cR mZ hr @b rfl (av (cR dU hr @b rfl (av cJ @bk)) aq))) (fm (ay @a (aa @a (ac @a)) (ac (bM (i:=3) uF.nd rfl @o (gQ rfl PySem.F.plainAttrs_str PySem.F.slot_str_join PySem.F.type_str_join (yh rfl) cJ (av (bD rfl (aB (N':=["_law_k","_law_script"]) (pk:=[none,some 0]) @j) (cq rfl aU (av bA aq)) @h @r @h) aq))))) (ac (aj (cR dU hr @b rfl @gk))))))),?_⟩];rwa[jR.mk _ _ _ _ rfl hS @b @b @b λae w0 w1=> ?_];rwa[iy @t @t]
 ·ext;rwa[fP @bv λl1 H1 s1 n1 e1=> ?_];obtain ⟨s,rk,es,S,U⟩:=Cp (fl:=fl) w0 z;rwa[bd @eM es ?_];exact oQ U.1 S λra dx H2 s2 n2 e2=>q ra dx rk H2 (kq f2 S) (s1.trans s2) e2
 ext
 have S:eI Lh fl=some .sw:=by unfold eI;rw [if_pos rfl]
 rwa[oQ (s:=Lh) @b S λra dx H1 s1 n1 e1=> ?_];rwa[DR.mk _ _ _ rfl (kq f2 S) e1 λH2 s2=> ?_];have R:=K8 (kq f2 S);generalize Rk.tbl .sw=L at R ⊢;have J:=s1.trans s2;have O:=bB hS J;rwa[xw (λσ W=>ak H W/\∃(t:Str) (o3:Option V),σ=[some (.ref a),some (.int fl),some (.int ae),some (.str t),o3]/\zm t) ?_ ?_]
 ·ext;rwa[iy @cb @cb]
  ·ext;erw[jR.mk _ _ _ _ rfl O @b @b @b λZ a0 a1=> ?_];have lL:L.length=36:=R.1;rwa[⟨bq @c,?_⟩];rwa[jR.mk _ _ _ _ rfl O @b @b @b λj j0 j1=> ?_];obtain ⟨c,ec,hL⟩:=FA j0 j1;rwa[uz (bq @b) ec ?_]
   have la:(Txt.slice L none (some Z)).length<=36:=by rw [<-aP,kg a0,length_take,aP];lia
   have lb:(Txt.slice L (some (Z+1)) none).length<=36:=by rw [<-aP,jt @c,length_drop,aP];lia
   have lc:(⟨#[c]⟩:Str).length=1:=rfl;rwa[⟨bq @c,?_⟩];rwa[⟨bq @c,?_⟩];rwa[⟨bq (by rw [strLen_append];lia),?_⟩];exact ⟨J,_,_,rfl,LU R a0 a1 hL⟩
  ·ext;rwa[⟨rfl,?_⟩];rwa[⟨⟨by decide,by decide⟩,?_⟩];rwa[gI (λi ys W=>W=H2/\∃B:List Str,ys=B.map V.str/\B.length=i/\∀x∈B,isL x) (bq @b) (λi ys W p=>by obtain ⟨_,B,rfl,l,_⟩:=p;rw [length_map,l];exact Nat.le_refl _) ⟨rfl,[],rfl,rfl,λx I=>nomatch I⟩ (λi ys W hi p=> ?_) (λys W p l n=> ?_)]
   ·obtain ⟨rfl,B,rfl,Y,U⟩:=p;have ah:i<36:=hi;rwa[⟨bQ,?_⟩];rwa[jR.mk _ _ _ _ rfl O @c @c @b λj j0 j1=> ?_];obtain ⟨c,ec,hL⟩:=FA j0 j1;rwa[uz (bq @b) ec ?_];rwa[⟨rfl,B++[⟨#[c]⟩],by rw [map_append];rfl,by rw [length_append,Y];rfl,λx I=> ?_⟩]
    rcases mem_append.mp I with I|I
    ·exact U x I
    ·rw [mem_singleton.mp I];exact hL
   ·obtain ⟨rfl,B,rfl,Y,U⟩:=p;have Y:B.length=36:=Y;obtain ⟨g1,g2⟩:=sR (z:=s!"") @z (ts:=B) λt h=>(U t h).1;rwa[FG (ts:=B) @eL @Z @Z ?_];exact ⟨J.trans (.upd n),_,_,rfl,AF ⟨Y,U⟩⟩
 rintro σ' H' ⟨sX,t,o3,rfl,ot⟩;obtain ⟨ab,ad⟩:=Do (fl:=fl) ot;ext;have Y:t.length=36:=ot.1
 have l6:(s!"table ").length=6:=by decide
 rwa[⟨bq @c,?_⟩];exact oQ ad.1 ab λra dx H3 s3 n3 e3=>q ra dx _ H3 (kq f2 ab) (sX.trans s3) e3
theorem PV {i:Int}(B:0<=i)(h1:i<3):∃k:Dk,oF [V.str "near",.str "turns",.str "least"] i=some (.str k.tx):=by
 rcases (show i=0\/i=1\/i=2 by lia) with rfl|rfl|rfl
 ·exact ⟨.near,rfl⟩
 ·exact ⟨.turns,rfl⟩
 ·exact ⟨.least,rfl⟩
def Sr (m:Nat)(wf:Wf):Prop:=m=1->∀fl li he up dn,eV li he up dn->wf fl li he up dn=dq li he up dn
inductive DM (P:Program)(w:World)(K:Fg)(mg:Str->Option Value)(base:Heap)(C Pn Pl:Addr)(vs:List V)(H:Hp)(Q:VK)(_e:XK):Prop
 |mk (a ns:_) (_:vs=[.ref a]) (_:GQ K H a ns) (_:ow Pn Pl H) (_:∀ca hs wf k m H',ak H H'->G6 P w K mg base C Pn Pl H' ca hs wf k->xR hs->Qp m hs->Sr m wf->Q (.ref ca) H')
theorem Mz {kC Pn Pl Y Z U as:Addr}{k:Ks}(ae:Pn≠Pl)(F:Z0 K "_law_court" uU f fd)(R:QJ K P w mg base k)(cC:Hf K kC)(zw:iC P w K mg base aQ 1 "Court" kC (HM K))(sS:mg "near"=some (.ref Y))(mM:mg "least"=some (.ref Z))(eh:mg "by_turns"=some (.ref U))(Gz:aS P w K mg base 5 "near" ["cabins","waiting","rider","last"] (uo K Pn))(zW:aS P w K mg base 5 "least" ["cabins","waiting","rider","last"] (As K Pl))(mY:aS P w K mg base 3 "by_turns" ["cabins","waiting","rider","last"] (oN K))(jN:aS P w K mg base 2 "dealer_of" ["text","house"] (λvs H Q _=>DL Y Z U vs H Q E0))(dU:aS P w K mg base 3 "rule_of" ["text","floors"] (λvs H Q _=>fJ K k as vs H Q E0))(bX:Z00 P w K mg base)(q8:aS P w K mg base 6 "_law_house" ["_law_script","_law_two"] (yv K))(tH:aS P w K mg base 4 "_law_rule" ["_law_script","_law_floors"] (DC K k)):ar P w K mg base aQ 7 f fd ["_law_script"] (DM P w K mg base kC Pn Pl):=by
 rwa[F.ok wM (by symm) (λaw A outer s H vs Q E hr h=> ?_)];obtain ⟨a,ns,rfl,W,hG,q⟩:=h
 have cv:∀d:Dk,jP P w K mg base 5 (d.ad Y Z U) (pE K @ce qi (jJ d)):=by
  obtain ⟨f1,x1,F1⟩:=Gz.fnv;rw [sS] at x1;cases x1;obtain ⟨f2,x2,F2⟩:=zW.fnv;rw [mM] at x2;cases x2;obtain ⟨f3,x3,F3⟩:=mY.fnv;rw [eh] at x3;cases x3;exact Nm ae F1.cal F2.cal F3.cal
 rwa[⟨_,(aa @a (aa @a (aa @a (fm (ay @a (ac (bM (i:=3) wM.nd rfl @o (cR dU hr @b rfl (av cJ (av bA aq))))) ap) (ac (aj (ge zw gS hr @b rfl (av (wv 2) (av (wv 3) (av (cR jN hr @b rfl (av @a @fr)) aq)))))))))),?_⟩];rwa[jR.mk _ _ _ _ rfl W @b @b @b λd d0 d1=> ?_];rwa[yv.mk _ _ _ rfl W λh hs m H1 s1 hH ah hP L=> ?_];have aI:=bB W s1;obtain ⟨ai,hp,au,an,_,_⟩:=id hH;rwa[ao an rfl ?_];rwa[DC.mk _ _ _ rfl aI ai.f2 λI al j H2 B s2 e2=> ?_];generalize decide (d=3)=O at L;have ab:=s1.trans s2;rwa[xw (λσ HX=>ak H2 HX/\∃(I dx:Addr) (j:Rk),σ=[some (.ref a),some (.bl O),some (.ref h),some (.ref I)]/\j.ok/\HX I=some (.ins (j.cl k) dx j.fs)/\(O=true->j= .sw)) ?_ ?_]
 ·rwa[vo @t @t]
  ·rwa[oQ (s:=Lh) (rk:= .sw) @b (by unfold eI;rw [if_pos rfl]) λrb dx H3 S n3 e3=> ?_];exact ⟨S,rb,dx,.sw,rfl,trivial,e3,λ_=>rfl⟩
  ·exact ⟨.refl _,I,al,j,rfl,B,e2,λy=>by rw [y] at z;cases z⟩
 rintro σ H3 ⟨S,I,dx,j,rfl,B,e3,af⟩;have ag:=ab.trans S;have bp:=bB W ag;rwa[fP @bv λl2 H4 s4 n4 e4=> ?_];rwa[jR.mk _ _ _ _ rfl (bB bp s4) @b @b @b λi i0 i1=> ?_];obtain ⟨dk,ed⟩:=PV i0 i1;rwa[bd (az.of e4) ed ?_];rwa[SN ?_];rwa[RV cC λca am H5 s5 n5 e5=> ?_];have J:=(ag.trans s4).trans s5;rwa[q ca hs j.word dk m H5 J ⟨⟨am,h,I,dk.ad Y Z U,e5,hH.same (((s2.trans S).trans s4).trans s5),LK R B ((s4.trans s5) _ _ e3),cv dk⟩,kK _ _ J.st hG⟩ ah hP λz=> ?_];rw [af (L.mpr z)];exact λ_ _ _ _ _ _=>rfl
theorem Pu {s i fl:Int}(W:0<=s)(O:s<fl)(j:0<=i)(B:i<fl - 1):xU fl (s,(s+1+i)% fl):=by
 rwa[⟨W,O,Int.emod_nonneg _ @c,Int.emod_lt_of_pos _ @c,λz=> ?_⟩];have z:s=(s+1+i)% fl:=z;by_cases w:s+1+i<fl
 ·rw [Int.emod_eq_of_lt @c w] at z;lia
 ·have e:(s+1+i)% fl=s+1+i - fl:=by
   rw [show s+1+i=(s+1+i - fl)+fl by lia,Int.add_emod_right,Int.emod_eq_of_lt @c @c];lia
  lia
def QM (m:Nat)(ks:List (Int×Int)):Prop:=if m=0 then ks.length<=2 else ks.length=1
inductive DI (K:Fg)(vs:List V)(H:Hp)(Q:VK)(_e:XK):Prop
 |mk (a ns h hs m:_) (_:vs=[.ref a,.ref h]) (_:GQ K H a ns) (_:lC K H h hs) (_:Qp m hs) (_:∀p ks H',ak H H'->iG K H' p hs.fl ks->QM m ks->Q (.ref p) H')
theorem Ms (F:Z0 K "_law_kinds" uS f fd)(aU:mg "range"=none)(kF:mg "int"=none)(bH:mg "len"=none)(bX:Z00 P w K mg base):ar P w K mg base aQ 2 f fd ["_law_script","_law_house_here"] (DI K):=by
 rwa[F.ok D7 (by symm) @bS];obtain ⟨a,ns,h,hs,Y,rfl,hS,hH,L,q⟩:=h;obtain ⟨U,hp,ab,B,a7,ba⟩:=id hH;have f2:=U.f2;have f8:=U.f8;have xl:ab.length=hs.ls.length:=ba.len
 have ag:hs.ls.length=1->hs.fl<4->Y=0:=λz1 z2=>by
  match Y,L with
  |0,_=>rfl
  |1,L=>obtain ⟨_,la,lb,e,_⟩:=L;rw [e] at z1;cases z1
  |n+2,L=>have:=L.1;lia
 rwa[⟨_,(aa @a (aa (b9 PassesOwn.never rfl (cq rfl aU (av (cz @dU bA (cz Ai @a @da)) aq)) @a (aa @a @F)) @dt)),?_⟩];rwa[fP @bv λl H1 O n1 e1=> ?_];rwa[jR.mk _ _ _ _ rfl (bB hS O) @b @b @b λm m0 m1=> ?_];rwa[ao @fG rfl ?_];rwa[gm (O.seqT a7) ?_]
 have S:∀b:Bool,(b=true->Y=0)->∃n:Nat,1+m*(if b=true then (1:Int) else 0)=(n:Int)/\1<=n/\n<=2/\(Y≠0->n=1):=λb hb=>by
  cases b with
  |false=>exact ⟨1,by simp,by decide,by decide,λ_=>rfl⟩
  |true=>
   rwa[⟨(1+m).toNat,?_,by lia,by lia,λz=>absurd (hb rfl) z⟩];show 1+m*1=_;lia
 rwa[vo @t @t]
 all_goals
  first
   |(refine ao @fG rfl ?_
     obtain ⟨n,Z,k1,k2,k3⟩:=S (decide (hs.fl<4)) λy=>ag (by rw [<-xl];have:=of_decide_eq_true z;lia) (of_decide_eq_true y))
   |obtain ⟨n,Z,k1,k2,k3⟩:=S false λy=>nomatch y
  rwa[⟨fF @c @c,?_⟩];rwa[⟨⟨by rw [Z];lia,by rw [Z];lia⟩,?_⟩];rw [Z,show (((n:Nat):Int)).toNat=n by lia];rwa[eM (λj σ J=>ak H J/\∃(ys:List V) (ks:List (Int×Int)) (o3 o4:Option V),σ=[some (.ref a),some (.ref h),some (.ref l),o3,o4]/\J l=some (.lst ys)/\aC K J ys @gl/\ks.length=j/\∀k∈ks,xU hs.fl k) ⟨O,[],[],_,_,rfl,e1,.nil,rfl,λx hx=>nomatch hx⟩ (λj σ J hj pv=> ?_) (λσ J pv=> ?_)]
  ·obtain ⟨I,ys,ks,o3,o4,rfl,W,dX,rfl,hk⟩:=pv
   have ah:(ks.length:Int)<2:=by lia
   have yl:ys.length=ks.length:=aG dX;have R:=bB hS I;rwa[⟨fF @b @b,?_⟩];rwa[ao (I.seqT B) rfl ?_];rwa[jR.mk _ _ _ _ rfl R @c @c @c λst ae aw=> ?_];rwa[⟨.inl ⟨rfl,_,az.of W⟩,?_⟩];rwa[⟨fF @b @b,?_⟩];rwa[ao (I.seqT B) rfl ?_];rwa[jR.mk _ _ _ _ rfl R @c @c @c λi i0 i1=> ?_];rwa[ao (I.seqT B) rfl ?_];rwa[⟨by lia,?_⟩];rwa[bZ (bq (by show 2<=1000000;decide)) λt H3 s3 n3 e3=> ?_];have ad:=s3 _ _ W;rwa[dY ad @dk ?_];rwa[⟨ak.updF (I.trans s3) n1,ys++[.ref t],ks++[(st,(st+1+i)% hs.fl)],_,_,rfl,af,?_,by simp,λx hx=> ?_⟩]
   ·rw [map_append];exact Paired.app (kR (aC.same dX s3) (iK ks) ad) (.cons (br.noL (d:=cY (st,(st+1+i)% hs.fl)) (eO @fF (.cons (.int _) (.cons (.int _) .nil))) rfl ad) .nil)
   ·rcases mem_append.mp hx with z|z
    ·exact hk x z
    ·rw [mem_singleton.mp z];exact Pu ae aw i0 i1
  obtain ⟨I,ys,ks,o3,o4,rfl,W,dX,hl,hk⟩:=pv;rwa[q l ks J I ⟨ys,W,dX,by lia,by lia,hk⟩ ?_];unfold QM;split
  ·lia
  ·rename_i z;rw [hl,k3 z]
theorem Mu (F:Z0 K "_law_inside" pZ f fd):ar P w K mg base aQ 2 f fd ["_law_state","_law_kind"] (fB K):=by
 rwa[F.ok lT @bJ (λah A outer s H vs Q E hr h=> ?_)]
 ·unfold fB at h;obtain ⟨st,hs,n,S,O,Y,k,rfl,_⟩:=h;rfl
 unfold fB at h;obtain ⟨st,hs,n,S,O,Y,k,rfl,hS,bm,q⟩:=h;have Z:=hS.c64;have cl:=hS.cl;have wl:O.length<=64:=Nat.le_trans hS.o.w bm;obtain ⟨tc,tw,xs,ys,h1,h2,h3,h4,h5⟩:=hS.a;have yl:ys.length=O.length:=aG h5;have xl:xs.length=S.length:=h4.len;rwa[⟨_,(aa (dN (i:=2) rfl lT.nd rfl @o (aB (N':=["_law_rider"]) (pk:=[none]) @j) @a @h @r @h) (aa (b9 PassesOwn.never rfl @a @a (ac (bM (i:=2) lT.nd rfl @o (cz @dU (wv 2) (bD rfl (aB (N':=["_law_pair"]) (pk:=[none]) @j) @a @h @r @h))))) @g)),?_⟩];rwa[ao h1 rfl ?_];rwa[d3 h3 ?_];rwa[cQ (xs:=ys) (λj B z=>ak H z/\B=((O.take j).map (·.tag)).map V.int) @Z (λj B z h=>by rw [h.2,length_map,length_map,length_take];exact Nat.min_le_left _ _) ⟨.refl _,rfl⟩ (λj B z _ h=>h.1.seqT h3) @ch (λB z J l n=> ?_)]
 ·obtain ⟨R,rfl⟩:=J;obtain ⟨r,ae,dr⟩:=bE (f:=aL.d) h5 hy;obtain ⟨ra,rfl,hT⟩:=fk (br.same dr R);rwa[⟨bQ,?_⟩];rwa[ao hT rfl ?_];rwa[⟨R,?_⟩];rw [take_add_one,ae,map_append,map_append];rfl
 obtain ⟨R,rfl⟩:=J;rw [yl,take_of_length_le @e];have s2:ak z (upd z l (.lst ((O.map (·.tag)).map V.int))):= .upd n;have e2:upd z l (.lst ((O.map (·.tag)).map V.int)) l=some (.lst ((O.map (·.tag)).map V.int)):=af;generalize ag:upd z l (.lst ((O.map (·.tag)).map V.int))=H2 at s2 e2 ⊢;have L:=R.trans s2;rwa[ao (L.seqT h1) rfl ?_];rwa[d3 (L.seqT h2) ?_];rwa[xk (xs:=xs) (λi σ I=>ak H I/\∃(lt:Addr) (o3:Option V),σ=[some (.ref st),some (.int k),some (.ref lt),o3]/\I lt=some (.lst ((O.map (·.tag)++(S.take i).flatMap λc=>c.ps.map (·.1)).map V.int))) ⟨L,l,_,rfl,by rw [take_zero,flatMap_nil,append_nil];exact e2⟩ (λi σ I _ W=>W.1.seqT h2) @dl @dm]
 ·obtain ⟨sY,lt,o3,rfl,eY⟩:=W;obtain ⟨c,hc,t,rfl,ad⟩:=h4.get1 hx;obtain ⟨b,bs,et,eb,db⟩:=ad.keep sY.st;have bl:bs.length=c.ps.length:=aG db;have ai:=Z c (mem_of_getElem? hc);rwa[ao (aD.of et) rfl ?_];rwa[d3 @eN ?_];rwa[cQ (xs:=bs) (λj B z=>ak I z/\B=((c.ps.take j).map (·.1)).map V.int) @Z (λj B z h=>by rw [h.2,length_map,length_map,length_take];exact Nat.min_le_left _ _) ⟨.refl _,rfl⟩ (λj B z _ h=>h.1.seqT @eN) @ch (λB HZ J l3 n3=> ?_)]
  ·obtain ⟨R,rfl⟩:=J;obtain ⟨p,pt,hp,rfl,ab⟩:=kz db hy;rwa[⟨bQ,?_⟩];rwa[ao (R.seqT ab) rfl ?_];rwa[⟨R,?_⟩];rw [take_add_one,hp,map_append,map_append];rfl
  obtain ⟨R,rfl⟩:=J;rw [bl,take_of_length_le @e];have s3:ak HZ (upd HZ l3 (.lst ((c.ps.map (·.1)).map V.int))):= .upd n3;have e3:upd HZ l3 (.lst ((c.ps.map (·.1)).map V.int)) l3=some (.lst ((c.ps.map (·.1)).map V.int)):=af;generalize al:upd HZ l3 (.lst ((c.ps.map (·.1)).map V.int))=H3 at s3 e3 ⊢;have U:=R.trans s3;rwa[A4 (U _ _ eY) e3 (bq ?_) λl4 H4 s4 n4 e4=> ?_]
  ·have h1:((S.take i).flatMap λc=>c.ps.map (·.1)).length<=64*(S.take i).length:=qI λc hc=>Z c (mem_of_mem_take hc)
   have h2:(S.take i).length<=10:=by rw [length_take];lia
   simp only [length_map,length_append];lia
  ·rwa[⟨(sY.trans U).trans s4,l4,_,rfl,?_⟩];rw [e4,take_add_one,hc];simp only [Option.toList_some,flatMap_append,flatMap_cons,flatMap_nil,append_nil,map_append,append_assoc]
 obtain ⟨sY,lt,o3,rfl,eY⟩:=W;rw [xl,take_of_length_le @e] at eY;rwa[pJ (az.of eY) rfl (mP _) ?_];rw [vm];exact q I sY
def JL (G:Gr)(pr:SS->Prop)(ρ:List @l):Prop:=ρ.length=G.S.length/\∀(i:Nat) (s:SS) (u:List (Int×Nat)),G.S[i]? =some s->G.W[i]? =some u->
 (¬pr s->ρ[i]? =some @dX)/\(pr s->(ρ[i]? =some none/\∃w∈u,ρ[w.2]? =some none)\/∃r,ρ[i]? =some (some (r+1))/\(∀w∈u,∃q,ρ[w.2]? =some @fd/\q<=r)/\∃w∈u,ρ[w.2]? =some @dY)
structure Ky (G:Gr):Prop where
 lw:G.W.length=G.S.length
 ne:∀u∈G.W,u≠[]
 l5:∀u∈G.W,u.length<=5
 go:∀u∈G.W,∀w∈u,w.2<G.S.length
theorem JL.uniq {G:Gr}{pr:SS->Prop}{ρ j:List @l}(J:Ky G)(h:JL G pr ρ)(h':JL G pr j):ρ=j:=by
 have aa:∀ {ρ j:List @l},JL G pr ρ->JL G pr j->∀r i,i<G.S.length->ρ[i]? =some @dY->j[i]? =some @dY:=by
  intro ρ j h h' r
  induction r using Nat.strongRecOn with
  |ind r ih=>
   intro i hi e;have hs:=getElem?_eq_getElem hi
   have B:i<G.W.length:=by rw [J.lw];exact hi
   have I:=getElem?_eq_getElem B;have L:G.W[i]∈G.W:=getElem_mem B;by_cases z:pr (G.S[i])
   ·rcases (h.2 i _ _ hs I).2 z with ⟨a,_⟩|⟨q,Y,a2,a3⟩
    ·rw [e] at a;cases a
    ·rw [e] at Y;cases Y
     rcases (h'.2 i _ _ hs I).2 z with ⟨_,w,F,b⟩|⟨q',b1,b2,b3⟩
     ·obtain ⟨p,c1,c2⟩:=a2 w F;rw [ih p @c w.2 (J.go _ L w F) c1] at b;cases b
     ·obtain ⟨w,F,c⟩:=a3;obtain ⟨O,R,c'⟩:=b3;obtain ⟨p,d1,d2⟩:=b2 w F;rw [ih q @c w.2 (J.go _ L w F) c] at d1;cases d1;obtain ⟨p',U,ab⟩:=a2 O R;rw [ih p' @c O.2 (J.go _ L O R) U] at c';cases c';rw [b1,show q=q' by lia]
   ·rw [(h.2 i _ _ hs I).1 z] at e;cases e;exact (h'.2 i _ _ hs I).1 z
 rwa[List.ext_getElem? λi=> ?_];by_cases hi:i<G.S.length
 ·have a:=getElem?_eq_getElem (show i<ρ.length by rw [h.1];exact hi);have b:=getElem?_eq_getElem (show i<j.length by rw [h'.1];exact hi)
  cases ea:ρ[i]'(by rw [h.1];exact hi) with
  |some r=>rw [ea] at a;rw [aa h h' r i hi a,a]
  |none=>
   cases Z:j[i]'(by rw [h'.1];exact hi) with
   |some r=>rw [Z] at b;rw [aa h' h r i hi b,b]
   |none=>rw [a,b,ea,Z]
 ·rw [List.getElem?_eq_none (by rw [h.1];lia),List.getElem?_eq_none (by rw [h'.1];lia)]
def AE (u:List (Int×Nat))(T:List Nat):Nat:=(u.filter λw=> !decide (w.2∈T)).length
def mJ (u:List (Int×Nat))(b:Nat):Nat:=(u.filter λw=>decide (w.2=b)).length
theorem xa {u:List (Int×Nat)}{T:List Nat}{b:Nat}(h:b∉T):AE u (T++[b])+mJ u b=AE u T:=by
 unfold AE mJ
 induction u with
 |nil=>rfl
 |cons w u ih=>
  by_cases y:w.2=b
  ·have j:w.2∉T:=by rw [y];exact h
   rw [filter_cons_of_neg (by simp [y]),filter_cons_of_pos (by simp [y]),filter_cons_of_pos (by simp [j]),length_cons,length_cons];lia
  ·by_cases z:w.2∈T
   ·rw [filter_cons_of_neg (by simp [z]),filter_cons_of_neg (by simp [y]),filter_cons_of_neg (by simp [z])];exact ih
   ·rw [filter_cons_of_pos (by simp [z,y]),filter_cons_of_neg (by simp [y]),filter_cons_of_pos (by simp [z]),length_cons,length_cons];lia
theorem Fz {u:List (Int×Nat)}{T:List Nat}(h:AE u T=0):∀w∈u,w.2∈T:=λw B=>by
 unfold AE at h;have:=List.filter_eq_nil_iff.mp (length_eq_zero_iff.mp h) w B;simpa using this
theorem AD {u:List (Int×Nat)}:AE u []=u.length:=by
 unfold AE;rw [List.filter_eq_self.mpr λw _=>by simp]
structure RI (G:Gr)(pr:SS->Prop)(ρ:List @l)(T:List Nat)(un:List Int)(d:Nat)(P:List Nat):Prop where
 lr:ρ.length=G.S.length
 lu:un.length=G.S.length
 nd:T.Nodup
 tl:∀i∈T,i<G.S.length
 dl:d<=T.length
 st:∀i:Nat,i<G.S.length->(i∈T↔∃r,ρ[i]? =some @dY)
 un:∀(i:Nat) (u:List (Int×Nat)),G.W[i]? =some u->un[i]? =some ((AE u (T.take d):Int) - (P.count i:Int))
 z0:∀(i:Nat) (s:SS),G.S[i]? =some s-> ¬pr s->ρ[i]? =some @dX
 up:∀(i:Nat) (s:SS) (u:List (Int×Nat)),G.S[i]? =some s->G.W[i]? =some u->pr s->i∈T->∃r,ρ[i]? =some (some (r+1))/\(∀w∈u,∃q,ρ[w.2]? =some @fd/\q<=r)/\∃w∈u,ρ[w.2]? =some @dY
 nz:∀(i:Nat) (s:SS) (u:List (Int×Nat)),G.S[i]? =some s->G.W[i]? =some u->pr s->i∉T->(AE u (T.take d):Int) - (P.count i:Int)≠0
section
variable {G:Gr}{pr:SS->Prop}{ρ:List @l}{T:List Nat}{un:List Int}{d:Nat}{P:List Nat}
theorem RI.done (U:Ky G)(I:RI G pr ρ T un T.length []):JL G pr ρ:=by
 rwa[⟨I.lr,λi s u hs F=>⟨I.z0 i s hs,λO=> ?_⟩⟩];have hi:i<G.S.length:=(List.getElem?_eq_some_iff.mp hs).1;by_cases z:i∈T
 ·exact .inr (I.up i s u hs F O z)
 ·have B:∀j,j<G.S.length->j∉T->ρ[j]? =some none:=λj Z R=>by
   have e:=getElem?_eq_getElem (show j<ρ.length by rw [I.lr];exact Z)
   cases y:ρ[j]'(by rw [I.lr];exact Z) with
   |none=>rw [e,y]
   |some r=>rw [y] at e;exact absurd ((I.st j Z).mpr ⟨r,e⟩) R
  have J:=I.nz i s u hs F O z;rw [take_length] at J;rwa[.inl ⟨B i hi z,Classical.byContradiction λy=>J ?_⟩]
  have:AE u T=0:=by
   unfold AE;rwa[length_eq_zero_iff.mpr (List.filter_eq_nil_iff.mpr λw L=> ?_)];simp only [Bool.not_eq_true',decide_eq_false_iff_not,Decidable.not_not];exact Classical.byContradiction λx=>y ⟨w,L,B w.2 (U.go u (mem_of_getElem? F) w L) x⟩
  rw [this];rfl
theorem RI.next (I:RI G pr ρ T un d P){b:Nat}(F:T[d]? =some b)(J:∀(i:Nat) (u:List (Int×Nat)),G.W[i]? =some u->P.count i=mJ u b):RI G pr ρ T un (d+1) []:=by
 have L:=(List.getElem?_eq_some_iff.mp F).1
 have e:∀ {u:List (Int×Nat)},AE u (T.take (d+1))+mJ u b=AE u (T.take d):=λ{u}=>by
  rw [take_add_one,F]
  exact xa λz=>by
   obtain ⟨j,Z⟩:=mem_iff_getElem?.mp z;rw [List.getElem?_take] at Z;split at Z
   ·rename_i R;have:=(List.getElem?_inj L I.nd).mp (F.trans Z.symm);lia
   ·cases Z
 rwa[⟨I.lr,I.lu,I.nd,I.tl,L,I.st,λi u B=> ?_,I.z0,I.up,λi s u hs B S O=> ?_⟩]
 ·have:=e (u:=u);rw [I.un i u B,J i u B];simp only [List.count_nil];congr 1;lia
 ·have h1:=I.nz i s u hs B S O;have:=e (u:=u);rw [J i u B] at h1;simp only [List.count_nil];lia
theorem RI.comer (hG:Ky G)(I:RI G pr ρ T un d P){b i:Nat}{s:SS}{u:List (Int×Nat)}(hb:T[d]? =some b)(hs:G.S[i]? =some s)(hu:G.W[i]? =some u)(hP:(P++[i]).count i<=mJ u b):
 ∃v:Int,un[i]? =some v/\((v - 1=0/\ρ[i]? =some none->(∀w∈u,∃q,ρ[w.2]? =some @fd)/\∀r,(∀w∈u,∃q,ρ[w.2]? =some @fd/\q<=r)->(∃w∈u,ρ[w.2]? =some @dY)->RI G pr (ρ.set i (some (r+1))) (T++[i]) (un.set i (v - 1)) d (P++[i])))/\(¬(v - 1=0/\ρ[i]? =some none)->RI G pr ρ T (un.set i (v - 1)) d (P++[i])):=by
 have hi:i<G.S.length:=(List.getElem?_eq_some_iff.mp hs).1;have hd:=(List.getElem?_eq_some_iff.mp hb).1;have ae:b∈T:=mem_of_getElem? hb
 have L:∀j,(P++[i]).count j=P.count j+if i=j then 1 else 0:=λj=>by rw [List.count_append,List.count_singleton];simp
 have nb:b∉T.take d:=λz=>by
  obtain ⟨j,Z⟩:=mem_iff_getElem?.mp z;rw [List.getElem?_take] at Z;split at Z
  ·rename_i ak;have:=(List.getElem?_inj hd I.nd).mp (hb.trans Z.symm);lia
  ·cases Z
 have hl:=xa (u:=u) nb;have ci:=L i;rw [if_pos rfl] at ci;rwa[⟨_,I.un i u hu,⟨λ⟨v0,rn⟩=> ?_,λag=> ?_⟩⟩]
 ·have h0:AE u (T.take d++[b])=0:=by lia
  have ac:∀w∈u,w.2∈T:=λw B=>by
   rcases mem_append.mp (Fz h0 w B) with z|z
   ·exact mem_of_mem_take z
   ·rw [mem_singleton.mp z];exact ae
  have ab:i∉T:=λz=>by obtain ⟨r,e⟩:=(I.st i hi).mp z;rw [rn] at e;cases e
  have um:=mem_of_getElem? hu;rwa[⟨λw B=>(I.st w.2 (hG.go u um w B)).mp (ac w B),λr h1 h2=> ?_⟩]
  have ai:pr s:=Classical.byContradiction λz=>by rw [I.z0 i s hs z] at rn;cases rn
  have J:∀j,j≠i->(ρ.set i (some (r+1)))[j]? =ρ[j]? :=λj Z=>getElem?_set_ne @fg;have U:(ρ.set i (some (r+1)))[i]? =some (some (r+1)):=getElem?_set_self (by rw [I.lr];exact hi);have ad:∀w∈u,w.2≠i:=λw B z=>ab (z▸ac w B);have tk:(T++[i]).take d=T.take d:=take_append_of_le_length @c;rwa[⟨by rw [length_set];exact I.lr,by rw [length_set];exact I.lu,?_,λj Z=> ?_,by rw [length_append];lia,λj Z=> ?_,λj O av=> ?_,λj s' F Y=> ?_,λj s' O F av hp hm=> ?_,λj s' O F av hp Y=> ?_⟩]
  ·rw [nodup_append];exact ⟨I.nd,by simp,λx hx y hy=>by rw [mem_singleton.mp hy];rintro rfl;exact ab hx⟩
  ·rcases mem_append.mp Z with z|z
   ·exact I.tl j z
   ·rw [mem_singleton.mp z];exact hi
  ·by_cases z:j=i
   ·subst z;exact ⟨λ_=>⟨_,U⟩,λ_=>by simp⟩
   ·rw [J j z,<-I.st j Z];simp [z]
  ·rw [tk,L];by_cases z:i=j
   ·subst z;rw [hu] at av;cases av;rw [getElem?_set_self (by rw [I.lu];exact hi),if_pos rfl];congr 1;lia
   ·rw [getElem?_set_ne z,I.un j O av,if_neg z];rfl
  ·by_cases z:j=i
   ·subst z;rw [hs] at F;cases F;exact absurd ai Y
   ·rw [J j z];exact I.z0 j s' F Y
  ·by_cases z:j=i
   ·subst z;rw [hu] at av;cases av;rwa[⟨r,U,λw B=> ?_,?_⟩]
    ·obtain ⟨q,R,z2⟩:=h1 w B;exact ⟨q,by rw [J _ (ad w B)];exact R,z2⟩
    ·obtain ⟨w,B,R⟩:=h2;exact ⟨w,B,by rw [J _ (ad w B)];exact R⟩
   ·have af:j∈T:=by rcases mem_append.mp hm with y|y;exact y;exact absurd (mem_singleton.mp y) z
    obtain ⟨r',a1,a2,a3⟩:=I.up j s' O F av hp af
    have aa:∀w∈O,∀q,ρ[w.2]? =some @fd->w.2≠i:=λw B q e y=>by rw [y,rn] at e;cases e
    rwa[⟨r',by rw [J j z];exact a1,λw B=> ?_,?_⟩]
    ·obtain ⟨q,R,z2⟩:=a2 w B;exact ⟨q,by rw [J _ (aa w B q R)];exact R,z2⟩
    ·obtain ⟨w,B,R⟩:=a3;exact ⟨w,B,by rw [J _ (aa w B _ R)];exact R⟩
  ·have aj:j∉T:=λy=>Y (mem_append_left _ y);have ah:j≠i:=λy=>Y (by rw [y];simp);rw [tk,L,if_neg @fT];exact I.nz j s' O F av hp aj
 ·rwa[⟨I.lr,by rw [length_set];exact I.lu,I.nd,I.tl,I.dl,I.st,λj O av=> ?_,I.z0,I.up,λj s' O F av hp Y=> ?_⟩]
  ·rw [L];by_cases z:i=j
   ·subst z;rw [hu] at av;cases av;rw [getElem?_set_self (by rw [I.lu];exact hi),if_pos rfl];congr 1;lia
   ·rw [getElem?_set_ne z,I.un j O av,if_neg z];rfl
  ·rw [L];by_cases z:i=j
   ·subst z;rw [hu] at av;cases av;rw [if_pos rfl];intro y;rwa[ag ⟨by lia,?_⟩];have e:=getElem?_eq_getElem (show i<ρ.length by rw [I.lr];exact hi)
    cases x:ρ[i]'(by rw [I.lr];exact hi) with
    |none=>rw [e,x]
    |some r=>rw [x] at e;exact absurd ((I.st i hi).mpr ⟨r,e⟩) Y
   ·rw [if_neg z];exact I.nz j s' O F av hp Y
end
abbrev nV (i:Nat):V:= .int (i:Int)
structure LL (K:Fg)(H:Hp)(l:Addr)(cl:List Addr)(Ls:List @dp):Prop where
 e:H l=some (.lst (cl.map V.ref))
 ln:cl.length=Ls.length
 at':∀(j:Nat) a P,cl[j]? =some a->Ls[j]? =some P->H a=some (.lst (P.map nV))
 nd:(l::cl).Nodup
theorem LL.same {H H':Hp}{l:Addr}{B:List Addr}{z:List @dp}(h:LL K H l B z)(s:ak H H'):LL K H' l B z:=⟨s _ _ h.e,h.ln,λj a P h1 h2=>s _ _ (h.at' j a P h1 h2),h.nd⟩
theorem LL.app {H:Hp}{l a:Addr}{I:List Addr}{F:List @dp}{j i:Nat}{P:List Nat}(h:LL K H l I F)(B:I[j]? =some a)(J:F[j]? =some P):LL K (upd H a (.lst (P.map nV++[nV i]))) l I (F.set j (P++[i])):=by
 have L:=h.nd;rw [nodup_cons] at L;have S:=mem_of_getElem? B;rwa[⟨by rw [ag (λz:l=a=>L.1 (by rw [z];exact S))];exact h.e,by rw [length_set];exact h.ln,λk b R h1 h2=> ?_,h.nd⟩];by_cases y:j=k
 ·subst y;rw [B] at h1;cases h1;rw [getElem?_set_self (List.getElem?_eq_some_iff.mp J).1] at h2;cases h2;rw [af,map_append];rfl
 ·rw [getElem?_set_ne y] at h2;rw [ag (λz:b=a=>y (by subst z;exact (List.getElem?_inj (List.getElem?_eq_some_iff.mp B).1 L.2).mp (B.trans h1.symm)))];exact h.at' k b R h1 h2
def He (G:Gr)(i p:Nat)(Ls:List @dp):Prop:=Ls.length=G.S.length/\∀(j:Nat) P,Ls[j]? =some P->(∀(x:Nat) u,G.W[x]? =some u->P.count x=if x<i then mJ u j else if x=i then mJ (u.take p) j else 0)/\(∀x∈P,x<G.S.length)/\P.length<=5*i+p
theorem sQ {u:List (Int×Nat)}{p j:Nat}{w:Int×Nat}(h:u[p]? =some w):mJ (u.take (p+1)) j=mJ (u.take p) j+if w.2=j then 1 else 0:=by
 unfold mJ;rw [take_add_one,h,filter_append,length_append];congr 1;by_cases z:w.2=j<;>simp [z]
theorem He.way {G:Gr}{i p:Nat}{L:List @dp}{u:List (Int×Nat)}{w:Int×Nat}{P:List Nat}(h:He G i p L)(hi:i<G.S.length)(U:G.W[i]? =some u)(Y:u[p]? =some w)(O:L[w.2]? =some P):He G i (p+1) (L.set w.2 (P++[i])):=by
 rwa[⟨by rw [length_set];exact h.1,λj R F=> ?_⟩];by_cases y:w.2=j
 ·subst y;rw [getElem?_set_self (List.getElem?_eq_some_iff.mp O).1] at F;cases F;obtain ⟨J,I,Z⟩:=h.2 w.2 P O;rwa[⟨λx v B=> ?_,λx hx=> ?_,by rw [length_append];simp only [length_cons,length_nil];lia⟩]
  ·rw [List.count_append,List.count_singleton,J x v B];by_cases z:i=x
   ·subst z;rw [U] at B;cases B;simp only [Nat.lt_irrefl,if_false,beq_self_eq_true,if_true];rw [sQ Y];simp
   ·have z': ¬x=i:=λe=>z e.symm;rw [show (i==x)=false from beq_eq_false_iff_ne.mpr z];simp only [z',if_false];simp
  ·rcases mem_append.mp hx with z|z
   ·exact I x z
   ·rw [mem_singleton.mp z];exact hi
 ·rw [getElem?_set_ne y] at F;obtain ⟨J,I,Z⟩:=h.2 j R F;rwa[⟨λx v B=> ?_,I,by lia⟩];rw [J x v B];by_cases z:x=i
  ·subst z;rw [U] at B;cases B;simp only [Nat.lt_irrefl,if_false,if_true];rw [sQ Y,if_neg y];rfl
  ·simp only [z,if_false]
theorem He.row {G:Gr}{i:Nat}{F:List @dp}{u:List (Int×Nat)}(h:He G i u.length F)(I:G.W[i]? =some u)(R:u.length<=5):He G (i+1) 0 F:=by
 rwa[⟨h.1,λj P J=> ?_⟩];obtain ⟨O,L,Y⟩:=h.2 j P J;rwa[⟨λx v B=> ?_,L,by lia⟩];rw [O x v B]
 rcases Nat.lt_trichotomy x i with z|z|z
 ·rw [if_pos z,if_pos @c]
 ·subst z;rw [I] at B;cases B;rw [if_neg @G,if_pos rfl,if_pos @c,take_length]
 ·rw [if_neg @c,if_neg @c,if_neg @c];split
  ·rw [take_zero];rfl
  ·rfl
inductive DN (K:Fg)(vs:List V)(H:Hp)(Q:VK)(_e:XK):Prop
 |mk (g l0 l1 l2 wl xs zs G:_) (_:vs=[.ref l1]) (_:rD K H g l0 l1 l2 wl xs zs G) (_:Ky G) (_:G.S.length<=500) (_:∀l cl Ls H',ak H H'->(∀a∈l::cl,H a=none)->LL K H' l cl Ls->He G G.S.length 0 Ls->Q (.ref l) H')
theorem MA (F:Z0 K "comers_of" mw f fd)(be:mg "enumerate"=none):ar P w K mg base aQ 1 f fd ["ways"] (DN K):=by
 rwa[F.ok pP (by symm) (λas A outer s H vs Q E hr h=> ?_)];obtain ⟨g,l0,l1,l2,wl,xs,zs,G,rfl,hG,hO,n5,q⟩:=h;have aR:wl.length=G.S.length:=hG.lW.trans hO.lw;rwa[⟨_,(aa (dN (i:=1) rfl pP.nd rfl @o (aB (N':=["leads"]) (pk:=[none]) @j) @a @h @r (λC s H ex=>(yg aq))) (aa (b9 PassesOwn.never rfl (oH rfl rfl be (wv 0)) @a (ac @cp)) @eK)),?_⟩];rwa[bF (az.of hG.e1) ?_];rwa[bx (xs:=wl.map V.ref) (λi ys I=>ak H I/\∃J:List Addr,ys=J.map V.ref/\J.length=i/\J.Nodup/\(∀a∈J,H a=none/\I a=some (.lst []))) (bq (by rw [length_map];lia)) (λi ys I p=>by obtain ⟨_,J,rfl,e,_⟩:=p;rw [length_map];lia) ⟨.refl _,[],rfl,rfl,.nil,λa ha=>nomatch ha⟩ (λi ys I _ p=>az.of (p.1 _ _ hG.e1)) (λi x ys I ad p=> ?_) (λys I p lc aO=> ?_)]
 ·obtain ⟨sm,J,rfl,ag,nd,B⟩:=p;rwa[⟨bQ,?_⟩];rwa[fP @bv λa HZ sZ nZ eZ=> ?_];rwa[⟨sm.trans sZ,J++[a],by rw [map_append];rfl,by rw [length_append,ag];rfl,?_,λb hb=> ?_⟩]
  ·rw [nodup_append];exact ⟨nd,by simp,λu hu v hv=>by rw [mem_singleton.mp hv];rintro rfl;have:=(B u hu).2;rw [nZ] at this;cases this⟩
  ·rcases mem_append.mp hb with z|z
   ·exact ⟨(B b z).1,sZ _ _ (B b z).2⟩
   ·rw [mem_singleton.mp z];exact ⟨none_of sm nZ,eZ⟩
 obtain ⟨sm,J,rfl,ag,nd,B⟩:=p;rw [length_map] at ag;have s1:ak I (upd I lc (.lst @bQ)):= .upd aO;have e1:upd I lc (.lst @bQ) lc=some (.lst @bQ):=af;generalize upd I lc (.lst @bQ)=H1 at s1 e1;have al:=sm.trans s1;have ah:=none_of sm aO
 have an:LL K H1 lc J (List.replicate J.length []):=by
  rwa[⟨e1,by simp,λj a P h1 h2=> ?_,?_⟩]
  ·rw [getElem?_replicate] at h2;split at h2
   ·cases h2;exact s1 _ _ (B a (mem_of_getElem? h1)).2
   ·cases h2
  ·rw [nodup_cons];exact ⟨(λz=>by have:=(B lc z).2;rw [aO] at this;cases this),nd⟩
 have ao:He G 0 0 (List.replicate J.length []):=⟨by simp;lia,λj P hP=>by
  rw [getElem?_replicate] at hP;split at hP
  ·cases hP;exact ⟨λx u _=>by simp [mJ],λx hx=>by simp at hx,by simp⟩
  ·cases hP⟩
 have U:∀a∈lc::J,H a=none:=λa ha=>by
  rcases mem_cons.mp ha with rfl|ha
  ·exact ah
  ·exact (B a ha).1
 clear B;rwa[.inl ⟨wl.map V.ref,az.of (al _ _ hG.e1),?_⟩];rwa[xm (xs:=wl.map V.ref) (λi σ I=>ak H I/\∃L o2 o3 o4 o5,LL K I lc J L/\He G i 0 L/\σ=[some (.ref l1),some (.ref lc),o2,o3,o4,o5]) ⟨al,_,_,_,_,_,an,ao,rfl⟩ (λi σ I _ O=>az.of (O.1 _ _ hG.e1)) (λi x σ I T HY ad O sT eT=> ?_) (λσ I O=> ?_)]
 ·obtain ⟨sX,L,o2,o3,o4,o5,Z,R,rfl⟩:=O;rw [getElem?_map] at ad;obtain ⟨b,hb,rfl⟩:=Option.map_eq_some_iff.mp ad
  have ae:i<G.S.length:=by have:=(List.getElem?_eq_some_iff.mp hb).1;lia
  have hu:=getElem?_eq_getElem (show i<G.W.length by rw [hO.lw];exact ae);generalize G.W[i]'(by rw [hO.lw];exact ae)=u at hu;have um:=mem_of_getElem? hu;have sY:=sX.trans sT;obtain ⟨vs,ev,dv⟩:=hG.dW i b u hb hu
  have vl:vs.length=u.length:=by have:=dv.len;rwa [length_map] at this
  rwa[fh (aD.of eT) rfl ?_];rwa[bF (az.of (sY _ _ ev)) ?_];rwa[cx (xs:=vs) (λp σ I=>ak H I/\∃L o4 o5,LL K I lc J L/\He G i p L/\σ=[some (.ref l1),some (.ref lc),some (.int (i:Int)),some (.ref b),o4,o5]) ⟨sY,_,_,_,Z.same sT,R,rfl⟩ (λp σ I _ O=>az.of (O.1 _ _ ev)) (λp x σ HZ am O=> ?_) (λσ HZ O=> ?_)]
  ·obtain ⟨sZ,L,o4,o5,Z,R,rfl⟩:=O;obtain ⟨w',ai,dw⟩:=dv.get1 am;rw [getElem?_map] at ai;obtain ⟨wy,ab,rfl⟩:=Option.map_eq_some_iff.mp ai;obtain ⟨t,ts,rfl,hT,dT⟩:=(br.same dw sZ).outT
   have hT:aD K HZ t [.int wy.1,.int (wy.2:Int)]:=by
    cases dT with|cons q0 t0=>cases t0 with|cons q1 t1=>
    cases t1;cases q0.isInt;cases q1.isInt;exact hT
   have ap:wy.2<G.S.length:=hO.go u um wy (mem_of_getElem? ab);have Y:=getElem?_eq_getElem (show wy.2<L.length by rw [R.1];exact ap);have B:=getElem?_eq_getElem (show wy.2<J.length by lia);rwa[fh hT rfl ?_];rwa[bd (az.of Z.e) (v:= .ref (J[wy.2]'(by lia))) (bz (by rw [getElem?_map,B];rfl)) ?_];have ea:=Z.at' _ _ _ B Y;obtain ⟨_,_,a3⟩:=R.2 _ _ Y;have ul:=hO.l5 u um;have pl:=(List.getElem?_eq_some_iff.mp ab).1;rwa[⟨.inl ⟨rfl,_,az.of ea⟩,?_⟩];rwa[dY ea (vS (by rw [length_map];lia)) ?_];exact ⟨ak.updF sZ (U _ (.tail _ (getElem_mem _))),_,_,_,Z.app B Y,R.way ae hu ab Y,rfl⟩
  ·obtain ⟨sZ,L,o4,o5,Z,R,rfl⟩:=O;rw [vl] at R;exact ⟨sZ,L,_,_,_,_,Z,R.row hu (hO.l5 u um),rfl⟩
 ·obtain ⟨sX,L,o2,o3,o4,o5,Z,R,rfl⟩:=O;rw [length_map,aR] at R;exact q lc J L I sX U Z R
def fZ:Option Nat->V
 |none=> .non
 |some r=> .int (r:Int)
noncomputable def ss (S:List SS)(k:Int):List @l:=S.map λs=>if k∈s.ts then none else some 0
def st0 (ρ:List @l)(n:Nat):List Nat:=(List.range n).filter λi=>decide (ρ[i]? =some @dX)
theorem Dy {ρ:List @l}{n:Nat}:st0 ρ (n+1)=if ρ[n]? =some @dX then st0 ρ n++[n] else st0 ρ n:=by
 unfold st0;rw [range_succ,filter_append];by_cases z:ρ[n]? =some @dX<;>simp [z]
theorem ug {ρ:List @l}{n i:Nat}:i∈st0 ρ n↔i<n/\ρ[i]? =some @dX:=by
 unfold st0;rw [mem_filter,mem_range,decide_eq_true_iff]
theorem HI {ρ:List @l}{n:Nat}:(st0 ρ n).length<=n:=by
 have:=length_filter_le (λi=>decide (ρ[i]? =some @dX)) (List.range n);rw [length_range] at this;exact this
theorem yZ {S:List SS}{k:Int}{i:Nat}{s:SS}(h:S[i]? =some s):(ss S k)[i]? =some (if k∈s.ts then none else some 0):=by
 unfold ss;rw [getElem?_map,h];rfl
theorem RI.start {G:Gr}{k:Int}(F:Ky G):RI G (λs=>k∈s.ts) @dr (st0 @dr G.S.length) (G.W.map λu=>(u.length:Int)) 0 []:=by
 have L:(ss G.S k).length=G.S.length:=length_map _;rwa[⟨L,by rw [length_map];exact F.lw,(List.nodup_range).filter _,λi hi=>(ug.mp hi).1,Nat.zero_le _,λi hi=> ?_,λi u j=> ?_,λi s hs B=> ?_,λi s u hs j I J=> ?_,λi s u hs j I B=> ?_⟩]
 ·rw [ug];rwa[⟨λz=>⟨0,z.2⟩,λ⟨r,z⟩=>⟨hi,?_⟩⟩];rw [yZ (getElem?_eq_getElem hi)] at z ⊢;by_cases y:k∈(G.S[i]).ts
  ·rw [if_pos y] at z;cases z
  ·rw [if_neg y]
 ·rw [take_zero,AD,getElem?_map,j];show some (u.length:Int)=some ((u.length:Int) - ((0:Nat):Int));rw [show ((u.length:Int) - ((0:Nat):Int))=(u.length:Int) by lia]
 ·rw [yZ hs,if_neg B]
 ·have:=(ug.mp J).2;rw [yZ hs,if_pos I] at this;cases this
 ·have h1:=F.ne u (mem_of_getElem? j);rw [take_zero,AD];have:u.length≠0:=λz=>h1 (length_eq_zero_iff.mp z);show (u.length:Int) - ((0:Nat):Int)≠0;lia
theorem vj {n i:Nat}(h:i<n):zA n (i:Int)=some i:=by
 unfold zA;rw [if_pos @c,if_pos @c];rfl
inductive HJ (K:Fg)(vs:List V)(H:Hp)(Q:VK)(_e:XK):Prop
 |mk (g l0 l1 l2 wl xs zs G hs:_) (k:Int) (_:vs=[.ref g,.int k]) (_:rD K H g l0 l1 l2 wl xs zs G) (_:Ky G) (_:hs.ok) (_:(∀s∈G.S,NM hs 8 (SS.cs s) (SS.ws s) @gm)) (_:G.S.length<=500) (_:∀l ρ H',ak H H'->H l=none->H' l=some (.lst @en)->JL G (λs=>k∈SS.ts s) ρ->Q (.ref l) H')
seal MP
theorem Pc (F:Z0 K "ranks_of" pW f fd)(be:mg "enumerate"=none)(bH:mg "len"=none)(Ca:mg "max"=none)(k6:aS P w K mg base 2 "present" ["state","kind"] (fB K))(rf:aS P w K mg base 1 "comers_of" ["ways"] (DN K)):ar P w K mg base aQ 3 f fd ["graph","kind"] (HJ K):=by
 rwa[F.ok fK (by symm) (λbv A outer s H vs Q E hr h=> ?_)];obtain ⟨g,l0,l1,l2,wl,xs,zs,G,hs,k,rfl,hG,hO,bo,a5,n5,q⟩:=h;have bt:wl.length=G.S.length:=hG.lW.trans hO.lw;have xl:xs.length=G.S.length:=hG.dS.len;rwa[⟨_,(aa @a (aa (bM (i:=3) fK.nd rfl @fR (bD rfl (aB (N':=["state","kind"]) (pk:=[none,some 1]) @j) @a @h @r @h)) (aa @a (aa (dN (i:=5) rfl fK.nd rfl @o (aB (N':=["leads"]) (pk:=[none]) @j) @a @h @r @h) (aa (dN (i:=6) rfl fK.nd rfl @o (aB (N':=["number","rank"]) (pk:=[none,none]) @j) (oH rfl rfl be (wv 3)) @n @bb @R) (aa @a (aa (v7 PassesOwn.never @a (aa @a (aa (b9 PassesOwn.never rfl @a @a (aa (Io (wv 5) (wv 9) (KU rfl) bA Na pc) (ac (ay @a (aa (jH (cz @dU bA (cu (C9 rfl rfl) rfl Ca boot_max (av (bD rfl (aB (N':=["choice","goal","ranks"]) (pk:=[none,none,some 3]) @j) @a @n @r @h) aq))) (mz (wv 3) (wv 9) pc)) @F) ap)))) (ac (Eu (i:=7) fK.nd rfl @o bA FJ))))) (ac (aj (wv 3)))))))))),?_⟩];rwa[ao (aD.of hG.eg) rfl ?_];rwa[ao (aD.of hG.eg) rfl ?_];rwa[bF (az.of hG.e0) ?_];rwa[bx (xs:=xs) (λi ys B=>ak H B/\ys=(ss (G.S.take i) k).map fZ) @Z (λi ys B p=>by rw [p.2,length_map,ss,length_map,length_take];lia) ⟨.refl _,rfl⟩ (λi ys B _ p=>az.of (p.1 _ _ hG.e0)) (λi x ys B U p=> ?_) (λys B p J a1=> ?_)]
 ·obtain ⟨sm,rfl⟩:=p;have bs:=U;obtain ⟨t,ht,a,rfl,a8⟩:=(hG.nt sm.nt).dS.get1 U;rwa[⟨bQ,?_⟩];rwa[Ew (n:=8) ⟨a8,a5 t (mem_of_getElem? ht),bo⟩ @b λH2 s2=> ?_]
  have e:(ss (G.S.take (i+1)) k).map fZ=(ss (G.S.take i) k).map fZ++[fZ (if k∈t.ts then none else some 0)]:=by
   rw [take_add_one,ht];show ((G.S.take i++[t]).map _).map fZ=_;rw [map_append,map_append];rfl
  rw [e];by_cases z:k∈t.ts
  ·rwa[kJ z ?_];rw [if_pos z];exact ⟨sm.trans s2,rfl⟩
  ·rwa[hU z ?_];rw [if_neg z];exact ⟨sm.trans s2,rfl⟩
 obtain ⟨s1,rfl⟩:=p;rw [xl,take_length];have s2:ak B (upd B J (.lst ((ss G.S k).map fZ))):= .upd a1;have e2:upd B J (.lst ((ss G.S k).map fZ)) J=some (.lst ((ss G.S k).map fZ)):=af;generalize upd B J (.lst ((ss G.S k).map fZ))=H2 at s2 e2;have ae:=s1.trans s2;have aR:H J=none:=none_of s1 a1;rwa[DN.mk _ _ _ _ _ _ _ _ rfl (hG.nt ae.nt) hO n5 λlc cl Ls H3 s3 fc hL hC=> ?_];have aG:=(hG.nt ae.nt).nt s3.nt;rwa[bF (az.of aG.e1) ?_];rwa[bx (xs:=wl.map V.ref) (λi ys B=>B=H3/\ys=((G.W.take i).map λu=>V.int (u.length:Int))) (bq (by rw [length_map];lia)) (λi ys B p=>by rw [p.2,length_map,length_take];lia) ⟨rfl,rfl⟩ (λi ys B _ p=>by rw [p.1];exact az.of aG.e1) (λi x ys B U p=> ?_) (λys B p L ab=> ?_)]
 ·obtain ⟨rfl,rfl⟩:=p;rw [getElem?_map] at U;obtain ⟨b,hb,rfl⟩:=Option.map_eq_some_iff.mp U
  have aH:i<G.W.length:=by have:=(List.getElem?_eq_some_iff.mp hb).1;have:=hG.lW;lia
  have hu:=getElem?_eq_getElem aH;obtain ⟨vs,eb,db⟩:=aG.dW i b _ hb hu
  have vl:vs.length=(G.W[i]).length:=by have:=db.len;rwa [length_map] at this
  rwa[⟨bQ,?_⟩];rwa[cf (az.of eb) ?_];rwa[⟨rfl,?_⟩];rw [take_add_one,hu,vl];show _=List.map _ (_++[G.W[i]]);rw [map_append];rfl
 obtain ⟨ai,rfl⟩:=p;rw [ai] at ab ⊢;clear ai B;rw [length_map,hG.lW,take_length];have s4:ak H3 (upd H3 L (.lst (G.W.map λu=>V.int (u.length:Int)))):= .upd ab;have e4:upd H3 L (.lst (G.W.map λu=>V.int (u.length:Int))) L=some (.lst (G.W.map λu=>V.int (u.length:Int))):=af;generalize upd H3 L (.lst (G.W.map λu=>V.int (u.length:Int)))=H4 at s4 e4;have a0:=s4 _ _ @ft;have rl:(ss G.S k).length=G.S.length:=length_map _;rwa[.inl ⟨_,az.of a0,?_⟩];rwa[xx (xs:=(ss G.S k).map fZ) (λi ys B=>ak H4 B/\ys=(st0 @dr i).map nV) (bq (by rw [length_map];lia)) (λi ys B p=>by rw [p.2,length_map];exact HI) ⟨.refl _,rfl⟩ (λi ys B _ p=>az.of (p.1 _ _ a0)) (λi x ys B T HY U p sT eT=> ?_) (λys B p R Y=> ?_)]
 ·obtain ⟨sm,rfl⟩:=p;rw [Dy];rw [getElem?_map] at U;obtain ⟨o,ho,rfl⟩:=Option.map_eq_some_iff.mp U;rwa[fh (aD.of eT) rfl ?_];rwa[⟨fI,?_⟩]
  match o,ho with
  |none,ho=>
   rw [if_neg (by rw [ho];exact λz=>nomatch z)];exact ⟨sm.trans sT,rfl⟩
  |some r,ho=>
   show if decide ((r:Int)=0)=true then _ else _;by_cases z:r=0
   ·subst z;rw [if_pos (show decide (((0:Nat):Int)=0)=true from rfl),if_pos ho];exact ⟨sm.trans sT,by rw [map_append];rfl⟩
   ·rw [if_neg (by simp;lia),if_neg (by rw [ho];exact λy=>z (by injection y with y;injection y))];exact ⟨sm.trans sT,rfl⟩
 obtain ⟨s5,rfl⟩:=p;rw [length_map,rl];have s6:ak B (upd B R (.lst ((st0 @dr G.S.length).map nV))):= .upd Y;have e6:upd B R (.lst ((st0 @dr G.S.length).map nV)) R=some (.lst ((st0 @dr G.S.length).map nV)):=af;generalize upd B R (.lst ((st0 @dr G.S.length).map nV))=H6 at s6 e6;have aW:=s5.trans s6;have aC:=s4.trans aW;have br:=(ae.trans s3).trans aC;have a6:H L=none:=none_of (ae.trans s3) ab;have a4:H R=none:=none_of ((ae.trans s3).trans @gE) Y;have bc:=aC _ _ @ft;have bn:=aW _ _ e4;have aw:=hL.same aC
 have aP:J≠L:=λz=>by rw [<-z,s3 _ _ e2] at ab;cases ab
 have aZ:J≠R:=λz=>by rw [<-z,(s4.trans s5) _ _ @ft] at Y;cases Y
 have a2:L≠R:=λz=>by rw [<-z,s5 _ _ e4] at Y;cases Y
 have au:∀b∈lc::cl,b≠J/\b≠L/\b≠R:=λb hb=>by
  have bp:b≠J:=λz=>by have:=fc b hb;rw [z,e2] at this;cases this
  have bb:∃o,H3 b=some o:=by
   rcases mem_cons.mp hb with rfl|hb
   ·exact ⟨_,hL.e⟩
   ·obtain ⟨j,hj⟩:=mem_iff_getElem?.mp hb
    have bj:j<Ls.length:=by rw [<-hL.ln];exact (List.getElem?_eq_some_iff.mp hj).1
    exact ⟨_,hL.at' j b _ hj (getElem?_eq_getElem bj)⟩
  obtain ⟨o,ho⟩:=bb;exact ⟨bp,(λz=>by rw [<-z,ho] at ab;cases ab),λz=>by rw [<-z,(s4.trans s5) _ _ ho] at Y;cases Y⟩
 have kp:∀ {HY:Hp},(∀b o,b≠J->b≠L->b≠R->H6 b=some o->HY b=some o)->ak H HY:=λ{HY} h b o e=>h b o (λz=>by rw [z,aR] at e;cases e) (λz=>by rw [z,a6] at e;cases e) (λz=>by rw [z,a4] at e;cases e) (br _ _ e)
 have kl:∀ {HY:Hp},(∀b o,b≠J->b≠L->b≠R->H6 b=some o->HY b=some o)->LL K HY lc cl Ls:=λ{HY} h=>⟨h _ _ (au lc (.head _)).1 (au lc (.head _)).2.1 (au lc (.head _)).2.2 aw.e,aw.ln,λj a P h1 h2=>by
  obtain ⟨z1,z2,z3⟩:=au a (.tail _ (mem_of_getElem? h1))
  exact h _ _ z1 z2 z3 (aw.at' j a P h1 h2),aw.nd⟩
 rwa[C0 (λm σ HY=>∃ρ T un d o8 o9,(∀b o,b≠J->b≠L->b≠R->H6 b=some o->HY b=some o)/\HY J=some (.lst @en)/\HY L=some (.lst @gy)/\HY R=some (.lst (T.map nV))/\RI G (λs=>k∈SS.ts s) ρ T un d []/\m=1000 - d/\σ=[some (.ref g),some (.int k),some (.ref l1),some (.ref J),some (.ref lc),some (.ref L),some (.ref R),some (.int (d:Int)),o8,o9]) ⟨_,_,_,G.W.map (λu=>(u.length:Int)),0,_,_,λb o _ _ _ e=>e,bc,by rw [map_map];exact bn,e6,RI.start hO,rfl,rfl⟩ λm σ HY hW=> ?_];obtain ⟨ρ,T,un,d,o8,o9,hk,er,eu,es,I,rfl,rfl⟩:=hW
 have Tl:T.length<=G.S.length:=by
  have:=sub_le (ys:=List.range G.S.length) I.nd (λx hx=>mem_range.mpr (I.tl x hx));rwa [length_range] at this
 have dl:=I.dl;rwa[cf (az.of es) ?_];rw [length_map];by_cases z:d<T.length
 ·rwa[kJ @c ?_];rwa[⟨_,λσ' H' y=>y,?_⟩];have hd:=getElem?_eq_getElem z;generalize T[d]=b at hd;have al:=I.tl b (mem_of_getElem? hd);rwa[bd (az.of es) (v:=nV b) (bz (by rw [getElem?_map,hd];rfl)) ?_];have aI:=kl hk;have an:=getElem?_eq_getElem (show b<cl.length by rw [hL.ln,hC.1];exact al);have am:=getElem?_eq_getElem (show b<Ls.length by rw [hC.1];exact al);have ba:cl[b]'(by rw [hL.ln,hC.1];exact al)∈cl:=getElem_mem _;generalize cl[b]'(by rw [hL.ln,hC.1];exact al)=cb at an ba;generalize Ls[b]'(by rw [hC.1];exact al)=PP at am;obtain ⟨p1,p2,p3⟩:=hC.2 b PP am;rwa[bd (az.of aI.e) (v:= .ref cb) (bz (by rw [getElem?_map,an];rfl)) ?_];have bl:=aI.at' b cb PP an am;rwa[bF (az.of bl) ?_]
  have aJ:∀(i:Nat) u,G.W[i]? =some u->PP.count i=mJ u b:=λi u hu=>by
   have:=p1 i u hu;rwa [if_pos (by have:=(List.getElem?_eq_some_iff.mp hu).1;have:=hO.lw;lia)] at this
  rwa[cx (xs:=PP.map nV) (λp σ HZ=>∃ρ T un o9,(∀b o,b≠J->b≠L->b≠R->H6 b=some o->HZ b=some o)/\HZ J=some (.lst @en)/\HZ L=some (.lst @gy)/\HZ R=some (.lst (T.map nV))/\RI G (λs=>k∈SS.ts s) ρ T un d (PP.take p)/\T[d]? =some b/\σ=[some (.ref g),some (.int k),some (.ref l1),some (.ref J),some (.ref lc),some (.ref L),some (.ref R),some (.int (d:Int)),some (nV b),o9]) ⟨ρ,T,un,_,hk,er,eu,es,I,hd,rfl⟩ (λp σ HZ _ pv=>by obtain ⟨_,_,_,_,hk,_⟩:=pv;exact az.of ((kl hk).at' b cb PP an am)) (λp x σ HZ aY pv=> ?_) (λσ HZ pv=> ?_)]
  ·obtain ⟨ρ,T,un,o9,hk,er,eu,es,I,hd,rfl⟩:=pv;rw [getElem?_map] at aY;obtain ⟨i,hi,rfl⟩:=Option.map_eq_some_iff.mp aY;have ad:=p2 i (mem_of_getElem? hi);have aK:=getElem?_eq_getElem ad;generalize G.S[i]=s at aK
   have aH:i<G.W.length:=by rw [hO.lw];exact ad
   have hu:=getElem?_eq_getElem aH;generalize G.W[i]=u at hu;have um:=mem_of_getElem? hu
   have tk:PP.take (p+1)=PP.take p++[i]:=by rw [take_add_one,hi];rfl
   have a9:(PP.take p++[i]).count i<=mJ u b:=by rw [<-tk,<-aJ i u hu];exact (take_sublist _ _).count_le i
   obtain ⟨v,hv,c1,c2⟩:=I.comer hO hd aK hu a9;have bu:=hG.nt (kp hk).nt;rwa[⟨_,.int v,az.of eu,Int.natCast_nonneg _,by rw [Int.toNat_natCast,getElem?_map,hv];rfl,?_⟩];rwa[⟨v,1,rfl,rfl,?_⟩]
   have iu:i<un.length:=by rw [I.lu];exact ad
   rwa[pG (j:=i) eu (by rw [length_map];exact vj iu) ?_]
   have k1:∀b o,b≠J->b≠L->b≠R->H6 b=some o->upd HZ L (.lst ((un.map V.int).set i (.int (v - 1)))) b=some o:=λb o z1 z2 z3 e=>by rw [ag z2];exact hk b o z1 z2 z3 e
   have aU:upd HZ L (.lst ((un.map V.int).set i (.int (v - 1)))) J=_:=(ag aP).trans er;have as:upd HZ L (.lst ((un.map V.int).set i (.int (v - 1)))) R=_:=(ag (Ne.symm a2)).trans es
   have ah:upd HZ L (.lst ((un.map V.int).set i (.int (v - 1)))) L=some (.lst ((un.set i (v - 1)).map V.int)):=by rw [af,map_set]
   generalize upd HZ L (.lst ((un.map V.int).set i (.int (v - 1))))=HA at k1 aU as ah;have bk:(un.set i (v - 1))[i]? =some (v - 1):=getElem?_set_self iu;rwa[bd (az.of ah) (v:= .int (v - 1)) (bz (by rw [getElem?_map,bk];rfl)) ?_];have hρ:=getElem?_eq_getElem (show i<ρ.length by rw [I.lr];exact ad);generalize ρ[i]'(by rw [I.lr];exact ad)=o at hρ;rwa[iy (λz0=> ?_) (λz0=> ?_)]
   ·rwa[bd (az.of aU) (v:=fZ o) (bz (by rw [getElem?_map,hρ];rfl)) ?_]
    match o,hρ with
    |some r,hρ=>
     rwa[bf rfl ?_];exact ⟨ρ,T,un.set i (v - 1),_,k1,aU,ah,as,by rw [tk];exact c2 (λz=>by have:=z.2;rw [hρ] at this;cases this),hd,rfl⟩
    |none,hρ=>
     rwa[bG rfl ?_];obtain ⟨bg,c1⟩:=c1 ⟨z0,hρ⟩;have aT:=hG.nt (kp k1).nt;have a3:=getElem?_eq_getElem (show i<wl.length by lia);obtain ⟨vs,ev,dv⟩:=aT.dW i _ u a3 hu
     have vl:vs.length=u.length:=by have:=dv.len;rwa [length_map] at this
     have ul:=hO.l5 u um;rwa[bd (az.of aT.e1) (v:= .ref wl[i]) (bz (by rw [getElem?_map,a3];rfl)) ?_];rwa[bF (az.of ev) ?_]
     let O:Int×Nat->Nat:=λw=>((ρ[w.2]?).getD none).getD 0
     have aF:∀w∈u,ρ[w.2]? =some (some (O w)):=λw hw=>by
      obtain ⟨q,e⟩:=bg w hw;show _=some (some (((ρ[w.2]?).getD none).getD 0));rw [e];rfl
     rwa[bx (xs:=vs) (λj ys B=>B=HA/\ys=((u.take j).map λw=>(O w:Int)).map V.int) @Z (λj ys B p=>by rw [p.2,length_map,length_map,length_take];lia) ⟨rfl,rfl⟩ (λj ys B _ p=>by rw [p.1];exact az.of ev) (λj x ys B bm p=> ?_) (λys B p lm aV=> ?_)]
     ·obtain ⟨rfl,rfl⟩:=p;obtain ⟨w',aN,dw⟩:=dv.get1 bm;rw [getElem?_map] at aN;obtain ⟨wy,aO,rfl⟩:=Option.map_eq_some_iff.mp aN;obtain ⟨t,ts,rfl,hT,dT⟩:=dw.outT
      have hT:aD K B t [.int wy.1,.int (wy.2:Int)]:=by
       cases dT with|cons q0 t0=>cases t0 with|cons q1 t1=>
       cases t1;cases q0.isInt;cases q1.isInt;exact hT
      rwa[fh hT rfl ?_];rwa[⟨fI,?_⟩];rwa[bd (az.of aU) (v:= .int (O wy:Int)) (bz (by rw [getElem?_map,aF wy (mem_of_getElem? aO)];rfl)) ?_];rwa[⟨rfl,?_⟩];rw [take_add_one,aO];show _=List.map _ (List.map _ (_++[wy]));rw [map_append,map_append];rfl
     obtain ⟨ai,rfl⟩:=p;rw [ai] at aV ⊢;clear ai B;rw [vl,take_length];have sB:ak HA (upd HA lm (.lst ((u.map λw=>(O w:Int)).map V.int))):= .upd aV;have eB:upd HA lm (.lst ((u.map λw=>(O w:Int)).map V.int)) lm=some (.lst ((u.map λw=>(O w:Int)).map V.int)):=af;generalize upd HA lm (.lst ((u.map λw=>(O w:Int)).map V.int))=HB at sB eB;rwa[J6 @fI (λz=>hO.ne u um (map_eq_nil_iff.mp z)) λmx hm=> ?_];obtain ⟨Z,aL,rfl⟩:=mem_map.mp hm.1
     have bi:∀w∈u,O w<=O Z:=λw hw=>by have:=hm.2 _ (mem_map.mpr ⟨w,hw,rfl⟩);lia
     have a7:=sB _ _ aU
     have ir:i<ρ.length:=by rw [I.lr];exact ad
     rwa[pG (v:= .int (1+(O Z:Int))) (j:=i) a7 (by rw [length_map];exact vj ir) ?_]
     have kC:∀b o,b≠J->b≠L->b≠R->H6 b=some o->upd HB J (.lst ((ρ.map fZ).set i (.int (1+(O Z:Int))))) b=some o:=λb o z1 z2 z3 e=>by rw [ag z1];exact sB _ _ (k1 b o z1 z2 z3 e)
     have aM:upd HB J (.lst ((ρ.map fZ).set i (.int (1+(O Z:Int))))) J=some (.lst ((ρ.set i (some (O Z+1))).map fZ)):=by
      rw [af,map_set];show _=some (HO.lst (List.set _ i (.int ((O Z+1:Nat):Int))));rw [show (1+(O Z:Int))=((O Z+1:Nat):Int) by lia]
     have aX:upd HB J (.lst ((ρ.map fZ).set i (.int (1+(O Z:Int))))) L=_:=(ag (Ne.symm aP)).trans (sB _ _ ah);have ax:upd HB J (.lst ((ρ.map fZ).set i (.int (1+(O Z:Int))))) R=_:=(ag (Ne.symm aZ)).trans (sB _ _ as);generalize upd HB J (.lst ((ρ.map fZ).set i (.int (1+(O Z:Int)))))=HC at kC aM aX ax
     have Tl:T.length<=G.S.length:=by
      have:=sub_le (ys:=List.range G.S.length) I.nd (λx hx=>mem_range.mpr (I.tl x hx));rwa [length_range] at this
     rwa[⟨.inl ⟨rfl,_,az.of ax⟩,?_⟩];rwa[dY ax (vS (by rw [length_map];lia)) ?_];exact ⟨ρ.set i (some (O Z+1)),T++[i],un.set i (v - 1),_,λb o z1 z2 z3 e=>by rw [ag z3];exact kC b o z1 z2 z3 e,(ag aZ).trans aM,(ag a2).trans aX,by rw [af,map_append];rfl,by rw [tk];exact c1 (O Z) (λw hw=>⟨O w,aF w hw,bi w hw⟩) ⟨Z,aL,aF Z aL⟩,by rw [getElem?_append_left (List.getElem?_eq_some_iff.mp hd).1];exact hd,rfl⟩
   ·rwa[bf rfl ?_];exact ⟨ρ,T,un.set i (v - 1),_,k1,aU,ah,as,by rw [tk];exact c2 (λz=>z0 z.1),hd,rfl⟩
  ·obtain ⟨ρ,T,un,o9,hk,er,eu,es,I,hd,rfl⟩:=pv;rw [length_map,take_length] at I;rwa[⟨_,rfl,(d:Int),1,rfl,rfl,?_⟩];exact ⟨1000 - (d+1),by lia,ρ,T,un,d+1,_,_,hk,er,eu,es,I.next hd aJ,rfl,rfl⟩
 ·rwa[hU @c ?_]
  have e:d=T.length:=by lia
  subst e;exact q J ρ HY (kp hk) aR er (I.done hO)
def G8:Option Nat->D
 |none=> .non
 |some r=> .int (r:Int)
theorem LP {H:Hp}:∀o,br K H (fZ o) (G8 o)
 |none=> .non
 |some r=> .int _
theorem kx {H:Hp}:∀ρ:List @l,aC K H @en @fu
 |[]=> .nil
 |o::ρ=> .cons (LP o) (kx ρ)
theorem yX:∀o,gH (G8 o)=0
 |none=>rfl
 |some r=>rfl
theorem yY:∀ρ:List @l,((ρ.map G8).any λd=>gE d .non)=decide (none∈ρ)
 |[]=>rfl
 |none::ρ=>by rw [map_cons,any_cons];simp [G8,show gE .non .non=true from rfl]
 |some r::ρ=>by
  rw [map_cons,any_cons,yY ρ,show gE (G8 @dY) .non=false from rfl];simp
def Qg (ρ:List @l)(i:Nat)(u:List (Int×Nat))(b:Bool):Prop:=(b=false->ρ[i]? =some @dX)/\(b=true->(ρ[i]? =some none/\∃w∈u,ρ[w.2]? =some none)\/∃r,ρ[i]? =some (some (r+1))/\(∀w∈u,∃q,ρ[w.2]? =some @fd/\q<=r)/\∃w∈u,ρ[w.2]? =some @dY)
inductive DE (K:Fg)(vs:List V)(H:Hp)(Q:VK)(_e:XK):Prop
 |mk (lr wa ρ vs' u b:_) (i:Nat) (_:vs=[.ref lr,.int (i:Int),.ref wa,.bl b]) (_:H lr=some (.lst @en)) (_:H wa=some (.lst vs')) (_:aC K H vs' @ds) (_:u.length<=5) (_:(∀w∈u,(Prod.snd w)<ρ.length)) (_:Qg ρ i u b) (_:∀H',ak H H'->Q (.bl true) H')
seal uB
theorem Mm (F:Z0 K "_law_one" Eg f fd)(Ca:mg "max"=none)(jM:aS P w K mg base 1 "_law_whole" ["_law_thing"] uh):ar P w K mg base aQ 2 f fd ["_law_ranks_here","_law_number","_law_ways","_law_within"] (DE K):=by
 rwa[F.ok yK (by symm) (λan A outer s H vs Q E Y h=> ?_)];obtain ⟨lr,wa,ρ,U,u,b,i,rfl,er,ew,dw,l5,go,⟨o1,o2⟩,q⟩:=h
 have vl:U.length=u.length:=by have:=dw.len;rwa [length_map] at this
 have hi:∃o,ρ[i]? =some o:=by
  cases b with
  |false=>exact ⟨_,o1 rfl⟩
  |true=>rcases o2 rfl with ⟨z,_⟩|⟨r,z,_⟩<;>exact ⟨_,z⟩
 obtain ⟨o,I⟩:=hi;rwa[⟨_,(aa (bM (i:=4) yK.nd rfl @o (sG @fM (wv 0) (wv 1) @cv)) (aa (dN (i:=5) rfl yK.nd rfl @o (aB (N':=["_law_way","_law_ranks_here"]) (pk:=[none,some 0]) @j) (ye rfl (wv 2)) @h @r (λC s H ex=>(sG @fM (wv 1) (sG @fM (wv 0) bA @cv) @cv))) (aa (ay (cB Da (wv 4) mE (bN _)) (ac (aj (tX (wv 3) (u4 (cr (N5 rfl Y) mE (wv 5) @N))))) ap) (aa (ay (PW.pt (v5 (dB (r9 rfl (cR jM Y @b rfl (av (wv 4) aq)))) (v5 (cB w_lt (wv 4) bA (bN _)) (u1 (cB (C8 rfl Y) (cr KS (wv 4) bA (bN _)) (wv 3) (bN _)))))) @bY ap) (aa (ay (cB (we rfl Y) (wv 4) bA (bN _)) @bY ap) (ac (aj (tX (cr (KR rfl Y) mE (wv 5) @N) (u4 (cr (we rfl Y) (cu (C9 rfl rfl) rfl Ca boot_max (av (wv 5) aq)) (cz Ah (wv 4) bA) (bN _))))))))))),?_⟩];rwa[bd (az.of er) (v:=fZ o) (bz (by rw [getElem?_map,I];rfl)) ?_];rwa[bF (az.of ew) ?_]
 let J:List @l:=u.map λw=>(ρ[w.2]?).getD none
 have am:∀w∈u,ρ[w.2]? =some ((ρ[w.2]?).getD none):=λw B=>by
  rw [getElem?_eq_getElem (go w B)];rfl
 rwa[bx (xs:=U) (λj ys R=>R=H/\ys=((u.take j).map λw=>(ρ[w.2]?).getD none).map fZ) @Z (λj ys R p=>by rw [p.2,length_map,length_map,length_take];lia) ⟨rfl,rfl⟩ (λj ys R _ p=>by rw [p.1];exact az.of ew) (λj x ys R bm p=> ?_) (λys R p S ae=> ?_)]
 ·obtain ⟨rfl,rfl⟩:=p;obtain ⟨w',Z,dx⟩:=dw.get1 bm;rw [getElem?_map] at Z;obtain ⟨wy,ab,rfl⟩:=Option.map_eq_some_iff.mp Z;obtain ⟨t,ts,rfl,hT,dT⟩:=dx.outT
  have hT:aD K R t [.int wy.1,.int (wy.2:Int)]:=by
   cases dT with|cons q0 t0=>cases t0 with|cons q1 t1=>
   cases t1;cases q0.isInt;cases q1.isInt;exact hT
  rwa[⟨bQ,?_⟩];rwa[ao hT rfl ?_];rwa[bd (az.of er) (v:=fZ ((ρ[wy.2]?).getD none)) (bz (by rw [getElem?_map,am wy (mem_of_getElem? ab)];rfl)) ?_];rwa[⟨rfl,?_⟩];rw [take_add_one,ab];show _=List.map _ (List.map _ (_++[wy]));rw [map_append,map_append];rfl
 obtain ⟨ai,rfl⟩:=p;rw [ai] at ae ⊢;clear ai R;rw [vl,take_length];have sB:ak H (upd H S (.lst @eQ)):= .upd ae;have eB:upd H S (.lst @eQ) S=some (.lst @eQ):=af;show ja 5 (V.ref S) _ (upd H S (.lst @eQ)) _;generalize upd H S (.lst @eQ)=HB at sB eB
 match o,I with
 |none,I=>
  rwa[bG rfl ?_]
  cases b with
  |false=>have:=o1 rfl;rw [I] at this;cases this
  |true=>
   have hn:none∈J:=by
    rcases o2 rfl with ⟨_,w,B,z⟩|⟨r,z,_⟩
    ·exact mem_map.mpr ⟨w,B,by rw [z];rfl⟩
    ·rw [I] at z;cases z
   rwa[bG rfl ?_];rwa[HS @fI (kx J) .non (λd hd=> ?_) ?_]
   ·obtain ⟨o,_,rfl⟩:=mem_map.mp hd;rw [yX];decide
   ·rw [yY,decide_eq_true hn];exact q _ sB
 |some r,I=>
  rwa[bf rfl ?_];rwa[uh.mk _ rfl ?_];rwa[bf rfl ?_];rwa[hU @c ?_]
  have hb:decide ((0:Int)<(r:Int))=b:=by
   cases b with
   |false=>have:=o1 rfl;rw [I] at this;cases this;rfl
   |true=>
    rcases o2 rfl with ⟨z,_⟩|⟨L,z,_⟩
    ·rw [I] at z;cases z
    ·rw [I] at z;cases z;exact decide_eq_true @c
  rwa[bf (by rw [hb];cases b<;>rfl) ?_];rwa[iy (λz=>q _ sB) @t]
  have r0:0<r:=by lia
  obtain rfl:b=true:=by rw [<-hb];exact decide_eq_true @c
  rcases o2 rfl with ⟨y,_⟩|⟨L,y,W,w0,aL,e0⟩
  ·rw [I] at y;cases y
  obtain rfl:r=L+1:=by rw [I] at y;cases y;rfl
  let O:Int×Nat->Nat:=λw=>((ρ[w.2]?).getD none).getD 0
  have aF:∀w∈u,ρ[w.2]? =some (some (O w)):=λw B=>by
   obtain ⟨q,e,_⟩:=W w B;show _=some (some (((ρ[w.2]?).getD none).getD 0));rw [e];rfl
  have ag:J=u.map λw=>some (O w):=map_congr_left λw B=>by rw [aF w B];rfl
  have nn:none∉J:=λz=>by rw [ag] at z;obtain ⟨w,_,e⟩:=mem_map.mp z;cases e
  have al:J.map fZ=(u.map λw=>(O w:Int)).map V.int:=by rw [ag,map_map,map_map];rfl
  rwa[RT @fI (kx J) .non (λd hd=> ?_) ?_]
  ·obtain ⟨o,_,rfl⟩:=mem_map.mp hd;rw [yX];decide
  rw [yY,decide_eq_false nn];rwa[bG rfl ?_];rw [al] at eB;rwa[J6 @fI (λz=>by rw [map_eq_nil_iff.mp z] at aL;cases aL) λmx hm=> ?_]
  have ah:mx=((L+1:Nat):Int) - 1:=by
   obtain ⟨w1,ad,rfl⟩:=mem_map.mp hm.1;have h1:=hm.2 _ (mem_map.mpr ⟨w0,aL,rfl⟩)
   have h2:O w0=L:=by have:=aF w0 aL;rw [e0] at this;cases this;rfl
   have h3:O w1<=L:=by
    obtain ⟨q,e,l⟩:=W w1 ad;have:=aF w1 ad;rw [e] at this;injection this with this;injection this with this;lia
   show (O w1:Int)=_;have h1:(O w0:Int)<=(O w1:Int):=h1;lia
  subst ah;show Q (.bl (decide ((((L+1:Nat):Int) - 1)=(((L+1:Nat):Int) - 1)))) HB;rw [decide_eq_true rfl];exact q _ sB
theorem JL.one {G:Gr}{pr:SS->Prop}[DecidablePred pr]{ρ:List @l}(h:JL G pr ρ){i:Nat}{s:SS}{u:List (Int×Nat)}(hs:G.S[i]? =some s)(j:G.W[i]? =some u):Qg ρ i u (decide (pr s)):=
 ⟨λz=>(h.2 i s u hs j).1 (of_decide_eq_false z),λz=>(h.2 i s u hs j).2 (of_decide_eq_true z)⟩
inductive DD (K:Fg)(vs:List V)(H:Hp)(Q:VK)(_e:XK):Prop
 |mk (g l0 l1 l2 wl xs zs G hs:_) (k:Int) (_:vs=[.ref g,.int k]) (_:rD K H g l0 l1 l2 wl xs zs G) (_:Ky G) (_:hs.ok) (_:(∀s∈G.S,NM hs 8 (SS.cs s) (SS.ws s) @gm)) (_:G.S.length<=500) (_:1<=G.S.length) (_:∀H',ak H H'->Q (.bl true) H')
theorem Ax:∀ρ:List @l,deps @fu=0
 |[]=>rfl
 |o::ρ=>by show max (gH (G8 o)) (deps @fu)=0;rw [yX,Ax ρ];rfl
theorem Ml (F:Z0 K "_law_ranks" uR f fd)(cm:mg "isinstance"=none)(dD:mg "list"=none)(bH:mg "len"=none)(aU:mg "range"=none)(tF:aS P w K mg base 3 "ranks_of" ["graph","kind"] (HJ K))(xE:aS P w K mg base 2 "_law_one" ["_law_ranks_here","_law_number","_law_ways","_law_within"] (DE K))(nY:aS P w K mg base 2 "_law_inside" ["_law_state","_law_kind"] (fB K)):ar P w K mg base aQ 4 f fd ["_law_graph","_law_kind"] (DD K):=by
 rwa[F.ok wL (by symm) (λau A outer s H vs Q E hr h=> ?_)];obtain ⟨g,l0,l1,l2,wl,xs,zs,G,hs,k,rfl,U,O,bo,a5,n5,n1,q⟩:=h;have aR:wl.length=G.S.length:=U.lW.trans O.lw;have xl:xs.length=G.S.length:=U.dS.len;rwa[⟨_,(aa (jH (wv 0) @a) (aa @a (aa (ay (PW.pt (v5 (dB (r9 rfl (cu (yi rfl) rfl cm boot_isinstance (av (wv 5) (av (u5 (v:= .ty "list") rfl dD boot_list rfl) aq))))) (u1 @a))) @bY ap) (aa (b9 PassesOwn.never rfl @fz @a (ac @ea)) (aa (bM (i:=7) wL.nd rfl @o (aJ (jj rfl) rfl dD boot_list (av (wv 5) aq))) (aa @dC (aa (jH bA (mz (wv 5) bA pc)) @g))))))),?_⟩];rwa[fh (aD.of U.eg) rfl ?_];rwa[HJ.mk _ _ _ _ _ _ _ _ _ _ rfl U O bo a5 n5 λJ ρ H1 s1 nr er hR=> ?_];have L:=U.nt s1.nt;have rl:ρ.length=G.S.length:=hR.1;rwa[vk rfl (.lst er) rfl ?_];rwa[bf rfl ?_];rwa[cf (az.of er) ?_];rwa[cf @ge ?_];rw [length_map];rwa[FM @c ?_];rwa[cf @ge ?_];rwa[⟨⟨by lia,by lia⟩,?_⟩];rw [xl,show ((G.S.length:Int)).toNat=G.S.length by lia];rwa[eM (λj σ HX=>ak H1 HX/\∃o6 o7,σ=[some (.ref g),some (.int k),some (.ref l0),some (.ref l1),some (.ref l2),some (.ref J),o6,o7]) ⟨.refl _,_,_,rfl⟩ (λj σ HX hj pv=> ?_) (λσ HX pv=> ?_)]
 ·obtain ⟨Y,o6,o7,rfl⟩:=pv;have B:=L.nt Y.nt
  have ej:(0:Int)+(j:Int)=(j:Int):=by lia
  have bm:=getElem?_eq_getElem (show j<xs.length by lia);obtain ⟨t,ht,b,hb,ae⟩:=B.dS.get1 bm;have ad:=getElem?_eq_getElem (show j<wl.length by lia);have hu:=getElem?_eq_getElem (show j<G.W.length by rw [O.lw];exact hj);have um:=mem_of_getElem? hu;obtain ⟨vs,ev,dv⟩:=B.dW j _ _ ad hu;rwa[bd (az.of B.e1) (v:= .ref wl[j]) (by rw [ej];exact bz (by rw [getElem?_map,ad];rfl)) ?_];rwa[bd @gd (v:= .ref b) (by rw [ej,bz bm,hb]) ?_];rwa[Ew (n:=8) ⟨ae,a5 t (mem_of_getElem? ht),bo⟩ @b λH2 R=> ?_];rw [ej];rwa[DE.mk _ _ _ _ _ _ _ rfl ((Y.trans R) _ _ er) (R _ _ ev) (aC.same dv R) (O.l5 _ um) (λw hw=>by rw [rl];exact O.go _ um w hw) (hR.one ht hu) λH3 s3=> ?_];rwa[bf rfl ?_];exact ⟨(Y.trans R).trans s3,_,_,rfl⟩
 obtain ⟨Y,o6,o7,rfl⟩:=pv;have I:=Y _ _ er;rwa[gC (.inl (az.of I)) λkp H2 R n2 e2=> ?_]
 have nk:J≠kp:=λz=>by rw [<-z,I] at n2;cases n2
 have ab:=R _ _ I;have ai:=(s1.trans Y).trans R;rwa[⟨.inl ⟨rfl,_,az.of ab⟩,?_⟩];rwa[dY ab (vS (by rw [length_map];lia)) ?_];have s3:ak H (upd H2 J (.lst (ρ.map fZ++[V.int 7]))):=ak.updF ai nr;have Z:upd H2 J (.lst (ρ.map fZ++[V.int 7])) J=some (.lst (ρ.map fZ++[V.int 7])):=af;have ao:upd H2 J (.lst (ρ.map fZ++[V.int 7])) kp=_:=(ag (Ne.symm nk)).trans e2;generalize upd H2 J (.lst (ρ.map fZ++[V.int 7]))=H3 at s3 Z ao;rwa[pG (j:=0) Z (vj (i:=0) (by rw [length_append];simp)) ?_];have s4:ak H (upd H3 J (.lst ((ρ.map fZ++[V.int 7]).set 0 (V.int 7)))):=ak.updF s3 nr;have ah:upd H3 J (.lst ((ρ.map fZ++[V.int 7]).set 0 (V.int 7))) kp=_:=(ag (Ne.symm nk)).trans ao;generalize upd H3 J (.lst ((ρ.map fZ++[V.int 7]).set 0 (V.int 7)))=H4 at s4 ah;rwa[HJ.mk _ _ _ _ _ _ _ _ _ _ rfl (U.nt s4.nt) O bo a5 n5 λan ρ' H5 s5 as al am=> ?_];obtain rfl:=hR.uniq O am;rwa[Gb (d:= .lst @fu) (xu (az.of al) (kx ρ)) (xu (az.of (s5 _ _ ah)) (kx ρ)) (by rw [gH,Ax];decide) (q _ @gE)]
theorem DT {C Pn Pl:Addr}{H:Hp}{ca:Addr}{hs:Hs}{wf:Wf}{k:Dk}{m:Nat}{kp:Addr}{ks:List (Int×Int)}(W:G6 P w K mg base C Pn Pl H ca hs wf k)(st:xR hs)(J:Qp m hs)(F:Sr m wf)(hK:iG K H kp hs.fl ks)(j:QM m ks):∃Good,Bg hs wf k ks 500 Good:=by
 obtain ⟨_,h,ru,_,_,B,ag,_⟩:=W.ex;obtain ⟨_,_,_,k1,k4,R⟩:=hK
 have aa:∀fl li L U dn,eV li L U dn->wf fl li L U dn∈cF:=by
  obtain ⟨_,_,_,_,_,_,_,z,_⟩:=ag;exact z
 match m,J,F,j with
 |0,⟨f3,l,e,t2⟩,_,j=>
  have Z:ks.length<=2:=j;exact ⟨_,DU ⟨e,B.1,Z,R⟩ st (.inl ⟨f3,t2⟩) aa⟩
 |n+2,⟨f4,l,e⟩,_,j=>
  have Z:ks.length=1:=by unfold QM at j;rw [if_neg @c] at j;exact j
  exact ⟨_,DU ⟨e,B.1,by lia,R⟩ st (.inr Z) aa⟩
 |1,J,F,j=>
  obtain ⟨O,la,lb,e,ta,tb,Y,kb,ra,rb⟩:=J;have Z:ks.length=1:=j
  match ks,Z,R with
  |[(s,g)],_,R=>
   obtain ⟨z1,S,z3,I,z5⟩:=R (s,g) (.head _);rw [O] at S I;simp only at z1 S z3 I z5
   obtain rfl:g=1 - s:=by lia
   exact ⟨_,Lr ⟨e,O,B.1,ta,tb,Y,kb,ra,rb,by lia⟩ st (F rfl)⟩
noncomputable def QF (G:Gr):D:= .tup [.lst @fB,.lst (G.W.map λu=> .lst @ds),.lst @dS]
theorem FO {H:Hp}{g l0 l1 l2:Addr}{wl:List Addr}{xs zs:List V}{G:Gr}(eg:H g=some (.tup [.ref l0,.ref l1,.ref l2]))(U:H l0=some (.lst xs))(J:H l1=some (.lst @fA))(R:H l2=some (.lst zs))(j:Paired (λx (s:SS)=>∃a,x=V.ref a/\d8 K H a s.cs s.ws s.last false) xs G.S)(O:wl.length=G.W.length)(dW:∀(i:Nat) a w,wl[i]? =some a->G.W[i]? =some w->∃vs,H a=some (.lst vs)/\aC K H vs (w.map CP))(B:aC K H zs @dS):br K H (.ref g) (QF G):=by
 rwa[eO (aD.of eg) (.cons (xu (az.of U) ?_) (.cons (xu (az.of J) ?_) (.cons (xu (az.of R) B) .nil)))]
 ·rwa[PySem.Paired.of (by rw [length_map];exact j.len) λi x d h1 h2=> ?_];obtain ⟨s,hs,a,rfl,z⟩:=j.get1 h1;rw [getElem?_map,hs] at h2;cases h2;exact ue z
 ·rwa[PySem.Paired.of (by rw [length_map,length_map];exact O) λi x d h1 h2=> ?_];rw [getElem?_map] at h1 h2;obtain ⟨a,L,rfl⟩:=Option.map_eq_some_iff.mp h1;obtain ⟨u,I,rfl⟩:=Option.map_eq_some_iff.mp h2;obtain ⟨vs,Z,Y⟩:=dW i a u L I;exact xu (az.of Z) Y
theorem rD.den {H:Hp}{g l0 l1 l2:Addr}{wl:List Addr}{xs zs:List V}{G:Gr}(h:rD K H g l0 l1 l2 wl xs zs G):br K H (.ref g) (QF G):=FO h.eg h.e0 h.e1 h.e2 h.dS h.lW h.dW h.dF
theorem Nn (G:Gr):gH (QF G)<=60:=by
 have h1:deps @fB<=7:=gG (λs=>s.gd.1) _
 have h2:deps (G.W.map λu=>D.lst @ds)<=3:=gG (λu=>by
  have:deps @ds<=1:=gG (λw=>by show max 0 @fo+1<=1;decide) u
  rw [gH];lia) _
 have L:deps @dS<=1:=gG (λf=>by cases f with|none=>decide|some f=>(show max 0 @fo+1<=1;decide)) _;show max (deps @fB+1) (max (deps (G.W.map λu=>D.lst @ds)+1) (max (deps @dS+1) 0))+1<=60;lia
theorem NB.gok {hs:Hs}{wf:Wf}{k:Dk}{ks:List (Int×Int)}{Good:SS->Prop}{n:Nat}{G:Gr}(h:NB hs wf k ks Good n G)(L:ks.length<=4):Ky G:=by
 have Z:∀u∈G.W,∃s,u=(jK ks.length (SS.ts s)).map (λc=>(c,G.S.idxOf @gn))/\∀c∈jK ks.length (SS.ts s),jS hs wf k ks s c∈G.S:=λu j=>by
  obtain ⟨i,hi⟩:=mem_iff_getElem?.mp j;have O:=(List.getElem?_eq_some_iff.mp hi).1
  have B:i<G.S.length:=by have:=h.I.lw;lia
  obtain ⟨e,z⟩:=h.I.dn i _ (by rw [h.ln];exact B) (getElem?_eq_getElem B);rw [hi] at e;exact ⟨_,Option.some.inj e,z⟩
 rwa[⟨h.I.lw,λu j=> ?_,λu j=> ?_,λu j w J=> ?_⟩]
 ·obtain ⟨s,rfl,_⟩:=Z u j
  exact λz=>by cases z
 ·obtain ⟨s,rfl,_⟩:=Z u j;rw [length_map];have:=oX (ts:=s.ts) (i:=ks.length);show (F0 s.ts ks.length).length+1<=5;lia
 ·obtain ⟨s,rfl,z⟩:=Z u j;obtain ⟨c,F,rfl⟩:=mem_map.mp J;exact List.idxOf_lt_length_iff.mpr (z c F)
theorem si {H:Hp}{P:Addr}{q:Str}(h:H P=some (.tbl #[])):cA H P q:=⟨#[],h,trivial,λpos F e=>by cases e⟩
inductive wA (K:Fg)(Pn Pl:Addr)(vs:List V)(H:Hp)(Q:VK)(_e:XK):Prop
 |mk (a:Addr) (ns:List Int) (_:vs=[.ref a]) (_:GQ K H a ns) (_:cA H Pn qN) (_:cA H Pl qL) (_:∀H',Q (.bl true) H')
theorem Mr {kC Pn Pl:Addr}(F:Z0 K "law" LD f fd)(cC:Hf K kC)(aU:mg "range"=none)(bH:mg "len"=none)(dD:mg "list"=none)(tI:aS P w K mg base 11 "graph_of" ["court","kinds","most"] (ur P w K mg base kC Pn Pl))(q9:aS P w K mg base 7 "_law_court" ["_law_script"] (DM P w K mg base kC Pn Pl))(qZ:aS P w K mg base 2 "_law_kinds" ["_law_script","_law_house_here"] (DI K))(qY:aS P w K mg base 4 "_law_ranks" ["_law_graph","_law_kind"] (DD K)):ar P w K mg base aQ 12 f fd ["_law_script"] (wA K Pn Pl):=by
 rwa[F.ok J0 (by symm) (λaW A outer s H R Q E hr h=> ?_)];obtain ⟨a,ns,rfl,hS,tN,tL,q⟩:=h;rwa[⟨_,(aa @a (aa @a (aa @a (aa (bM (i:=4) J0.nd rfl @o (gc (av @bc (av (bD rfl (aB (N':=["_law_some"]) (pk:=[none]) @j) @a @h @r (λC s H ex=>(aJ (jj rfl) rfl dD boot_list (av (wv 0) aq)))) (av @bc aq))))) (aa (b9 PassesOwn.never rfl (ye rfl (cz @dU (tW rfl rfl dD rfl aU @a) @a)) @a (ac (ay @a @bY ap))) @bY))))),?_⟩];rwa[DM.mk _ _ rfl hS ⟨tN,tL⟩ λca hs wf k m H1 s1 hC aK hP hw=> ?_];obtain ⟨dx,h,ru,df,ea,hH,aV,aR⟩:=id hC.ex;rwa[dG ea cC.i.cl cC.house (v:= .ref h) rfl ?_];rwa[DI.mk _ _ _ _ _ rfl (bB hS s1) hH hP λkp ks H2 s2 hK kP=> ?_];have as:=hC.same s2;obtain ⟨Good,ad⟩:=DT as aK hP hw hK kP;obtain ⟨aP,aE,aO,k1,k4,hk⟩:=id hK
 have kl:aP.length=ks.length:=by have:=aO.len;rwa [length_map] at this
 rwa[ur.mk _ _ _ _ _ _ _ 500 rfl as hK ad @b @b λg l0 l1 l2 wl xs zs n G H8 s8 g8 L fr T=> ?_];have I:=T.I;have hO:=T.gok k4;have aA:1<=G.S.length:=(List.getElem?_eq_some_iff.mp I.b0).1;have ai:=ad.fn G.S I.nd I.gd;have xl:xs.length=G.S.length:=L.dS.len
 have zl:zs.length=G.S.length:=by have:=L.dF.len;rw [length_map,I.lf] at this;exact this
 have aY:wl.length=G.S.length:=L.lW.trans I.lw;rwa[ao (aD.of L.eg) rfl ?_];rwa[gC (.inl @ge) λk0 H9 s9 n9 e9=> ?_];have O:=L.nt s9.nt;rwa[ao (aD.of O.eg) rfl ?_];rwa[bF (az.of O.e1) ?_];rwa[bx (xs:=wl.map V.ref) (λi ys B=>ak H9 B/\∃J:List Addr,ys=J.map V.ref/\J.length=i/\(∀b∈J,H9 b=none)/\∀(j:Nat) b u,J[j]? =some b->G.W[j]? =some u->∃R,B b=some (.lst R)/\aC K B R @ds) (bq (by rw [length_map];lia)) (λi ys B p=>by obtain ⟨_,J,rfl,e,_⟩:=p;rw [length_map];lia) ⟨.refl _,[],rfl,rfl,(λb hb=>nomatch hb),λj b u h=>by simp at h⟩ (λi ys B _ p=>(O.nt p.1.nt).e1 |> az.of) (λi x ys B an p=> ?_) (λys B p lk aN=> ?_)]
 ·obtain ⟨sm,J,rfl,Z,ah,ae⟩:=p;rw [getElem?_map] at an;obtain ⟨b,hb,rfl⟩:=Option.map_eq_some_iff.mp an
  have al:i<G.W.length:=by have:=(List.getElem?_eq_some_iff.mp hb).1;have:=O.lW;lia
  obtain ⟨R,eb,db⟩:=(O.nt sm.nt).dW i b _ hb (getElem?_eq_getElem al);rwa[⟨bQ,?_⟩];rwa[gC (.inl (az.of eb)) λnb HZ sZ nZ eZ=> ?_];rwa[⟨sm.trans sZ,J++[nb],by rw [map_append];rfl,by rw [length_append,Z];rfl,λc Y=> ?_,λj c u Y hu=> ?_⟩]
  ·rcases mem_append.mp Y with z|z
   ·exact ah c z
   ·rw [mem_singleton.mp z];exact none_of sm nZ
  ·by_cases y:j<J.length
   ·rw [getElem?_append_left y] at Y;obtain ⟨us,z1,z2⟩:=ae j c u Y hu;exact ⟨us,sZ _ _ z1,aC.same z2 sZ⟩
   ·rw [getElem?_append_right @c] at Y
    have j0:j - J.length=0:=by have:=(List.getElem?_eq_some_iff.mp Y).1;simp at this;lia
    rw [j0] at Y;simp at Y;subst Y
    obtain rfl:j=i:=by lia
    rw [getElem?_eq_getElem al] at hu;cases hu;exact ⟨R,eZ,aC.same db sZ⟩
 obtain ⟨sm,J,rfl,Z,ah,ae⟩:=p;have sA:ak B (upd B lk (.lst @bQ)):= .upd aN;have eA:upd B lk (.lst @bQ) lk=some (.lst @bQ):=af;generalize upd B lk (.lst @bQ)=HA at sA eA;have ab:=sm.trans sA;have aT:=O.nt ab.nt;rwa[ao (aD.of aT.eg) rfl ?_];rwa[gC (.inl (az.of aT.e2)) λk2 HB sB nB eB=> ?_];rwa[bZ @bv λkt HC sC nC eC=> ?_];have am:=(s9.trans ab).trans @eF;have U:=L.nt am.nt
 have ax:J.length=G.W.length:=by rw [Z,length_map];exact O.lW
 have cw:∀(j:Nat) b u,J[j]? =some b->G.W[j]? =some u->∃R,HC b=some (.lst R)/\aC K HC R @ds:=λj b u h1 h2=>by
  obtain ⟨R,z1,z2⟩:=ae j b u h1 h2;exact ⟨R,(sA.trans @eF) _ _ z1,aC.same z2 (sA.trans @eF)⟩
 have au:br K HC (.ref kt) (QF G):=FO eC ((ab.trans @eF) _ _ e9) ((sB.trans sC) _ _ eA) (sC _ _ eB) U.dS ax cw U.dF;have aH:=am _ _ (s8 _ _ (λ_ z=>by cases z) aE);rwa[cf (az.of aH) ?_];rw [kl]
 have kn:ks.length=1\/ks.length=2\/ks.length=3\/ks.length=4:=by lia
 rwa[Pt (n:=ks.length) (by rcases kn with z|z|z|z<;>rw [z]<;>rfl) (by rcases kn with z|z|z|z<;>rw [z]<;>rfl) @c λaZ HD sD nD eD=> ?_];rwa[fP @bv λlz HE sE nE eE=> ?_];rwa[A4 (sE _ _ eD) eE (by simp only [length_map,length_range,length_cons,length_nil];exact bq @c) λlf HF sF aX eF=> ?_];have aL:∃ns:List Int,((List.range ks.length).map (λi:Nat=>V.int (i:Int))++[V.int 0])=ns.map V.int:=⟨(List.range ks.length).map (λi:Nat=>(i:Int))++[0],by rw [map_append,map_map];rfl⟩;obtain ⟨aF,aM⟩:=aL;rw [aM] at eF;have aG:=(sD.trans sE).trans sF;rwa[bF (az.of eF) ?_];rwa[cx (xs:=aF.map V.int) (λi σ B=>ak HF B/\∃o5,σ=[some (.ref a),some (.ref ca),some (.ref kp),some (.ref g),some (.ref kt),o5]) ⟨.refl _,_,rfl⟩ (λi σ B _ pv=>az.of (pv.1 _ _ eF)) (λi x σ B hx pv=> ?_) (λσ B pv=> ?_)]
 ·obtain ⟨sX,o5,rfl⟩:=pv;rw [getElem?_map] at hx;obtain ⟨kd,_,rfl⟩:=Option.map_eq_some_iff.mp hx;have ag:=aG.trans sX;rwa[DD.mk _ _ _ _ _ _ _ _ _ _ rfl (U.nt ag.nt) hO hH.1 (λs aI=>ad.ok s (I.gd s aI)) ai aA λH' s'=> ?_];rwa[bf rfl ?_];have aw:=ag.trans s';rwa[Gb (U.nt aw.nt).den (au.same aw) (Nn _) ?_];rwa[bf rfl ?_];exact ⟨sX.trans s',_,rfl⟩
 ·obtain ⟨sX,o5,rfl⟩:=pv;exact q B
end
end My
namespace My
open PySem L2 PyProof.Rows
seal PE PT PS rj PA PI PG CN G9 PW PO cL NK bc CT xS NC CM
seal rB ie kj uA JC pK FK jI pH Au AK JG JK w9 Bm xg setL Bk zJ rV tZ rA CO G7 np F8 Hx xp
seal Gv qD zB L2.xo L2.putAt L2.vd fO Jv Nj MN QE JD JH uC Dq
seal Jj fJ jq DL oP j6 fB DO jX wz
theorem FB {K:Fg}{H:Hp}{a:Addr}{R:List Int}{E:XK}(j:az K H a @ev)(W:R.length<=63)(B:∀i∈R,Builtin.Int.intBits i<=2^20)(O:∀t∈([(346,342),(351,349)]:List (Addr×Addr)),H t.2=some (.tbl #[])):wA K 342 349 [.ref a] H (λv _=>v= .bl true) E:=⟨a,R,rfl,⟨j,W⟩,si (O (346,342) @f),si (O (351,349) @f),λ_=>rfl⟩
theorem Gg {P:Program}{w:World}{K:Fg}{mg:Str->Option Value}{base:Heap}{j B z:Addr}(L:fW K j)(I:aK K j "turns")(F:fW K B)(Y:aK K B "turns")(U:fW K z)(S:aK K z "turns")(O:iE P w K mg base aQ 1 "left" j (ib K y6))(J:iE P w K mg base aQ 1 "left" B (ib K hst))(W:iE P w K mg base aQ 1 "left" z (ib K HN)):Kz P w K mg base j B z:=by
 rwa[⟨λk R=> ?_,λk R=> ?_⟩]
 ·rcases R with rfl|rfl|rfl
  ·rw [M5];exact ⟨L,I⟩
  ·rw [M6];exact ⟨F,Y⟩
  ·rw [M4];exact ⟨U,S⟩
 ·rcases R with rfl|rfl|rfl
  ·rw [M5];exact O
  ·rw [M6];exact J
  ·rw [M4];exact W
theorem Ny {l:PySem.W.OpenLaw}{w:World}{K:Fg}{h:Heap}{mg:Str->Option Value}{fa:Addr}(X:K.In h)(G:h.Ns mainGlobals mg)(dK:mg "law"=some (.ref fa))
{rS kI vh iW cK bR bL dP am ak U vi qC f1 f2 f3 f4 f5 f6 f7 f8 f9 dF b2 dB b0 dq b3 bT dj bo ch dN dm bO aj bY ea dT dk bA dp c4 cL br bC dS cz bE al ao du dy bv dJ c7 dI ci cx dH aZ a8 de d2 cU dE ct bP dw cQ bm cY db cb dX cR bl bM cr aN a1 ed bp dV a7 a9 cD aF cf dC cS bQ d1 df cw cX cH eb dO c3 d4 bi dl c0 cF cu cP bF ef j S:Addr}{a2 a5:Option Addr}{aq:Array @J}{aJ ax au aG ap:Value}{aE aT:Option Addr}{aY:Array @J}{aH az aC ay a6:Value}{Dp:Tok}{wt:Tok}{Ld:Tok}{wn:Tok}{Lc:Tok}{t6:Tok}{yo:Tok}{wq:Tok}{B:Option Addr}{R:Nat}{z:Array @J}{I J L:Tok}{wr:Tok}{rF:Tok}{ua:Tok}{ab:Option Addr}{ah:Nat}{Y:Array @J}{af aa:Tok}{Hv:Tok}
(NX:W.nsIn K mainGlobals "Door"=some (some (.ref rS)))
(KO:W.nsIn K mainGlobals "Hasty"=some (some (.ref kI)))
(NV:W.nsIn K mainGlobals "Slow"=some (some (.ref vh)))
(NW:W.nsIn K mainGlobals "Rule"=some (some (.ref iW)))
(Hi:W.nsIn K mainGlobals "Homing"=some (some (.ref cK)))
(CW:W.nsIn K mainGlobals "Nearest"=some (some (.ref bR)))
(CV:W.nsIn K mainGlobals "Shuttle"=some (some (.ref bL)))
(KL:W.nsIn K mainGlobals "Table"=some (some (.ref dP)))
(NQ:W.nsIn K mainGlobals "near"=some (some (.ref am)))
(KH:W.nsIn K mainGlobals "least"=some (some (.ref ak)))
(Bi:W.nsIn K mainGlobals "by_turns"=some (some (.ref U)))
(Hh:W.nsIn K mainGlobals "Moment"=some (some (.ref vi)))
(KP:W.nsIn K mainGlobals "Court"=some (some (.ref qC)))
(ag:KC K rS)
(ac:KC K kI)
(ai:KC K vh)
(cM:xY K vi)
(cC:Hf K qC)
(h1:L2.NF K "bit" LJ f1)
(h2:L2.NF K "has" LG f2)
(h3:L2.NF K "with_bit" pQ f3)
(h4:L2.NF K "below" yU f4)
(h5:L2.NF K "above" yV f5)
(h6:L2.NF K "mask_of" uN f6)
(h7:L2.NF K "listed" uP f7)
(h8:L2.NF K "lowest" uO f8)
(h9:L2.NF K "highest" p9 f9)
(bN:L2.NF K "floor_of" qb dF)
(d9:L2.NF K "goals_aboard" gy b2)
(d0:L2.NF K "way_of" yP dB)
(bs:L2.NF K "tasks_of" pS b0)
(da:L2.NF K "goes_along" jD dq)
(dz:L2.NF K "here_of" uW b3)
(bd:L2.NF K "view" Ef bT)
(cJ:L2.NF K "turned" uI dj)
(bk:L2.NF K "bounded" qg bo)
(dR:L2.NF K "with_changes" gp ch)
(ce:L2.NF K "steered" pT dN)
(ck:L2.NF K "may_step_in" jz dm)
(dZ:L2.NF K "exchanged" jF bO)
(dh:L2.MF K rS "__init__" "Door.__init__" ms aj)
(a0:L2.MF K rS "left" "Door.left" mq bY)
(aB:L2.MF K kI "left" "Hasty.left" jC ea)
(aR:L2.MF K vh "left" "Slow.left" lV dT)
(c5:L2.NF K "door_of" uX dk)
(cp:L2.NF K "room_of" uM bA)
(cv:L2.NF K "turns_of" pR dp)
(bG:L2.NF K "kind_of" uV c4)
(cA:L2.NF K "do_come" uZ cL)
(bc:L2.NF K "dealt_to" qc br)
(b5:L2.NF K "do_deed" uY bC)
(cE:L2.NF K "is_serving" jB dS)
(b1:L2.NF K "serving" pV cz)
(bh:L2.NF K "serving_from" gv bE)
(dY:W.nsIn K mainGlobals "near"=some (some (.ref al)))(aO:K.lookup al=some ⟨aJ,a2,.func (W.fnOf "near" "near" (bS d5) (bt d5) @gu .none ax au aG a5 (.ref 346) ap),aq⟩)(a3:W.codeIn K (.ref 346) "near"=true)(aM:W.keepIn K (.ref al)=true)
(aP:W.codeHdIn K 346 342=true)
(dv:W.nsIn K mainGlobals "least"=some (some (.ref ao)))(aW:K.lookup ao=some ⟨aH,aE,.func (W.fnOf "least" "least" (bS cG) (bt cG) @gv .none az aC ay aT (.ref 351) a6),aY⟩)(as:W.codeIn K (.ref 351) "least"=true)(aV:W.keepIn K (.ref ao)=true)
(aI:W.codeHdIn K 351 349=true)
(ba:L2.NF K "by_turns" qf du)
(bV:L2.NF K "dealer_of" mv dy)
(dG:L2.NF K "deal" Aw bv)
(cZ:L2.NF K "deal_all" ko dJ)
(dc:L2.NF K "log_steps" mf c7)
(cs:L2.NF K "exchange" ml dI)
(cy:L2.NF K "go_by_rule" mh ci)
(dg:L2.NF K "go_without_fire" eG cx)
(c2:L2.NF K "go" RJ dH)
(cn:L2.MF K vi "__init__" "Moment.__init__" ig aZ)
(bJ:L2.NF K "state_of" pU a8)
(cV:L2.NF K "need_floor" jx de)
(bU:L2.NF K "need_lift" l9 d2)
(bB:L2.NF K "need_ride" l8 cU)
(d7:L2.NF K "need_deed" me dE)
(bb:L2.NF K "tags_in" uJ ct)
(ei:L2.NF K "need_deeds" jy bP)
(a4:L2.MF K qC "turn" "Court.turn" gz dw)
(dd:L2.NF K "swept" yQ cQ)
(ec:L2.NF K "nearest" pY bm)
(cg:L2.NF K "shuttled" lX cY)
(cN:L2.NF K "place_in_table" fC db)
(cO:L2.NF K "seen_at" uK cb)
(aL:L2.MF K iW "word" "Rule.word" lY dX)
(aA:L2.MF K cK "word" "Homing.word" ii cR)
(aw:L2.MF K bR "word" "Nearest.word" gx bl)
(av:L2.MF K bL "word" "Shuttle.word" gq bM)
(aX:L2.MF K dP "word" "Table.word" ju cr)
(cq:L2.MF K bL "__init__" "Shuttle.__init__" gu aN)
(bu:L2.MF K dP "__init__" "Table.__init__" jv a1)
(dA:L2.NF K "as_table" qh ed)
(co:L2.NF K "rule_of" uL bp)
(bZ:L2.NF K "fits_lift" mi dV)
(eg:L2.NF K "fits_lifts" jE a7)
(b6:L2.NF K "fits_locked" ij a9)
(d6:L2.NF K "made_house" jA cD)
(bx:L2.MF K qC "__init__" "Court.__init__" jG aF)
(cj:L2.NF K "cabin_of" qe cf)
(aK:L2.MF K qC "begin" "Court.begin" ik dC)
(dL:L2.NF K "present" pX cS)
(bw:L2.NF K "choices" qd bQ)
(bf:L2.NF K "led" LC d1)
(cT:L2.NF K "need_kinds" jw df)
(cI:L2.NF K "put_state" lZ cw)
(ee:L2.NF K "graph_of" qa cX)
(b9:L2.NF K "comers_of" mw cH)
(d8:L2.NF K "ranks_of" pW eb)
(c6:L2.NF K "_law_draw" yT dO)
(bz:L2.NF K "_law_rule" yS c3)
(d3:L2.NF K "_law_tall" yR d4)
(c8:L2.NF K "_law_house" uT bi)
(bK:L2.NF K "_law_court" uU dl)
(di:L2.NF K "_law_kinds" uS c0)
(b4:L2.NF K "_law_whole" uQ cF)
(dW:L2.NF K "_law_inside" pZ cu)
(dQ:L2.NF K "_law_one" Eg cP)
(cc:L2.NF K "_law_ranks" uR bF)
(ca:L2.NF K "law" LD ef)
(Kx:L2.fW K rS)
(x6:W.findIn K (.ref rS) "turns"=some none)
(G1:L2.fW K kI)
(vQ:W.findIn K (.ref kI) "turns"=some none)
(Kw:L2.fW K vh)
(xZ:W.findIn K (.ref vh) "turns"=some none)
(G0:L2.fW K iW)
(tT:W.findIn K (.ref iW) "top"=some none)
(ji:W.findIn K (.ref iW) "letters"=some none)
(vM:L2.fW K cK)
(oy:W.findIn K (.ref cK) "top"=some none)
(g9:W.findIn K (.ref cK) "letters"=some none)
(rz:L2.fW K bR)
(lG:W.findIn K (.ref bR) "top"=some none)
(fY:W.findIn K (.ref bR) "letters"=some none)
(lB:L2.fW K bL)
(gP:W.findIn K (.ref bL) "top"=some none)
(dM:W.findIn K (.ref bL) "letters"=some none)
(vL:L2.fW K dP)
(jQ:W.findIn K (.ref dP) "top"=some none)
(fb:W.findIn K (.ref dP) "letters"=some none)
(KG:W.nsIn K mainGlobals "range"=some none)
(QT:W.nsIn K mainGlobals "len"=some none)
(KD:W.nsIn K mainGlobals "tuple"=some none)
(MM:L2.Mk K rS aj)
(Jd:L2.Mk K kI aj)
(ML:L2.Mk K vh aj)
(CY:W.nsIn K mainGlobals "NO_LIFT"=some (some (.int (-1) Dp)))
(ya:W.nsIn K mainGlobals "enumerate"=some none)
(QR:W.nsIn K mainGlobals "min"=some none)
(QX:W.nsIn K mainGlobals "abs"=some none)
(v2:W.nsIn K mainGlobals "MOST_FIXED"=some (some (.int 9 wt)))
(NR:W.nsIn K mainGlobals "list"=some none)
(KM:W.nsIn K mainGlobals "STUCK"=some (some (.int 0 Ld)))
(NS:W.nsIn K mainGlobals "dict"=some none)
(Fp:L2.Mk K vi aZ)
(QV:W.nsIn K mainGlobals "any"=some none)
(vX:W.nsIn K mainGlobals "TABLE_SIZE"=some (some (.int 36 wn)))
(KJ:W.nsIn K mainGlobals "WORDS"=some (some (.str "oxuds" Lc)))
(Fm:L2.Ku K iW)
(vc:L2.Ku K cK)
(qu:L2.Ku K bR)
(B7:L2.Mk K bL aN)
(Jc:L2.Mk K dP a1)
(tU:W.nsIn K mainGlobals "TABLE_START"=some (some (.str "table " t6)))
(yb:W.nsIn K mainGlobals "MOST_ROOM"=some (some (.int 6 yo)))
(vY:W.nsIn K mainGlobals "MOST_TURNS"=some (some (.int 4 wq)))
(v3:W.nsIn K mainGlobals "DOOR_KINDS"=some (some (.ref j)))
(O:K.lookup j=some ⟨.type "tuple",B,.seq #[.str "plain" I,.str "hasty" J,.str "slow" L] R,z⟩)
(QW:W.nsIn K mainGlobals "all"=some none)
(vZ:W.nsIn K mainGlobals "MOST_LIFTS"=some (some (.int 3 wr)))
(rE:W.nsIn K mainGlobals "LEAST_FLOORS"=some (some (.int 2 rF)))
(tV:W.nsIn K mainGlobals "MOST_FLOORS"=some (some (.int 8 ua)))
(KN:W.nsIn K mainGlobals "SORTS"=some (some (.ref S)))
(ad:K.lookup S=some ⟨.type "tuple",ab,.seq #[.str "free" af,.str "way" aa] ah,Y⟩)
(Hg:W.nsIn K mainGlobals "NOBODY"=some (some (.int (-1) Hv)))
(GW:L2.tS K qC)
(QS:W.nsIn K mainGlobals "max"=some none)
(QU:W.nsIn K mainGlobals "int"=some none)
(Je:L2.Mk K qC aF)
(vW:W.nsIn K mainGlobals "isinstance"=some none)
(NU:W.nsIn K mainGlobals "bool"=some none):
 ∃fd:FuncData,(∀(s:Shared) (v:Value),BindsTo s fd ⟨[v],[]⟩ [("_law_script",v)])/\∀base:Heap,K.In base->base.Ns mainGlobals mg->L2.jg base mg->ar l.prog w K mg base aQ 12 fa fd ["_law_script"] (wA K 342 349):=by
 obtain ⟨bn,_,F96⟩:=ca;cases dK.symm.trans (W.mg_of X G bn);rwa[⟨_,F96.law,λbase KB _ BB=> ?_⟩];have T:L2.rY l.prog w K mg base h:=⟨X,G⟩;have PD:=T.gl NX;have Nf:=T.gl KO;have PB:=T.gl NV;have FX:=T.gl NW;have vp:=T.gl Hi;have qG:=T.gl CW;have FV:=T.gl CV;have Nd:=T.gl KL;have sS:=T.gl NQ;have mM:=T.gl KH;have eh:=T.gl Bi;have Jr:=T.gl Hh;have Ng:=T.gl KP;have F37:=vq (x:="near") (qual:="near") (st:=d5) aO a3 aM
 have dt:=F37.binds (ps:=["cabins","waiting","rider","last"]) λ_ _ _ _ _ _ us hl=>match us,hl with|[_,_,_,_],_=>rfl
 have F38:=vq (x:="least") (qual:="least") (st:=cG) aW as aV
 have cW:=F38.binds (ps:=["cabins","waiting","rider","last"]) λ_ _ _ _ _ _ us hl=>match us,hl with|[_,_,_,_],_=>rfl
 have Qo:=Kx.cl;have NH:=G1.cl;have Qm:=Kw.cl;have Qn:=G0.cl;have JO:=vM.cl;have GV:=rz.cl;have GU:=lB.cl;have NG:=vL.cl;have aU:=T.no KG;have Z:=T.no QT;have bW:=T.no KD;have bg:=T.gl CY;have be:=T.no ya;have B9:=T.no QR;have MT:=T.no QX;have nN:=T.gl v2;have dD:=T.no NR;have FW:=T.gl KM;have Fu:=T.no NS;have MQ:=T.no QV;have fo:=T.gl vX;have FU:=T.gl KJ;have kL:=T.gl tU;have qH:=T.gl yb;have nL:=T.gl vY;have nO:=T.gl v3;have iB:∀H:L2.Hp,L2.aD K H j [.str "plain",.str "hasty",.str "slow"]:=λH=> .inr ⟨_,_,_,O,rfl,rfl,L2.bq (by show 3<=1000000;decide),(.cons ⟨_,rfl⟩ (.cons ⟨_,rfl⟩ (.cons ⟨_,rfl⟩ .nil)))⟩;have MR:=T.no QW;have nM:=T.gl vZ;have i9:=T.gl rE;have kN:=T.gl tV;have zI:=T.gl KN;have z9:∀H:L2.Hp,L2.aD K H S [.str "free",.str "way"]:=λH=> .inr ⟨_,_,_,ad,rfl,rfl,L2.bq (by show 2<=1000000;decide),(.cons ⟨_,rfl⟩ (.cons ⟨_,rfl⟩ .nil))⟩;have oW:=T.gl Hg;have Ca:=T.no QS;have kF:=T.no QU;have cm:=T.no vW;have Fv:=T.no NU;have xM:=T.cal' h1 λF=>MD F;have oE:=T.cal' h2 λF=>Mv F xM;have iQ:=T.cal' h3 λF=>EL F xM;have vA:=T.cal' h4 λF=>Fc F xM;have GD:=T.cal' h5 λF=>Ff F vA;have qW:=T.cal' h6 λF=>BX F iQ;have A9:=T.cal' h7 λF=>BZ F aU oE;have A8:=T.cal' h8 λF=>BY F A9;have xG:=T.cal' h9 λF=>zi F;have bI:=T.cal' bN λF=>E6 F;have b8:=T.cal' d9 λF=>E5 F;have gL:=T.cal' d0 λF=>Mg F;have tD:=T.cal' bs λF=>ER F Z b8 qW;have oa:=T.cal' da λF=>Fe F gL;have xH:=T.cal' dz λF=>IU F bI oE b8 oa;have Ko:=T.cal' bd λF=>IG F bI tD GD A8 vA xG xH;have A7:=T.cal' cJ λF=>zg F Z bI b8;have xL:=T.cal' bk λF=>zj F bI;have b7:=T.cal' dR λF=>IF F;have xB:=T.cal' ce λF=>zf F Z A7 xL b7;have gN:=T.cal' ck λF=>Mp F gL;have re:=T.cal' dZ λF=>IX F Z bW bI gL gN;obtain ⟨ej,_,F23⟩:=dh;have an:=T.ok (IS F23);have Fx:=T.mkc F23 MM PD an;have zu:=T.mkc F23 Jd Nf an;have Fw:=T.mkc F23 ML PB an;have Ad:=T.mcal' a0 Qo a0.1 λF=>E2 F;have xT:=T.mcal' aB NH aB.1 λF=>E1 F;have Ac:=T.mcal' aR Qm aR.1 λF=>EZ F;have xI:=T.cal' c5 λF=>B1 F ag ac ai Fx zu Fw;have kZ:=T.cal' cp λF=>IK F;have iR:=T.cal' cv λF=>ze F;have xF:=T.cal' bG λF=>B0 F;have xJ:=T.cal' cA λF=>IY F cM bg oE;have fV:=T.cal' bc λF=>E8 F;have k9:=T.cal' b5 λF=>Pe F cM xJ iQ;have fu:=T.cal' cE λF=>Mt F;have kY:=T.cal' b1 λF=>IJ F be fu;have jc:=T.cal' bh λF=>Pb F Z aU bg fu;have bD:=T.ok (IP aO a3 (W.codeHd_of_K KB aP) BB B9 MT bg kY);have Gz:L2.aS l.prog w K mg base _ "near" ["cabins","waiting","rider","last"] _:=⟨_,_,bD,dt,aM,T.gl dY⟩;have cB:=T.ok (E3 aW as (W.codeHd_of_K KB aI) BB B9 Z bg kY);have zW:L2.aS l.prog w K mg base _ "least" ["cabins","waiting","rider","last"] _:=⟨_,_,cB,cW,aV,T.gl dv⟩;have mY:=T.cal' ba λF=>EO F bg jc;have yc:=T.calX' bV λF=>Pf F Z nN sS mM eh;have jN:=yc.calm;have Ba:=T.cal' dG λF=>E9 (Pn:=342) (Pl:=349) F cM bW bg fV;have iU:=T.cal' cZ λF=>B2 (Pn:=342) (Pl:=349) F cM dD be bg Ba;have qX:=T.cal' dc λF=>IR F cM bI;have tJ:=T.cal' cs λF=>Mx F cM (Gg Kx x6 G1 vQ Kw xZ Ad xT Ac) Z kZ iR xF re qX xI oE b7;have og:=T.cal' cy λF=>MC F cM kZ iR Ko xB;have fU:=T.cal' dg λF=>Mw F cM tJ b7 og;have bj:=T.cal' c2 λF=>Pd F cM FW oE fU;have kG:=T.mkc' cn Fp Jr λF=>EY F dD;have iT:=T.cal' bJ λF=>Mi F cM bW;have nX:=T.cal' cV λF=>BW F;have qU:=T.cal' bU λF=>EX F Z;have gM:=T.cal' bB λF=>EW F nX;have qV:=T.cal' d7 λF=>IN F gM qU;have kW:=T.cal' bb λF=>II F;have fq:=T.cal' ei λF=>Mo F Fu kW qV;have fz:=T.mcal' a4 GW a4.1 λF=>EQ (Pn:=342) (Pl:=349) F cM Z aU fq kG k9 iU bj iT;have vz:=T.cal' dd λF=>ET F;have xD:=T.cal' ec λF=>zh F;have tE:=T.cal' cg λF=>wX F;have gU:=T.cal' cN λF=>EV F;have xC:=T.cal' cO λF=>BU F;have rp:=T.mcal' aL Qn aL.1 λF=>EN F vz;have ly:=T.mcal' aA JO aA.1 λF=>zd F vz;have jf:=T.mcal' aw GV aw.1 λF=>wW F xD;have je:=T.mcal' av GU av.1 λF=>wV F tE;have on:=T.mcal' aX NG aX.1 λF=>BS F gU;have qx:=T.mkc' cq B7 FV λF=>EU F;have zt:=T.mkc' bu Jc Nd λF=>ES (qB:=0) F Z MQ fo FU;have mZ:=T.cal' dA λF=>ME (k:=⟨iW,cK,bR,bL,dP⟩) F aU (Ei rp ly jf je on G0 tT ji vM oy g9 rz lG fY lB gP dM vL jQ fb) fo xC;have CZ:=T.calX' co λF=>BV (k:=⟨iW,cK,bR,bL,dP⟩) F Z (.mk lB gP dM) (.mk vL jQ fb) FX vp qG Fm vc qu qx zt kL;have dU:=CZ.calm;have rc:=T.cal' bZ λF=>IW F qH nL nO iB;have oh:=T.cal' eg λF=>IV F Z MR nM rc;have k7:=T.cal' b6 λF=>E7 F xM oE;have v4:=T.calX' d6 λF=>IQ (AJ:=0) F bW i9 kN zI z9 oh k7;have c9:=v4.calm;have zw:=T.mkc' bx Je Ng λF=>Fb F;have tK:=T.cal' cj λF=>MB F;have gO:=T.mcal' aK GW aK.1 λF=>Fd F Z bW tK;have k6:=T.cal' dL λF=>IM F kW;have xK:=T.cal' bw λF=>Pg F Z aU oW k6;have P2:=T.cal' bf λF=>Mq F oW cC fz;have nW:=T.cal' cT λF=>Mn F gM;have jL:=T.cal' cI λF=>IL (Pn:=342) (Pl:=349) F Z;have tI:=T.cal' ee λF=>E4 F cC Z nW jL gO xK P2;have rf:=T.cal' b9 λF=>MA F be;have tF:=T.cal' d8 λF=>Pc F be Z Ca k6 rf;have bX:=T.cal' c6 λF=>RS F Z;have tH:=T.cal' bz λF=>Mj (k:=⟨iW,cK,bR,bL,dP⟩) F aU bX dU mZ;have tG:=T.cal' d3 λF=>Mh F kF bX c9;have q8:=T.cal' c8 λF=>IT F aU kF bX c9 tG;have q9:=T.cal' bK λF=>Mz (Pn:=342) (Pl:=349) (k:=⟨iW,cK,bR,bL,dP⟩) @b F (Ei rp ly jf je on G0 tT ji vM oy g9 rz lG fY lB gP dM vL jQ fb) cC zw sS mM eh Gz zW mY jN dU bX q8 tH;have qZ:=T.cal' di λF=>Ms F aU kF Z bX;have jM:=T.cal' b4 λF=>EM F cm kF Fv;have nY:=T.cal' dW λF=>Mu F;have xE:=T.cal' dQ λF=>Mm F Ca jM;have qY:=T.cal' cc λF=>Ml F cm dD Z aU tF xE nY;exact Mr F96 cC aU Z dD tI q9 qZ qY
theorem QY {l:PySem.W.OpenLaw}{q:Program}{j:List Str}{L:(Str->Option Value)->Heap->Prop}{I:World->Heap->Prop}{d:DefRec}{K:Params->Fg}(R:l.most=some 63)(O:d.params.defaults=[])
(U:∀(w:World) (h:Heap),I w h->(K w.params).In h/\∀t∈([(346,342),(351,349)]:List (Addr×Addr)),h.get? t.2=some (W.tabObj #[]))(aj:∀w:World,W.noTabs @bL=true)(B:∀w:World,∀t∈([(346,342),(351,349)]:List (Addr×Addr)),W.codeHdIn @bL t.1 t.2=true)
(F:∀(w:World) (mg:Str->Option Value) (fa:Addr) (h:Heap),(K w.params).In h->h.Ns mainGlobals mg->mg d.name=some (.ref fa)->
   ∃fd:FuncData,(∀(s:Shared) (u:Value),BindsTo s fd ⟨[u],[]⟩ [("_law_script",u)])/\∀base:Heap,(K w.params).In base->base.Ns mainGlobals mg->L2.jg base mg->ar l.prog w @bL mg base aQ 12 fa fd ["_law_script"] (wA @bL 342 349)):
 PySem.W.WalkO q j L I l.row.toRowW d [] @cR:=
 L2.C6 (tabs:=λ_=>[(346,342),(351,349)]) (n:=63) (k:=12) (x:="_law_script") (CX:=λ_=>aQ) (sp:=λw=>wA @bL 342 349) R @b O ⟨rfl,by decide,by decide⟩ U aj B F (λ_ _ a ns S Z Y J=>FB J S Z Y) λ_ _ _ _ _ z=>z
end My
open PySem PySem.W PyProof.Rows
local macro_rules | `(tactic| walk_at "l3t") => `(tactic| first | (refine' L2.Pj ?_ ?_ ?_ ?_; all_goals try k_is) | (refine' L2.Pp ?_ ?_ ?_ ?_ ?_; all_goals try k_is) | k_is | kernel_rfl | (refine L2.SH ?_; constructor <;> walk_at "l3t"))
set_option maxRecDepth 100000 in
set_option maxHeartbeats 0 in
theorem PySem.Challenge.cw_liftcourt_k65_ranks_holds : PySem.Challenge.rw_liftcourt_k65_ranks.Holds := by
 w_on;o_law;k_head;(case hw=>w_witness2)
 k_fill
 rwa[My.QY (l:=PySem.Challenge.rw_liftcourt_k65_ranks) rfl rfl (λw h Y=>⟨PySem.W.km_in_of Y,λt J=>PySem.W.km_tabs_of Y _ (by simp only [mem_cons,not_mem_nil,or_false] at J;rcases J with rfl|rfl<;>decide)⟩) ?lnt ?lhc ?F]
 (case lnt=>intro w;kernel_rfl)
 (case lhc=>intro w t J;simp only [mem_cons,not_mem_nil,or_false] at J;rcases J with rfl|rfl<;>kernel_rfl)
 case F=>
  intro w mg z h j G R;refine' My.Ny j G R ?_ ?_ ?_ ?_ ?_ ?_ ?_ ?_ ?_ ?_ ?_ ?_ ?_ ?_ ?_ ?_ ?_ ?_ ?_ ?_ ?_ ?_ ?_ ?_ ?_ ?_ ?_ ?_ ?_ ?_ ?_ ?_ ?_ ?_ ?_ ?_ ?_ ?_ ?_ ?_ ?_ ?_ ?_ ?_ ?_ ?_ ?_ ?_ ?_ ?_ ?_ ?_ ?_ ?_ ?_ ?_ ?_ ?_ ?_ ?_ ?_ ?_ ?_ ?_ ?_ ?_ ?_ ?_ ?_ ?_ ?_ ?_ ?_ ?_ ?_ ?_ ?_ ?_ ?_ ?_ ?_ ?_ ?_ ?_ ?_ ?_ ?_ ?_ ?_ ?_ ?_ ?_ ?_ ?_ ?_ ?_ ?_ ?_ ?_ ?_ ?_ ?_ ?_ ?_ ?_ ?_ ?_ ?_ ?_ ?_ ?_ ?_ ?_ ?_ ?_ ?_ ?_ ?_ ?_ ?_ ?_ ?_ ?_ ?_ ?_ ?_ ?_ ?_ ?_ ?_ ?_ ?_ ?_ ?_ ?_ ?_ ?_ ?_ ?_ ?_ ?_ ?_ ?_ ?_ ?_ ?_ ?_ ?_ ?_ ?_ ?_ ?_ ?_ ?_ ?_ ?_ ?_ ?_ ?_ ?_ ?_ ?_ ?_ ?_ ?_ ?_ ?_ ?_ ?_ ?_ ?_ ?_ ?_ ?_ ?_ ?_ ?_ ?_ ?_ ?_ ?_ ?_ ?_ ?_
  all_goals try walk_at "l3t"
