import PyProof.Rows.All
import Wide.All
import KE.KDictOf
import KE.KDictList
import KE.KNestM
import KE.KFromBytes
import KE.KIsAll
import KE.KLam
import KE.RegMulBits
import Wide.FinOn
import KE.LcSums
import KE.KIntText
import KE.KRevIter
import KE.KMinKey
import KE.KCount
import PySem.Challenge.RW_liftcourt_k39_turns_are_safe
set_option Elab.async false
set_option bootstrap.genMatcherCode false
set_option linter.all false
set_option maxRecDepth 100000
set_option maxHeartbeats 4000000
local macro_rules|`(s! $x)=>match x.raw[0].isInterpolatedStrLit? with|some s=>`(PySem.Str.ofString $(Lean.quote s))|_=>Lean.Macro.throwUnsupported
local macro_rules|`(tactic|symm)=>`(tactic|(intro _ _ _ _ h;cases h;subst_vars;rfl))
local macro_rules|`(tactic|ac_rfl)=>`(tactic|exact ⟨rfl,rfl,rfl,by decide+kernel,rfl,by decide+kernel,by decide+kernel⟩)
local macro_rules|`(tactic|ext)=>`(tactic|conv=>whnf)
local macro_rules|`(tactic|rwa[$x:term])=>`(tactic|refine $x)
local macro_rules|`(tactic|erw[$x:term])=>`(tactic|(refine $x;conv=>whnf))
local macro_rules|`(tactic|left)=>`(tactic|walk_at "l3go")
local macro_rules|`(tactic|right)=>`(tactic|walk_at "l3dd")
namespace Lean
def wN:=Syntax.node .none
def wI(s:String):Syntax:=mkIdent (.mkSimple s)
def wA(s:String):Syntax:=if s=="_" then wN ``Parser.Term.hole #[mkAtom s] else
 let c:=s.front;if c=='?' then wN ``Parser.Term.syntheticHole #[mkAtom "?",mkAtom "_"] else if c=='@' then wN ``Parser.Term.explicit #[mkAtom "@",mkIdent (s.drop 1).toString.toName] else
 if c.isDigit then Syntax.mkNumLit s else if c=='"' then Syntax.mkStrLit ((s.drop 1).dropEnd 1).toString else if c=='!' then Unhygienic.run (match s with|"!r"=>`((by right))|"!d"=>`((by decide))|"!l"=>`((by lia))|"!a"=>`((by assumption))|"!s"=>`((by simp))|"!k"=>`((by decide+kernel))|"!c"=>`((by kernel_rfl))|"!q"=>`((by walk_at "l3sq"))|"!f"=>`((by first|assumption|decide|lia))|"!g"=>`((by first|assumption|decide))|"!h"=>`((by first|decide|lia))|_=>`((by with_unfolding_all rfl))) else
 let d p:= !(p:String).front.isDigit;if c=='.' then wN ``Parser.Term.dotIdent #[mkAtom ".",mkIdent (s.drop 1).toString.toName] else let q:=s.splitOn ".";let i:Syntax:=mkIdent ((q.takeWhile d).foldl .str .anonymous);(q.dropWhile d).foldl (λt p=>wN ``Parser.Term.proj #[t,mkAtom ".",if d p then wI p else wN `fieldIdx #[mkAtom p]]) i
def wE(x:String):Syntax->Bool|.atom _ y=>x != y|_=>true
def wF:List Syntax->Syntax|[]=>.missing|[x]=>x|x::y=>Syntax.mkApp ⟨x⟩ (y.toArray.map (⟨·⟩))
def wL(l:List Syntax):Syntax:=match l.dropWhile (wE "λ") with|[]=>wF l|_::b=>let v:TSyntaxArray ``Parser.Term.funBinder:=(b.takeWhile (wE "=>")).toArray.map (⟨·⟩);let e:Term:=⟨wF ((b.dropWhile (wE "=>")).drop 1)⟩;wF (l.takeWhile (wE "λ")++[(Unhygienic.run `(fun $v*=>$e)).raw])
def wS(l:List Syntax):Syntax:=let r:=l.foldl (λ(s:Array Syntax×List Syntax) x=>if wE "," x then (s.1,x::s.2) else (s.1.push (wL s.2.reverse),[])) (#[],[]);Syntax.mkSep (if r.2.isEmpty then r.1 else r.1.push (wL r.2.reverse)) (mkAtom ",")
def wC(c:Char)(l:List Syntax):Syntax:=if c==']' then wN `«term[_]» #[mkAtom "[",wS l,mkAtom "]"] else if c=='⟩' then wN ``Parser.Term.anonymousCtor #[mkAtom "⟨",wS l,mkAtom "⟩"] else match l with|x::y::r=>if wE ":=" y then wL l else wN ``Parser.Term.namedArgument #[mkAtom "(",x,mkAtom ":=",wL r,mkAtom ")"]|_=>wL l
def wP(s:List (List Syntax)×String)(x:Syntax):List (List Syntax)×String:=match s.1 with|[]=>s|f::g=>((x::f)::g,"")
def wG(s:List (List Syntax)×String):List (List Syntax)×String:=if s.2=="" then s else wP s (if s.2=="=>"||s.2==":=" then mkAtom s.2 else wA s.2)
def wT(s:List (List Syntax)×String)(c:Char):List (List Syntax)×String:=if " ([⟨)]⟩,λ".contains c then let s:=wG s;if c==' ' then s else if "([⟨".contains c then ([]::s.1,"") else if c==','||c=='λ' then wP s (mkAtom c.toString) else match s.1 with|f::g=>wP (g,"") (wC c f.reverse)|_=>s else (s.1,s.2.push c)
def wD(t:String):Syntax:=match (wG (t.foldl wT ([[]],""))).1 with|[f]=>wL f.reverse|_=>.missing
end Lean
def Lean.wW:=("!r~!d~!l~λ_ _ => rfl~model X.prog X.w~Nat.le_refl _~!s~aI rfl~!k~ac(ak @a)~λz => ?_~λC s H ex => @a~model prog w~av @h(wv 0)ag @d~!c~λj A outer s H L Q E Y h => ?_~Or.inl rfl~bA X scope N' C s H ex~upd(upd H dx(.own a))a(.ins C dx[])~ay hs.lo S.st ds~av @h(wv 5)ag @d~λC s H ex => (eJ(K := K)(n := 4)rfl rfl(aF @a(aF @a(aF @a(aF @a dm)))))~λC s H ex => (eJ(K := K)(n := 2)rfl rfl(aF @a(aF @a dm)))~λC s H ex => bU~λab A outer s H vs Q E hr h => ?_~PySem.W.instObj C s.heap.objs.size~EP X pins σ Q~ac(ak bW)~λz => absurd z.1 @b~!u~λad A outer s H vs Q E hr h => ?_~av @h(wv 2)ag @d~ac(aO @a)~mem_append_right _(.head _)~λG A outer s H L Q E Y h => ?_~ax @a(ac(ak aS))ar~Option Nat~j pins s σ H _ I h~aE(N' := [\"tag\",\"start\",\"goal\",\"lift\"])(pk := [none,none,none,none])@o~starEach es X.env~λC s H ex => (wv 0)~au(dD(v := .ty \"tuple\")rfl S boot_tuple rfl)am~bq I q @g~Nat.lt_of_lt_of_le(Heap.lt_size e)I.ok.above~av @h(wv 1)ag @d~av @h(wv 3)ag @d~post_val_or_str⟨Nat.le_trans(Txt.slice_le z _ _)J,G⟩~cB(dG Y)(wv 1)aS @d~c9 pk σ~bA X scope N' C F H fp~length_filter_le _ _~Option Value~~~~~~~~~~~upd H p(.lst ys)~mem_append_right _(.tail _(.head _))~Nat.ne_of_lt(Nat.lt_of_lt_of_le(Heap.lt_size e)(I.ok.cab x c W G))~wpAny_pure⟨_,rfl,wpAny_pure h⟩~au(wv 1)am~some(.ref f)~model P w~ds.take i~au @a am~fo X.env.cells scope.names[]~ay hs.lo⟨cs,ws,last,fire,0,[]⟩ds~Nat.lt_irrefl _~b6 so room pl s r~cs.map fJ~fB xs lo hi~d3(aD.of S)(.cons(.str _)(.cons(.int _).nil))~List.map V.bl bs~d9 rfl Y~ds.getD j .non~es.getD j .non~bJ @c~λaa A outer s H vs Q E hr h => ?_~au(dD(v := .ty \"tuple\")rfl bc boot_tuple rfl)am~λC s H ex => (ff @a)~~rs.map be.d~aN.of a.ec~rQ CX P w K mg base N qual scope f j A outer s H E~aT.mapλr => V.int r.tag~upd H a o~wpAny_pure ?_~λz A outer s H L Q E Y h => ?_~I.hok.fresh @f~g9 @a(hU @a(wv 1)kq)~some v~ax @a @j ar~aA(d6 rfl)rfl bo PySem.boot_len(au @F am)~λx c z => d5.keep z st~av @h(wv 6)ag @d~cB(dG Y)(wv 0)aS @d~av @h(wv 9)ag @d~aE(N' := [\"tag\",\"goal\"])(pk := [none,none])@o~binaryOp .Add~fg rfl Y~I.ok.hd hc~upd H p(.lst(xs.set j v))~upd(upd H P _)c' _~cJ rfl(wv 0)(wv 1)~ns.map V.int~envOfC qual scope s.heap.objs.size f cd~mem_append_right _ G~Value.type.inj U~~~~~~~~~~~λS => ?_~aP @br @n aS(aG _)~mem_append_left _ G~af st~K w.params~λh2 => ?_~starEach es env~d6 rfl~av @h(wv 7)ag @d~ir lr lw la~upd H' D(.lst ys)~Nat.lt_succ_self _~min its.toArray.size J.toArray.size~upd H a(.ins C dx(putF f y fs))~Heap.lt_size e~J.hok.fresh @f~upd H l(.lst ys)~yM P w~kj Kλl => .int l.tn~bD(qh rfl)rfl eG boot_list @bi~λ_ => ?_~Builtin.Str.glued z ts~!q~λG A outer s H L Q E J h => ?_~ow h lc lw M.last M.fire M.bl ll~O.st.trans(.updL(O _ _ a.el))~letOwnedTupleGo tg(.ref it)u~compareOp .In~Value.ref j.objs.size~las.map V.ref~ds.anyλd => ja d e~hi pins s σ H _ I h~List.ne_nil_of_mem G~ps.zip us~iG H m lc lw ll~BM Pn Pl~λvs H Q E h => ?_~S pins s σ H _ I h~mem_cons_of_mem _ F~start N vs~PySem.F.args_tuple_add_2 _ _~tO X.K H e~λ_ _ _ _ h => mU h~ir lr L la~fo env.cells scope.names[]~b9(uc rfl Y)(wv 4)@V @D~gJ dk~λh1 => ?_~cr P w~compEnvC scope @bj C X.env~wpAny_seqItems nS.1 rfl ?_~bN hs.so c.pl c.li c.ps wd~~~~~~~~~~~d7 rfl~upd H l(.tup ys)~I.same O~R b o e j~g i j~bO st~assign(.Name x F)X.env~λf vs => PySem.call f vs~ps.map bF~bN so pl li ps wd~upd H U(.dK[])~cJ rfl(wv 0)@a~g9 @a(hU @a(wv 2)kq)~pyNext(.ref it)~~f(.int i t)(.int j u)~λj g1 g2 => ?_~jr(R.take xs.length)f~compareOp .NotIn~ps.mapλp => p.2.toNat~decide_eq_true z~λb o F e => eb b o F e~ts.map V.str~CR bg outer P w H s Q E~λz => R z.1~kj Kλl => .int l.rm~y3 @c~λj y G I hy hP => ?_~I.tok _~F.args_str_split_2 _ _~aN.of e1~I.base.free b o e n j~PySem.mem_of_lookup h~HT.sIx xs.length 0 lo~keywordEach[]X.env~wpAny_field h1 W S ?_~~λb u z => ?_~rs.take i~dR M i~hd d(.head _)~TP X pins σ Q~binaryOp .Mult~λ_ _ => False~PySem.W.instObj C dx~~he pins s σ H _ I h~ha pins s σ H _ I h~λ_ q => q~wV X.stack~Nat.le_succ _~cF st~~~~~~~~~~~W pins s σ H _ I h~L pins s σ H _ I h~Int.le_refl _~Nat.zero_le _~λz => h1 z.1~M.ws.map be.d~bI cs~b6 so room c.pl s r~aN.of U.ew~upd H l(.tup @bo)~aa @a @j~gE rfl~aD.of e3~au(wv 3)am~aW i M~λL H Q E h => ?_~A.map bF~upd H kp(.dK @cR)~call(.ref f)[u]~v6 kp lr lw la las~keeperOf(.ref f)~λz => h z.2~bM.same dr U~b7 c.pl c.ps~R4 X pins σ tg R~I.ok.hd j~λx => x.1.isSome~λj => ja @bs @bt~decide_eq_true h1~R.seqT hT~F b _ qλz => z~ac(ax @a @G @G)~aD.of(I _ _ eF)~bL q z~compareOp j~typeIs_str s z t~ns.map WData.int~DV pk wi g tt te~bv h'.1~cL h'.2~typeIs_str _ _ _~λ_ _ _ => False~tK j.heap H~bN so pl li ps j~ws.map be.d~s6.trans s7~λσ W R => ?_~Nat.ne_of_lt @R~eval iter X.env~s.heap.push PySem.W.emptyDict~sIx j.size 0 lo~ac(ak ag)~~~~~~~~~~~ac(ak(wv 1))~ac(ak(wv 2))~aD.of eb~ac(ak(wv 6))~Qv r ta tb~h1.trans z~O _ _ a.ew~λr h => h~rR h ru df~some(.ref oa)~Heap.lt_size q~wpAny_pure @bd~dq kvs p.1 p.2~~au(wv 11)am~uq K GG pre dl~some u~kP rfl~uX rfl(wv 0)~bI @bn~tupleKind @cW~I.freeC x c e~Ne.symm Z~wpAny_bind ?_~xs.length~upd H p o~wpAny_rule ?_~aO @a~au(wv 8)am~ps.take i~sw.trans a3.s~Sum.inl t~au(wv 2)am~au(wv 0)am~bX lo M d~dZ(gJ k)@t~k.more ds~au(wv 4)am~I.stkSub b z~σ.set i @bI~eval o X.env~is.map D.int~fS S.cs S.ws~a1.s.seqT g1~a1.s.seqT g3~Option V~bA X scope N' C s H fp~aN.of aj~aD.of et~G.sqT hT~J _ _ ed~sp _ rfl~~~~~~~~~~~Y.same I~au @u am~fs.lookup f~R.map V.int~i _ _ _ _ q~Option Expr~d5 K H~aZ dl W i M~bT ub ag @n~S.s.seqT h1~S.s.seqT h2~λy => ?_~Str.ofString \"oxuds\"~Or.inr rfl~tb σ H1 Q~fj j h2~dq kvs k y~dq kvs k v~rC I.hok W~xs.set i v~O _ _ a.el~aN.of a.ew~rk.cl k~q _ rfl~ay lo M ds~ab.seqT lt~upd H x o~I.ok.hd G~bs.all id~ks.map kV~aa @bJ @j~aa @a @ek~Kc C dx t~U.seqT al~au @a @bi~iN ag~DR H'~dJ rfl @F~au @bO am~X.wish E~eM kvs k~fI lo M t s g k~backTo pos @cg~dq kvs G.1 G.2~aZ dl M.ws i M~Kx lo n~af fF~af dN~kc kD kH kS k~ds.flatMap dH~hs.ls.map Dr~Hj K a~~~~~~~~~~~Hi K a~M.ws.take j~gK dl M p r~s4.trans s5~hH.same a.s~s8.trans af~its.push y~U.trans s2~hC.same s1~L2.mw _ _ _ _ _~L2.ae !q rfl ?_~L2.cP !q rfl ?_~L2.jC _ _ _ _~L2.bh !q ?_~L2.j3 !q ?_~L2.BP _ _ _ _ _~L2.ju !q rfl ?_~L2.spDraw _ _ _ _ _~L2.drawI !q !l !l !l ?_~L2.oE _ _ _ _ _~L2.v9 rfl(.tup !q)rfl ?_~L2.v9 rfl(.lst !q)rfl ?_~L2.uD _ _ _~L2.fz !f ?_~L2.bK !f ?_~L2.PU !f ?_~L2.rH !f ?_~L2.bG !g ?_~L2.aL !g ?_~And(L2.Qt _ _ _ _)_~⟨.inl⟨rfl,_,!q⟩,?_⟩~And(L2.Dp _ _)_~⟨L2.GP !d !d,?_⟩~And(L2.wR _ _)_~⟨L2.eX !h !h,?_⟩".splitOn "~").toArray
local macro_rules|`(@$i:ident)=>do
 let n:=i.getId;let k:=n.toString.foldl (λk c=>k*62+(("abcdefghijklmnopqrstuvwxyzABCDEFGHIJKLMNOPQRSTUVWXYZ0123456789".splitOn c.toString).head!).length) 0;let s:=Lean.wW.getD k "";if n.hasMacroScopes||n.toString.length>2||s=="" then Lean.Macro.throwUnsupported else return Lean.wD s
open List (all_cons all_eq_true all_map any_cons any_eq_false any_eq_true any_filter any_map append_assoc append_nil cons_append drop_eq_getElem_cons drop_length drop_of_length_le drop_zero ext_getElem filterMap_append filterMap_cons filterMap_map filter_append filter_cons filter_nil find?_cons flatMap_append flatMap_cons flatMap_nil foldl_append foldl_cons forIn_cons getD_eq_getElem?_getD getElem?_append_left getElem?_append_right getElem?_drop getElem?_eq_getElem getElem?_map getElem?_replicate getElem?_set_ne getElem?_set_self getElem?_take_of_lt getElem?_zip_eq_some getElem_inj getElem_mem length_append length_cons length_drop length_eq_zero_iff length_filter_le length_map length_nil length_pos_iff length_range length_replicate length_set length_singleton length_take length_take_le lookup_cons lookup_eq_none_iff map_append map_congr_left map_cons map_eq_nil_iff map_map map_nil map_set mem_append mem_append_left mem_append_right mem_cons mem_cons_of_mem mem_cons_self mem_filter mem_filterMap mem_flatMap mem_iff_getElem mem_iff_getElem? mem_map mem_map_of_mem mem_of_getElem? mem_of_mem_drop mem_of_mem_take mem_or_eq_of_mem_set mem_range mem_reverse mem_singleton nil_append nodup_append nodup_cons not_mem_nil of_mem_zip pairwise_iff_getElem pairwise_lt_range range_succ range_succ_eq_map rel_of_pairwise_cons replicate_succ set_getElem_self size_toArray sum_cons take_add_one take_length take_of_length_le take_sublist take_succ take_zero)
local macro_rules|`(#check $s:str)=>do
 let a←(s.getString.splitOn " ").toArray.mapM λw=>let i:=Lean.mkIdent (.str `PySem.W.Fast ("tw"++toString (w.foldl (λk c=>k*62+(("0123456789ABCDEFGHIJKLMNOPQRSTUVWXYZabcdefghijklmnopqrstuvwxyz".splitOn c.toString).head!).length) 0)));`(command|def $i:ident:=True)
 return Lean.mkNullNode (a.map (·.raw))
#check "IYRutU7LIxi 9NvQggEX5kC IZReTlo98tb IamioHmhU2w De7h0rBbAvL 8sKbHNMez5j GbsRfgTR36b K9SFWUmy0Qb 6Yo2ayP8Dq3 CaxtDwJoNxC FJydMkf2Dsu 5Z1Yn9XYWd9 3Z0aCmHidph KsAVEQoiS5O 5vuyeN9YF0y i6Xhd1V9ff 9qZr4rjr6FF DSIcpjG3zO4 DBU7YdDZwlD 3AgVoiA8qpx 52LA3r1M9Dz 6LdtWyXFpVd GMrcXTBtaQP It3h4oAiRQa HXwYMD8jJGw 2I43kt4CNWX 7AXk9caU14X fmfpFwuhTc DLHt0Ntld8z 21rUGr2kFBf klpllBeGwl 57j0W05eEkl 8ltT2MbrDD5 CiS7YnLCoCd 18NI3k7pzQw 2ML4GC1WJ9h Byf3Fp2sTsD 4GdiqQKgxyN DNMYdjL84qK 7HYuubmjHtp LNVLw1fMMQE 4GeQFxsbxJp JoUHB8FOlNe IS2SpYo4pOJ 7IB9HqQFrLV LuvVADYwdRE HtxCViCdliG KkEvN37uFOf BU6wPmx6ym6 KnidKP90NiX EPcRLQLaUDh 4PQlClrLZAf 9X749h2bIov 2MK14KPuh8i BmrNrsmAPMJ DyzVjhf2PLT 8FNK7AWIXzm 3ALLkl7aHJZ 4b2uAmehqrr 7AiBQ9EDghU V081yAIUSZ 2jMaCytT48q Iv4k2JHOjI5 H1MWPG6jCZM O01pPF55zv LTI8JQq6hrv 1FFw5879Gfs Ezz4FiZRl6E By4aqI2vE7o 6cvacYSUokL 5Hjw4LDg9wR 5StgXfWyWs3 1PtAZazwWY5 1kvV7G5qlyX CuXU2Dgx3GZ 94k5FylRHXU 6vMcPJ2JUu1 3XVQKnESdQb LHFpYBT3hGd Fb3eu6zGUXo HFDlbnbJTlU 3tERWIJqyKS Ih576QNkPNT BaZuyRFGuj6 Iax7oRGOZvg LETIYWxAXDP IgRpEENT4Qf 4MeZhByRk47 5QHYg0ByiTH C1cghWZJBr4 IlsyCKMGm2Y HrUydO627TN F3b1WUZwZxA Gs1mSO6EjLi ESMT4U96HY9 5S9ActubEIs HhLWeS3zE4i AOrxNYja5Gx FTxpidPHkRS 8NOiZYWGvbu 4kCSkz3F7DT E9vorgGceEy 10Teol1cTLy A9WZVorJylH khEHSYSarJ HQVjzgla06L 9vlgDqjURzB 9jgkS3r0jTh B7YjJqiexO3 DBkjIQUNron DGv0lDSD3H6 2iqR9AkxNpL 3tAqXpL9HD5 7d5OIDpQRQ 1WNqolSC7wN DLftc1WQuR4 LR6Z1xFPdkx 144zrvctMQa TZQp5CgDU6 LAfHhExcWMO HGGatcdo7h 58EGyTLjFSu J6SWUY7pf6O GgclLSEQg6E GYNoMDdH2bS 3vZQUkE0hoo LDplRH1MqXb 6PCym8jQ8yY A9zPgOqod7R HipR0ByDi6H 4uK9ofeeTnr FhgBkezUddp LF6aeLHm82L tfnOi83nu5 5cxlFP7YHEB AL1ZgZK6Ub6 5Cs65U75dQD HrSjKQxdMRu BkyqHQXGJHn 3auvJdhYajg ETlnWT7pwxC H4r79C7KqEI Il4FGHWo8pV f1cxrZJuyj Hapmfrl9mjz AJI79hVtMYK 98c6cWDg51E 9ZwkA0y8Pf7 10OZBziTC93 9VtOem2SMjc HmcPTzfEzwk GNURp9lO9GU 2lSFrsgejtQ BgyXwBldCKV 14SKaGi5ORM 4FOjzfVxTzZ FAB2DzBFr0V HahNVfk2gDv KwYDW1bsZeF 5KAuu3PQg8Z 3x6zAcSlggH EEzs3DyjAlS KiJeMQjtYPI BpjXCEmNVdo ERq7JydzDpP ANwDDPNYDSG 1eGFbO0QjtN CysjW96e58z JyNgQkPPQCb 8GeWZ26PwYd 2MC0Yx7vmq8 1LD7ii1nKjM 3AeLKseDZNn 4USwjrWhH0e ApwjNymuhWK IllsX2DVz7D 8JBJis3dKTA 29NlpSWleUO 6qAc033lHfn BghUzA1dqwQ 9N94HOE0PWE H99ZvEAUXPa K1flfX0drbp oJcygDbJV7 5XGWBfiDdeU 7afboMF2v2J EcPpPfkZqjy 72sKKD32aSY LpbLUWsuwH8 Fn3oxuLMFs6 2enLrjNdUZW DrTwYpJqbqM BiEnN1qSp73 2WAtESlYAJ3 BwPjwFhhB7H bILVoPqnrq EAfD0t2bax2 Gqu0Oms89oJ 3GGULBqUeJE Dhkpc4LLXaK A60o9aPDLQK 9uscCMt619C 5BDuEKZ4ZqU AGHJtLc8s2W 2wmYPAJ8yEd E5Cu2gTr05A 4ohAwxh7YbW 7gdVoaXUEl5 HA1kVUMefa9 HQ7EIet7zWL 7bAUVZB9WKc IMrA6ThkoeU Erf6GH3QgV8 A4G5pV1TEG3 6PH4sx9fotW 9VLHuprzCXR 2FBxyLC9v71 H6mKu631yKj FxBkNUR2x3M 4SsZX8O5oHI 8Fi130t1DUn BAHGEPV2GEE L91uVYxYp6c 3OWhtcfyQaN 8ZglFR1BCQS 58LoZwxwsww AzlCToHH5ra Hw45gxUxSZb D9xXvx20PqS 7x4D7Z9J61F 3LW8DbqUjWN 6a9R5lZhYTd IFaSRh7wfnm 3qTHkdbtPdr 58Tpxx9vfxe HcFeniEAub1 JO6UC95zFwp DPFPz3EWFXU 3eDAaxeqiKK 2upsVCc8ySY KhWAAic3oz2 BgS0qFtGxIF FMTNitHsyQb 7LaPsCX9we0 EOMO9haw3oR JqNt8jegiSK 4B3527xeujh CT4xaLBAjYh DAZLeRYtdCR CwhufgJlPUr 8hdpvAKKFlY 5vpuyNjJxVc 8xTK24CBiFH 3xIIdD82vTJ JJnY0PghQik Cn7AjQ43l9y K9FfAmbbH9U GGEMxgIaG9T Bjq5Li6nd66 Jci5tEny8He ED82KnBsuQg 7Hl434sT8Li RLXf3tZoDm 9wiyjnp9rHd 4FEALRB4If CbCWhuaXoNa 5xWe4pcqrvr 8T6PLlS9suD 4k2vpl2ENYX KCVieB9ITL7 L3EPGBSb3Ry 9JaDRtLrihU L65X0HiVSEX AfP4GXydJYA CtUscbuNs5e 8mG0Wci7KeN 3RoqthJBgai JcbUkFdharg Fd3asl2c3dk BkL6rK3IETB GKKsBtvcZp2 FcUXCjCjIku 4yaDB5ZwkOo 4ZdBkVGbLgS 4wMfatJ2I35 CeQ8HRWyfna KhkJXrlezR 1XBqSYnSHFD HETVT3Hc2FF IxxGrvEkKIv 4ubAMDVx7xB IRhjHTM4tPl cvaePPJtGt C5NaZlvDQw4 4q6EktEIFre BIvIauHqxII HIC9AY9Qtvq Iaq64pZp25A LAkIASqVLQK GYYuYB8IQym 4Ps2L6xevZS 2jG3egq0zYO G3ST28M8WvR 4Dbyl4K9c6z KhrSuHp3rdo Ii3FwoTIO56 921XZNhjFfK 9E7tVeDH7mu AsBKfwF8KwV INxmcDLKAGj GRVlKApKCO5 3G0eIdo8122 87IhEdcUGCa 6SbDvy56fcp 5K1Et3uAvyn XI01t7w1K1 YKQOUyD5XA 6qB5DFDi7IA BLR1pQ1agA5 4sJNJ6o5z6Z G3Z9GJovuf5 Dx0acY1Ocdn LjNZ9mmE400 C6RnZYYKp3h GL3gCat6iNH 8ark9oPrvVf DmzqKnMhrhH DWnVEftnQ27 HysCdeBACKh 6WwOb7FfKWK 1wVFpgLVeQT AOGVEjUZisH Fgzu6k1oXzl Is0zmgel2QC BjrG1NOfNwL 15ViT6PdNo5 4UGBfhNpP6W 3jFt5JvN1TU 8dLfpAt4JMB IF0xH8VvvBk EuQPzj5aHCn 4fenZ9LgkI9 9SZLnjDVY0q 7BbloLl6LTw 4l1DAlOIv0z 3cYkcn4zLZI 5fuDYzakcMG 7IszUXDP4L 8kIICEGyjny 9e8H0XrtToD 5ioyBxRMlDH 69TMSChfeHk KTfx4j7aQ3P 27F2UcG2fQB Kj9cq6F3tcY A4lEYWrTYE7 5KRVy1o7Vnf 8jGiuVKWM0i GCWSIj0myQ4 FcXIDjy1pxp DYEaecOM8jd 9cU87UTkoTb 97vAF0TBkJd DiFXPiPNTlF 4gDRSVhrnjl Bir2gTd6kgS Adq6RIigzsb 340Sawi89sN 15H8ABjupDr AT5XTgfLany J1mxwIGU9Ez JyEBvdF5k7g 5kBw6jsIxId IimmEpAVo4u 75gD8HGgKh5 KhrI964b30E 4SHyvZff51F GqCyY3iEnsx GYHHwqtme4S F83YhZ0y6MO 4uQnPfWk9ja 2g6tf9NMPKV D803ftDiaVM JndBN5TIf4m LRcletPnqiB HIZ9UqEW3Ef 8TxSHHXOG60 9gZouRKMK8k H61CGWIqo6N Kk0yfYSJyij 5wA0OsyMM2T 9wpt9fhaqN5 4WHANof2utG CiI5lJYaGw2 3qGL6hzI3ca 7YHeBLO9MM4 5WM8qfrRvkl 5PQRebk9ty7 2O3RmlRq1mG IXqVOW1KTer"
abbrev Fg:=PySem.W.Frag
namespace L2
open PySem PySem.Spec PyProof.Rows
abbrev ce:=Sum Int Str
def uB:ce->Value->Bool
 | .inl k,v=>Value.isInt k v
 | .inr x,v=>Value.isStrOf x v
def RJ (w:World):ce->Int
 | .inl k=>hashInt k
 | .inr x=>hashStr w x
theorem cu:∀ {k:ce} {v:Value},uB k v=true->(∃i t,k=Sum.inl i/\v=Value.int i t)\/(∃x t,k=Sum.inr x/\v=Value.str x t)
 | .inl i,v,h=>by
   obtain ⟨t,e⟩:=Value.isInt_shape (k:=i) (v:=v) h;exact .inl ⟨i,t,rfl,e⟩
 | .inr x,v,h=>by
   obtain ⟨t,e⟩:=Value.isStrOf_shape (x:=x) (v:=v) h;exact .inr ⟨x,t,rfl,e⟩
theorem CO (i:Int)(t:Tok):uB (.inl i) (.int i t)=true:=by simp [uB,Value.isInt]
theorem CN (x:Str)(t:Tok):uB (.inr x) (.str x t)=true:=by simp [uB,Value.isStrOf]
theorem Nv (a b:Int):decide ((Sum.inl a:ce)=Sum.inl b)=(a==b):=by
 by_cases e:a=b
 ·subst e;simp
 ·have h: ¬(Sum.inl a:ce)=Sum.inl b:=λq=>e (Sum.inl.inj q);rw [decide_eq_false h];exact (beq_eq_false_iff_ne.mpr e).symm
theorem Nr (a b:Str):decide ((Sum.inr a:ce)=Sum.inr b)=decide (a=b):=by
 by_cases e:a=b
 ·subst e;simp
 ·have h: ¬(Sum.inr a:ce)=Sum.inr b:=λq=>e (Sum.inr.inj q);rw [decide_eq_false h,decide_eq_false e]
theorem Nu (a:Int)(b:Str):decide ((Sum.inl a:ce)=Sum.inr b)=false:=decide_eq_false (λq=>nomatch q)
theorem Nt (a:Str)(b:Int):decide ((Sum.inr a:ce)=Sum.inl b)=false:=decide_eq_false (λq=>nomatch q)
noncomputable def cr (prog:Program)(w:World):PySem.KeyKind prog w ce where
 is:=uB
 hash:=RJ w
 inj:=λv a b ha hb=>by
  rcases cu ha with ⟨i,t,rfl,rfl⟩|⟨x,t,rfl,rfl⟩
  ·rcases cu hb with ⟨j,u,rfl,e⟩|⟨y,u,rfl,e⟩
   ·injection e with e1 _;rw [e1]
   ·exact nomatch e
  ·rcases cu hb with ⟨j,u,rfl,e⟩|⟨y,u,rfl,e⟩
   ·exact nomatch e
   ·injection e with e1 _;rw [e1]
 byValue:=λk v h=>by
  rcases cu h with ⟨i,t,rfl,rfl⟩|⟨x,t,rfl,rfl⟩<;>rfl
 pyHash:=λhv h=>by
  rcases cu hv with ⟨i,t,rfl,rfl⟩|⟨x,t,rfl,rfl⟩
  ·exact wpAny_pyHash_int h
  ·exact wpAny_pyHash_str h
 eqBool:=λhu hv h=>by
  rcases cu hu with ⟨i,t,rfl,rfl⟩|⟨x,t,rfl,rfl⟩
  ·rcases cu hv with ⟨j,u,rfl,rfl⟩|⟨y,u,rfl,rfl⟩
   ·rw [Nv] at h;exact wpAny_eqBool_int h
   ·rw [Nu] at h;exact SeqAt.EqAt.int_str i t y u _ _ _ _ h
  ·rcases cu hv with ⟨j,u,rfl,rfl⟩|⟨y,u,rfl,rfl⟩
   ·rw [Nt] at h;exact SeqAt.EqAt.str_int x t j u _ _ _ _ h
   ·rw [Nr] at h;exact wpAny_eqBool_str h
 «strs»:=λk x t v h=>by
  rcases cu h with ⟨i,u,rfl,e⟩|⟨y,u,rfl,e⟩
  ·exact nomatch e
  ·injection e with e1 _;subst e1;cases v<;>rfl
theorem xL (prog:Program)(w:World)(i:Int)(t:Tok):(cr prog w).is (.inl i) (.int i t)=true:=CO i t
theorem xK (prog:Program)(w:World)(x:Str)(t:Tok):(cr prog w).is (.inr x) (.str x t)=true:=CN x t
inductive V where
 |non|bl (b:Bool)|int (i:Int)|str (x:Str)|byt (b:Array UInt8)|flt (b:UInt64)|ref (a:Addr)|ty (n:String)
 deriving DecidableEq
def aK:V->Value->Prop
 | .non,u=>u=Value.none
 | .bl b,u=>u=Value.bool b
 | .int i,u=>∃t,u=Value.int i t
 | .str x,u=>∃t,u=Value.str x t
 | .byt b,u=>∃t,u=Value.bytes b t
 | .flt b,u=>∃t,u=Value.float b t
 | .ref a,u=>u=Value.ref a
 | .ty n,u=>u=Value.type n
abbrev aU:List V->List Value->Prop:=Paired aK
theorem aU.length {xs:List V}{us:List Value}(r:aU xs us):xs.length=us.length:=Paired.length r
theorem aU.get:∀ {xs:List V} {us:List Value} {i:Nat} {x:V},aU xs us->xs[i]? =some x->∃u,us[i]? =some u/\aK x u
 |_,_,_,_,.nil,e=>by simp at e
 |_,_,0,_,.cons r _,e=>by simp at e;subst e;exact ⟨_,rfl,r⟩
 |_,_,i+1,x,.cons _ t,e=>by
  obtain ⟨u,h1,h2⟩:=aU.get (i:=i) (x:=x) t (by simpa using e);exact ⟨u,by simpa using h1,h2⟩
theorem aU.set {x:V}{u:Value}(r:aK x u):∀ {xs:List V} {us:List Value} (i:Nat),aU xs us->aU (xs.set i x) (us.set i u)
 |_,_,_,.nil=> .nil
 |_,_,0,.cons _ t=> .cons r t
 |_,_,i+1,.cons q t=> .cons q (aU.set r i t)
theorem aU.append:∀ {xs ys:List V} {us ws:List Value},aU xs us->aU ys ws->aU (xs++ys) (us++ws)
 |_,_,_,_,.nil,s=>s
 |_,_,_,_,.cons r t,s=> .cons r (aU.append t s)
theorem aU.take:∀ {xs:List V} {us:List Value} (n:Nat),aU xs us->aU (xs.take n) (us.take n)
 |_,_,0,_=> .nil
 |_,_,_+1,.nil=> .nil
 |_,_,n+1,.cons r t=> .cons r (aU.take n t)
theorem aU.drop:∀ {xs:List V} {us:List Value} (n:Nat),aU xs us->aU (xs.drop n) (us.drop n)
 |_,_,0,r=>r
 |_,_,_+1,.nil=> .nil
 |_,_,n+1,.cons _ t=>aU.drop n t
def ko:Option V->Option Value->Prop
 |some v,some u=>aK v u
 |none,none=>True
 |_,_=>False
def KV {κ:Type}:List (κ×V)->List (κ×Value)->Prop:=Paired λ(p:κ×V) (q:κ×Value)=>p.1=q.1/\aK p.2 q.2
def kV:ce->V
 | .inl i=> .int i
 | .inr x=> .str x
inductive HO where
 |lst (xs:List V)
 |tup (xs:List V)
 |dK (kvs:List (ce×V))|dT (kvs:List (List ce×V))
 |set (S:Int->Bool) (n:Nat)
 |ins (C dx:Addr) (fs:List (Str×V))
 |own (x:Addr)
 |xd (fs:List (Str×V))
 |met (f x:Addr)
 |rng (lo hi:Int)
 |frz (o:Obj) (u:HO)
 |tbl (ps:Array Value)
 |ext (φ:Heap->Prop)
abbrev Hp:=Addr->Option HO
def upd (H:Hp)(a:Addr)(o:HO):Hp:=λb=>if b=a then some o else H b
theorem aj {H:Hp}{a:Addr}{o:HO}:upd H a o a=some o:=by unfold upd;rw [if_pos rfl]
theorem ao {H:Hp}{a b:Addr}{o:HO}(h:b≠a):upd H a o b=H b:=by unfold upd;rw [if_neg h]
theorem AO {H:Hp}{a:Addr}{o u:HO}:upd @bD a u=upd H a u:=by
 funext b;unfold upd;split<;>rfl
theorem PM {H:Hp}{a b:Addr}{o u:HO}(h:H a=some o)(h':H b=some u)(d:o≠u):a≠b:=by
 intro e;subst e;rw [h] at h';exact d (Option.some.inj h')
theorem bL {H:Hp}{a b:Addr}{o:HO}(h:H a=some o)(h':H b=none):a≠b:=by
 intro e;subst e;rw [h] at h';cases h'
section
variable (P:Program)(w:World)
def bH (H:Hp)(h:Heap)(a:Addr):HO->Prop
 | .lst xs=>xs.length<=sizeLine/\∃(its:List Value) (n:Nat),aU xs its/\h.get? a=some {cls:= .type "list",data:= .seq its.toArray n}
 | .tup xs=>xs.length<=sizeLine/\∃its:List Value,aU xs its/\IsTup h a its.toArray
 | .dK kvs=>kvs.length<=sizeLine/\(a==sysModules)=false/\∃vs,KV kvs vs/\h.DictOf @cW a vs
 | .dT kvs=>kvs.length<=sizeLine/\(a==sysModules)=false/\∃xs:List (List ce×Addr×Value),
    Paired (λ(p:List ce×V) (q:List ce×Addr×Value)=>p.1=q.1/\H q.2.1=some (.tup (p.1.map kV))/\aK p.2 q.2.2) kvs xs/\
    ∃o es ep,h.get? a=some o/\o.ExactDict/\o.data= .dict es ep/\es.toList=xs.map (entryOfKey @fu)/\(xs.map (·.1)).Nodup
 | .set S n=>h.SetOf (intKind P w) a S n
 | .ins C dx fs=>H dx=some (.own a)/\fs.length<=1000/\dx≠a/\h.get? a=some @dS/\
    ∃mA,h.Ns1 dx mA/\(∀f,ko @gc (mA f))/\PySem.Within mA (fs.map (·.1))
 | .own _=>∃o,h.get? a=some o
 | .xd fs=>∃mA,h.Ns1 a mA/\∀f,ko @gc (mA f)
 | .rng lo hi=>∃t u v,h.get? a=some {cls:= .type "range",data:= .fields #[.int lo t,.int hi u,.int 1 v]}
 | .frz o u=>h.get? a=some o/\bH H h a u
 | .tbl ps=>h.get? a=some {cls:= .none,data:= .fields ps}
 | .met f x=>h.get? a=some (W.methodObj (.ref f) (.ref x))
 | .ext φ=>φ h/\(∃o,h.get? a=some o)/\∀h1 h2:Heap,φ h1->(∀o,h1.get? a=some o->h2.get? a=some o)->φ h2
def gQ (H:Hp)(h:Heap):Prop:=∀a o,H a=some o->bH P w H h a o
end
section
variable {P:Program}{w:World}{H H':Hp}{h h':Heap}{a:Addr}{o:HO}
theorem bH.lt (x:bH P w H h a o):a<h.objs.size:=by
 cases o with
 |lst xs=>obtain ⟨_,_,_,_,e⟩:=x;exact Heap.lt_size e
 |tup xs=>obtain ⟨_,_,_,p⟩:=x;exact p.lt
 |dK kvs=>obtain ⟨_,_,_,_,o,_,_,e,_⟩:=x;exact Heap.lt_size e
 |dT kvs=>obtain ⟨_,_,_,_,o,_,_,e,_⟩:=x;exact Heap.lt_size e
 |set S n=>obtain ⟨o,_,_,_,e,_⟩:=x;exact Heap.lt_size e
 |ins C dx fs=>obtain ⟨_,_,_,e,_⟩:=x;exact Heap.lt_size e
 |own y=>obtain ⟨_,e⟩:=x;exact Heap.lt_size e
 |xd fs=>obtain ⟨_,⟨_,_,_,e,_⟩,_⟩:=x;exact Heap.lt_size e
 |rng lo hi=>obtain ⟨_,_,_,e⟩:=x;exact Heap.lt_size e
 |frz ob u=>obtain ⟨e,_⟩:=x;exact Heap.lt_size e
 |tbl ps=>exact Heap.lt_size (show h.get? a=some _ from x)
 |met f y=>exact Heap.lt_size (show h.get? a=some _ from x)
 |ext φ=>obtain ⟨_,⟨_,e⟩,_⟩:=x;exact Heap.lt_size e
theorem Paired.mapP {α β:Type}{F G:α->β->Prop}:∀ {l₁:List α} {l₂:List β},Paired F l₁ l₂->(∀a b,F a b->G a b)->Paired G l₁ l₂
 |_,_,.nil,_=> .nil
 |_,_,.cons r t,f=> .cons (f _ _ r) (Paired.mapP t f)
theorem Paired.imp' {α β:Type}{F G:α->β->Prop}(f:∀a b,F a b->G a b){j:List α}{z:List β}(r:Paired F j z):Paired G j z:=Paired.mapP r f
theorem bH.stay (x:bH P w H h a o)(k:∀b u,(b=a\/H b=some (.own a))->h.get? b=some u->h'.get? b=some u)
(I:∀b,H b=some (.own a)->H' b=some (.own a))(J:∀b xs,H b=some (.tup xs)->H' b=some (.tup xs)):bH P w H' h' a o:=by
 induction o with
 |lst xs=>obtain ⟨z,its,n,r,e⟩:=x;exact ⟨z,its,n,r,k _ _ (.inl rfl) e⟩
 |tup xs=>obtain ⟨z,its,r,j,e,c⟩:=x;exact ⟨z,its,r,j,k _ _ (.inl rfl) e,c⟩
 |dK kvs=>obtain ⟨z,y,L,r,j,es,F,e,c⟩:=x;exact ⟨z,y,L,r,j,es,F,k _ _ (.inl rfl) e,c⟩
 |dT kvs=>
  obtain ⟨z,y,xs,r,j,es,F,e,c⟩:=x;exact ⟨z,y,xs,Paired.mapP r λp q z=>⟨z.1,J _ _ z.2.1,z.2.2⟩,j,es,F,k _ _ (.inl rfl) e,c⟩
 |set S n=>obtain ⟨j,es,F,t,e,c⟩:=x;exact ⟨j,es,F,t,k _ _ (.inl rfl) e,c⟩
 |ins C dx fs=>
  obtain ⟨d,z,O,e,mA,⟨G,es,F,R,c⟩,r⟩:=x;exact ⟨I _ d,z,O,k _ _ (.inl rfl) e,mA,⟨G,es,F,k _ _ (.inr d) R,c⟩,r⟩
 |own y=>obtain ⟨j,e⟩:=x;exact ⟨j,k _ _ (.inl rfl) e⟩
 |xd fs=>obtain ⟨mA,⟨G,es,F,e,c⟩,r⟩:=x;exact ⟨mA,⟨G,es,F,k _ _ (.inl rfl) e,c⟩,r⟩
 |rng lo hi=>obtain ⟨t,u,v,e⟩:=x;exact ⟨t,u,v,k _ _ (.inl rfl) e⟩
 |frz j u ih=>obtain ⟨e,q⟩:=x;exact ⟨k _ _ (.inl rfl) e,ih q⟩
 |tbl ps=>
  have e:h.get? a=some {cls:= .none,data:= .fields ps}:=x;show h'.get? a=some {cls:= .none,data:= .fields ps};exact k a _ (.inl rfl) e
 |met f y=>
  have e:h.get? a=some (W.methodObj (.ref f) (.ref y)):=x;show h'.get? a=some (W.methodObj (.ref f) (.ref y));exact k a _ (.inl rfl) e
 |ext φ=>obtain ⟨p,⟨o,e⟩,st⟩:=x;exact ⟨st _ _ p λo q=>k _ _ (.inl rfl) q,⟨o,k _ _ (.inl rfl) e⟩,st⟩
theorem gQ.lt (x:gQ P w H h)(e:H a=some o):a<h.objs.size:=(x a o e).lt
theorem gQ.fresh (x:gQ P w H h)(e:h.objs.size<=a):H a=none:=by
 cases q:H a with
 |none=>rfl
 |some u=>exact absurd (Nat.lt_of_lt_of_le (x.lt q) e) @bl
theorem gQ.kept (x:gQ P w H h)(k:∀b u,h.get? b=some u->h'.get? b=some u):gQ P w H h':=λa o e=>
 (x a o e).stay (λb u _ q=>k b u q) @dW λ_ _ q=>q
theorem gQ.laid (x:gQ P w H h)(k:∀b u,h.get? b=some u->h'.get? b=some u)(G:h.objs.size<=a)(j:bH P w @bD h' a o):gQ P w @bD h':=λb u e=>by
 have z:=x.fresh G;by_cases F:b=a
 ·subst F;rw [aj] at e;cases e;exact j
 ·rw [ao F] at e
  exact (x b u e).stay (λc v _ q=>k c v q) (λc q=>by rw [ao @eH];exact q) λc xs q=>by rw [ao @eH];exact q
end
def Rd (H:Hp)(a:Addr)(u:HO):Prop:=H a=some u\/∃o,H a=some (.frz o u)
theorem Rd.ok {P:Program}{w:World}{H:Hp}{h:Heap}{a:Addr}{u:HO}(r:Rd H a u)(x:gQ P w H h):bH P w H h a u:=by
 rcases r with r|⟨o,r⟩
 ·exact x a u r
 ·obtain ⟨_,q⟩:=x a _ r;exact q
def Qk:Option HO->Prop
 |some (.lst _)=>True
 |some (.dK _)=>True
 |some (.dT _)=>True
 |some (.set _ _)=>True
 |some (.ins _ _ _)=>True
 |some (.ext _)=>True
 |_=>False
section
variable {P:Program}{w:World}{H:Hp}{h h':Heap}{x e:Addr}{o':HO}
theorem gQ.write (Y:gQ P w H h)(J:Qk (H x))(S:e=x\/H e=some (.own x))(k:∀b u,b≠e->h.get? b=some u->h'.get? b=some u)(O:∃u,h'.get? e=some u)
(R:bH P w (upd H x o') h' x o'):gQ P w (upd H x o') h':=λb u q=>by
 have F:∀c y,H c=some (.own y)->c≠x:=λc y r z=>by subst z;rw [r] at J;exact J
 have G:∀c xs,H c=some (.tup xs)->c≠x:=λc xs r z=>by subst z;rw [r] at J;exact J
 by_cases L:b=x
 ·subst L;rw [aj] at q;cases q;exact R
 ·rw [ao L] at q;by_cases j:b=e
  ·have U:H b=some (.own x):=by
    rcases S with z|z
    ·exact absurd (j.trans z) L
    ·rw [j];exact z
   rw [q] at U;cases U;obtain ⟨v,W⟩:=O;exact ⟨v,by rw [j];exact W⟩
  ·refine (Y b u q).stay (λc v I r=>k c v ?_ r) (λc r=>by rw [ao (F c b r)];exact r) λc xs r=>by rw [ao (G c xs r)];exact r
   rcases I with rfl|I
   ·exact j
   ·rintro rfl
    rcases S with z|z
    ·exact F c b I z
    ·rw [I] at z;cases z;exact L rfl
end
structure Un (fs ex:List Addr)(H H':Hp)(h h':Heap):Prop where
 keep:∀b o,h.get? b=some o->H b=none->b∉fs->b∉ex->h'.get? b=some o
 slot:∀b o,h.get? b=some o->H b=none->b∈fs->b∉ex->∃sl,h'.get? b=some {o with slots:=sl}
 free:∀b o,h.get? b=some o->H b=none->b∉ex->H' b=none
 there:∀b o,h.get? b=some o->b∉ex->∃o',h'.get? b=some o'
 tups:∀b xs,H b=some (.tup xs)->H' b=some (.tup xs)
 frzs:∀b o u,H b=some (.frz o u)->H' b=some (.frz o u)
 tbls:∀b ps,H b=some (.tbl ps)->∃more,H' b=some (.tbl (ps++more))
section
variable {fs fs' ex ex':List Addr}{H H1 H2:Hp}{h h1 h2 h':Heap}{a x e:Addr}{o:HO}
theorem Un.any (u:Un fs ex H H1 h h1){b:Addr}{j:Obj}(q:h.get? b=some j)(n:H b=none)(z:b∉ex):∃sl,h1.get? b=some {j with slots:=sl}:=by
 by_cases F:b∈fs
 ·exact u.slot b j q n F z
 ·exact ⟨j.slots,u.keep b j q n F z⟩
theorem Un.kept (k:∀b u,h.get? b=some u->h'.get? b=some u):Un fs ex H H h h':=
 ⟨λb j q _ _ _=>k b j q,λb j q _ _ _=>⟨j.slots,k b j q⟩,λ_ _ _ n _=>n,λb j q _=>⟨j,k b j q⟩,λ_ _ q=>q,λ_ _ _ q=>q,λ_ ps q=>⟨#[],by rw [q];simp⟩⟩
theorem Un.refl:Un fs ex H H h h:=Un.kept λ_ _ q=>q
theorem Un.laid (k:∀b u,h.get? b=some u->h'.get? b=some u)(G:h.objs.size<=a)(z:H a=none):Un fs ex H @bD h h' where
 keep:=λb u q _ _ _=>k b u q
 slot:=λb u q _ _ _=>⟨u.slots,k b u q⟩
 free:=λb u q n _=>by rw [ao (Nat.ne_of_lt (Nat.lt_of_lt_of_le @fk G))];exact n
 there:=λb u q _=>⟨u,k b u q⟩
 tups:=λb xs q=>by rw [ao @eH];exact q
 frzs:=λb u xs q=>by rw [ao @eH];exact q
 tbls:=λb ps q=>⟨#[],by rw [ao @eH,q];simp⟩
theorem Un.write (J:Qk (H x))(S:e=x\/H e=some (.own x))(k:∀b u,b≠e->h.get? b=some u->h'.get? b=some u)(O:∃u,h'.get? e=some u):Un fs ex H @gA h h':=by
 have G:∀b,H b=none->b≠x:=λb n z=>by subst z;rw [n] at J;exact J
 have I:∀b,H b=none->b≠e:=λb n z=>by
  subst z
  rcases S with r|r
  ·exact G b n r
  ·rw [n] at r;cases r
 have F:∀b u,H b=some u-> ¬Qk @fq->b≠x:=λb u q nm z=>by subst z;rw [q] at J;exact nm J
 refine ⟨λb u q n _ _=>k b u (I b n) q,λb u q n _ _=>⟨u.slots,k b u (I b n) q⟩,λb u q n _=>by rw [ao (G b n)];exact n,λb u q _=> ?_,
  λb xs q=>by rw [ao @eE];exact q,λb u xs q=>by rw [ao @eE];exact q,λb ps q=>⟨#[],by rw [ao @eE,q];simp⟩⟩
 by_cases j:b=e
 ·subst j;exact O
 ·exact ⟨u,k b u j q⟩
end
def Qu (h:Heap)(H:Hp):List Addr:=(List.range h.objs.size).filter λa=>(H a).isSome
def tK (h:Heap)(H:Hp):Heap:=W.hideAll h (Qu h H)
theorem CU (h:Heap)(H:Hp):(tK h H).objs.size=h.objs.size:=W.hideAll_size _ _
theorem Ga {h:Heap}{H:Hp}{b:Addr}{o:Obj}(e:h.get? b=some o)(n:H b=none):(tK h H).get? b=some o:=
 W.hideAll_get _ e λF=>by
  have q:(H b).isSome=true:=(mem_filter.mp F).2;rw [n] at q;simp at q
theorem JC {h:Heap}{H:Hp}{b:Addr}{o:Obj}(e:(tK h H).get? b=some o):h.get? b=some o/\H b=none:=by
 have j:h.get? b=some o:=W.of_hideAll (Qu h H) e;rwa[⟨j,?_⟩]
 cases q:H b with
 |none=>rfl
 |some x=>
  have F:b∈Qu h H:=mem_filter.mpr ⟨mem_range.mpr (Heap.lt_size j),by simp [q]⟩;have z:(tK h H).get? b=none:=W.hideAll_none (Qu h H) F;rw [z] at e;cases e
def Kq (g h:Heap)(L:Addr):List (Addr×Obj):=(List.range h.objs.size).filterMap λa=>if a=L\/(g.get? a).isSome=true then none else (h.get? a).map λo=>(a,o)
def gx (g h:Heap)(L d:Addr):List (Addr×Obj):=(Kq g h L).filter λp=>decide (p.1≠d)
structure Mod (K:Fg)(mg:Str->Option Value)(base:Heap):Prop where
 kin:K.In base
 glob:base.Ns mainGlobals mg
 blt:∃mb,base.Ns builtinsNs mb/\∀x:Str,x≠"__name__"->mb x=bootBuiltins x
 nolimit:base.NoLimit
structure Cx where
 prog:Program
 w:World
 K:Fg
 mg:Str->Option Value
 base:Heap
 A:Around
 N:List Str
 s₀:Shared
 H₀:Hp
 env:Env
 outer:List Env
 stack:List Env
 ex:List Addr
 fn:Str->Bool
 calm:Bool
 pn:List (Addr×Obj)
 xe:Value->Shared->Prop
def wV (l:List Env):List Addr:=l.filterMap (·.frame)
abbrev Cx.fs (X:Cx):List Addr:=wV X.outer
def Qg (sc:Scope)(x:Str):Prop:=sc.names.lookup x=some .local\/sc.names.lookup x=some .cell\/sc.names.lookup x=some .free
def K9 (sc:Scope)(x:Str):Prop:=sc.names.lookup x=some .local\/sc.names.lookup x=some .cell
def R6 (env:Env)(h:Heap)(m:Str->Option Value)(x:Str)(u:Value):Prop:=
 (env.kindOf x=some .local/\m x=some u)\/((env.kindOf x=some .cell\/env.kindOf x=some .free)/\∃c,env.cells.lookup x=some c/\h.IsCell c @fq)
structure Cx.Ok (X:Cx):Prop where
 mod:Mod X.K X.mg X.base
 kind:X.env.scope.kind= .function
 glob:X.env.globals=mainGlobals
 blt:X.env.builtins=builtinsNs
 above:X.s₀.heap.objs.size<=X.env.locals
 inj:∀x y c,X.env.cells.lookup x=some c->X.env.cells.lookup y=some c->x=y
 has:∀x,(X.env.kindOf x=some .cell\/X.env.kindOf x=some .free)->∃c,X.env.cells.lookup x=some c
 cab:∀x c,X.fn x=true->X.env.cells.lookup x=some c->X.s₀.heap.objs.size<=c
 hd:X.calm=true->X.A.handled=none
 frames:X.A.frames=some X.stack
 stk:X.stack=X.outer\/(X.stack=X.env::X.outer/\X.env.frame=some X.env.locals)
 exf:∀b∈X.ex,b≠X.env.locals/\∀x c,X.env.cells.lookup x=some c->c≠b
 bs:∀b o,X.base.get? b=some o->X.s₀.heap.get? b=some o/\X.H₀ b=none
 bsz:X.base.objs.size<=X.s₀.heap.objs.size
 noex:∀b o,X.base.get? b=some o->b∉X.ex
 exfs:∀b∈X.ex,b∉X.fs
 funs:X.s₀.heap.FunFrames X.base X.outer
 frf:∀b∈X.fs,X.H₀ b=none
structure aB (X:Cx)(pins:List (Addr×Obj))(σ:List @fT)(H:Hp)(s:Shared):Prop where
 ok:X.Ok
 os:s.os=X.s₀.os
 bare:AllBare s.gens
 base:Un X.fs X.ex X.H₀ H X.s₀.heap s.heap
 loc:∃m,s.heap.Ns X.env.locals m/\∀(i:Nat) (x:Str) (v:V),X.N[i]? =some x->σ[i]? =some @bI->Qg X.env.scope x->∃u,aK v u/\R6 X.env s.heap m x u
 cell:∀x c,X.env.cells.lookup x=some c->∃v,s.heap.IsCell c v
 free:H X.env.locals=none
 freeC:∀x c,X.env.cells.lookup x=some c->H c=none
 pin:∀p∈X.pn++pins,s.heap.get? p.1=some p.2/\H p.1=none/\p.1≠X.env.locals/\p.1∉X.fs/\∀v,p.2.data≠ .cell v
 hok:gQ X.prog X.w H s.heap
 len:σ.length=X.N.length
section
variable {X:Cx}{pins:List (Addr×Obj)}{σ:List @fT}{H H':Hp}{s:Shared}{h':Heap}
theorem Cx.Ok.nofr (Y:X.Ok){b:Addr}{o:Obj}(e:X.base.get? b=some o):b∉X.fs:=λF=>by
 have:=(Y.funs.mem F).1;rw [e] at this;cases this
theorem aB.bs (I:aB X pins σ H s):∀b o,X.base.get? b=some o->s.heap.get? b=some o/\H b=none:=λb o e=>
 ⟨I.base.keep b o (I.ok.bs b o e).1 (I.ok.bs b o e).2 (I.ok.nofr e) (I.ok.noex b o e),I.base.free b o (I.ok.bs b o e).1 (I.ok.bs b o e).2 (I.ok.noex b o e)⟩
theorem aB.bk (I:aB X pins σ H s):∀b o,X.base.get? b=some o->s.heap.get? b=some o:=λb o e=>(I.bs b o e).1
theorem aB.mod (I:aB X pins σ H s):Mod X.K X.mg X.base:=I.ok.mod
theorem aB.kIn (I:aB X pins σ H s):X.K.In s.heap:=I.ok.mod.kin.keeps I.bk
theorem aB.lt (I:aB X pins σ H s):X.env.locals<s.heap.objs.size:=let ⟨_,hn,_⟩:=I.loc;hn.lt
theorem aB.sz (I:aB X pins σ H s):X.s₀.heap.objs.size<=s.heap.objs.size:=Nat.le_trans I.ok.above (Nat.le_of_lt I.lt)
theorem aB.nofs (I:aB X pins σ H s){a:Addr}(h:s.heap.objs.size<=a):a∉X.fs:=λF=>by
 obtain ⟨_,o,j,_⟩:=I.ok.funs.mem F;exact absurd (Nat.lt_of_lt_of_le (Heap.lt_size j) (Nat.le_trans I.sz h)) @bl
theorem aB.cne (I:aB X pins σ H s):∀x c,X.env.cells.lookup x=some c->c≠X.env.locals:=λx c e z=>by
 obtain ⟨v,o,G,J⟩:=I.cell x c e;obtain ⟨m,⟨o',es,L,j,F,_⟩,_⟩:=I.loc;rw [z,j] at G;cases G;rw [F] at J;cases J
theorem aB.funs (I:aB X pins σ H s):s.heap.FunFrames X.base X.outer:=by
 have F:∀(l:List Env),(∀b∈wV l,b∈X.fs)->X.s₀.heap.FunFrames X.base l->s.heap.FunFrames X.base l:=by
  intro l
  induction l with
  |nil=>intro _ _;trivial
  |cons env r ih=>
   intro hs W;obtain ⟨R,⟨L,o,j,S,O,U⟩,Y⟩:=W;have G:L∈X.fs:=hs L (by unfold wV;rw [filterMap_cons,j];exact mem_cons_self);obtain ⟨sl,e⟩:=I.base.slot L o O (I.ok.frf L G) G λz=>I.ok.exfs L z G;exact ⟨R,⟨L,_,j,S,e,U⟩,ih (λb J=>hs b (by unfold wV;rw [filterMap_cons,j];exact mem_cons_of_mem _ J)) Y⟩
 exact F X.outer (λ_ J=>J) I.ok.funs
theorem aB.stack (I:aB X pins σ H s):s.heap.FunFrames X.base X.stack:=by
 rcases I.ok.stk with e|⟨e,j⟩
 ·rw [e];exact I.funs
 ·rw [e];obtain ⟨m,z,_⟩:=I.loc;rwa[.cons (by rw [I.ok.kind];decide) j z ?_ I.funs];exact Heap.get?_none_of_le (Nat.le_trans I.ok.bsz I.ok.above)
theorem aB.stkSub (I:aB X pins σ H s):∀b∈wV X.stack,b∈X.env.locals::X.fs:=λb F=>by
 rcases I.ok.stk with e|⟨e,j⟩
 ·rw [e] at F;exact mem_cons_of_mem _ F
 ·rw [e] at F;unfold wV at F;rw [filterMap_cons,j] at F;exact F
theorem aB.stkFree (I:aB X pins σ H s):∀b∈wV X.stack,H b=none:=λb F=>by
 rcases mem_cons.mp (I.stkSub b F) with e|F
 ·rw [e];exact I.free
 ·obtain ⟨_,o,j,_⟩:=I.ok.funs.mem F;exact I.base.free b o j (I.ok.frf b F) λz=>I.ok.exfs b z F
theorem aB.step {g':Array GenState}{t':Nat}{d':Drawn}{ch:List Addr}(I:aB X pins σ H s)
(G:∀b∈ch,(b∈X.ex\/X.s₀.heap.objs.size<=b)/\b≠X.env.locals/\(∀x c,X.env.cells.lookup x=some c->c≠b)/\∀p∈X.pn++pins,p.1≠b)
(J:∀b o,b≠X.env.locals->b∉X.fs->b∉ch->s.heap.get? b=some o->H b=none->h'.get? b=some o)
(U:∀b o,b≠X.env.locals->b∈X.fs->b∉ch->s.heap.get? b=some o->H b=none->∃sl,h'.get? b=some {o with slots:=sl})(F:∀b o,b∉ch->s.heap.get? b=some o->H b=none->H' b=none)
(W:∀b o,b∉ch->s.heap.get? b=some o->∃o',h'.get? b=some o')
(ad:∀b xs,H b=some (.tup xs)->H' b=some (.tup xs))(ab:∀b o u,H b=some (.frz o u)->H' b=some (.frz o u))(aa:∀b ps,H b=some (.tbl ps)->∃more,H' b=some (.tbl (ps++more)))
(ns:∀m,s.heap.Ns X.env.locals m->h'.Ns X.env.locals m)(af:gQ X.prog X.w H' h')(hg:AllBare g'):
 aB X pins σ H' {s with heap:=h',gens:=g',drawn:=d',toks:=t'}:=by
 have ac:∀b o,X.s₀.heap.get? b=some o->b≠X.env.locals:=λb o e=>Nat.ne_of_lt @R
 have R:∀b o,X.s₀.heap.get? b=some o->b∉X.ex->b∉ch:=λb o e j Y=>by
  rcases (G b Y).1 with z|z
  ·exact j z
  ·exact absurd (Nat.lt_of_lt_of_le @co z) @bl
 have O:∀x c,X.env.cells.lookup x=some c->∀v,s.heap.IsCell c v->h'.IsCell c v:=λx c e v ⟨o,Z,hd⟩=>by
  have L:c∉ch:=λz=>(G c z).2.2.1 x c e rfl;by_cases hc:c∈X.fs
  ·obtain ⟨sl,q⟩:=U c o (I.cne x c e) hc L Z @fv;exact ⟨_,q,hd⟩
  ·exact ⟨o,J c o (I.cne x c e) hc L Z @fv,hd⟩
 rwa[⟨I.ok,I.os,hg,⟨λb o e n Y j=> ?_,λb o e n Y j=> ?_,λb o e n j=> ?_,λb o e j=> ?_,λb xs e=>ad b xs (I.base.tups b xs e),λb o xs e=>ab b o xs (I.base.frzs b o xs e),λb ps e=> ?_⟩,?_,λx c e=> ?_,?_,λx c e=> ?_,λp hp=> ?_,af,I.len⟩]
 ·exact J b o (ac b o e) Y @dd (I.base.keep b o e n Y j) @dF
 ·obtain ⟨sl,S⟩:=I.base.slot b o e n Y j;obtain ⟨ae,e2⟩:=U b _ (ac b o e) Y @dd S @dF;exact ⟨ae,e2⟩
 ·obtain ⟨o',S⟩:=I.base.there b o e j;exact F b o' @dd S @dF
 ·obtain ⟨o',S⟩:=I.base.there b o e j;exact W b o' @dd S
 ·obtain ⟨m1,S⟩:=I.base.tbls b ps e;obtain ⟨m2,e2⟩:=aa b _ S;exact ⟨m1++m2,by rw [e2,Array.append_assoc]⟩
 ·obtain ⟨m,hn,hl⟩:=I.loc;rwa[⟨m,ns m hn,λi x v S e2 e3=> ?_⟩];obtain ⟨u,r,l⟩:=hl i x v S e2 e3;rwa[⟨u,r,?_⟩]
  rcases l with l|⟨k,c,e,z⟩
  ·exact .inl l
  ·exact .inr ⟨k,c,e,O x c e _ z⟩
 ·obtain ⟨v,z⟩:=I.cell x c e;exact ⟨v,O x c e v z⟩
 ·obtain ⟨m,⟨o,_,_,Z,_⟩,_⟩:=I.loc;exact F _ o (λz=>(G _ z).2.1 rfl) Z I.free
 ·obtain ⟨v,o,Z,hd⟩:=I.cell x c e;exact F c o (λz=>(G c z).2.2.1 x c e rfl) Z @fv
 ·obtain ⟨e,n,ne,nf,d⟩:=I.pin p hp;have L:p.1∉ch:=λz=>(G p.1 z).2.2.2 p hp rfl;exact ⟨J p.1 p.2 ne nf L e n,F p.1 p.2 L e n,ne,nf,d⟩
theorem aB.un {t':Nat}(I:aB X pins σ H s)(u:Un X.fs [] H H' s.heap h')(af:gQ X.prog X.w H' h'):aB X pins σ H' {s with heap:=h',toks:=t'}:=by
 obtain ⟨m,⟨o,es,W,L,r⟩,_⟩:=id I.loc;obtain ⟨sl,S⟩:=u.any L I.free @g
 exact I.step (g':=s.gens) (d':=s.drawn) (ch:=[]) (λ_ z=>nomatch z) (λb o _ J _ e n=>u.keep b o e n J @g) (λb o _ J _ e n=>u.slot b o e n J @g) (λb o _ e n=>u.free b o e n @g) (λb o _ e=>u.there b o e @g) u.tups u.frzs u.tbls (λU R=>by
  obtain ⟨o',F,G,j,O⟩:=R;rw [L] at j;cases j
  exact ⟨_,F,G,S,O⟩) af I.bare
theorem aB.call {g':Array GenState}{t':Nat}{d':Drawn}{ch:List Addr}(I:aB X pins σ H s)(u:Un @dX ch H H' s.heap h')(af:gQ X.prog X.w H' h')(W:AllBare g')
(G:∀b∈ch,(b∈X.ex\/X.s₀.heap.objs.size<=b)/\b≠X.env.locals/\(∀x c,X.env.cells.lookup x=some c->c≠b)/\∀p∈X.pn++pins,p.1≠b):
 aB X pins σ H' {s with heap:=h',gens:=g',drawn:=d',toks:=t'}:=by
 obtain ⟨m,⟨o,es,ep,R,r⟩,_⟩:=id I.loc;obtain ⟨sl,L⟩:=u.any R I.free λz=>(G _ z).2.1 rfl
 exact I.step (ch:=ch) G (λb o L Y j e n=>u.keep b o e n (λz=>(mem_cons.mp @fM).elim L Y) j) (λb o _ _ j e n=>u.any e n j) (λb o j e n=>u.free b o e n j) (λb o j e=>u.there b o e j) u.tups u.frzs u.tbls (λZ U=>by
  obtain ⟨o',J,O,F,S⟩:=U;rw [R] at F;cases F
  exact ⟨_,J,O,L,S⟩) af W
theorem aB.turned {t':Nat}{it:Addr}(I:aB X pins σ H s)(k:∀b o,b≠it->s.heap.get? b=some o->h'.get? b=some o)(R:H it=none)(G:it≠X.env.locals)
(h1:it∈X.ex\/X.s₀.heap.objs.size<=it)(h2:∀x c,X.env.cells.lookup x=some c->c≠it)(L:∀p∈X.pn++pins,p.1≠it):aB X pins σ H {s with heap:=h',toks:=t'}:=by
 have F:∀b u,H b=some u->b≠it:=λb u e z=>by rw [z,R] at e;cases e
 refine I.step (g':=s.gens) (d':=s.drawn) (ch:=[it]) (λb U=> ?_) (λb o _ _ j e _=>k b o (λz=>j (by simp [z])) e) (λb o _ _ j e _=>⟨o.slots,k b o (λz=>j (by simp [z])) e⟩) (λ_ _ _ _ n=>n)
  (λb o j e=>⟨o,k b o (λz=>j (by simp [z])) e⟩) (λ_ _ e=>e) (λ_ _ _ e=>e) (λb ps e=>⟨#[],by rw [e];simp⟩) (λm O=> ?_) (λb u e=> ?_) I.bare
 ·have e:b=it:=by simpa using U
  subst e;exact ⟨h1,G,h2,L⟩
 ·obtain ⟨o,es,S,J,r⟩:=O;exact ⟨o,es,S,k _ o (Ne.symm G) J,r⟩
 ·rwa[(I.hok b u e).stay (λc v j q=>k c v ?_ q) @dW λ_ _ q=>q]
  rcases j with z|z
  ·rw [z];exact F b u e
  ·exact F c _ z
theorem aB.tok (I:aB X pins σ H s)(t:Nat):aB X pins σ H {s with toks:=t}:=I.un (h':=s.heap) (t':=t) Un.refl I.hok
theorem aB.kept {t':Nat}(I:aB X pins σ H s)(k:∀b u,s.heap.get? b=some u->h'.get? b=some u):aB X pins σ H {s with heap:=h',toks:=t'}:=I.un (Un.kept k) (I.hok.kept k)
theorem aB.laid {a:Addr}{o:HO}{t':Nat}(I:aB X pins σ H s)(k:∀b u,s.heap.get? b=some u->h'.get? b=some u)(G:s.heap.objs.size<=a)(j:bH X.prog X.w @bD h' a o):
 aB X pins σ @bD {s with heap:=h',toks:=t'}:=I.un (Un.laid k G (I.hok.fresh G)) (I.hok.laid k G j)
theorem aB.write {x e:Addr}{o:HO}{t':Nat}(I:aB X pins σ H s)(J:Qk (H x))(S:e=x\/H e=some (.own x))(k:∀b u,b≠e->s.heap.get? b=some u->h'.get? b=some u)(O:∃u,h'.get? e=some u)
(j:bH X.prog X.w @gA h' x o):aB X pins σ @gA {s with heap:=h',toks:=t'}:=I.un (Un.write J S k O) (I.hok.write J S k O j)
theorem aB.weak {j:List @fT}(I:aB X pins σ H s)(W:j.length=σ.length)(w:∀(i:Nat) v,j[i]? =some @bI->σ[i]? =some @bI):aB X pins j H s:=
 ⟨I.ok,I.os,I.bare,I.base,let ⟨m,hn,hl'⟩:=I.loc;⟨m,hn,λi x v S R z=>hl' i x v S (w i v R) z⟩,I.cell,I.free,I.freeC,I.pin,I.hok,W.trans I.len⟩
theorem aB.pins_of {j:List (Addr×Obj)}(I:aB X pins σ H s)(h:∀p∈j,s.heap.get? p.1=some p.2/\H p.1=none/\p.1≠X.env.locals/\p.1∉X.fs/\∀v,p.2.data≠ .cell v):aB X j σ H s:=
 ⟨I.ok,I.os,I.bare,I.base,I.loc,I.cell,I.free,I.freeC,λp G=>(mem_append.mp G).elim (λz=>I.pin p (mem_append_left _ z)) (h p),I.hok,I.len⟩
theorem re {N:List Str}(z:N.Nodup){i j:Nat}{x:Str}(a:N[i]? =some x)(b:N[j]? =some x):i=j:=by
 obtain ⟨h1,S⟩:=List.getElem?_eq_some_iff.mp a;obtain ⟨h2,R⟩:=List.getElem?_eq_some_iff.mp b;exact (getElem_inj z).mp (S.trans R.symm)
theorem um {M:Model}{A:Around}{E:Value->Shared->Prop}{i:Nat}{x:Str}{v:V}{u:Value}{Q:Unit->Shared->Prop}(I:aB X pins σ H s)(hN:X.N.Nodup)(hi:X.N[i]? =some x)(J:K9 X.env.scope x)(r:aK v u)
(h:∀s',aB X pins @fN H s'->(∃a,Heap.SameBut a s.heap s'.heap/\(a=X.env.locals\/X.env.cells.lookup x=some a))->Q () s')(hf:X.fn x=true\/X.env.scope.names.lookup x=some .local:=by first|exact .inl rfl|exact .inr rfl|assumption):wpAny M A (storeName X.env x u) Q E s:=by
 obtain ⟨m,hn,hl⟩:=id I.loc
 have af:(X.env.scope.kind== .class||(X.env.scope.kind== .module&&X.env.locals != X.env.globals))=false:=by rw [I.ok.kind];rfl
 have aa:i<σ.length:=by rw [I.len];exact (List.getElem?_eq_some_iff.mp hi).1
 have U:=I.cne
 have F:∀ {a:Addr} {h':Heap},(∃o,s.heap.get? a=some o/\H a=none)->Heap.SameBut a s.heap h'->gQ X.prog X.w H h':=λ{a h'} ha hs b ob e=>by
  obtain ⟨_,_,L⟩:=ha;rwa[(I.hok b ob e).stay (λc w' G q=>(hs.2 c ?_).trans q) @dW λ_ _ q=>q];rintro rfl
  rcases G with rfl|G
  ·rw [L] at e;cases e
  ·rw [L] at G;cases G
 rcases J with O|O
 ·rwa[wpAny_storeName_local O hn (λh' ah hs=> ?_) af];obtain ⟨oL,_,_,ag,_⟩:=id hn;rwa[h _ ⟨I.ok,I.os,I.bare,⟨λb o e n Y J=> ?_,λb o e n Y J=> ?_,I.base.free,λb o e J=> ?_,I.base.tups,I.base.frzs,I.base.tbls⟩,⟨_,ah,λj y v' S R e3=> ?_⟩,λy c e=> ?_,I.free,I.freeC,λp hp=> ?_,F ⟨oL,ag,I.free⟩ hs,by simpa using I.len⟩ ⟨_,hs,.inl rfl⟩]
  ·exact (hs.2 b @eV).trans (I.base.keep b o e n Y J)
  ·obtain ⟨sl,S⟩:=I.base.slot b o e n Y J;exact ⟨sl,(hs.2 b @eV).trans S⟩
  ·obtain ⟨o',S⟩:=I.base.there b o e J;exact ⟨o',(hs.2 b @eV).trans S⟩
  ·by_cases Z:j=i
   ·subst Z;rw [hi] at S;cases S;rw [getElem?_set_self aa] at R;cases R;exact ⟨u,r,.inl ⟨O,by simp⟩⟩
   ·rw [getElem?_set_ne @fw] at R;obtain ⟨u',r',q⟩:=hl j y v' S R e3;rwa[⟨u',r',?_⟩]
    rcases q with ⟨k,e⟩|⟨k,c,e,z⟩
    ·rwa[.inl ⟨k,?_⟩];have:y≠x:=λe=>Z (re hN S (e▸hi));simp [this,e]
    ·exact .inr ⟨k,c,e,z.sameBut hs (U y c e)⟩
  ·obtain ⟨w',z⟩:=I.cell y c e;exact ⟨w',z.sameBut hs (U y c e)⟩
  ·obtain ⟨e,n,ne,nf,d⟩:=I.pin p hp;exact ⟨(hs.2 p.1 ne).trans e,n,ne,nf,d⟩
 ·have W:X.fn x=true:=by
   rcases hf with z|z
   ·exact z
   ·rw [z] at O;cases O
  obtain ⟨c,G⟩:=I.ok.has x (.inl O);obtain ⟨w',z⟩:=I.cell x c G;rwa[wpAny_storeName_cell I.ok.kind O G z (λh' ad hs=> ?_)];obtain ⟨oc,ab,ae⟩:=id z;rwa[h {s with heap:=h'} ⟨I.ok,I.os,I.bare,⟨λb o e n Y J=> ?_,λb o e n Y J=> ?_,I.base.free,λb o e J=> ?_,I.base.tups,I.base.frzs,I.base.tbls⟩,⟨m,hn.sameBut hs (Ne.symm (U x c G)),λj y v' S R e3=> ?_⟩,λy c' e=> ?_,I.free,I.freeC,λp hp=> ?_,F ⟨oc,ab,I.freeC x c G⟩ hs,by simpa using I.len⟩ ⟨c,hs,.inr G⟩]
  ·exact (hs.2 b @bc).trans (I.base.keep b o e n Y J)
  ·obtain ⟨sl,S⟩:=I.base.slot b o e n Y J;exact ⟨sl,(hs.2 b @bc).trans S⟩
  ·obtain ⟨o',S⟩:=I.base.there b o e J;exact ⟨o',(hs.2 b @bc).trans S⟩
  ·by_cases Z:j=i
   ·subst Z;rw [hi] at S;cases S;rw [getElem?_set_self aa] at R;cases R;exact ⟨u,r,.inr ⟨.inl O,c,G,ad⟩⟩
   ·rw [getElem?_set_ne @fw] at R;obtain ⟨u',r',q⟩:=hl j y v' S R e3;rwa[⟨u',r',?_⟩]
    rcases q with q|⟨k,c',e,z'⟩
    ·exact .inl q
    ·rwa[.inr ⟨k,c',e,z'.sameBut hs ?_⟩];rintro rfl;exact Z (re hN S (I.ok.inj _ _ _ e G▸hi))
  ·by_cases ac:c'=c
   ·subst ac;exact ⟨_,ad⟩
   ·obtain ⟨w2,z2⟩:=I.cell y c' e;exact ⟨w2,z2.sameBut hs ac⟩
  ·obtain ⟨e,n,ne,nf,d⟩:=I.pin p hp;rwa[⟨(hs.2 p.1 ?_).trans e,n,ne,nf,d⟩];intro q;rw [q,ab] at e;have q':oc=p.2:=Option.some.inj e;exact d w' (by rw [<-q'];exact ae)
theorem xg {M:Model}{A:Around}{E:Value->Shared->Prop}{i:Nat}{x:Str}{v:V}{u:Value}{Q:Unit->Shared->Prop}(I:aB X pins σ H s)(z:X.N.Nodup)(hi:X.N[i]? =some x)(j:K9 X.env.scope x)(r:aK v u)
(h:∀s',aB X pins @fN H s'->Q () s')(G:X.fn x=true\/X.env.scope.names.lookup x=some .local:=by first|exact .inl rfl|exact .inr rfl|assumption):wpAny M A (storeName X.env x u) Q E s:=
 um I z hi j r (λs' F _=>h s' F) G
theorem aB.call' {s':Shared}{ch:List Addr}(I:aB X pins σ H s)(z:s'.os=s.os)(u:Un @dX ch H H' s.heap s'.heap)(af:gQ X.prog X.w H' s'.heap)(W:AllBare s'.gens)
(G:∀b∈ch,(b∈X.ex\/X.s₀.heap.objs.size<=b)/\b≠X.env.locals/\(∀x c,X.env.cells.lookup x=some c->c≠b)/\∀p∈X.pn++pins,p.1≠b):aB X pins σ H' s':=by
 obtain ⟨h',j,J,F,o'⟩:=s';have e:o'=s.os:=z;subst e;exact I.call (g':=j) (t':=F) (d':=J) u af W G
end
abbrev XK:=Value->Option Addr->Hp->Prop
abbrev St:=List @fT
abbrev VK:=V->Hp->Prop
abbrev TE:=St->Hp->VK->Prop
abbrev TT:=St->Hp->(Bool->Hp->Prop)->Prop
abbrev TA:=St->Hp->(List V->Hp->Prop)->Prop
structure pQ where
 nx:St->Hp->Prop
 rt:VK
 bk:St->Hp->Prop:=λ_ _=>False
 ct:St->Hp->Prop:=λ_ _=>False
abbrev TS:=pQ->St->Hp->Prop
def EP (X:Cx)(pins:List (Addr×Obj))(σ:St)(Q:VK)(u:Value)(s':Shared):Prop:=∃v H',aB X pins σ H' s'/\aK v u/\Q v H'
def TP (X:Cx)(pins:List (Addr×Obj))(σ:St)(Q:Bool->Hp->Prop)(b:Bool)(s':Shared):Prop:=∃H',aB X pins σ H' s'/\Q b H'
def AP (X:Cx)(pins:List (Addr×Obj))(σ:St)(Q:List V->Hp->Prop)(us:List Value)(s':Shared):Prop:=∃vs H',aB X pins σ H' s'/\aU vs us/\Q vs H'
def SP (X:Cx)(pins:List (Addr×Obj))(D:pQ)(f:Flow)(s':Shared):Prop:=
 match f with
 | .next=>∃σ' H',aB X pins σ' H' s'/\D.nx σ' H'
 | .brk=>∃σ' H',aB X pins σ' H' s'/\D.bk σ' H'
 | .cont=>∃σ' H',aB X pins σ' H' s'/\D.ct σ' H'
 | .ret u=>∃v σ' H',aB X pins σ' H' s'/\aK v u/\D.rt v H'
def PE (X:Cx)(e:Expr)(t:TE):Prop:=
 ∀(pins:List (Addr×Obj)) (s:Shared) (σ:St) (H:Hp) (Q:VK),aB X pins σ H s->t σ H Q->wpAny @e X.A (eval e X.env) @A X.xe s
def PT (X:Cx)(e:Expr)(t:TT):Prop:=
 ∀(pins:List (Addr×Obj)) (s:Shared) (σ:St) (H:Hp) (Q:Bool->Hp->Prop),aB X pins σ H s->t σ H Q->wpAny @e X.A (isTrue e X.env (eval e X.env)) @dP X.xe s
def PW (X:Cx)(e:Expr)(t:TT):Prop:=
 ∀(whole:Sem Value) (pins:List (Addr×Obj)) (s:Shared) (σ:St) (H:Hp) (Q:Bool->Hp->Prop),aB X pins σ H s->t σ H Q->wpAny @e X.A (isTrue e X.env whole) @dP X.xe s
theorem PW.pt {X:Cx}{e:Expr}{t:TT}(h:PW X e t):PT X e t:=h _
def PA (X:Cx)(es:List Expr)(t:TA):Prop:=
 ∀(pos:Pos) (pins:List (Addr×Obj)) (s:Shared) (σ:St) (H:Hp) (Q:List V->Hp->Prop),aB X pins σ H s->t σ H Q->wpAny @e X.A (spliced (backTo pos @N)) (AP X pins σ Q) X.xe s
def PS (X:Cx)(st:Stmt)(t:TS):Prop:=
 ∀(pins:List (Addr×Obj)) (s:Shared) (σ:St) (H:Hp) (D:pQ),aB X pins σ H s->t D σ H->wpAny @e X.A (exec st X.env) (SP X pins D) X.xe s
def tW (X:Cx)(st:List Stmt)(t:TS):Prop:=
 ∀(pins:List (Addr×Obj)) (s:Shared) (σ:St) (H:Hp) (D:pQ),aB X pins σ H s->t D σ H->wpAny @e X.A (execs st X.env) (SP X pins D) X.xe s
theorem bP {α:Type}{t:Sem α}{Q j:α->Shared->Prop}{M:Model}{A:Around}{E:Value->Shared->Prop}{s:Shared}(h:wpAny M A t Q E s)(z:∀a s,Q a s->j a s):wpAny M A t j E s:=wpAny_mono h z λ_ _ x=>x
section
variable {X:Cx}
def Rf (i:Nat):TE:=λσ H Q=>∃v,σ[i]? =some @bI/\Q v H
def tC (v:V):TE:=λ_ H Q=>Q v H
theorem EY {i:Nat}{x:Str}{pos:Pos}(L:X.N[i]? =some x)(W:Qg X.env.scope x)(J:(x==("__debug__":Str))=false:=by decide)(F:(x==("__classdict__":Str))=false:=by decide):PE X (.Name x pos) (Rf i):=by
 intro pins s σ H Q I h;obtain ⟨v,e,h⟩:=h;obtain ⟨m,S,U⟩:=I.loc;obtain ⟨u,r,l⟩:=U i x v L e W;have z:EP X pins σ Q u s:=⟨v,H,I,r,h⟩
 rcases l with ⟨R,O⟩|⟨R,c,G,j⟩
 ·exact wpAny_Name (wpAny_loadName_local I.ok.kind R S O z) J
 ·rcases R with R|R
  ·exact wpAny_Name (wpAny_loadName_cell I.ok.kind R G j z) J
  ·exact wpAny_Name (wpAny_loadName_free I.ok.kind R G j z F) J
theorem ag {i j pos}:PE X (.Constant (.int i) j pos) (tC (.int i)):=λ_ _ _ H _ I h=>wpAny_Constant_int ⟨.int i,H,I.tok _,⟨_,rfl⟩,h⟩
theorem bW {b j pos}:PE X (.Constant (.bool b) j pos) (tC (.bl b)):=λ_ _ _ H _ I h=>Constant_bool ⟨.bl b,H,I,rfl,h⟩
theorem EZ {j pos}:PE X (.Constant .none j pos) (tC .non):=λ_ _ _ H _ I h=>Constant_none ⟨.non,H,I,rfl,h⟩
theorem aS {x j pos}:PE X (.Constant (.str x) j pos) (tC (.str x)):=λ_ _ _ H _ I h=>Calls.Constant_str ⟨.str x,H,I.tok _,⟨_,rfl⟩,h⟩
def Gl (X:Cx)(x:Str):Prop:=X.env.kindOf x=some .globalImplicit
theorem mM {E:Value->Shared->Prop}{pins:List (Addr×Obj)}{s:Shared}{σ:St}{H:Hp}{x:Str}{u:Value}{pos:Pos}{Q:Value->Shared->Prop}(I:aB X pins σ H s)(W:Gl X x)(F:X.mg x=some u)(h:Q u s)
(J:(x==("__debug__":Str))=false:=by decide):wpAny @e X.A (eval (.Name x pos) X.env) Q E s:=
 Calls.Name_function_global I.ok.kind W (Calls.loadGlobal_global (by rw [I.ok.glob];exact I.mod.glob.keeps I.bk) F h) J
theorem oB {E:Value->Shared->Prop}{pins:List (Addr×Obj)}{s:Shared}{σ:St}{H:Hp}{x:Str}{u:Value}{pos:Pos}{Q:Value->Shared->Prop}(I:aB X pins σ H s)(j:Gl X x)(F:X.mg x=none)(W:bootBuiltins x=some u)(h:Q u s)
(z:x≠"__name__":=by decide)(J:(x==("__debug__":Str))=false:=by decide):wpAny @e X.A (eval (.Name x pos) X.env) Q E s:=by
 obtain ⟨G,h1,h2⟩:=I.mod.blt;exact Calls.Name_function_global I.ok.kind j (Calls.loadGlobal_builtin (by rw [I.ok.glob];exact I.mod.glob.keeps I.bk) F (by rw [I.ok.blt];exact h1.keeps I.bk) ((h2 x z).trans W) h) J
theorem A7 {x:Str}{v:V}{u:Value}{pos:Pos}(W:Gl X x)(F:X.mg x=some u)(r:aK v u)(J:(x==("__debug__":Str))=false:=by decide):PE X (.Name x pos) (tC v):=
 λ_ _ _ H _ I h=>mM I W F ⟨v,H,I,r,h⟩ J
theorem dD {x:Str}{v:V}{u:Value}{pos:Pos}(j:Gl X x)(F:X.mg x=none)(W:bootBuiltins x=some u)(r:aK v u)(z:x≠"__name__":=by decide)(J:(x==("__debug__":Str))=false:=by decide):PE X (.Name x pos) (tC v):=
 λ_ _ _ H _ I h=>oB I j F W ⟨v,H,I,r,h⟩ z J
variable {a b:Expr}{ta tb:TE}{pos:Pos}
def PC (X:Cx)(op:CmpOp)(a b:Expr)(t:TE):Prop:=
 ∀(pins:List (Addr×Obj)) (s:Shared) (σ:St) (H:Hp) (Q:VK),aB X pins σ H s->t σ H Q->
  wpAny @e X.A (eval a X.env) (λv s₁=>wpAny @e X.A (eval b X.env) (λu s₂=>wpAny @e X.A (compareOp op v u) @A X.xe s₂) X.xe s₁) X.xe s
def tB (t:TE):TT:=λσ H Q=>t σ H λx H1=>∃c,x= .bl c/\Q c H1
theorem ES {j:CmpOp}{t:TE}(h:PC X j a b t)(h1:behindInMarks j b=false:=by first|exact nobehind _ @b @b|rfl):PT X (.Compare a [j] [b] pos) (tB t):=by
 intro pins s σ H Q I F;rwa[wpAny_isTrue_Compare1 (bP (h pins s σ H _ I F) λv O h1=>bP h1 λu R h2=>bP h2 λc L ⟨x,H1,J,z,G⟩=> ?_) h1];obtain ⟨d,rfl,q⟩:=G;cases z;exact wpAny_truthy_bool ⟨H1,J,q⟩
variable {tA tB':TT}{gx:List Expr}
def Rr (t u:TT):TT:=λσ H Q=>t σ H λc H1=>if c=true then u σ H1 Q else Q false H1
def Ss (t u:TT):TT:=λσ H Q=>t σ H λc H1=>if c=true then Q true H1 else u σ H1 Q
def Rj (t:TT):TT:=λσ H Q=>t σ H λc H1=>Q (!c) H1
theorem gH (j:PT X a tA):PW X (.BoolOp .And [a] pos) tA:=by
 intro z pins s σ H Q I h;rwa[isTrue_and (bP (j pins s σ H Q I h) λc O e=> ?_)]
 cases c with
 |true=>exact isTrue_and_nil e
 |false=>exact e
theorem cY (j:PT X a tA):PW X (.BoolOp .Or [a] pos) tA:=by
 intro z pins s σ H Q I h;rwa[isTrue_or (bP (j pins s σ H Q I h) λc O e=> ?_)]
 cases c with
 |false=>exact isTrue_or_nil e
 |true=>exact e
theorem Mw (j:PT X a tA)(F:PW X (.BoolOp .And (b::gx) pos) tB'):PW X (.BoolOp .And (a::b::gx) pos) (Rr tA tB'):=by
 intro z pins s σ H Q I h;rwa[isTrue_and (bP @L λc O ⟨H1,J,G⟩=> ?_)]
 cases c with
 |true=>exact F z pins O σ H1 Q J G
 |false=>exact ⟨H1,J,G⟩
theorem Ph (j:PT X a tA)(F:PW X (.BoolOp .Or (b::gx) pos) tB'):PW X (.BoolOp .Or (a::b::gx) pos) (Ss tA tB'):=by
 intro z pins s σ H Q I h;rwa[isTrue_or (bP @L λc O ⟨H1,J,G⟩=> ?_)]
 cases c with
 |true=>exact ⟨H1,J,G⟩
 |false=>exact F z pins O σ H1 Q J G
theorem bw (j:PT X a tA):PT X (.UnaryOp .Not a pos) (Rj tA):=by
 intro pins s σ H Q I h;exact isTrue_not (j pins s σ H (λc H1=>Q (!c) H1) I h)
theorem lE {j}{t:TE}(h:PE X a t):PE X (.BoolOp j [a] pos) t:=λpins s σ H Q I F=>BoolOp_one (h pins s σ H Q I F)
def Su (t:TT)(ta tb:TE):TE:=λσ H Q=>t σ H λc H1=>if c=true then ta σ H1 Q else tb σ H1 Q
theorem E3 {c:Expr}(j:PT X c tA)(z:PE X a ta)(F:PE X b tb):PE X (.IfExp c a b pos) (Su tA ta tb):=by
 intro pins s σ H Q I h;rwa[wpAny_IfExp (bP @L λd O ⟨H1,J,G⟩=> ?_)]
 cases d with
 |true=>exact z pins O σ H1 Q J G
 |false=>exact F pins O σ H1 Q J G
end
def aN (K:Fg)(H:Hp)(a:Addr)(xs:List V):Prop:=
 Rd H a (.lst xs)\/
  ∃(o:Obj) (its:Array Value) (n:Nat),K.lookup a=some o/\o.cls= .type "list"/\o.dict=none/\o.data= .seq its n/\its.size<=sizeLine/\aU xs its.toList
def aD (K:Fg)(H:Hp)(a:Addr)(xs:List V):Prop:=
 Rd H a (.tup xs)\/
  ∃(o:Obj) (its:Array Value) (n:Nat),K.lookup a=some o/\o.cls= .type "tuple"/\o.data= .seq its n/\its.size<=sizeLine/\aU xs its.toList
noncomputable def RY:Value->Option V
 | .none=>some .non
 | .bool b=>some (.bl b)
 | .int i _=>some (.int i)
 | .str x _=>some (.str x)
 | .bytes b _=>some (.byt b)
 | .float b _=>some (.flt b)
 | .ref a=>some (.ref a)
 | .type n=>some (.ty n)
 |_=>none
theorem aK.abs {x:V}{u:Value}(r:aK x u):RY u=some x:=by
 cases x with
 |non=>cases r;rfl
 |bl _=>cases r;rfl
 |int _=>obtain ⟨t,rfl⟩:=r;rfl
 |str _=>obtain ⟨t,rfl⟩:=r;rfl
 |byt _=>obtain ⟨t,rfl⟩:=r;rfl
 |flt _=>obtain ⟨t,rfl⟩:=r;rfl
 |ref _=>cases r;rfl
 |ty _=>cases r;rfl
theorem aK.inj {x y:V}{u:Value}(r:aK x u)(q:aK y u):x=y:=Option.some.inj (r.abs.symm.trans q.abs)
theorem aU.inj:∀ {xs ys:List V} {us:List Value},aU xs us->aU ys us->xs=ys
 |_,_,_,.nil,.nil=>rfl
 |_,_,_,.cons r t,.cons r' t'=>by rw [r.inj r',aU.inj t t']
section
variable {X:Cx}{pins:List (Addr×Obj)}{σ:St}{H:Hp}{s:Shared}{a:Addr}{xs ys:List V}
theorem aN.of {K:Fg}(h:H a=some (.lst xs)):aN K H a xs:= .inl (.inl h)
theorem aD.of {K:Fg}(h:H a=some (.tup xs)):aD K H a xs:= .inl (.inl h)
theorem aB.list (I:aB X pins σ H s)(h:aN X.K H a xs):∃its:List Value,aU xs its/\PlainL s.heap a its.toArray/\xs.length<=sizeLine:=by
 rcases h with h|⟨o,its,n,R,j,J,hs,F,r⟩
 ·obtain ⟨z,its,n,r,e⟩:=h.ok I.hok;exact ⟨its,r,⟨_,n,e,rfl,rfl,rfl⟩,z⟩
 ·rwa[⟨its.toList,r,⟨o,n,I.kIn a o R,j,J,by simpa using hs⟩,?_⟩];have e:=r.length;simp only [Array.length_toList] at e;lia
theorem aB.tuple (I:aB X pins σ H s)(h:aD X.K H a xs):∃its:List Value,aU xs its/\IsTup s.heap a its.toArray/\xs.length<=sizeLine:=by
 rcases h with h|⟨o,its,n,R,j,hs,F,r⟩
 ·obtain ⟨z,its,r,p⟩:=h.ok I.hok;exact ⟨its,r,p,z⟩
 ·rwa[⟨its.toList,r,⟨o,I.kIn a o R,j,n,by simpa using hs⟩,?_⟩];have e:=r.length;simp only [Array.length_toList] at e;lia
theorem aB.list_inj (I:aB X pins σ H s)(h:aN X.K H a xs)(h':aN X.K H a ys):xs=ys:=by
 obtain ⟨its,r,⟨o,n,e,_,_,d⟩,_⟩:=I.list h;obtain ⟨j,O,⟨o',F,z,_,_,J⟩,_⟩:=I.list h';rw [e] at z;cases z;rw [d] at J;injection J with d1 _
 have:its=j:=by simpa using congrArg Array.toList d1
 subst this;exact r.inj O
theorem aB.tuple_inj (I:aB X pins σ H s)(h:aD X.K H a xs)(h':aD X.K H a ys):xs=ys:=by
 obtain ⟨its,r,⟨o,e,_,n,d⟩,_⟩:=I.tuple h;obtain ⟨j,O,⟨o',z,_,F,J⟩,_⟩:=I.tuple h';rw [e] at z;cases z;rw [d] at J;injection J with d1 _
 have:its=j:=by simpa using congrArg Array.toList d1
 subst this;exact r.inj O
end
abbrev Cx.wish (X:Cx)(E:Value->Shared->Prop):Cx:= {X with xe:=E}
abbrev Cx.nox (X:Cx):Cx:=X.wish λ_ _=>False
theorem Cx.Ok.wish {X:Cx}(Y:X.Ok)(E:Value->Shared->Prop):(X.wish E).Ok:=
 ⟨Y.mod,Y.kind,Y.glob,Y.blt,Y.above,Y.inj,Y.has,Y.cab,Y.hd,Y.frames,Y.stk,Y.exf,Y.bs,Y.bsz,Y.noex,Y.exfs,Y.funs,Y.frf⟩
theorem Cx.Ok.unwish {X:Cx}{E:Value->Shared->Prop}(Y:(X.wish E).Ok):X.Ok:=
 ⟨Y.mod,Y.kind,Y.glob,Y.blt,Y.above,Y.inj,Y.has,Y.cab,Y.hd,Y.frames,Y.stk,Y.exf,Y.bs,Y.bsz,Y.noex,Y.exfs,Y.funs,Y.frf⟩
section
variable {X:Cx}{pins:List (Addr×Obj)}{σ:St}{H:Hp}{s:Shared}{E:Value->Shared->Prop}
theorem aB.wish (I:aB X pins σ H s)(E:Value->Shared->Prop):aB @gN pins σ H s:=⟨I.ok.wish E,I.os,I.bare,I.base,I.loc,I.cell,I.free,I.freeC,I.pin,I.hok,I.len⟩
theorem aB.unwish (I:aB @gN pins σ H s):aB X pins σ H s:=⟨I.ok.unwish,I.os,I.bare,I.base,I.loc,I.cell,I.free,I.freeC,I.pin,I.hok,I.len⟩
theorem SP.unwish {D:pQ}{f:Flow}{s':Shared}(h:SP @gN pins D f s'):SP X pins D f s':=by
 cases f with
 |next=>obtain ⟨j,H',I,q⟩:=h;exact ⟨j,H',I.unwish,q⟩
 |brk=>obtain ⟨j,H',I,q⟩:=h;exact ⟨j,H',I.unwish,q⟩
 |cont=>obtain ⟨j,H',I,q⟩:=h;exact ⟨j,H',I.unwish,q⟩
 |ret u=>obtain ⟨v,j,H',I,r,q⟩:=h;exact ⟨v,j,H',I.unwish,r,q⟩
theorem tW.nox {st:List Stmt}{t:TS}(h:tW X.nox st t):tW X st t:=λpins s σ H D I F=>
 wpAny_mono (h pins s σ H D (I.wish _) F) (λ_ _ q=>q.unwish) λ_ _ z=>False.elim z
end
section
variable {X:Cx}{st:Stmt}{gx:List Stmt}{t u:TS}{e:Expr}{te:TE}{pos:Pos}
def O0:TS:=λD σ H=>D.nx σ H
def Rh (t u:TS):TS:=λD σ H=>t {D with nx:=u D} σ H
theorem ar:tW X [] O0:=λ_ _ σ H _ I h=>wpAny_execs_nil ⟨σ,H,I,h⟩
theorem aa (h1:PS X st t)(h2:tW X gx u):tW X (st::gx) (Rh t u):=by
 intro pins s σ H D I h;rwa[wpAny_execs_cons (bP (h1 pins s σ H {D with nx:=u D} I h) λf O q=> ?_)]
 cases f with
 |next=>
  obtain ⟨j,H',F,q⟩:=q;exact h2 pins O j H' D F q
 |ret v=>exact q
 |brk=>exact q
 |cont=>exact q
theorem ac (h1:PS X st t):tW X [st] t:=by
 intro pins s σ H D I h;rwa[wpAny_execs_cons (bP (h1 pins s σ H D I h) λf O q=> ?_)]
 cases f with
 |next=>exact wpAny_execs_nil q
 |ret v=>exact q
 |brk=>exact q
 |cont=>exact q
theorem aB.quiet {pins:List (Addr×Obj)}{σ:St}{H:Hp}{s:Shared}(I:aB X pins σ H s):interactive X.env=false:=by simp [interactive,I.ok.kind]
def O4 (te:TE):TS:=λD σ H=>te σ H λ_ H1=>D.nx σ H1
theorem aO (S:PE X e te)(hs:swapsWith e none pos.line X.env=pure false:=by rfl):PS X (.Expr e pos) (O4 te):=by
 intro pins s σ H D I h;exact wpAny_Expr_any (bP @cL λv O ⟨x,H1,J,z,G⟩=>⟨σ,H1,J,G⟩) I.quiet hs
def Ri (te:TE):TS:=λD σ H=>te σ H D.rt
theorem ak (S:PE X e te):PS X (.Return (some e) pos) (Ri te):=by
 intro pins s σ H D I h;exact wpAny_Return_some (bP @cL λv O ⟨x,H1,J,z,G⟩=>⟨x,σ,H1,J,z,G⟩)
def OZ:TS:=λD _ H=>D.rt .non H
theorem IP:PS X (.Return none pos) OZ:=λ_ _ σ H _ I h=>wpAny_Return_none ⟨.non,σ,H,I,rfl,h⟩
def Ro (c:TT)(t u:TS):TS:=λD σ H=>c σ H λb H1=>if b=true then t D σ H1 else u D σ H1
theorem Pj {c:Expr}{a b:List Stmt}{tc:TT}(j:PT X c tc)(z:tW X a t)(F:tW X b u):PS X (.If c a b pos) (Ro tc t u):=by
 intro pins s σ H D I h;rwa[wpAny_If (bP @L λd O ⟨H1,J,G⟩=> ?_)]
 cases d with
 |true=>exact z pins O σ H1 D J G
 |false=>exact F pins O σ H1 D J G
end
abbrev TG:=V->St->Hp->(St->Hp->Prop)->Prop
abbrev BK:=List V->St->Hp->(St->Hp->Prop)->Prop
def PG (X:Cx)(target:Expr)(t:TG):Prop:=
 ∀(pins:List (Addr×Obj)) (s:Shared) (σ:St) (H:Hp) (v:V) (u:Value) (Q:St->Hp->Prop),aB X pins σ H s->aK v u->t v σ H Q->
  wpAny @e X.A (assign target X.env u) (λ_ s'=>∃σ' H',aB X pins σ' H' s'/\Q σ' H') X.xe s
def Di (X:Cx)(ts:List Expr)(t:BK):Prop:=
 ∀(pins:List (Addr×Obj)) (s:Shared) (σ:St) (H:Hp) (vs:List V) (us:List Value) (Q:St->Hp->Prop),aB X pins σ H s->aU vs us->t vs σ H Q->
  wpAny @e X.A (assignInOrder ((assignEach ts X.env).map (·.2)) us) (λ_ s'=>∃σ' H',aB X pins σ' H' s'/\Q σ' H') X.xe s
abbrev N2:=V->V->V->Hp->(Hp->Prop)->Prop
def G9 (X:Cx)(t:N2):Prop:=
 ∀(pins:List (Addr×Obj)) (s:Shared) (σ:St) (H:Hp) (o i v:V) (ov iv u:Value) (Q:Hp->Prop),aB X pins σ H s->aK o ov->aK i iv->aK v u->t o i v H Q->
  wpAny @e X.A (setItem ov iv u) (λ_ s'=>∃H',aB X pins σ H' s'/\Q H') X.xe s
section
variable {X:Cx}{pos:Pos}
def mT (i:Nat):TG:=λv σ H Q=>Q @fN H
theorem vY {i:Nat}{x:Str}(z:X.N.Nodup)(hi:X.N[i]? =some x)(j:K9 X.env.scope x)(G:X.fn x=true\/X.env.scope.names.lookup x=some .local:=by first|exact .inl rfl|exact .inr rfl|assumption):PG X (.Name x pos) (mT i):=by
 intro pins s σ H v u Q I r h;exact wpAny_assign_Name (xg I z hi j r (λs' F=>⟨_,H,F,h⟩) G)
def RQ:BK:=λvs σ H Q=>vs=[]/\Q σ H
def PZ (t:TG)(u:BK):BK:=λvs σ H Q=>∃v r,vs=v::r/\t v σ H λσ' H'=>u r σ' H' Q
theorem IT:Di X [] RQ:=by
 intro pins s σ H L j Q I r h;obtain ⟨e,h⟩:=h;subst e;cases r;exact assignInOrder_nil ⟨σ,H,I,h⟩
theorem EW {e:Expr}{es:List Expr}{t:TG}{u:BK}(h1:PG X e t)(h2:Di X es u)
(hs:(assignEach (e::es) X.env).map (·.2)=assign e X.env::(assignEach es X.env).map (·.2):=by rfl):Di X (e::es) (PZ t u):=by
 intro pins s σ H L z Q I r h;obtain ⟨v,F,S,h⟩:=h;subst S
 cases r with
 |cons r rr=>
  rw [hs];rwa[assignInOrder_cons (bP (h1 pins s σ H _ _ _ I r h) λ_ O ⟨j,H1,J,G⟩=> ?_)];exact h2 pins O j H1 _ _ Q J rr G
def PY (K:Fg)(n:Nat)(t:BK):TG:=λv σ H Q=>∃a xs,v= .ref a/\aD K H a xs/\xs.length=n/\t xs σ H Q
theorem MA {es:List Expr}{k:Nat}{t:BK}{n:Nat}(G:X.calm=true)(h:Di X es t)
(O:(assignEach es X.env).length=n:=by rfl)(j:(assignEach es X.env).findIdx? (·.1)=none:=by rfl):PG X (.Tuple es k pos) (PY X.K n t):=by
 intro pins s σ H v u Q I r F;obtain ⟨a,xs,S,L,W,F⟩:=F;subst S;cases r;obtain ⟨its,z,U,Y⟩:=I.tuple L;rwa[assign_Tuple_tuple @gB U (by simp [O,<-W,z.length]) j λh' J=> ?_];have R:aB X pins σ H {s with heap:=h'}:=I.kept (t':=s.toks) λb o e=>J b o (Nat.ne_of_lt @co) e;exact h pins _ σ H xs _ Q R (by simpa using z) F
def RP (to ti:TE)(t:N2):TG:=λv σ H Q=>to σ H λo H1=>ti σ H1 λi H2=>t o i v H2 λH3=>Q σ H3
theorem hU {o i:Expr}{to j:TE}{t:N2}(z:PE X o to)(hi:PE X i j)(hs:G9 X t)
(J:∀v,assign (.Subscript o i pos) X.env v=(do
   let ov<-holding [v] @fO
   let iv<-holding [v,ov] (eval i X.env)
   standAt pos
   holding [v,ov,iv] (setItem ov iv v)
   release [v,ov,iv] []):=by intro _;rfl):PG X (.Subscript o i pos) (RP to j t):=by
 intro pins s σ H v u Q I r h;rw [J];rwa[wpAny_bind (wpAny_holding (bP (z pins s σ H _ I h) λov Y ⟨x,H1,Z,U,L⟩=> ?_))];rwa[wpAny_bind (wpAny_holding (bP (hi pins Y σ H1 _ Z L) λiv R ⟨y,H2,O,W,q2⟩=> ?_))];rwa[wpAny_bind (wpAny_standAt (wpAny_bind (wpAny_holding (bP (hs pins R σ H2 x y v ov iv u _ O U W r q2) λ_ s3 ⟨F,G,S⟩=> ?_))))];exact wpAny_release ⟨σ,F,G,S⟩
def DW (te:TE)(g:TG):TS:=λD σ H=>te σ H λx H1=>g x σ H1 D.nx
theorem g9 {tg e:Expr}{te:TE}{g:TG}(S:PE X e te)(W:PG X tg g)(hs:swapsWithSole [tg] e pos.line X.env=pure false:=by rfl)(F:swappedStores [tg] e X.env=pure none:=by rfl)
(h1:(assignEach [tg] X.env).map (·.2)=[assign tg X.env]:=by rfl):PS X (.Assign [tg] e pos) (DW te g):=by
 intro pins s σ H D I h;rwa[wpAny_Assign_stores (bP @cL λv O ⟨x,H1,J,z,G⟩=> ?_) hs F];rw [h1];exact bP (W pins O σ H1 x v _ J z G) λ_ R q=>q
theorem bp {i:Nat}{x:Str}{e:Expr}{te:TE}{pos':Pos}(j:X.N.Nodup)(hi:X.N[i]? =some x)(z:K9 X.env.scope x)(S:PE X e te)(hs:swapsWith e (some (.Name x pos')) pos.line X.env=pure false:=by rfl)(F:X.fn x=true\/X.env.scope.names.lookup x=some .local:=by first|exact .inl rfl|exact .inr rfl|assumption):
 PS X (.Assign [.Name x pos'] e pos) (DW te (mT i)):=by
 intro pins s σ H D I h;rwa[wpAny_Assign_Name (bP @cL λv U ⟨y,H1,L,J,G⟩=> ?_) hs];exact xg L j hi z J (λR O=>⟨_,H1,O,G⟩) F
end
structure It where
 go:Nat->Hp->Prop
 yld:Nat->Hp->V->Hp->Prop
 stop:Nat->Hp->Prop
def jW (X:Cx)(pins:List (Addr×Obj))(H:Hp)(b:Addr):Prop:=
 H b=none/\b≠X.env.locals/\b∉X.fs/\(b∈X.ex\/X.s₀.heap.objs.size<=b)/\(∀x c,X.env.cells.lookup x=some c->c≠b)/\∀p∈X.pn++pins,p.1≠b
theorem aB.fpOk {X:Cx}{pins:List (Addr×Obj)}{σ:St}{H H':Hp}{s:Shared}{b:Addr}(I:aB X pins σ H s)(F:s.heap.objs.size<=b)(j:H' b=none):jW X pins H' b:=by
 rwa[⟨j,Nat.ne_of_gt (Nat.lt_of_lt_of_le I.lt F),I.nofs F,.inr (Nat.le_trans I.sz F),λx c e z=> ?_,λp G z=> ?_⟩]
 ·obtain ⟨v,q⟩:=I.cell x c e;exact absurd (Nat.lt_of_lt_of_le q.lt (by rw [z];exact F)) @bl
 ·exact absurd (Nat.lt_of_lt_of_le (Heap.lt_size (I.pin p G).1) (by rw [z];exact F)) @bl
structure wM (P:Program)(w:World)(K:Fg)(tg:Expr)(J:It)(fp:List Addr)(it:Addr)(tn:Nat->Heap->Prop):Prop where
 mem:it∈fp
 obj:∀i h,tn i h->∀b∈fp,∃o,h.get? b=some o/\∀v,o.data≠ .cell v
 keep:∀i h h',tn i h->(∀b∈fp,∀o,h.get? b=some o->h'.get? b=some o)->tn i h'
 item:∀(X:Cx),X.prog=P->X.w=w->X.K=K->X.calm=true->∀(i:Nat) (pins:List (Addr×Obj)) (s:Shared) (σ:St) (H:Hp) (E:Value->Shared->Prop),aB X pins σ H s->(∀b∈fp,jW X pins H b)->tn i s.heap->J.go i H->
  wpAny @bg X.A @dn (λr s1=>∃u,r=some u/\
   wpAny @bg X.A @cA (λ_ s2=>∃x H',aB X pins σ H' s2/\aK x u/\J.yld i H x H'/\tn (i+1) s2.heap/\∀b∈fp,H' b=none) E s1) E s
 done:∀(X:Cx),X.prog=P->X.w=w->X.K=K->X.calm=true->∀(i:Nat) (pins:List (Addr×Obj)) (s:Shared) (σ:St) (H:Hp) (E:Value->Shared->Prop),aB X pins σ H s->(∀b∈fp,jW X pins H b)->tn i s.heap->J.stop i H->
  wpAny @bg X.A @dn (λr s1=>r=none/\aB X pins σ H s1) E s
 self:∀(A:Around) (i:Nat) (s:Shared) (Q:Value->Shared->Prop) (E:Value->Shared->Prop),tn i s.heap->Q (.ref it) s->wpAny @bg A (pyIter (.ref it)) Q E s
abbrev TI:=St->Hp->(It->Hp->Prop)->Prop
def R4 (X:Cx)(pins:List (Addr×Obj))(σ:St)(tg:Expr)(R:It->Hp->Prop)(itv:Value)(s2:Shared):Prop:=
 ∃(it:Addr) (fp:List Addr) (tn:Nat->Heap->Prop) (J:It) (H':Hp),itv= .ref it/\aB X pins σ H' s2/\wM X.prog X.w X.K tg J fp it tn/\tn 0 s2.heap/\(∀b∈fp,jW X pins H' b)/\R J H'
def PI (X:Cx)(tg iter:Expr)(wi:TI):Prop:=
 ∀(pins:List (Addr×Obj)) (s:Shared) (σ:St) (H:Hp) (R:It->Hp->Prop),aB X pins σ H s->wi σ H R->
  wpAny @e X.A @eW (λv s1=>wpAny @e X.A (pyIter v) @ey X.xe s1) X.xe s
theorem Bl {M:Model}{A:Around}{E:Value->Shared->Prop}{s:Shared}{tg:Expr}{it:Addr}{u:Value}{o:Obj}{n:String}{vs:Array Value}{Q:Unit->Shared->Prop}(F:s.heap.get? it=some o)(I:o.cls= .type n)(J:o.data= .fields vs)
(j:["enumerate","zip","dict_itemiterator","dict_reverseitemiterator","odict_iterator","itertools.zip_longest","itertools.pairwise"].contains n=false)(z:Q () s):wpAny M A @cA Q E s:=by
 unfold letOwnedTupleGo
 cases tg<;>first
  |exact wpAny_pure z
  |(cases u<;>first
     |exact wpAny_pure z
     |(refine wpAny_bind (wpAny_load F ?_)
       rw [I,J];show wpAny M A (if (["enumerate","zip","dict_itemiterator","dict_reverseitemiterator","odict_iterator","itertools.zip_longest","itertools.pairwise"].contains n&&vs[0]? ==some (rawInt _))=true then _ else _) Q E s;rw [if_neg (by intro h;rw [j,Bool.false_and] at h;cases h)]
       exact wpAny_pure z))
def Hj (K:Fg)(a:Addr):It:=
 ⟨λi H=>∃xs x,aN K H a xs/\xs[i]? =some x,λi H x H'=>H'=H/\∀xs,aN K H a xs->xs[i]? =some x,λi H=>∃xs,aN K H a xs/\xs.length<=i⟩
def Hi (K:Fg)(a:Addr):It:=
 ⟨λi H=>∃xs x,aD K H a xs/\xs[i]? =some x,λi H x H'=>H'=H/\∀xs,aD K H a xs->xs[i]? =some x,λi H=>∃xs,aD K H a xs/\xs.length<=i⟩
def Kx (lo:Int)(n:Nat):It:=⟨λi _=>i<n,λi H x H'=>H'=H/\x= .int (lo+i),λi _=>n<=i⟩
theorem BQ {P:Program}{w:World}{K:Fg}{tg:Expr}(a it:Addr):wM P w K tg @gZ [it] it (λi h=>h.IsListIter it a i) where
 mem:=by simp
 obj:=λi h st b F=>by
  have e:b=it:=by simpa using F
  subst e;obtain ⟨o,e,c,d⟩:=st;exact ⟨o,e,λv z=>by rw [d] at z;cases z⟩
 keep:=λi h h' st k=>st.at λo e=>k it @g o e
 item:=by
  intro X J hw hK hc i pins s σ H E I G st Z;subst J hw hK;obtain ⟨xs,x,L,U⟩:=Z;obtain ⟨its,O,p,hz⟩:=I.list L;obtain ⟨u,hu,ru⟩:=O.get U;obtain ⟨R,S,f2,W,Y,f5⟩:=G it @g;rwa[wpAny_pyNext_list_item st p.isList (x:=u) (by simpa using hu) λh' j sb=> ?_];have I1:aB X pins σ H {s with heap:=h'}:=I.turned (t':=s.toks) (λb o F e=>(sb.2 b F).trans e) R S W Y f5;obtain ⟨o,e,c,d⟩:=id j;exact ⟨u,rfl,Bl (s:= {s with heap:=h'}) e c d @b ⟨x,H,I1,ru,⟨rfl,λys hy=>by rw [I.list_inj hy L];exact U⟩,j,λb F=>(G b F).1⟩⟩
 done:=by
  intro X J hw hK hc i pins s σ H E I G st Z;subst J hw hK;obtain ⟨xs,L,U⟩:=Z;obtain ⟨its,O,p,hz⟩:=I.list L;obtain ⟨R,S,f2,W,Y,f5⟩:=G it @g;have hl:=O.length;exact wpAny_pyNext_list_end @bS st p.isList (by simp;lia) λh' eb=>⟨rfl,I.turned (t':=s.toks) @dv R S W Y f5⟩
 self:=λ_ _ _ _ _ st h=>wpAny_pyIter_listiter st h
theorem yX {P:Program}{w:World}{K:Fg}{tg:Expr}(a it:Addr):wM P w K tg @ha [it] it (λi h=>h.IsTupleIter it a i) where
 mem:=by simp
 obj:=λi h st b F=>by
  have e:b=it:=by simpa using F
  subst e;obtain ⟨o,e,c,d⟩:=st;exact ⟨o,e,λv z=>by rw [d] at z;cases z⟩
 keep:=λi h h' st k=>st.at λo e=>k it @g o e
 item:=by
  intro X J hw hK hc i pins s σ H E I G st Z;subst J hw hK;obtain ⟨xs,x,L,U⟩:=Z;obtain ⟨its,O,p,hz⟩:=I.tuple L;obtain ⟨u,hu,ru⟩:=O.get U;obtain ⟨R,S,f2,W,Y,f5⟩:=G it @g;rwa[wpAny_pyNext_tuple_item st (show s.heap.IsTuple a its.toArray from p) (x:=u) (by simpa using hu) λh' j sb=> ?_];have I1:aB X pins σ H {s with heap:=h'}:=I.turned (t':=s.toks) (λb o F e=>(sb.2 b F).trans e) R S W Y f5;obtain ⟨o,e,c,d⟩:=id j;exact ⟨u,rfl,Bl (s:= {s with heap:=h'}) e c d @b ⟨x,H,I1,ru,⟨rfl,λys hy=>by rw [I.tuple_inj hy L];exact U⟩,j,λb F=>(G b F).1⟩⟩
 done:=by
  intro X J hw hK hc i pins s σ H E I G st Z;subst J hw hK;obtain ⟨xs,L,U⟩:=Z;obtain ⟨its,O,p,hz⟩:=I.tuple L;obtain ⟨R,S,f2,W,Y,f5⟩:=G it @g;have hl:=O.length;exact wpAny_pyNext_tuple_end @bS st (show s.heap.IsTuple a its.toArray from p) (by simp;lia) λh' eb=>⟨rfl,I.turned (t':=s.toks) @dv R S W Y f5⟩
 self:=λ_ _ _ _ _ st h=>wpAny_pyIter_tupleiter st h
theorem yY {P:Program}{w:World}{K:Fg}{tg:Expr}(it:Addr)(lo:Int)(n:Nat):wM P w K tg @gT [it] it (λi h=>IsRangeIter h it (lo+(i:Nat)*1) ((n:Int) - (i:Nat)) 1) where
 mem:=by simp
 obj:=λi h st b F=>by
  have e:b=it:=by simpa using F
  subst e
  exact ⟨_,st,λv z=>by
   have z':Data.fields _=Data.cell v:=z
   cases z'⟩
 keep:=λi h h' st k=>k it @g _ st
 item:=by
  intro X L Z hK J i pins s σ H E I G st U;subst L Z hK;obtain ⟨R,S,f2,O,Y,f5⟩:=G it @g;have W:=Walks.range (prog:=X.prog) (w:=X.w) (I.ok.hd J) it lo 1 n;rwa[W.item i s _ _ U st λv h' tk hv j kk=> ?_];obtain ⟨t,rfl⟩:=hv;have I1:aB X pins σ H {s with heap:=h',toks:=tk}:=I.turned (λb o F e=>kk b o (by simpa using F) e) R S O Y f5;rwa[⟨_,rfl,Bl (s:= {s with heap:=h',toks:=tk}) (n:="range_iterator") j rfl rfl @b ⟨.int (lo+i),H,I1,⟨t,?_⟩,⟨rfl,rfl⟩,j,λb F=>(G b F).1⟩⟩];rw [Int.mul_one]
 done:=by
  intro X L Z hK J i pins s σ H E I G st U;subst L Z hK;obtain ⟨R,S,f2,O,Y,f5⟩:=G it @g;exact wpAny_pyNext_range_end (I.ok.hd J) st (by have:n<=i:=U;lia) λh' eb=>⟨rfl,I.turned (t':=s.toks) @dv R S O Y f5⟩
 self:=λ_ _ _ _ _ st h=>wpAny_pyIter_rangeiter st h
section
variable {X:Cx}{tg:Expr}
theorem EO {pins:List (Addr×Obj)}{σ:St}{H:Hp}{s:Shared}{R:It->Hp->Prop}{E:Value->Shared->Prop}{lo hi:Int}{t u v:Tok}{tk:Nat}(I:aB X pins σ H s)(h1: -(2^62)<=lo)(h2:lo<2^62)(L: -(2^62)<=hi)(j:hi<2^62)
(q:R (Kx lo (hi - lo).toNat) H):wpAny @e X.A (pyIter (.ref s.heap.objs.size)) @ey E {s with heap:=s.heap.push {cls:= .type "range",data:= .fields #[.int lo t,.int hi u,.int 1 v]},toks:=tk}:=by
 rwa[wpAny_pyIter_range (IsRange.new ..) (small_one h1 h2 L j) ?_];have J:aB X pins σ H {s with heap:=s.heap.push {cls:= .type "range",data:= .fields #[.int lo t,.int hi u,.int 1 v]},toks:=tk}:=I.kept λb o e=>Heap.get?_push_of_some _ e
 refine ⟨(s.heap.push {cls:= .type "range",data:= .fields #[.int lo t,.int hi u,.int 1 v]}).objs.size,[(s.heap.push {cls:= .type "range",data:= .fields #[.int lo t,.int hi u,.int 1 v]}).objs.size],_,_,H,rfl,
  J.kept (t':=tk) λb o e=>Heap.get?_push_of_some _ e,yY _ lo (hi - lo).toNat,?_,λb F=> ?_,q⟩
 ·have S:lo+((0:Nat):Int)*1=lo:=by simp
  have z:(((hi - lo).toNat:Nat):Int) - ((0:Nat):Int)=Builtin.Range.rangeSize lo hi 1:=by rw [rangeSize_one];split<;>lia
  show IsRangeIter _ _ (lo+((0:Nat):Int)*1) ((((hi - lo).toNat:Nat):Int) - ((0:Nat):Int)) 1;rw [S,z];exact Heap.get?_push_size _ rfl
 ·have e:b=(s.heap.push {cls:= .type "range",data:= .fields #[.int lo t,.int hi u,.int 1 v]}).objs.size:=by simpa using F
  subst e;exact J.fpOk @f @cp
def Rp (wi:TI)(g:TG)(tb:TS):TS:=λD σ H=>wi σ H λJ H1=>∃W:Nat->Nat->St->Hp->Prop,(∃m,W 0 m σ H1)/\∀i m σ H,W i m σ H->
 (J.stop i H/\D.nx σ H)\/(J.go i H/\∃N:St->Hp->Prop,(∀σ' H',N σ' H'->∃m',m'<m/\W (i+1) m' σ' H')/\∀x H',J.yld i H x H'->g x σ H' λσ2 H2=>tb {D with nx:=N,ct:=N,bk:=D.nx} σ2 H2)
def qW (fp:List Addr)(h:Heap):List (Addr×Obj):=fp.filterMap λb=>(h.get? b).map λo=>(b,o)
theorem i7 {fp:List Addr}{h:Heap}{b:Addr}{o:Obj}(F:b∈fp)(e:h.get? b=some o):(b,o)∈qW fp h:=mem_filterMap.mpr ⟨b,F,by rw [e];rfl⟩
theorem CA {fp:List Addr}{h:Heap}{p:Addr×Obj}(G:p∈qW fp h):p.1∈fp/\h.get? p.1=some p.2:=by
 obtain ⟨b,F,e⟩:=mem_filterMap.mp G
 cases q:h.get? b with
 |none=>rw [q] at e;cases e
 |some o=>
  rw [q] at e;have j:(b,o)=p:=Option.some.inj e;subst j;exact ⟨F,q⟩
theorem aB.pinned {pins:List (Addr×Obj)}{σ:St}{H:Hp}{s:Shared}{fp:List Addr}(I:aB X pins σ H s)(G:∀b∈fp,jW X pins H b)(J:∀b∈fp,∃o,s.heap.get? b=some o/\∀v,o.data≠ .cell v):aB X (pins++qW fp s.heap) σ H s:=
 I.pins_of λp O=>(mem_append.mp O).elim (λz=>I.pin p (mem_append_right _ z)) λz=>by
  obtain ⟨F,e⟩:=CA z;obtain ⟨R,S,L,_⟩:=G p.1 F;obtain ⟨o,j,d⟩:=J p.1 F;rw [e] at j;cases j;exact ⟨e,R,S,L,d⟩
theorem aB.unpinned {pins pl:List (Addr×Obj)}{σ:St}{H:Hp}{s:Shared}(I:aB X (pins++pl) σ H s):aB X pins σ H s:=I.pins_of λp G=>I.pin p (mem_append_right _ @cc)
theorem Mx {iter:Expr}{R:List Stmt}{wi:TI}{g:TG}{tb:TS}{pos:Pos}(hp:PassesOwn @e X.A X.env X.xe)(hc:X.calm=true)(hi:PI X tg iter wi)(hg:PG X tg g)(G:tW X R tb)
(hs:∀x,foldedSetIterable iter X.env x=pure x:=by intro _;rfl):PS X (.For tg iter R [] pos) (Rp wi g tb):=by
 intro pins s σ H D I h;rwa[wpAny_For (bP @cF λv s1 h1=>bP h1 λag s2 h2=> ?_) hs];obtain ⟨it,fp,tn,J,H2,e,I2,T,ae,f2,W,⟨m0,w0⟩,ac⟩:=h2;subst e;have O:∀ {H':Hp},(∀b∈fp,H' b=none)->∀b∈fp,jW X pins H' b:=λhn b G=>⟨hn b G,(f2 b G).2⟩;rwa[codeAny_forLoop_any (λn s'=>∃i Y H',aB X pins Y H' s'/\tn i s'.heap/\(∀b∈fp,H' b=none)/\W i n Y H') ?_ m0 ⟨0,σ,H2,I2,ae,λb G=>(f2 b G).1,w0⟩];rintro n s3 ⟨i,σ3,H3,I3,ab,Z,w3⟩
 rcases ac i n σ3 H3 w3 with ⟨ad,qn⟩|⟨go,N,hN,aa⟩
 ·rwa[wpAny_passesOwn hp (bP (T.done X rfl rfl rfl hc i pins s3 σ3 H3 X.xe I3 (O Z) ab ad) λr s4 ⟨hr,I4⟩=> ?_)];subst hr;exact wpAny_execs_nil ⟨σ3,H3,I4,qn⟩
 ·rwa[wpAny_passesOwn hp (bP (T.item X rfl rfl rfl hc i pins s3 σ3 H3 X.xe I3 (O Z) ab go) λr s4 ⟨u,hr,h4⟩=> ?_)];subst hr;rwa[wpAny_passesOwn hp (bP h4 λ_ s5 ⟨x,H5,I5,r5,y5,U,af⟩=> ?_)];have I5':=I5.pinned (O af) (T.obj _ _ U);rwa[wpAny_passesOwn hp (bP (hg _ s5 σ3 H5 x u _ I5' r5 (aa x H5 y5)) λ_ s6 ⟨σ6,H6,I6,q6⟩=> ?_)];rwa[wpAny_passesOwn hp (bP (G _ s6 σ6 H6 _ I6 q6) λf s7 S=> ?_)]
  have L:∀ {j:St} {z:Hp},aB X (pins++qW fp s5.heap) j z s7->N j z->∃m,m<n/\∃i Y H',aB X pins Y H' s7/\tn i s7.heap/\(∀b∈fp,H' b=none)/\W i m Y H':=λ{j z} F n7=>by
   obtain ⟨m',hm,w7⟩:=hN j z n7;rwa[⟨m',hm,i+1,j,z,F.unpinned,T.keep _ _ _ U λb G o e=>(F.pin (b,o) (mem_append_right _ (mem_append_right _ (i7 G e)))).1,λb G=> ?_,w7⟩];obtain ⟨o,e,d⟩:=T.obj _ _ U b G;exact (F.pin (b,o) (mem_append_right _ (mem_append_right _ (i7 G e)))).2.1
  cases f with
  |next=>obtain ⟨j,z,F,n7⟩:=S;exact L F n7
  |cont=>obtain ⟨j,z,F,n7⟩:=S;exact L F n7
  |brk=>obtain ⟨j,z,F,S⟩:=S;exact ⟨j,z,F.unpinned,S⟩
  |ret v=>obtain ⟨x7,j,z,F,r7,S⟩:=S;exact ⟨x7,j,z,F.unpinned,r7,S⟩
end
theorem Gj {K:Fg}{a:Addr}{xs:List V}{g:TG}{tb:TS}{D:pQ}{σ:St}{H:Hp}(j:Nat->St->Hp->Prop)(F:j 0 σ H)(G:∀i σ H,i<=xs.length->j i σ H->aN K H a xs)
(hs:∀i x σ H,xs[i]? =some x->j i σ H->g x σ H λσ2 H2=>tb {D with nx:=j (i+1),ct:=j (i+1),bk:=D.nx} σ2 H2)(J:∀σ H,j xs.length σ H->D.nx σ H):
 ∃W:Nat->Nat->St->Hp->Prop,(∃m,W 0 m σ H)/\∀i m σ H,W i m σ H->
  ((Hj K a).stop i H/\D.nx σ H)\/((Hj K a).go i H/\∃N:St->Hp->Prop,(∀σ' H',N σ' H'->∃m',m'<m/\W (i+1) m' σ' H')/\∀x H',(Hj K a).yld i H x H'->g x σ H' λσ2 H2=>tb {D with nx:=N,ct:=N,bk:=D.nx} σ2 H2):=by
 rwa[⟨λi m σ H=>m=xs.length - i/\i<=xs.length/\j i σ H,⟨xs.length,by simp,Nat.zero_le _,F⟩,?_⟩];rintro i m σ H ⟨rfl,hi,p⟩;have q:=G i σ H hi p;by_cases z:i<xs.length
 ·rwa[.inr ⟨⟨xs,xs[i],q,by simp [z]⟩,j (i+1),λσ' H' I=>⟨xs.length - (i+1),by lia,rfl,z,I⟩,λx H' y=> ?_⟩];obtain ⟨e,y⟩:=y;subst e;exact hs i x σ _ (y xs q) p
 ·have e:i=xs.length:=by lia
  subst e;exact .inl ⟨⟨xs,q,Nat.le_refl _⟩,J σ H p⟩
theorem J0 {K:Fg}{a:Addr}{xs:List V}{g:TG}{tb:TS}{D:pQ}{σ:St}{H:Hp}(j:Nat->St->Hp->Prop)(F:j 0 σ H)(G:∀i σ H,i<=xs.length->j i σ H->aD K H a xs)
(hs:∀i x σ H,xs[i]? =some x->j i σ H->g x σ H λσ2 H2=>tb {D with nx:=j (i+1),ct:=j (i+1),bk:=D.nx} σ2 H2)(J:∀σ H,j xs.length σ H->D.nx σ H):
 ∃W:Nat->Nat->St->Hp->Prop,(∃m,W 0 m σ H)/\∀i m σ H,W i m σ H->
  ((Hi K a).stop i H/\D.nx σ H)\/((Hi K a).go i H/\∃N:St->Hp->Prop,(∀σ' H',N σ' H'->∃m',m'<m/\W (i+1) m' σ' H')/\∀x H',(Hi K a).yld i H x H'->g x σ H' λσ2 H2=>tb {D with nx:=N,ct:=N,bk:=D.nx} σ2 H2):=by
 rwa[⟨λi m σ H=>m=xs.length - i/\i<=xs.length/\j i σ H,⟨xs.length,by simp,Nat.zero_le _,F⟩,?_⟩];rintro i m σ H ⟨rfl,hi,p⟩;have q:=G i σ H hi p;by_cases z:i<xs.length
 ·rwa[.inr ⟨⟨xs,xs[i],q,by simp [z]⟩,j (i+1),λσ' H' I=>⟨xs.length - (i+1),by lia,rfl,z,I⟩,λx H' y=> ?_⟩];obtain ⟨e,y⟩:=y;subst e;exact hs i x σ _ (y xs q) p
 ·have e:i=xs.length:=by lia
  subst e;exact .inl ⟨⟨xs,q,Nat.le_refl _⟩,J σ H p⟩
theorem CW {lo:Int}{n:Nat}{g:TG}{tb:TS}{D:pQ}{σ:St}{H:Hp}(j:Nat->St->Hp->Prop)(F:j 0 σ H)
(hs:∀i σ H,i<n->j i σ H->g (.int (lo+i)) σ H λσ2 H2=>tb {D with nx:=j (i+1),ct:=j (i+1),bk:=D.nx} σ2 H2)(J:∀σ H,j n σ H->D.nx σ H):
 ∃W:Nat->Nat->St->Hp->Prop,(∃m,W 0 m σ H)/\∀i m σ H,W i m σ H->
  ((Kx lo n).stop i H/\D.nx σ H)\/((Kx lo n).go i H/\∃N:St->Hp->Prop,(∀σ' H',N σ' H'->∃m',m'<m/\W (i+1) m' σ' H')/\∀x H',(Kx lo n).yld i H x H'->g x σ H' λσ2 H2=>tb {D with nx:=N,ct:=N,bk:=D.nx} σ2 H2):=by
 rwa[⟨λi m σ H=>m=n - i/\i<=n/\j i σ H,⟨n,by simp,Nat.zero_le _,F⟩,?_⟩];rintro i m σ H ⟨rfl,hi,p⟩;by_cases z:i<n
 ·rwa[.inr ⟨z,j (i+1),λσ' H' I=>⟨n - (i+1),by lia,rfl,z,I⟩,λx H' y=> ?_⟩];obtain ⟨e,y⟩:=y;subst e y;exact hs i σ _ z p
 ·have e:i=n:=by lia
  subst e;exact .inl ⟨Nat.le_refl _,J σ H p⟩
abbrev R2:=V->V->Hp->VK->Prop
def dE (X:Cx)(f:Value->Value->Sem Value)(r:R2):Prop:=
 ∀(pins:List (Addr×Obj)) (s:Shared) (σ:St) (H:Hp) (x y:V) (v u:Value) (Q:VK),aB X pins σ H s->aK x v->aK y u->r x y H Q->
  wpAny @e X.A (f v u) @A X.xe s
def Od (X:Cx)(f:Value->Sem Value)(r:V->Hp->VK->Prop):Prop:=
 ∀(pins:List (Addr×Obj)) (s:Shared) (σ:St) (H:Hp) (x:V) (v:Value) (Q:VK),aB X pins σ H s->aK x v->r x H Q->
  wpAny @e X.A (f v) @A X.xe s
def bR (X:Cx)(f:Value)(r:List V->Hp->VK->Prop):Prop:=
 ∀(pins:List (Addr×Obj)) (s:Shared) (σ:St) (H:Hp) (xs:List V) (us:List Value) (Q:VK),aB X pins σ H s->aU xs us->r xs H Q->
  wpAny @e X.A (call f us) @A X.xe s
def R0 (X:Cx)(r:V->Hp->(Bool->Hp->Prop)->Prop):Prop:=
 ∀(pins:List (Addr×Obj)) (s:Shared) (σ:St) (H:Hp) (x:V) (v:Value) (Q:Bool->Hp->Prop),aB X pins σ H s->aK x v->r x H Q->
  wpAny @e X.A (truthy v) @dP X.xe s
def Qv (r:R2)(ta tb:TE):TE:=λσ H Q=>ta σ H λx H1=>tb σ H1 λy H2=>r x y H2 Q
def So (r:V->Hp->VK->Prop)(ta:TE):TE:=λσ H Q=>ta σ H λx H1=>r x H1 Q
def rI (C:Int->Int->Prop)(g:Int->Int->V):R2:=λx y H Q=>∃i j,x= .int i/\y= .int j/\C i j/\Q @de H
def ER (g:Int->Int->V):R2:=λx y H Q=>∃i j,x= .int i/\y= .int j/\Q @de H
def rU (g:Int->V):V->Hp->VK->Prop:=λx H Q=>∃i,x= .int i/\Q (g i) H
section
variable {X:Cx}{a b c:Expr}{ta tb tc:TE}{pos:Pos}
theorem NY (j:PE X a ta)(U:PE X b tb){pins:List (Addr×Obj)}{s:Shared}{σ:St}{H:Hp}{R:V->V->Hp->Prop}(I:aB X pins σ H s)
(h:ta σ H λx H1=>tb σ H1 λy H2=>R x y H2){Q:Value->Shared->Prop}{f:Value->Value->Sem Value}
(z:∀v u s2 x y H2,aB X pins σ H2 s2->aK x v->aK y u->R x y H2->wpAny @e X.A (f v u) Q X.xe s2):
 wpAny @e X.A (eval a X.env) (λv s₁=>wpAny @e X.A (eval b X.env) (λu s₂=>wpAny @e X.A (f v u) Q X.xe s₂) X.xe s₁) X.xe s:=by
 rwa[bP @L λv J ⟨x,H1,L,F,G⟩=> ?_];rwa[bP (U pins J σ H1 _ L G) λu s2 ⟨y,H2,O,W,S⟩=> ?_];exact z v u s2 x y H2 O F W S
theorem bT {j:Operator}{r:R2}(F:dE X (binaryOp j) r)(G:PE X a ta)(L:PE X b tb):PE X (.BinOp a j b pos) @fe:=by
 intro pins s σ H Q I h;exact wpAny_BinOp (NY G L I h λv u R x y H2 O J z q=>F pins R σ H2 x y v u Q O J z q)
theorem KR {j:UnaryOp}{r:V->Hp->VK->Prop}(z:Od X (unaryOp j) r)(G:PE X a ta):PE X (.UnaryOp j a pos) (So r ta):=by
 intro pins s σ H Q I h;exact UnaryOp_ (bP (G pins s σ H _ I h) λv O ⟨x,H1,L,F,J⟩=>z pins O σ H1 x v Q L F J)
theorem Ob {f:Value->Value->Sem Value}{C:Int->Int->Prop}{g:Int->Int->Int}
(z:∀(i j:Int) (t u:Tok) (s:Shared) (Q:Value->Shared->Prop) (E:Value->Shared->Prop),C i j->Q (.int @de s.toks) {s with toks:=s.toks+1}->wpAny @e X.A @dp Q E s):
 dE X f (rI C λi j=> .int @de):=by
 intro pins s σ H x y v u Q I L F h;obtain ⟨i,j,rfl,rfl,G,q⟩:=h;obtain ⟨t,rfl⟩:=L;obtain ⟨J,rfl⟩:=F;exact z i j t J s _ _ G ⟨.int @de,H,I.tok _,⟨_,rfl⟩,q⟩
theorem Jc {f:Value->Value->Sem Value}{g:Int->Int->Int}
(z:∀(i j:Int) (t u:Tok) (s:Shared) (Q:Value->Shared->Prop) (E:Value->Shared->Prop),Q (.int @de s.toks) {s with toks:=s.toks+1}->wpAny @e X.A @dp Q E s):
 dE X f (ER λi j=> .int @de):=by
 intro pins s σ H x y v u Q I J F h;obtain ⟨i,j,rfl,rfl,q⟩:=h;obtain ⟨t,rfl⟩:=J;obtain ⟨G,rfl⟩:=F;exact z i j t G s _ _ ⟨.int @de,H,I.tok _,⟨_,rfl⟩,q⟩
theorem Jd {f:Value->Value->Sem Value}{g:Int->Int->Bool}
(z:∀(i j:Int) (t u:Tok) (s:Shared) (Q:Value->Shared->Prop) (E:Value->Shared->Prop),Q (.bool @de) s->wpAny @e X.A @dp Q E s):
 dE X f (ER λi j=> .bl @de):=by
 intro pins s σ H x y v u Q I J F h;obtain ⟨i,j,rfl,rfl,q⟩:=h;obtain ⟨t,rfl⟩:=J;obtain ⟨G,rfl⟩:=F;exact z i j t G s _ _ ⟨.bl @de,H,I,rfl,q⟩
def Dp (i j:Int):Prop:=0<j/\j<1073741824
def AI (i j:Int):Prop:=0<=j/\j<=1000000/\i.natAbs<2^64
def wR (i j:Int):Prop:=(-(2^64)<i/\i<2^64)\/(-(2^64)<j/\j<2^64)
theorem wR.ok {i j:Int}(h:wR i j):IntMulOk i j:=by
 rcases h with ⟨h1,h2⟩|⟨h1,h2⟩
 ·exact .of_left (intBits_le_64 h1 h2)
 ·exact .of_right (intBits_le_64 h1 h2)
theorem MP:dE X @bQ (ER λi j=> .int (i+j)):=Jc λ_ _ _ _ _ _ _ q=>add_int q
theorem MG:dE X (binaryOp .Sub) (ER λi j=> .int (i - j)):=Jc λ_ _ _ _ _ _ _ q=>sub_int q
theorem MJ:dE X @dQ (rI wR λi j=> .int (i*j)):=Ob λ_ _ _ _ _ _ _ I q=>mul_int q I.ok
theorem I9:dE X (binaryOp .FloorDiv) (rI Dp λi j=> .int (i / j)):=Ob λi j _ _ _ _ _ I q=>by
 have h1:(0:Int)<j:=I.1;have h2:j<1073741824:=I.2;exact floordiv_int @c (by rw [Int.fdiv_eq_ediv_of_nonneg i @c];exact q) (.inl (PyProof.noPylong_small @c))
theorem MK:dE X (binaryOp .Mod) (rI (λ_ j=>0<j) λi j=> .int (i% j)):=Ob λi j _ _ _ _ _ I q=>by
 have h1:(0:Int)<j:=I;exact mod_int' @c (by rw [Int.fmod_eq_emod_of_nonneg i @c];exact q)
theorem MI:dE X (binaryOp .Pow) (rI AI λi j=> .int (i^j.toNat)):=Ob λ_ _ _ _ _ _ _ I q=>pow_int_small I.1 I.2.1 I.2.2 q
theorem MH:dE X (binaryOp .LShift) (rI AI λi j=> .int (i*2^j.toNat)):=Ob λ_ _ _ _ _ _ _ I q=>lshift_int_small I.1 I.2.1 I.2.2 q
theorem MO:dE X (binaryOp .BitAnd) (ER λi j=> .int (Builtin.bitAnd i j)):=Jc λ_ _ _ _ _ _ _ q=>and_int q
theorem Po:dE X (binaryOp .BitOr) (ER λi j=> .int (Builtin.bitOr i j)):=Jc λ_ _ _ _ _ _ _ q=>or_int q
theorem Sn {f:Value->Sem Value}{g:Int->Int}
(z:∀(i:Int) (t:Tok) (s:Shared) (Q:Value->Shared->Prop) (E:Value->Shared->Prop),Q (.int (g i) s.toks) {s with toks:=s.toks+1}->wpAny @e X.A (f (.int i t)) Q E s):
 Od X f (rU λi=> .int (g i)):=by
 intro pins s σ H x v Q I J h;obtain ⟨i,rfl,q⟩:=h;obtain ⟨t,rfl⟩:=J;exact z i t s _ _ ⟨.int (g i),H,I.tok _,⟨_,rfl⟩,q⟩
theorem LB:Od X (unaryOp .USub) (rU λi=> .int (-i)):=Sn λ_ _ _ _ _ q=>neg_int q
end
noncomputable def Mb:V->V->Bool
 | .non,.non=>true| .non,.int _=>true| .int _,.non=>true| .non,.bl _=>true| .bl _,.non=>true| .non,.str _=>true| .str _,.non=>true
 | .int _,.int _=>true| .bl _,.bl _=>true| .str _,.str _=>true| .byt _,.byt _=>true
 | .int _,.str _=>true| .str _,.int _=>true| .bl _,.str _=>true| .str _,.bl _=>true
 |_,_=>false
def Sx:R2:=λx y H Q=>Mb x y=true/\Q (.bl (decide (x=y))) H
def Sw:R2:=λx y H Q=>Mb x y=true/\Q (.bl (!decide (x=y))) H
theorem Bp {i j:Int}:decide (V.int i=V.int j)=(i==j):=by
 rw [Bool.eq_iff_iff];simp
theorem GI {i j:Bool}:decide (V.bl i=V.bl j)=(i==j):=by
 rw [Bool.eq_iff_iff];simp
theorem Bo {i j:Str}:decide (V.str i=V.str j)=(i==j):=by
 rw [Bool.eq_iff_iff];simp
theorem Bq {i j:Array UInt8}:decide (V.byt i=V.byt j)=(i.toList==j.toList):=by
 rw [Bool.eq_iff_iff];cases i;cases j;simp
section
variable {X:Cx}{a b c:Expr}{ta tb tc:TE}{pos:Pos}
theorem bq {pins:List (Addr×Obj)}{σ:St}{H:Hp}{s:Shared}{Q:VK}{k j:Bool}(I:aB X pins σ H s)(q:Q (.bl k) H)(e:k=j):EP X pins σ Q (.bool j) s:=by
 subst e;exact ⟨.bl k,H,I,rfl,q⟩
theorem Pu:dE X (compareOp .Eq) Sx:=by
 intro pins s σ H x y v u Q I J z h;obtain ⟨hs,q⟩:=h
 cases x with
 |non=>
  cases J
  cases y with
  |non=>cases z;exact PySem.EqNone.eq_none_none @Q
  |bl j=>cases z;exact PySem.EqNone.eq_none_bool @Q
  |int j=>obtain ⟨F,rfl⟩:=z;exact PySem.EqNone.eq_none_int @Q
  |str j=>obtain ⟨F,rfl⟩:=z;exact PySem.EqNone.eq_none_str @Q
  |_=>exact absurd (show false=true from hs) Bool.false_ne_true
 |bl i=>
  cases J
  cases y with
  |non=>cases z;exact PySem.EqNone.eq_bool_none @Q
  |bl j=>cases z;exact eq_bool (bq I q GI)
  |str j=>obtain ⟨F,rfl⟩:=z;exact PySem.EqMixed.eq_bool_str @Q
  |_=>exact absurd (show false=true from hs) Bool.false_ne_true
 |int i=>
  obtain ⟨t,rfl⟩:=J
  cases y with
  |non=>cases z;exact PySem.EqNone.eq_int_none @Q
  |int j=>obtain ⟨F,rfl⟩:=z;exact eq_int (bq I q Bp)
  |str j=>obtain ⟨F,rfl⟩:=z;exact PySem.EqMixed.eq_int_str @Q
  |_=>exact absurd (show false=true from hs) Bool.false_ne_true
 |str i=>
  obtain ⟨t,rfl⟩:=J
  cases y with
  |non=>cases z;exact PySem.EqNone.eq_str_none @Q
  |bl j=>cases z;exact PySem.EqMixed.eq_str_bool @Q
  |int j=>obtain ⟨F,rfl⟩:=z;exact PySem.EqMixed.eq_str_int @Q
  |str j=>obtain ⟨F,rfl⟩:=z;exact eq_str (bq I q Bo)
  |_=>exact absurd (show false=true from hs) Bool.false_ne_true
 |byt i=>
  obtain ⟨t,rfl⟩:=J
  cases y with
  |byt j=>obtain ⟨F,rfl⟩:=z;exact W.eq_bytes (bq I q Bq)
  |_=>exact absurd (show false=true from hs) Bool.false_ne_true
 |_=>cases y<;>exact absurd (show false=true from hs) Bool.false_ne_true
theorem Pp:dE X (compareOp .NotEq) Sw:=by
 intro pins s σ H x y v u Q I J z h;obtain ⟨hs,q⟩:=h
 cases x with
 |non=>
  cases J
  cases y with
  |non=>cases z;exact PySem.EqNone.ne_none_none @Q
  |bl j=>cases z;exact PySem.EqNone.ne_none_bool @Q
  |int j=>obtain ⟨F,rfl⟩:=z;exact PySem.EqNone.ne_none_int @Q
  |str j=>obtain ⟨F,rfl⟩:=z;exact PySem.EqNone.ne_none_str @Q
  |_=>exact absurd (show false=true from hs) Bool.false_ne_true
 |bl i=>
  cases J
  cases y with
  |non=>cases z;exact PySem.EqNone.ne_bool_none @Q
  |bl j=>cases z;exact ne_bool (bq I q (congrArg not GI))
  |str j=>obtain ⟨F,rfl⟩:=z;exact PySem.EqMixed.ne_bool_str @Q
  |_=>exact absurd (show false=true from hs) Bool.false_ne_true
 |int i=>
  obtain ⟨t,rfl⟩:=J
  cases y with
  |non=>cases z;exact PySem.EqNone.ne_int_none @Q
  |int j=>obtain ⟨F,rfl⟩:=z;exact ne_int (bq I q (congrArg not Bp))
  |str j=>obtain ⟨F,rfl⟩:=z;exact PySem.EqMixed.ne_int_str @Q
  |_=>exact absurd (show false=true from hs) Bool.false_ne_true
 |str i=>
  obtain ⟨t,rfl⟩:=J
  cases y with
  |non=>cases z;exact PySem.EqNone.ne_str_none @Q
  |bl j=>cases z;exact PySem.EqMixed.ne_str_bool @Q
  |int j=>obtain ⟨F,rfl⟩:=z;exact PySem.EqMixed.ne_str_int @Q
  |str j=>obtain ⟨F,rfl⟩:=z;exact ne_str (bq I q (congrArg not Bo))
  |_=>exact absurd (show false=true from hs) Bool.false_ne_true
 |byt i=>
  obtain ⟨t,rfl⟩:=J
  cases y with
  |byt j=>obtain ⟨F,rfl⟩:=z;exact W.ne_bytes (bq I q (congrArg not Bq))
  |_=>exact absurd (show false=true from hs) Bool.false_ne_true
 |_=>cases y<;>exact absurd (show false=true from hs) Bool.false_ne_true
theorem Pq:dE X (compareOp .Lt) (ER λi j=> .bl (decide (i<j))):=Jd λ_ _ _ _ _ _ _ q=>lt_int q
theorem Pr:dE X (compareOp .LtE) (ER λi j=> .bl (decide (i<=j))):=Jd λ_ _ _ _ _ _ _ q=>le_int q
theorem Ps:dE X (compareOp .Gt) (ER λi j=> .bl (decide (j<i))):=Jd λ_ _ _ _ _ _ _ q=>gt_int q
theorem Pt:dE X (compareOp .GtE) (ER λi j=> .bl (decide (j<=i))):=Jd λ_ _ _ _ _ _ _ q=>ge_int q
theorem Ck:dE X @cB (λx y H Q=>∃i j,x= .str i/\y= .str j/\Q (.bl (!(Builtin.Str.occurrences j i 0 j.length 1).isEmpty)) H):=by
 intro pins s σ H x y v u Q I J z h;obtain ⟨i,j,rfl,rfl,q⟩:=h;obtain ⟨t,rfl⟩:=J;obtain ⟨F,rfl⟩:=z;exact in_str (bq I q rfl)
theorem ML:dE X (compareOp .Is) (λx y H Q=>y= .non/\Q (.bl (decide (x= .non))) H):=by
 intro pins s σ H x y v u Q I J z h;obtain ⟨rfl,q⟩:=h;cases z;rwa[is_none_gen (bq I q ?_)]
 cases x<;>first
  |(cases J;rfl)
  |(obtain ⟨t,rfl⟩:=J;rfl)
theorem vZ:dE X @ds (λx y H Q=>∃i j,x= .str i/\y= .str j/\Q (.bl (!(!(Builtin.Str.occurrences j i 0 j.length 1).isEmpty))) H):=by
 intro pins s σ H x y v u Q I J z h;obtain ⟨i,j,rfl,rfl,q⟩:=h;obtain ⟨t,rfl⟩:=J;obtain ⟨F,rfl⟩:=z;exact notIn_str (bq I q rfl)
theorem dE.or {f:Value->Value->Sem Value}{r O:R2}(h:dE X f r)(h':dE X f O):dE X f (λx y H Q=>r x y H Q\/O x y H Q):=by
 intro pins s σ H x y v u Q I J z q
 rcases q with q|q
 ·exact h pins s σ H x y v u Q I J z q
 ·exact h' pins s σ H x y v u Q I J z q
theorem aG (b:Expr){j:CmpOp}(h:j≠ .In:=by decide)(h2:j≠ .NotIn:=by decide):behindInMarks j b=false:=by
 have S:(j==CmpOp.In)=false:=by cases j<;>first|rfl|exact absurd rfl h
 have R:(j==CmpOp.NotIn)=false:=by cases j<;>first|rfl|exact absurd rfl h2
 cases b<;>simp [behindInMarks,S,R]
theorem b9 {j:CmpOp}{r:R2}(F:dE X @eI r)(G:PE X a ta)(S:PE X b tb)(L:behindInMarks j b=false):PE X (.Compare a [j] [b] pos) @fe:=by
 intro pins s σ H Q I h;exact wpAny_Compare1 (NY G S I h λv u R x y H2 O J z q=>F pins R σ H2 x y v u Q O J z q) L
def Qh (K:Fg)(x:V)(H:Hp)(k:Bool):Prop:=
 match x with
 | .non=>k=false
 | .bl b=>k=b
 | .int i=>k=(i != 0)
 | .str y=>y.length<=sizeLine/\k=((y.length:Int) != 0)
 | .byt y=>y.size<=sizeLine/\k=((y.size:Int) != 0)
 | .ref p=>(∃xs,aN K H p xs/\k= !xs.isEmpty)\/(∃xs,aD K H p xs/\k= !xs.isEmpty)\/∃kvs,H p=some (.dK kvs)/\k= !kvs.isEmpty
 |_=>False
theorem Al {κ:Type}{kvs:List (κ×V)}{vs:List (κ×Value)}(r:KV kvs vs):(!vs.isEmpty)= !kvs.isEmpty:=by
 cases r<;>rfl
theorem rG {xs:List V}{its:List Value}(r:aU xs its):(!its.toArray.isEmpty)= !xs.isEmpty:=by
 cases r<;>simp
theorem lH:(sizeLine:Nat)<2^63:=by rw [sizeLine_eq];decide
theorem jx:R0 X (λx H Q=>∃k,Qh X.K x H k/\Q k H):=by
 intro pins s σ H x v Q I J h;obtain ⟨k,e,q⟩:=h;have S:=lH;have hs:sizeLine=16777216:=sizeLine_eq
 cases x with
 |non=>
  cases J;have j:k=false:=e;subst j;exact truthy_none ⟨H,I,q⟩
 |bl b=>
  cases J;have j:k=b:=e;subst j;exact wpAny_truthy_bool ⟨H,I,q⟩
 |int i=>
  obtain ⟨t,rfl⟩:=J;have j:k=(i != 0):=e;subst j;exact PySem.P.truthy_int ⟨H,I,q⟩
 |str y=>
  obtain ⟨t,rfl⟩:=J;obtain ⟨R,j⟩:y.length<=sizeLine/\k=((y.length:Int) != 0):=e;subst j;exact PySem.P.truthy_str @c ⟨H,I.tok _,q⟩
 |byt y=>
  obtain ⟨t,rfl⟩:=J;obtain ⟨R,j⟩:y.size<=sizeLine/\k=((y.size:Int) != 0):=e;subst j;exact W.truthy_bytes @c ⟨H,I.tok _,q⟩
 |ref p=>
  cases J;have j:(∃xs,aN X.K H p xs/\k= !xs.isEmpty)\/(∃xs,aD X.K H p xs/\k= !xs.isEmpty)\/∃kvs,H p=some (.dK kvs)/\k= !kvs.isEmpty:=e
  rcases j with ⟨xs,F,j⟩|⟨xs,F,j⟩|⟨kvs,F,j⟩
  ·subst j;obtain ⟨its,r,pl,G⟩:=I.list F;have z:=r.length;exact wpAny_truthy_list pl.isList (by simp only [size_toArray];lia) ⟨H,I.tok _,by rw [rG r];exact q⟩
  ·subst j;obtain ⟨its,r,pl,G⟩:=I.tuple F;have z:=r.length;exact truthy_tuple pl (by simp only [size_toArray];lia) ⟨H,I.tok _,by rw [rG r];exact q⟩
  ·subst j;obtain ⟨G,O,L,r,m⟩:kvs.length<=sizeLine/\(p==sysModules)=false/\∃L,KV kvs L/\s.heap.DictOf (cr X.prog X.w) p L:=I.hok p _ F;have z:kvs.length=L.length:=Paired.length r;exact wpAny_truthy_dict O m @c ⟨H,I.tok _,by rw [Al r];exact q⟩
 |_=>exact (show False from e).elim
theorem zX:dE X @bQ (λx y H Q=>∃i j,x= .str i/\y= .str j/\i.length+j.length<=sizeLine/\Q (.str (i++j)) H):=by
 intro pins s σ H x y v u Q I J G h;obtain ⟨i,j,rfl,rfl,F,q⟩:=h;obtain ⟨t,rfl⟩:=J;obtain ⟨z,rfl⟩:=G;exact add_str (λz tk=>⟨.str (i++j),H,I.tok _,⟨_,rfl⟩,q⟩) F
theorem kx {x:V}{us:List Value}(r:aU [x] us):∃u,us=[u]/\aK x u:=by
 cases r with
 |cons r1 r2=>cases r2;exact ⟨_,rfl,r1⟩
theorem AN {x y:V}{us:List Value}(r:aU [x,y] us):∃u w',us=[u,w']/\aK x u/\aK y w':=by
 cases r with
 |cons r1 r2=>
  cases r2 with
  |cons r3 r4=>cases r4;exact ⟨_,_,rfl,r1,r3⟩
theorem GS:bR X (.builtin "abs") (λxs H Q=>∃i,xs=[.int i]/\Q (.int (if i<0 then -i else i)) H):=by
 intro pins s σ H xs j Q I r h;obtain ⟨i,rfl,q⟩:=h;obtain ⟨u,rfl,t,rfl⟩:=kx r;exact call_abs_int λu tk=>⟨.int (if i<0 then -i else i),H,I.tok _,⟨_,rfl⟩,q⟩
theorem C9 (z:X.calm=true):bR X (.builtin "max") (λxs H Q=>∃i j,xs=[.int i,.int j]/\Q (.int (if j>i then j else i)) H):=by
 intro pins s σ H xs J Q I r h;obtain ⟨i,j,rfl,q⟩:=h;obtain ⟨u,F,rfl,⟨t,rfl⟩,⟨G,rfl⟩⟩:=AN r;rwa[max_two_ints (I.ok.hd z) λh' tk k=>⟨_,H,I.kept k,?_,q⟩];by_cases Z:j>i
 ·rw [if_pos Z,if_pos Z];exact ⟨_,rfl⟩
 ·rw [if_neg Z,if_neg Z];exact ⟨_,rfl⟩
end
structure AC (h:Heap)(x dx C:Addr)(mA:Str->Option Value):Prop where
 obj:h.get? x=some @dS
 ns:h.Ns1 dx mA
 ne:dx≠x
theorem CI {h:Heap}{dx:Addr}{mA:Str->Option Value}(n:h.Ns1 dx mA):∃od,h.get? dx=some od/\∀name,W.lookIn name od=some (mA name):=by
 obtain ⟨o,es,O,I,J,R,_,F⟩:=n;rwa[⟨o,I,λname=> ?_⟩];have e:=F name;unfold nsFind findBy at e;rw [<-Array.find?_toList] at e;unfold W.lookIn;rw [J];dsimp only;split
 ·rename_i y q;rw [q] at e;exact congrArg some e
 ·rename_i q;rw [q] at e
  have a:es.toList.any (·.refKey)=false:=by
   rw [any_eq_false];intro y L;obtain ⟨z,t,j⟩:=R y (Array.mem_toList_iff.mp L);simp [DictEntry.refKey,j]
  have G: ¬es.toList.any (·.refKey)=true:=by rw [a];exact Bool.false_ne_true
  rw [if_neg G];exact congrArg some e
theorem AC.look {h:Heap}{x dx C:Addr}{mA:Str->Option Value}(I:AC h x dx C mA):∃od,PySem.W.InstAt h x @dS C (some od)/\∀name,W.lookIn name od=some (mA name):=
 let ⟨od,ho,hl⟩:=CI I.ns
 ⟨od,⟨I.obj,rfl,rfl,ho⟩,hl⟩
section
variable {prog:Program}{w:World}{A:Around}{E:Value->Shared->Prop}{s:Shared}{K:Fg}{x dx C f:Addr}{mA:Str->Option Value}{name:Str}{v:Value}
theorem JV {j:Bool}{Q:Value->Shared->Prop}(X:K.In s.heap)(I:AC s.heap x dx C mA)(R:W.plainGet K C name=true)(L:W.hasDictIn K C=true)
(G:W.findIn K (.ref C) name=some none)(F:mA name=some v)(z:W.handedIn v=true)(h:Q v {s with toks:=s.toks+1}):
 wpAny @m A (getAttr (.ref x) name j) Q E s:=by
 obtain ⟨S,J,O⟩:=I.look;exact W.get_value X J (W.plainGet_of R).1 (W.findObj_own L G rfl (by rw [O,F])) z h
theorem Gd {pl:Sem Bool}{Q:Value×List Value->Shared->Prop}(X:K.In s.heap)(I:AC s.heap x dx C mA)(j:W.plainGet K C name=true)
(z:W.findIn K (.ref C) name=some @bf)(O:W.isFn K (.ref f)=true)(F:mA name=none)(h:Q (.ref f,[.ref x]) s):
 wpAny @m A (getMethod (.ref x) name pl) Q E s:=by
 obtain ⟨G,J,L⟩:=I.look;exact W.method_fn X J (W.plainGet_of j).1 (W.plainGet_of j).2 z (beq_iff_eq.mp O) (by show (W.lookIn name G).map (·.isSome)=some false;rw [L,F];rfl) h
theorem Ir {R:List Str}{Q:Unit->Shared->Prop}(X:K.In s.heap)(I:AC s.heap x dx C mA)
(hs:W.findIn K (.ref C) "__setattr__"=some (some (.builtin "object.__setattr__")))(hp:W.plainOver K C=true)(ht:W.takerIn K C name=some none)(hh:W.hasDictIn K C=true)
(Y:PySem.Within mA R)(hsz:R.length<=sizeLine)
(h:∀h',AC h' x dx C (λy=>if y=name then some v else mA y)->Heap.SameBut dx s.heap h'->Q () {s with heap:=h',toks:=s.toks+2}):
 wpAny @m A (setAttr (.ref x) name v) Q E s:=by
 obtain ⟨od,J,hl⟩:=I.look;rwa[W.set_plain X J hs (W.osa_open (s:= {s with toks:=s.toks+1}) (r:=none) X J hp ht λb=> ?_)];obtain ⟨cd,S,G⟩:=W.any_some hh;have Z:s.heap.get? x=some ⟨.ref C,some dx,.plain,#[]⟩:=I.obj;rwa[wpAny_bind (wpAny_pure (wpAny_bind (wpAny_bind (wpAny_loadPart Z (wpAny_bind (PySem.W.Looks.here (s:= {s with toks:=s.toks+1}) (W.looks_clsIn X S) ?_))))))];rw [G];rwa[wpAny_pure (a:=some dx) (wpAny_bind (wpAny_pure @fx))];rwa[wpAny_nsSet1 (s:= {s with toks:=s.toks+1}) I.ns λh' j z=> ?_];obtain ⟨oD,aa,U,L,F,O⟩:=j.count (PySem.Within.cons name v Y);rwa[wpAny_bind (wpAny_lookBehind L (by rw [F];exact pastItsLine_dict (Nat.le_trans O (by rw [length_cons];lia))) ?_)];exact wpAny_pure (h _ ⟨(z.2 _ (Ne.symm I.ne)).trans I.obj,j,I.ne⟩ z)
theorem FW {R:Result->Shared->Prop}{vs:List Value}{z:List (Str×Value)}(X:K.In s.heap)(F:W.makesIn K C=true)
(hi:W.findIn K (.ref C) "__init__"=some @bf)(G:W.typeIn K (.ref f)=some (.type "function"))
(h:codeAny @m (A.under (.builtin "type.__call__" ⟨.ref C::vs,z⟩)) (.call (.ref f) ⟨.ref (s.heap.objs.size+1)::vs,z⟩) (PySem.W.InitBack (s.heap.objs.size+1) R)
   {s with heap:=(s.heap.push W.emptyDict).push @z}):
 codeAny @m A (.call (.ref C) ⟨vs,z⟩) R s:=by
 obtain ⟨L,g,d,t,os⟩:=s;exact W.make_core (W.makes_of X F) (W.looks_findIn X hi) (λj=>W.bind_fn X j G) (.inl rfl) h
theorem CG {R:Result->Shared->Prop}(X:K.In s.heap)(F:W.makesIn K C=true)
(hi:W.findIn K (.ref C) "__init__"=some (some (.builtin "object.__init__")))
(j:∀self,PySem.W.Looks @m s.heap (bindSpecial (.builtin "object.__init__") self) (.builtin "object.__init__",[self]))
(h:codeAny @m (A.under (.builtin "type.__call__" ⟨[.ref C],[]⟩)) (.call (.builtin "object.__init__") ⟨[.ref (s.heap.objs.size+1)],[]⟩) (PySem.W.InitBack (s.heap.objs.size+1) R)
   {s with heap:=(s.heap.push W.emptyDict).push @z}):
 codeAny @m A (.call (.ref C) ⟨[],[]⟩) R s:=by
 obtain ⟨L,g,d,t,os⟩:=s;exact W.make_core (W.makes_of X F) (W.looks_findIn X hi) j (.inr ⟨rfl,rfl⟩) h
end
noncomputable def putF (f:Str)(v:V):List (Str×V)->List (Str×V)
 |[]=>[(f,v)]
 |(g,x)::r=>if g=f then (g,v)::r else (g,x)::putF f v r
theorem pi (f g:Str)(v:V):∀fs:List (Str×V),(putF f v fs).lookup g=if g=f then some v else fs.lookup g
 |[]=>by
  show List.lookup g [(f,v)]=_;by_cases h:g=f
  ·have F:(g==f)=true:=beq_iff_eq.mpr h;simp only [List.lookup,F,if_pos h]
  ·have F:(g==f)=false:=beq_eq_false_iff_ne.mpr h;simp only [List.lookup,F,if_neg h]
 |(k,x)::r=>by
  have j:=pi f g v r;rw [show putF f v ((k,x)::r)=(if k=f then (k,v)::r else (k,x)::putF f v r) from rfl];by_cases R:k=f
  ·rw [if_pos R];by_cases h:g=k
   ·have F:(g==k)=true:=beq_iff_eq.mpr h;simp only [List.lookup,F,if_pos (h.trans R)]
   ·have F:(g==k)=false:=beq_eq_false_iff_ne.mpr h;simp only [List.lookup,F,if_neg (λe:g=f=>h (e.trans R.symm))]
  ·rw [if_neg R];by_cases h:g=k
   ·have F:(g==k)=true:=beq_iff_eq.mpr h;simp only [List.lookup,F,if_neg (λe:g=f=>R (h.symm.trans e))]
   ·have F:(g==k)=false:=beq_eq_false_iff_ne.mpr h;simp only [List.lookup,F];exact j
theorem oC (f:Str)(v:V):∀fs:List (Str×V),f∈(putF f v fs).map (·.1)/\∀g,g∈fs.map (·.1)->g∈(putF f v fs).map (·.1)
 |[]=>⟨by simp [putF],λg h=>by simp at h⟩
 |(k,x)::r=>by
  obtain ⟨j,z⟩:=oC f v r;rw [show putF f v ((k,x)::r)=(if k=f then (k,v)::r else (k,x)::putF f v r) from rfl];by_cases R:k=f
  ·rw [if_pos R];subst R;exact ⟨by simp,λg h=>by simpa using h⟩
  ·rw [if_neg R];rwa[⟨?_,λg h=> ?_⟩]
   ·rw [map_cons];exact mem_cons_of_mem _ j
   ·rw [map_cons] at h ⊢
    rcases mem_cons.mp h with e|e
    ·exact mem_cons.mpr (.inl e)
    ·exact mem_cons_of_mem _ (z g e)
theorem pj (f:Str)(v:V):∀fs:List (Str×V),(putF f v fs).length<=fs.length+1
 |[]=>by simp [putF]
 |(k,x)::r=>by
  have j:=pj f v r;rw [show putF f v ((k,x)::r)=(if k=f then (k,v)::r else (k,x)::putF f v r) from rfl];by_cases R:k=f
  ·rw [if_pos R,length_cons,length_cons];lia
  ·rw [if_neg R,length_cons,length_cons];lia
theorem ko.some_of {v:V}{o:Option Value}(r:ko @bI o):∃u,o=some u/\aK v u:=by
 cases o with
 |none=>exact (show False from r).elim
 |some u=>exact ⟨u,rfl,r⟩
theorem ko.none_of {o:Option Value}(r:ko none o):o=none:=by
 cases o with
 |none=>rfl
 |some u=>exact (show False from r).elim
theorem CV {v:V}{u:Value}(r:aK v u):W.handedIn u=true:=by
 cases v with
 |non=>cases (show u=Value.none from r);rfl
 |bl b=>cases (show u=Value.bool b from r);rfl
 |int i=>obtain ⟨t,e⟩:=(show ∃t,u=Value.int i t from r);cases e;rfl
 |str x=>obtain ⟨t,e⟩:=(show ∃t,u=Value.str x t from r);cases e;rfl
 |byt b=>obtain ⟨t,e⟩:=(show ∃t,u=Value.bytes b t from r);cases e;rfl
 |flt b=>obtain ⟨t,e⟩:=(show ∃t,u=Value.float b t from r);cases e;rfl
 |ref a=>cases (show u=Value.ref a from r);rfl
 |ty n=>cases (show u=Value.type n from r);rfl
section
variable {P:Program}{w:World}{H H':Hp}{h h':Heap}{a C dx:Addr}{fs fs':List (Str×V)}
theorem qc (af:gQ P w H h)(e:H a=some (.ins C dx fs)):∃mA,AC h a dx C mA/\(∀f,ko @gc (mA f))/\PySem.Within mA (fs.map (·.1))/\fs.length<=1000/\H dx=some (.own a):=by
 obtain ⟨d,z,O,j,mA,n,r,q⟩:=(show bH P w H h a (.ins C dx fs) from af a _ e);exact ⟨mA,⟨j,n,O⟩,r,q,z,d⟩
end
structure t6 (K:Fg)(C:Addr):Prop where
 pg:W.plainGet K C Str.empty=true
 hd:W.hasDictIn K C=true
 po:W.plainOver K C=true
 sa:W.findIn K (.ref C) "__setattr__"=some (some (.builtin "object.__setattr__"))
theorem t6.get {K:Fg}{C:Addr}(c:t6 K C)(f:Str):W.plainGet K C f=true:=c.pg
def aV (K:Fg)(C:Addr)(f:Str):Prop:=W.findIn K (.ref C) f=some none
theorem aV.taker {K:Fg}{C:Addr}{f:Str}(n:aV K C f):W.takerIn K C f=some none:=by
 unfold W.takerIn;rw [show W.findIn K (.ref C) f=some none from n];rfl
structure Con (K:Fg)(C:Addr)(f:Str)(v:V)(u:Value):Prop where
 at_:W.findIn K (.ref C) f=some @fq
 rel:aK v u
 get:W.specialIn K u "__get__"=some none
 cp:W.copiedNames.contains f=false
structure Ha (K:Fg)(C:Addr)(m:Str)(f:Addr):Prop where
 at_:W.findIn K (.ref C) m=some @bf
 fn:W.isFn K (.ref f)=true
 kp:W.keepIn K (.ref f)=true
section
variable {X:Cx}{pins:List (Addr×Obj)}{σ:St}{H:Hp}{s:Shared}{a C dx:Addr}{fs:List (Str×V)}{f:Str}{v:V}{A:Around}{E:Value->Shared->Prop}
theorem Ao {b:Bool}{Q:Value->Shared->Prop}(I:aB X pins σ H s)(e:H a=some (.ins C dx fs))(c:t6 X.K C)(n:aV X.K C f)(l:fs.lookup f=some v)
(h:∀u s',aB X pins σ H s'->aK v u->Q u s'):wpAny @e A (getAttr (.ref a) f b) Q E s:=by
 obtain ⟨mA,O,r,_,_,_⟩:=qc I.hok e;obtain ⟨u,z,j⟩:=ko.some_of (v:=v) (o:=mA f) (by rw [<-l];exact r f);exact JV I.kIn O (c.get f) c.hd n z (CV j) (h u _ @dC j)
theorem rK {m:Str}{g:Addr}{pl:Sem Bool}{Q:Value×List Value->Shared->Prop}(I:aB X pins σ H s)(e:H a=some (.ins C dx fs))(c:t6 X.K C)(k:Ha X.K C m g)(l:fs.lookup m=none)
(h:Q (.ref g,[.ref a]) s):wpAny @e A (getMethod (.ref a) m pl) Q E s:=by
 obtain ⟨mA,O,r,_,_,_⟩:=qc I.hok e;have z:mA m=none:=ko.none_of (by rw [<-l];exact r m);exact Gd I.kIn O (c.get m) k.at_ k.fn z h
theorem zn {y:V}{u:Value}{Q:Unit->Shared->Prop}(I:aB X pins σ H s)(e:H a=some (.ins C dx fs))(c:t6 X.K C)(n:aV X.K C f)(U:fs.length<1000)(G:aK y u)
(h:∀s',aB X pins σ @cn s'->Q () s'):wpAny @e A (setAttr (.ref a) f u) Q E s:=by
 obtain ⟨mA,O,r,wi,_,F⟩:=qc I.hok e
 have J:(fs.map (·.1)).length<=sizeLine:=by rw [length_map,sizeLine_eq];lia
 rwa[Ir I.kIn O c.sa c.po n.taker c.hd wi J λh' j L=>h _ ?_];have R:∃o,h'.get? dx=some o:=let ⟨o,_,_,e',_⟩:=j.ns;⟨o,e'⟩;rwa[I.write (x:=a) (e:=dx) (by rw [e];exact True.intro) (.inr F) (λb q S z=>(L.2 b S).trans z) R ?_];rwa[⟨by rw [ao O.ne];exact F,?_,O.ne,j.obj,_,j.ns,λg=> ?_,λg W=> ?_⟩]
 ·have:=pj f y fs;lia
 ·show ko ((putF f y fs).lookup g) (if g=f then some u else mA g);rw [pi];by_cases q:g=f
  ·rw [if_pos q,if_pos q];exact G
  ·rw [if_neg q,if_neg q];exact r g
 ·by_cases q:g=f
  ·rw [q];exact (oC f y fs).1
  ·rwa[(oC f y fs).2 g (wi g λz=>W ?_)];show (if g=f then some u else mA g)=none;rw [if_neg q];exact z
theorem aB.made (I:aB X pins σ H s):aB X pins σ (upd (upd H s.heap.objs.size (.own (s.heap.objs.size+1))) (s.heap.objs.size+1) (.ins C s.heap.objs.size []))
 {s with heap:=(s.heap.push W.emptyDict).push @z}:=by
 have S:(s.heap.push W.emptyDict).get? s.heap.objs.size=some W.emptyDict:=Heap.get?_push_size s.heap rfl
 have F:((s.heap.push W.emptyDict).push @z).get? (s.heap.objs.size+1)=some @z:=by
  have:=Heap.get?_push_size @eX (o:=W.instObj C s.heap.objs.size) rfl;rwa [Heap.size_push] at this
 have z:(s.heap.push W.emptyDict).Ns s.heap.objs.size (λ_=>none):=⟨W.emptyDict,#[],_,S,rfl,(λe j=>absurd j @g),λ_=>rfl⟩;have J:=I.laid (a:=s.heap.objs.size) (o:= .own (s.heap.objs.size+1)) (h':=s.heap.push W.emptyDict) (t':=s.toks) (λb u q=>Heap.get?_push_of_some _ q) @f ⟨_,S⟩;rwa[J.laid (a:=s.heap.objs.size+1) (o:= .ins C s.heap.objs.size []) (t':=s.toks) (λb u q=>Heap.get?_push_of_some _ q) (Nat.le_of_eq (Heap.size_push _ _)) ?_];have O:s.heap.objs.size≠s.heap.objs.size+1:=Nat.ne_of_lt @cl;rwa[⟨by rw [ao O,aj],Nat.zero_le _,O,F,λ_=>none,(Heap.Ns1.of_empty z).at λo q=>Heap.get?_push_of_some _ q,λ_=>True.intro,λy R=>absurd rfl R⟩]
theorem Kl {prog:Program}{w:World}{env:Env}{e:Expr}{f:Str}{pos:Pos}{s:Shared}{Q:Value->Shared->Prop}(F:attributeBase e f env (eval e env)=eval e env)
(h:wpAny @m A (eval e env) (λo s₁=>wpAny @m A (getAttr o f true) Q E s₁) E s):wpAny @m A (eval (.Attribute e f pos) env) Q E s:=
 Attribute_any_ h (by rw [arm_eval_Attribute,F])
end
section
variable {X:Cx}{pins:List (Addr×Obj)}{σ:St}{H:Hp}{s:Shared}{A:Around}{E:Value->Shared->Prop}{Q:Value->Shared->Prop}{c:Value}{b:Bool}
inductive jp (K:Fg)(H:Hp):V->Value->Prop where
 |non:jp K H .non (.type "NoneType")
 |bl (x:Bool):jp K H (.bl x) (.type "bool")
 |int (i:Int):jp K H (.int i) (.type "int")
 |str (x:Str):jp K H (.str x) (.type "str")
 |flt (x:UInt64):jp K H (.flt x) (.type "float")
 |lst {a:Addr} {xs:List V} (e:H a=some (.lst xs)):jp K H (.ref a) (.type "list")
 |frz {a:Addr} {o:Obj} {xs:List V} (e:H a=some (.frz o (.lst xs))):jp K H (.ref a) (.type "list")
 |tup {a:Addr} {xs:List V} (e:H a=some (.tup xs)):jp K H (.ref a) (.type "tuple")
 |dK {a:Addr} {kvs:List (ce×V)} (e:H a=some (.dK kvs)):jp K H (.ref a) (.type "dict")
 |dT {a:Addr} {kvs:List (List ce×V)} (e:H a=some (.dT kvs)):jp K H (.ref a) (.type "dict")
 |ins {a C dx:Addr} {fs:List (Str×V)} (e:H a=some (.ins C dx fs)) (cl:t6 K C) (ha:W.findIn K (.ref C) "__class__"=some (some (.builtin "object.__class__")))
   (hn:W.specialIn K (.builtin "object.__class__") "__get__"=some (some (.builtin "getset_descriptor.__get__"))) (htk:W.takesIn K (.builtin "object.__class__")=some true)
   (hm:W.mroIn K C (.type "object")=some true):jp K H (.ref a) (.ref C)
theorem CQ {x:V}{u t:Value}(I:aB X pins σ H s)(j:aK x u)(ty:jp X.K H x t)(e:W.kitOne X.K t c=some b)(h:∀tk,Q (.bool b) {s with toks:=tk}):
 wpAny @e A (call (.builtin "isinstance") [u,c]) Q E s:=by
 cases ty with
 |non=>cases (show u=Value.none from j);exact W.kia_one W.kitx_none I.kIn True.intro e (λz=>nomatch z) h
 |bl y=>cases (show u=Value.bool y from j);exact W.kia_one W.kitx_bool I.kIn True.intro e (λz=>nomatch z) h
 |int i=>obtain ⟨t,q⟩:=(show ∃t,u=Value.int i t from j);cases q;exact W.kia_one W.kitx_int I.kIn True.intro e (λz=>nomatch z) h
 |str y=>obtain ⟨t,q⟩:=(show ∃t,u=Value.str y t from j);cases q;exact W.kia_one W.kitx_str I.kIn True.intro e (λz=>nomatch z) h
 |flt y=>obtain ⟨t,q⟩:=(show ∃t,u=Value.float y t from j);cases q;exact W.kia_one W.kitx_float I.kIn True.intro e (λz=>nomatch z) h
 | @lst a xs ea=>
   cases (show u=Value.ref a from j);obtain ⟨_,_,n,_,h1⟩:=(show bH X.prog X.w H s.heap a (.lst xs) from I.hok a _ ea);exact W.kia_one W.kitx_list I.kIn ⟨_,h1,rfl⟩ e (λz=>nomatch z) h
 | @frz a ob xs ea=>
   cases (show u=Value.ref a from j);obtain ⟨_,_,_,n,_,h1⟩:=(show bH X.prog X.w H s.heap a (.frz ob (.lst xs)) from I.hok a _ ea);exact W.kia_one W.kitx_list I.kIn ⟨_,h1,rfl⟩ e (λz=>nomatch z) h
 | @tup a xs ea=>
   cases (show u=Value.ref a from j);obtain ⟨_,_,_,p⟩:=(show bH X.prog X.w H s.heap a (.tup xs) from I.hok a _ ea);obtain ⟨o,h1,h2,_⟩:=p;exact W.kia_one W.kitx_tuple I.kIn ⟨o,h1,h2⟩ e (λz=>nomatch z) h
 | @dK a kvs ea=>
   cases (show u=Value.ref a from j);obtain ⟨_,_,L,_,p⟩:=(show bH X.prog X.w H s.heap a (.dK kvs) from I.hok a _ ea);obtain ⟨o,es,F,h1,h2,_⟩:=p;exact W.kia_one W.kitx_dict I.kIn ⟨o,h1,h2.1⟩ e (λz=>nomatch z) h
 | @dT a kvs ea=>
   cases (show u=Value.ref a from j);obtain ⟨_,_,xs,_,o,es,F,h1,h2,_⟩:=(show bH X.prog X.w H s.heap a (.dT kvs) from I.hok a _ ea);exact W.kia_one W.kitx_dict I.kIn ⟨o,h1,h2.1⟩ e (λz=>nomatch z) h
 | @ins a C dx fs ea cl ha hn htk hm=>
   cases (show u=Value.ref a from j);obtain ⟨mA,O,_⟩:=qc I.hok ea;obtain ⟨G,J,_⟩:=O.look;exact W.kia_one (W.kitx_own (cl.get _) cl.hd ha hn htk hm) I.kIn J e (λz=>nomatch z) h
end
structure b8 (k:Nat)(A:Around):Prop where
 hd:A.handled=none
 dp:A.depth+3*k+5<recursionLimit
 un:A.units+16*k+200<cLine
theorem b8.mono {j k:Nat}{A:Around}(r:b8 k A)(h:j<=k):b8 j A:=⟨r.hd,by have:=r.dp;lia,by have:=r.un;lia⟩
theorem b8.deeper {k:Nat}{A:Around}(r:b8 (k+1) A)(env:Env):b8 k (A.deeper env):=
 ⟨r.hd,by have:=r.dp;show A.depth+1+3*k+5<_;lia,by have:=r.un;show A.units+3+16*k+200<_;lia⟩
theorem b8.in1 {k:Nat}{A:Around}(r:b8 (k+1) A):b8 k A.in1:=
 ⟨r.hd,by have:=r.dp;show A.depth+3*k+5<_;lia,by have:=r.un;show A.units+1+16*k+200<_;lia⟩
theorem Ag {A:Around}{C:Addr}{us:List Value}{z:List (Str×Value)}:(A.under (.builtin "type.__call__" ⟨.ref C::us,z⟩)).depth=A.depth+1:=by
 first|rfl|simp [Around.under,Code.weight,Code.isCreation,Code.isGuard,Code.isCaller,Code.frames,Code.isFrame,guardIds]
theorem Af {A:Around}{C:Addr}{us:List Value}{z:List (Str×Value)}:(A.under (.builtin "type.__call__" ⟨.ref C::us,z⟩)).units=A.units+1:=by
 first|rfl|simp [Around.under,Code.cUnits,Code.frames,Code.isFrame]
theorem b8.make {k:Nat}{A:Around}(r:b8 (k+1) A)(C:Addr)(us:List Value)(z:List (Str×Value)):b8 k (A.under (.builtin "type.__call__" ⟨.ref C::us,z⟩)):=
 ⟨r.hd,by have:=r.dp;rw [Ag];lia,by have:=r.un;rw [Af];lia⟩
theorem b8.depth {k:Nat}{A:Around}(r:b8 k A):A.depth<recursionLimit:=by have:=r.dp;lia
theorem b8.units {k:Nat}{A:Around}(r:b8 k A):A.units+64<cLine:=by have:=r.un;lia
def LM:TA:=λ_ H Q=>Q [] H
def DU (ta:TE)(tr:TA):TA:=λσ H Q=>ta σ H λx H1=>tr σ H1 λxs H2=>Q (x::xs) H2
section
variable {X:Cx}{e:Expr}{es:List Expr}{te:TE}{t:TA}{pos:Pos}
theorem am:PA X [] LM:=λ_ _ _ _ H Q I h=>Calls.spliced_nil ⟨[],H,I,.nil,h⟩
theorem IZ (j:PE X e te)(Y:PA X es t)(hs:starEach (e::es) X.env=(false,eval e X.env)::starEach es X.env:=by rfl):PA X (e::es) (DU te t):=by
 intro pos pins s σ H Q I h;rw [hs];show wpAny _ _ (spliced ((false,eval e X.env)::backTo pos @N)) _ _ s;rwa[Calls.spliced_cons (bP @L λu F ⟨x,H1,J,z,G⟩=> ?_)];exact bP (Y pos pins F σ H1 _ J G) λL R ⟨xs,H2,O,W,S⟩=>⟨x::xs,H2,O,.cons z W,S⟩
def Rg (t:TA):TE:=λσ H Q=>t σ H λxs H1=>xs.length<=sizeLine/\∀p,H1 p=none->Q (.ref p) (upd H1 p (.tup xs))
def Rm (t:TA):TE:=λσ H Q=>t σ H λxs H1=>xs.length<=sizeLine/\∀p,H1 p=none->Q (.ref p) (upd H1 p (.lst xs))
theorem MB {F}(h:PA X es t):PE X (.Tuple es F pos) (Rg t):=by
 intro pins s σ H Q I L;rwa[wpAny_Tuple_spliced (bP (h pos pins s σ H _ I L) λG O ⟨xs,H1,J,r,z,q⟩=>⟨by rw [<-r.length];exact z,?_⟩)];have j:H1 O.heap.objs.size=none:=J.hok.fresh @f;rwa[⟨.ref O.heap.objs.size,upd H1 O.heap.objs.size (.tup xs),J.laid (t':=O.toks) (λb u e=>Heap.get?_push_of_some _ e) @f ?_,rfl,q _ j⟩];exact ⟨z,G,r,⟨_,Heap.get?_push_size _ rfl,rfl,_,rfl⟩⟩
theorem MC (h:PA X es t):PE X (.List es pos) (Rm t):=by
 intro pins s σ H Q I L;rwa[wpAny_List_spliced (bP (h pos pins s σ H _ I L) λF O ⟨xs,H1,J,r,z,q⟩=>⟨by rw [<-r.length];exact z,?_⟩)];have j:H1 O.heap.objs.size=none:=J.hok.fresh @f;rwa[⟨.ref O.heap.objs.size,upd H1 O.heap.objs.size (.lst xs),J.laid (t':=O.toks) (λb u e=>Heap.get?_push_of_some _ e) @f ?_,rfl,q _ j⟩];exact ⟨z,F,0,r,Heap.get?_push_size _ rfl⟩
end
abbrev Sp:=List V->Hp->VK->XK->Prop
abbrev oU:=List Env->Hp->Shared->XK->Value->Shared->Prop
structure oS (P:Program)(w:World)(K:Fg)(mg:Str->Option Value)(base:Heap)(A:Around)(outer:List Env)(s:Shared)(H:Hp):Prop where
 frames:A.frames=some outer
 mod:Mod K mg base
 bs:∀b o,base.get? b=some o->s.heap.get? b=some o/\H b=none
 bsz:base.objs.size<=s.heap.objs.size
 funs:s.heap.FunFrames base outer
 frf:∀b∈wV outer,H b=none
 hok:gQ P w H s.heap
 bare:AllBare s.gens
def CE (outer:List Env)(P:Program)(w:World)(H:Hp)(s:Shared)(Q:VK)(u:Value)(s':Shared):Prop:=
 ∃v H',s'.os=s.os/\AllBare s'.gens/\Un (wV outer) [] H H' s.heap s'.heap/\gQ P w H' s'.heap/\aK v u/\Q v H'
def CR (CX:oU)(outer:List Env)(P:Program)(w:World)(H:Hp)(s:Shared)(Q:VK)(E:XK)(r:Result)(s':Shared):Prop:=
 match r with
 | .ok (.ret u)=>CE outer P w H s Q u s'
 | .ok _=>False
 | .error e=>CX outer H s E e s'
structure az (P:Program)(w:World)(K:Fg)(mg:Str->Option Value)(base:Heap)(CX:oU)(k:Nat)(f:Addr)(fd:FuncData)(ps:List Str)(sp:Sp):Prop where
 len:∀vs H Q E,sp vs H Q E->vs.length=ps.length
 run:∀(A:Around) (outer:List Env) (s:Shared) (H:Hp) (args:Args) (us:List Value) (vs:List V) (Q:VK) (E:XK),b8 k A->oS P w K mg base A outer s H->BindsTo s fd args @cH->aU vs us->sp vs H Q E->
  codeAny @bg A (.call (.ref f) args) (CR CX outer P w H s Q E) s
theorem az.mono {P:Program}{w:World}{K:Fg}{mg:Str->Option Value}{base:Heap}{CX:oU}{j k:Nat}{f:Addr}{fd:FuncData}{ps:List Str}{sp:Sp}(F:az P w K mg base CX j f fd ps sp)(h:j<=k):
 az P w K mg base CX k f fd ps sp:=⟨F.len,λA outer s H z G L Q E Y=>F.run A outer s H z G L Q E (Y.mono h)⟩
theorem az.imp {P:Program}{w:World}{K:Fg}{mg:Str->Option Value}{base:Heap}{CX:oU}{k:Nat}{f:Addr}{fd:FuncData}{ps:List Str}{sp j:Sp}(F:az P w K mg base CX k f fd ps sp)
(h:∀vs H Q E,j vs H Q E->sp vs H Q E):az P w K mg base CX k f fd ps j:=
 ⟨λvs H Q E q=>F.len vs H Q E (h _ _ _ _ q),λA outer s H z G vs Q E Y S I W hs=>F.run A outer s H z G vs Q E Y S I W (h _ _ _ _ hs)⟩
theorem oS.make {P:Program}{w:World}{K:Fg}{mg:Str->Option Value}{base:Heap}{A:Around}{outer:List Env}{s:Shared}{H:Hp}(e:oS P w K mg base A outer s H)(C:Addr)(us:List Value)(z:List (Str×Value)):
 oS P w K mg base (A.under (.builtin "type.__call__" ⟨.ref C::us,z⟩)) outer s H:=⟨by first|exact e.frames|(simpa [Around.under,Code.envs,Code.isFrame,pushEnvs] using e.frames),e.mod,e.bs,e.bsz,e.funs,e.frf,e.hok,e.bare⟩
theorem oS.in1 {P:Program}{w:World}{K:Fg}{mg:Str->Option Value}{base:Heap}{A:Around}{outer:List Env}{s:Shared}{H:Hp}(e:oS P w K mg base A outer s H):
 oS P w K mg base A.in1 outer s H:=⟨e.frames,e.mod,e.bs,e.bsz,e.funs,e.frf,e.hok,e.bare⟩
section
variable {X:Cx}{pins:List (Addr×Obj)}{σ:St}{H:Hp}{s s':Shared}
theorem aB.env0 (I:aB X pins σ H s):oS X.prog X.w X.K X.mg X.base X.A X.stack s H:=
 ⟨I.ok.frames,I.ok.mod,I.bs,Nat.le_trans I.ok.bsz I.sz,I.stack,I.stkFree,I.hok,I.bare⟩
theorem aB.after {Q:VK}{u:Value}(I:aB X pins σ H s)(h:CE X.stack X.prog X.w H s Q u s'):EP X pins σ Q u s':=by
 obtain ⟨v,H',os,j,G,af,r,q⟩:=h;obtain ⟨L,g,d,t,F⟩:=s';obtain rfl:F=s.os:=os;exact ⟨v,H',I.call (h':=L) (g':=g) (d':=d) (t':=t) (ch:=[]) G af j (λb z=>absurd z @g),r,q⟩
end
def xc (sp:Sp)(dvs:List V)(E:XK)(t:TA):TE:=λσ H Q=>t σ H λvs H1=>sp (vs++dvs) H1 Q E
def O2 (C:Addr)(sp:Sp)(dvs:List V)(E:XK)(t:TA):TE:=λσ H Q=>t σ H λvs H1=>∀x dx,H1 x=none->H1 dx=none->dx≠x->
 sp (.ref x::(vs++dvs)) (upd (upd H1 dx (.own x)) x (.ins C dx [])) (λv H2=>v= .non/\Q (.ref x) H2) E
def fK (K:Fg)(fd:FuncData)(ps:List Str)(ds:List Value):Prop:=
 ∀(s:Shared) (us:List Value),K.In s.heap->(us++ds).length=ps.length->BindsTo s fd ⟨us,[]⟩ (ps.zip (us++ds))
theorem fK.all {K:Fg}{fd:FuncData}{ps:List Str}(h:∀us:List Value,us.length=ps.length->bindArgs fd ⟨us,[]⟩=pure @cH):fK K fd ps []:=λs us _ W=>by
 rw [append_nil] at W ⊢;exact .of_eq (h us W)
def ib (CX:oU)(X:Cx)(E:XK):Prop:=∀(pins:List (Addr×Obj)) (σ:St) (H:Hp) (s:Shared) (e:Value) (s':Shared),aB X pins σ H s->CX X.stack H s E e s'->X.xe e s'
section
variable {X:Cx}{CX:oU}{k:Nat}{f C:Addr}{fd:FuncData}{ps:List Str}{sp:Sp}{dvs:List V}{ds:List Value}{E:XK}{x m:Str}{p pos apos:Pos}{e o:Expr}{es:List Expr}{ta:TE}{t:TA}
theorem zN {pins:List (Addr×Obj)}{σ:St}{H:Hp}{s:Shared}{Q:VK}{us:List Value}{vs:List V}(F:az X.prog X.w X.K X.mg X.base CX k f fd ps sp)(Y:b8 k X.A)(G:fK X.K fd ps ds)(J:aU dvs ds)(z:ib CX X E)
(I:aB X pins σ H s)(r:aU vs us)(h:sp (vs++dvs) H Q E):wpAny @e X.A (call (.ref f) us) @A X.xe s:=by
 have W:aU (vs++dvs) (us++ds):=r.append J
 have j:(us++ds).length=ps.length:=by rw [<-W.length];exact F.len _ _ _ _ h
 rwa[wpAny_call (codeAny_mono (F.run X.A X.stack s H ⟨us,[]⟩ (us++ds) (vs++dvs) Q E Y I.env0 (G s us I.kIn j) W h) λr s' L=> ?_)]
 cases r with
 |error e=>exact z pins σ H s e s' I L
 |ok fl=>
  cases fl with
  |ret u=>exact I.after L
  |next=>exact False.elim L
  |brk=>exact False.elim L
  |cont=>exact False.elim L
theorem A8 (F:az X.prog X.w X.K X.mg X.base CX k f fd ps sp)(Y:b8 k X.A)(O:Gl X x)(U:X.mg x=some (.ref f))(R:W.keepIn X.K (.ref f)=true)(hb:fK X.K fd ps ds)(Z:aU dvs ds)(G:ib CX X E)
(L:PA X (e::es) t)(z:(x==("__debug__":Str))=false:=by decide)(S:starEach (e::es) X.env=(false,eval e X.env)::starEach es X.env:=by rfl)(j:(backTo pos @N).any (·.1)=false:=by rfl):
 PE X (.Call (.Name x p) (e::es) [] pos) (xc sp dvs E t):=by
 intro pins s σ H Q I h;rwa[wpAny_Call_Name_kw (mM I O U ?_ z)];rwa[W.callWith_K (h₀:=X.base) I.ok.mod.kin R (bP (L pos pins s σ H _ I h) λus s1 ⟨vs,H1,J,r,q⟩=>⟨J.kIn,?_⟩) S j];exact zN F Y hb Z G J r q
structure Mk (K:Fg)(C f:Addr):Prop where
 makes:W.makesIn K C=true
 init:W.findIn K (.ref C) "__init__"=some @bf
 fn:W.isFn K (.ref f)=true
 kp:W.keepIn K (.ref C)=true
theorem EH {pins:List (Addr×Obj)}{σ:St}{H:Hp}{s:Shared}{Q:VK}{us:List Value}{vs:List V}(M:Mk X.K C f)(F:az X.prog X.w X.K X.mg X.base CX k f fd ps sp)(Y:b8 (k+1) X.A)(hb:fK X.K fd ps ds)(S:aU dvs ds)
(R:ib CX X E)(I:aB X pins σ H s)(r:aU vs us)
(h:∀x dx,H x=none->H dx=none->dx≠x->sp (.ref x::(vs++dvs)) (upd (upd H dx (.own x)) x (.ins C dx [])) (λv H2=>v= .non/\Q (.ref x) H2) E):
 wpAny @e X.A (call (.ref C) us) @A X.xe s:=by
 have L:=h (s.heap.objs.size+1) s.heap.objs.size (I.hok.fresh @dY) @bG (Nat.ne_of_lt @cl);have O:=aB.made (C:=C) I;have W:aU (V.ref (s.heap.objs.size+1)::(vs++dvs)) (Value.ref (s.heap.objs.size+1)::(us++ds)):= .cons rfl (r.append S)
 have U:(Value.ref (s.heap.objs.size+1)::us++ds).length=ps.length:=by
  have e:=W.length;rw [F.len _ _ _ _ L] at e;exact e.symm
 refine wpAny_call (FW (f:=f) I.kIn M.makes M.init (beq_iff_eq.mp M.fn) (codeAny_mono (F.run _ X.stack _ _ ⟨Value.ref (s.heap.objs.size+1)::us,[]⟩ (Value.ref (s.heap.objs.size+1)::(us++ds)) _ _ E (Y.make C us [])
  (O.env0.make C us []) (hb _ (Value.ref (s.heap.objs.size+1)::us) O.kIn U) W L) λr s' j=> ?_))
 cases r with
 |error e=>exact R pins σ _ _ e s' O j
 |ok fl=>
  cases fl with
  |ret u=>
   obtain ⟨v,H',J,z,G,Z⟩:=O.after j;subst G;exact ⟨z,⟨V.ref (s.heap.objs.size+1),H',J,rfl,Z⟩⟩
  |next=>exact False.elim j
  |brk=>exact False.elim j
  |cont=>exact False.elim j
theorem IV (M:Mk X.K C f)(F:az X.prog X.w X.K X.mg X.base CX k f fd ps sp)(Y:b8 (k+1) X.A)(O:Gl X x)(R:X.mg x=some (.ref C))(Z:fK X.K fd ps ds)(U:aU dvs ds)(G:ib CX X E)
(L:PA X (e::es) t)(z:(x==("__debug__":Str))=false:=by decide)(S:starEach (e::es) X.env=(false,eval e X.env)::starEach es X.env:=by rfl)(j:(backTo pos @N).any (·.1)=false:=by rfl):
 PE X (.Call (.Name x p) (e::es) [] pos) (O2 C sp dvs E t):=by
 intro pins s σ H Q I h;rwa[wpAny_Call_Name_kw (mM I O R ?_ z)];rwa[W.callWith_K (h₀:=X.base) I.ok.mod.kin M.kp (bP (L pos pins s σ H _ I h) λus s1 ⟨vs,H1,J,r,q⟩=>⟨J.kIn,?_⟩) S j];exact EH M F Y Z U G J r q
end
section
variable {X:Cx}{CX:oU}{k:Nat}{f C:Addr}{fd:FuncData}{ps ks:List Str}{sp:Sp}{E:XK}{x m:Str}{p pos apos kpos:Pos}{e o:Expr}{es:List Expr}{kws:List Keyword}{te ta:TE}{t tk:TA}{nm:Option Str}
structure KBinds (K:Fg)(fd:FuncData)(ps ks:List Str)(g:List Value->List Value->List Value)(gV:List V->List V->List V):Prop where
 to:∀(s:Shared) (us ws:List Value),K.In s.heap->(g us ws).length=ps.length->BindsTo s fd ⟨us,ks.zip ws⟩ (ps.zip (g us ws))
 rel:∀ {vs:List V} {us:List Value} {zs:List V} {ws:List Value},aU vs us->aU zs ws->aU (gV vs zs) (g us ws)
variable {g:List Value->List Value->List Value}{gV:List V->List V->List V}
end
structure ap (N P:List Str)(sc:Scope):Prop where
 kind:sc.kind= .function
 co:sc.isCoroutine=false
 gen:sc.isGenerator=false
 nd:N.Nodup
 pre:N.take P.length=P
 par:∀x∈P,sc.names.lookup x=some .local\/sc.names.lookup x=some .cell
 nofree:∀y∈sc.names,y.2≠ .free
theorem uP {j:Str->Option NameKind}{x:Str}:∀ {binds:List (Str×Value)} {m:Str->Option Value},(∀v,(x,v)∉binds)->bindL j binds m x=m x
 |[],_,_=>rfl
 |(n,v)::r,m,h=>by
  unfold bindL;rw [uP λw F=>h w @cM];split
  ·have:x≠n:=by rintro rfl;exact h v mem_cons_self
   simp [this]
  ·rfl
theorem uR {j:Str->Option NameKind}{x:Str}:∀ {binds:List (Str×Value)} {m:Str->Option Value},(∀v,(x,v)∉binds)->bindC j binds m x=m x
 |[],_,_=>rfl
 |(n,v)::r,m,h=>by
  unfold bindC;rw [uR λw F=>h w @cM];split
  ·rfl
  ·have:x≠n:=by rintro rfl;exact h v mem_cons_self
   simp [this]
theorem uQ {j:Str->Option NameKind}{x:Str}{v:Value}:∀ {P:List Str} {vs:List Value} {i:Nat} {m:Str->Option Value},P.Nodup->P[i]? =some x->vs[i]? =some v->j x=some .local->
 bindL j (P.zip vs) m x=some v
 |[],_,_,_,_,h,_,_=>by simp at h
 |_::_,[],_,_,_,_,h,_=>by simp at h
 |p::P,w::vs,0,m,nd,h1,h2,hk=>by
  simp at h1 h2;subst h1;subst h2;show bindL j ((p,w)::P.zip vs) m p=_;unfold bindL;rw [uP λv W=>(nodup_cons.mp nd).1 (of_mem_zip W).1,if_pos hk];simp
 |p::P,w::vs,i+1,m,nd,h1,h2,hk=>by
  show bindL j ((p,w)::P.zip vs) m x=_;unfold bindL;exact uQ (i:=i) (nodup_cons.mp nd).2 (by simpa using h1) (by simpa using h2) hk
theorem uS {j:Str->Option NameKind}{x:Str}{v:Value}:∀ {P:List Str} {vs:List Value} {i:Nat} {m:Str->Option Value},P.Nodup->P[i]? =some x->vs[i]? =some v->j x≠some .local->
 bindC j (P.zip vs) m x=some v
 |[],_,_,_,_,h,_,_=>by simp at h
 |_::_,[],_,_,_,_,h,_=>by simp at h
 |p::P,w::vs,0,m,nd,h1,h2,hk=>by
  simp at h1 h2;subst h1;subst h2;show bindC j ((p,w)::P.zip vs) m p=_;unfold bindC;rw [uR λv W=>(nodup_cons.mp nd).1 (of_mem_zip W).1,if_neg hk];simp
 |p::P,w::vs,i+1,m,nd,h1,h2,hk=>by
  show bindC j ((p,w)::P.zip vs) m x=_;unfold bindC;exact uS (i:=i) (nodup_cons.mp nd).2 (by simpa using h1) (by simpa using h2) hk
def start (N:List Str)(vs:List V):St:=vs.map some++List.replicate (N.length - vs.length) none
noncomputable def rQ (CX:oU)(P:Program)(w:World)(K:Fg)(mg:Str->Option Value)(base:Heap)(N:List Str)(qual:Str)(scope:Scope)(f:Addr)(cd:Value)(A:Around)(outer:List Env)(s:Shared)(H:Hp)(E:XK):Cx where
 prog:=P
 w:=w
 K:=K
 mg:=mg
 base:=base
 A:=A.deeper @bX
 N:=N
 s₀:=s
 H₀:=H
 env:=envOfC qual scope s.heap.objs.size f cd
 outer:=outer
 stack:=envOfC qual scope s.heap.objs.size f cd::outer
 ex:=[]
 calm:=true
 fn:=λ_=>true
 pn:=[]
 xe:=λe s'=>wpAny @bg (A.deeper @bX) (leaving @bX e) (λ_ s''=>CX outer H s E e s'') (λe' s''=>CX outer H s E e' s'') s'
theorem yd {j:Scope}{n:Nat}{x:Str}(h:j.names.lookup x=some .cell):∃c,(cellsFrom n j.names []).lookup x=some c:=by
 have q:=W.cellsFrom_some j.names n [] (.inl h);exact Option.isSome_iff_exists.mp q
theorem CS {CX:oU}{P:Program}{w:World}{K:Fg}{mg:Str->Option Value}{base:Heap}{N ps:List Str}{qual:Str}{scope:Scope}{f:Addr}{cd:Value}{A:Around}{outer:List Env}{s O:Shared}{H:Hp}{E:XK}{us:List Value}{vs:List V}
(S:ap N ps scope)(Z:A.handled=none)(j:oS P w K mg base A outer s H)(hl:vs.length=ps.length)(r:aU vs us)
(x:InCallC s s.heap.objs.size (bindL (envOfC qual scope s.heap.objs.size f cd).kindOf @cH λ_=>none) (cellsFrom (s.heap.objs.size+1) scope.names []) (bindC (envOfC qual scope s.heap.objs.size f cd).kindOf @cH λ_=>none) O):
 aB (rQ CX P w K mg base N qual scope f cd A outer s H E) [] @cN H O:=by
 have W:ps.length<=N.length:=by have:=congrArg List.length S.pre;rw [length_take] at this;lia
 obtain ⟨h1,tk,rfl,L⟩:=x.done;have F:∀b:Addr,b∉(rQ CX P w K mg base N qual scope f cd A outer s H E).ex:=λb z=>absurd (show b∈([]:List Addr) from z) @g
 refine ⟨⟨j.mod,S.kind,rfl,rfl,Nat.le_refl _,λy z c h1 h2=> ?_,λy R=> ?_,λy c _ h=> ?_,λ_=>Z,Around.frames_deeper j.frames,.inr ⟨rfl,rfl⟩,λb z=>absurd z (F b),j.bs,j.bsz,λb _ _=>F b,λb z=>absurd z (F b),j.funs,j.frf⟩,
  rfl,j.bare,Un.kept L,⟨_,x.toInCall.ns,λi y v h1 h2 h3=> ?_⟩,λy c h=>⟨_,x.cell y c h⟩,j.hok.fresh @f,λy c h=> ?_,λp I=>absurd (show p∈([]:List (Addr×Obj)) from I) @g,j.hok.kept L,?_⟩
 ·exact name_of_addr x.apart (PySem.mem_of_lookup h1) (PySem.mem_of_lookup h2)
 ·have R:scope.names.lookup y=some .cell\/scope.names.lookup y=some .free:=R
  rcases R with R|R
  ·exact yd R
  ·exact absurd rfl (S.nofree _ (PySem.mem_of_lookup R))
 ·exact Nat.le_of_lt (x.above y c @dG)
 ·have hi:i<vs.length:=by
   unfold start at h2;by_cases hi:i<vs.length
   ·exact hi
   ·rw [getElem?_append_right (by simpa using hi)] at h2;rw [getElem?_replicate] at h2;split at h2<;>cases h2
  have Y:vs[i]? =some v:=by
   unfold start at h2;rw [getElem?_append_left (by simpa using hi),getElem?_map] at h2
   cases e:vs[i]? with
   |none=>rw [e] at h2;cases h2
   |some a=>rw [e] at h2;cases h2;rfl
  obtain ⟨u,J,U⟩:=r.get Y
  have I:ps[i]? =some y:=by
   rw [<-S.pre,getElem?_take_of_lt @c];exact h1
  have G:ps.Nodup:=by rw [<-S.pre];exact S.nd.sublist (take_sublist _ _)
  rwa[⟨u,U,?_⟩]
  rcases S.par y (mem_of_getElem? I) with k|k
  ·exact .inl ⟨k,uQ G I J k⟩
  ·obtain ⟨c,e⟩:=yd (n:=s.heap.objs.size+1) k;rwa[.inr ⟨.inl k,c,e,?_⟩];have q:=x.cell y c e;rw [uS G I J (by show scope.names.lookup y≠_;rw [k];decide)] at q;exact q
 ·exact j.hok.fresh (Nat.le_of_lt (x.above y c @dG))
 ·unfold start;show _=N.length;rw [length_append,length_map,length_replicate];lia
theorem Gm {CX:oU}{P:Program}{w:World}{K:Fg}{mg:Str->Option Value}{base:Heap}{k:Nat}{f:Addr}{name qual:Str}{z:Arguments}{R:List Stmt}{scope:Scope}{dV kV L pm j ct oc:Value}{an od:Option Addr}
{aa:Array @Z}{N ps:List Str}{sp:Sp}(lk:K.lookup f=some ⟨oc,od,.func (W.fnOf name qual z R scope dV kV L pm an j ct),aa⟩)(ab:W.codeIn K j qual=true)(S:ap N ps scope)
(Y:∀vs H Q E,sp vs H Q E->vs.length=ps.length)
(G:∀(A:Around) (outer:List Env) (s:Shared) (H:Hp) (vs:List V) (Q:VK) (E:XK),b8 k (A.deeper (envOfC qual scope s.heap.objs.size f j))->sp vs H Q E->
   ∃t,tW @bB R t/\t {nx:=λ_ H'=>Q .non H',rt:=Q} @cN H):
 az P w K mg base CX (k+1) f (W.fnOf name qual z R scope dV kV L pm an j ct) ps sp:=by
 rwa[⟨Y,λA outer s H ad us vs Q E hr Z hb r O=> ?_⟩];have hl:=Y _ _ _ _ O;have KX:K.In s.heap:=Z.mod.kin.keeps λb o e=>(Z.bs b o e).1;have ac:s.heap.NoLimit:=Z.mod.nolimit.keeps λb o e=>(Z.bs b o e).1
 have F:∀y∈ps.zip us,scope.names.lookup y.1=some .local\/(scope.names.lookup y.1=some .cell/\((cellsFrom (s.heap.objs.size+1) scope.names []).lookup y.1).isSome=true):=λ⟨n,v⟩ hy=>by
  rcases S.par n (of_mem_zip hy).1 with q|q
  ·exact .inl q
  ·exact .inr ⟨q,W.cellsFrom_some _ _ _ (.inl q)⟩
 rwa[codeAny_call_function hr.depth (KX _ _ lk) rfl S.co S.gen rfl (W.codeRec_of KX ab) (hb _ _ _ _ ?_)];rwa[wpAny_newFunctionEnv_cells S.kind F λae he s1 x=> ?_];subst he;rwa[⟨ac.keeps x.toInCall.keep,codeAny_func ?_⟩];obtain ⟨t,ht,hq⟩:=G A outer s H vs Q E (hr.deeper _) O;have I:aB @bB [] @cN H s1:=CS S hr.hd Z hl r x;rwa[wpAny_mono (ht [] s1 @cN H _ I hq) (λfl s' hs=> ?_) λe s' hs=>hs]
 have U:∀ {σ':St} {H':Hp} {v:V} {u:Value},aB @bB [] σ' H' s'->aK v u->Q v H'->CE outer P w H s Q u s':=
  λ{σ' H' v u} J rv q=>⟨v,H',J.os,J.bare,J.base,J.hok,rv,q⟩
 cases fl with
 |ret u=>
  obtain ⟨v,σ',H',J,rv,q⟩:=hs;exact U J rv q
 |next=>
  obtain ⟨σ',H',J,q⟩:=hs;exact U (v:=V.non) (u:=Value.none) J rfl q
 |brk=>
  obtain ⟨_,_,_,q⟩:=hs;exact False.elim q
 |cont=>
  obtain ⟨_,_,_,q⟩:=hs;exact False.elim q
section
variable {X:Cx}{x:Str}{p pos:Pos}{e:Expr}{es:List Expr}{t:TA}{id T:String}{r:List V->Hp->VK->Prop}
def Qw (r:List V->Hp->VK->Prop)(t:TA):TE:=λσ H Q=>t σ H λvs H1=>r vs H1 Q
theorem E8 (F:bR X (.builtin id) r)(R:Gl X x)(U:X.mg x=none)(W:bootBuiltins x=some (.builtin id))(G:PA X (e::es) t)(Y:x≠"__name__":=by decide)(z:(x==("__debug__":Str))=false:=by decide)
(S:starEach (e::es) X.env=(false,eval e X.env)::starEach es X.env:=by rfl)(j:(backTo pos @N).any (·.1)=false:=by rfl):PE X (.Call (.Name x p) (e::es) [] pos) (Qw r t):=by
 intro pins s σ H Q I h;rwa[wpAny_Call_Name_kw (oB I R U W ?_ Y z)];exact PyProof.Rows.callWith_builtin1 (bP (G pos pins s σ H _ I h) λJ s1 ⟨O,H1,I1,Z,L⟩=>F pins s1 σ H1 O J Q I1 Z L) S j
theorem Ci (F:bR X (.type T) r)(R:Gl X x)(U:X.mg x=none)(W:bootBuiltins x=some (.type T))(G:PA X (e::es) t)(Y:x≠"__name__":=by decide)(z:(x==("__debug__":Str))=false:=by decide)
(S:starEach (e::es) X.env=(false,eval e X.env)::starEach es X.env:=by rfl)(j:(backTo pos @N).any (·.1)=false:=by rfl):PE X (.Call (.Name x p) (e::es) [] pos) (Qw r t):=by
 intro pins s σ H Q I h;rwa[wpAny_Call_Name_kw (oB I R U W ?_ Y z)];exact PyProof.Rows.callWith_type1 (bP (G pos pins s σ H _ I h) λJ s1 ⟨O,H1,I1,Z,L⟩=>F pins s1 σ H1 O J Q I1 Z L) S j
end
end L2
namespace HT
open PySem PyProof.Rows
section
variable {prog:Program}{w:World}{A:Around}{E:Value->Shared->Prop}{s:Shared}
theorem cat_tup {t b:Addr}{vs ws:List Value}{Q:Value->Shared->Prop}(ht:IsTup s.heap t vs.toArray)(hb:IsTup s.heap b ws.toArray)(W:vs≠[])
(h1:ws=[]->Q (.ref t) s)(h2:ws≠[]->Q (.ref s.heap.objs.size) {s with heap:=s.heap.push {cls:= .type "tuple",data:= .seq (vs++ws).toArray}})
(hsz:vs.length+ws.length<=sizeLine):wpAny @m A (binaryOp .Add (.ref t) (.ref b)) Q E s:=by
 obtain ⟨⟨cls,U,data,sl⟩,L,S,n,Z⟩:=id ht;obtain ⟨⟨aa,z,R,J⟩,j,G,Y,I⟩:=id hb;simp only at S Z G I;subst S Z G I
 have e:vs.toArray++ws.toArray=(vs++ws).toArray:=by simp
 by_cases O:ws=[]
 ·exact concat_meets ⟨_,L,rfl⟩ ⟨_,j,rfl⟩ noFill_tuple_add seq_tuple_add PySem.F.slot_tuple_add PySem.F.entry_tuple_add @cO
   (tuple_addW1 t b vs.toArray ws.toArray n Y U z sl J (by simpa using W) (by simp [O])) ⟨L,j,h1 O⟩
 ·refine concat_meets ⟨_,L,rfl⟩ ⟨_,j,rfl⟩ noFill_tuple_add seq_tuple_add PySem.F.slot_tuple_add PySem.F.entry_tuple_add @cO
   (tuple_addW2 t b vs.toArray ws.toArray n Y U z sl J (by simpa using W) (by simpa using O) (by rw [size_toArray,size_toArray];exact hsz)) ⟨L,j,?_⟩
  rw [e];exact h2 O
noncomputable def sIx (n d:Nat):Option Int->Nat
 |none=>d
 |some v=>if v<0 then (v+(n:Int)).toNat else min v.toNat n
theorem sIx_none (n d:Nat):sIx n d none=d:=rfl
theorem sIx_nat (n d k:Nat):sIx n d (some (k:Int))=min k n:=by
 show (if (k:Int)<0 then ((k:Int)+(n:Int)).toNat else min (k:Int).toNat n)=min k n;rw [if_neg @c,Int.toNat_natCast]
theorem Mg (n d:Nat)(J:d<=n)(o:Option Int):sIx n d o<=n:=by
 cases o with
 |none=>exact J
 |some v=>
  show (if v<0 then (v+(n:Int)).toNat else min v.toNat n)<=n;by_cases W:v<0
  ·rw [if_pos W];lia
  ·rw [if_neg W];exact Nat.min_le_right _ _
theorem Br (v:Int)(n d:Nat):(if v<0 then max (v+(n:Int)) 0 else min v (n:Int))=((sIx n d @bI:Nat):Int):=by
 show (if v<0 then max (v+(n:Int)) 0 else min v (n:Int))=(((if v<0 then (v+(n:Int)).toNat else min v.toNat n):Nat):Int);by_cases W:v<0
 ·simp only [if_pos W];lia
 ·simp only [if_neg W];lia
theorem AB (lo hi:Option Int)(n:Nat):Builtin.Slice.sliceAdjust lo hi 1 (n:Int)=(((sIx n 0 lo:Nat):Int),((sIx n n hi:Nat):Int)):=by
 have h1: ¬((1:Int)<0):=by lia
 unfold Builtin.Slice.sliceAdjust;simp only [h1,if_false];rwa[Prod.ext ?_ ?_]
 ·cases lo with
  |none=>rfl
  |some v=>exact Br v n 0
 ·cases hi with
  |none=>rfl
  |some v=>exact Br v n n
theorem zQ (i j:Nat):Builtin.Slice.slicePlaces (i:Int) (j:Int) 1=j - i:=by
 unfold Builtin.Slice.slicePlaces
 have h1:(1:Int)>0:=by lia
 simp only [h1,if_true,Int.ediv_one];split<;>lia
theorem qt {v:Value}{o:Option Int}{Q:Option Int->Shared->Prop}(p:IsPart v o)(h:Q o s):wpAny @m A (Builtin.Slice.slicePartIndex v) Q E s:=by
 cases p with
 |none=>exact slicePart_none h
 |int i t=>exact slicePart_int h
theorem ij {sl:Addr}{G F:Value}{lo hi:Option Int}{n:Nat}{Q:Int×Int×Nat->Shared->Prop}(hs:s.heap.IsSliceOf sl G F .none)(pl:IsPart G lo)(J:IsPart F hi)
(h:Q (((sIx n 0 lo:Nat):Int),1,sIx n n hi - sIx n 0 lo) s):wpAny @m A (Builtin.Slice.sliceApplied (.ref sl) (pure (n:Int))) Q E s:=by
 obtain ⟨os,j,I,z⟩:=id hs;unfold Builtin.Slice.sliceApplied Builtin.Slice.sliceFields;rwa[wpAny_bind (wpAny_bind (wpAny_field j z (x:=G) rfl (wpAny_bind (wpAny_field j z (x:=F) rfl (wpAny_bind (wpAny_field j z (x:= .none) rfl @bE))))))];rwa[wpAny_bind (slicePart_none ?_)];show wpAny _ _ (if ((1:Int)==0)=true then _ else _) _ _ s;rw [if_neg @b];rwa[wpAny_bind (qt pl (wpAny_bind (qt J (wpAny_bind @bE))))];show wpAny _ _ (match Builtin.Slice.sliceAdjust lo hi 1 (n:Int) with|(lo,hi)=>pure (lo,(1:Int),Builtin.Slice.slicePlaces lo hi 1)) _ _ s;rw [AB lo hi n];show wpAny _ _ (pure (((sIx n 0 lo:Nat):Int),(1:Int),Builtin.Slice.slicePlaces ((sIx n 0 lo:Nat):Int) ((sIx n n hi:Nat):Int) 1)) _ _ s;rw [zQ];exact wpAny_pure h
theorem EV (xs:Array Value)(i k:Nat):((List.range k).filterMap λ(m:Nat)=>xs[((i:Int)+(m:Int)*1).toNat]?).toArray=((xs.toList.drop i).take k).toArray:=by
 have e:(λ(m:Nat)=>xs[((i:Int)+(m:Int)*1).toNat]?)=λm=>xs[i+m]? :=by
  funext m
  have:((i:Int)+(m:Int)*1).toNat=i+m:=by lia
  rw [this]
 rw [e];have:=pick_run xs i k;rw [filterMap_map] at this;have R:((λx=>xs[x]?)∘λx=>i+x)=λm=>xs[i+m]? :=rfl;rw [R] at this;rw [this]
theorem getItem_tuple_cut {t sl:Addr}{j:Array Value}{R O:Value}{lo hi:Option Int}{Q:Value->Shared->Prop}(J:IsTup s.heap t j)(hs:s.heap.IsSliceOf sl R O .none)(pl:IsPart R lo)(S:IsPart O hi)
(U: ¬(sIx j.size 0 lo=0/\sIx j.size j.size hi=j.size))
(h:Q (.ref s.heap.objs.size) {s with heap:=s.heap.push {cls:= .type "tuple",data:= .seq ((j.toList.drop @eY).take (sIx j.size j.size hi - sIx j.size 0 lo)).toArray}})
(hsz:j.size<=sizeLine):wpAny @m A (getItem (.ref t) (.ref sl)) Q E s:=by
 have z:sizeOk (.seq ((j.toList.drop @eY).take (sIx j.size j.size hi - sIx j.size 0 lo)).toArray):=by
  show ((j.toList.drop @eY).take (sIx j.size j.size hi - sIx j.size 0 lo)).toArray.size<=sizeLine;rw [size_toArray,length_take,length_drop,Array.length_toList];lia
 have Z:sIx j.size j.size hi<=j.size:=Mg _ _ @f hi;obtain ⟨os,F,I,W⟩:=id hs;have L:s.TypeIs (.ref sl) "slice":=⟨os,F,I⟩;unfold getItem
 try with_reducible refine wpAny_holding ?_
 first|refine wpAny_bind @bE|skip
 rwa[wpAny_bind (wpAny_sequenceKey J.typeIs @b ?_)]
 refine wpAny_bind (wpAny_callSpecial?_slot (name:=s!"__getitem__") J.typeIs PyProof.Rows.slot_tuple_getitem
  (wpAny_call_entry PyProof.Rows.slot_tuple_getitem J.typeIs entry_tuple_getitem ?_ (args_tuple_getitem _ _)))
 show wpAny _ _ (Builtin.Tuple.tupleItemsOf (.ref t)>>=_) _ _ s;rwa[wpAny_bind (tupleItemsOf_ J ?_)];rwa[wpAny_bind (wpAny_typeOf L ?_)];rw [if_pos @b];rwa[wpAny_bind (ij hs pl S ?_)]
 have G: ¬((((sIx j.size 0 lo:Nat):Int)==0&&(1:Int)==1&&(sIx j.size j.size hi - sIx j.size 0 lo)==j.size)=true):=by
  intro q;rw [Bool.and_eq_true,Bool.and_eq_true] at q;have Y:((sIx j.size 0 lo:Nat):Int)=0:=eq_of_beq q.1.1;have q2:sIx j.size j.size hi - sIx j.size 0 lo=j.size:=eq_of_beq q.2;exact U ⟨by lia,by lia⟩
 show wpAny _ _ (if (((sIx j.size 0 lo:Nat):Int)==0&&(1:Int)==1&&(sIx j.size j.size hi - sIx j.size 0 lo)==j.size)=true then _ else _) _ _ s;rw [if_neg G,EV]
 first
  |exact wpAny_bind (m:=Builtin.Tuple.tupleExact _) (wpAny_newObj_type @bd z)
  |exact wpAny_bind (m:=Builtin.Tuple.tupleExact _) (wpAny_newObj_type (wpAny_bind @fl) z)
  |exact wpAny_bind (wpAny_bind (m:=Builtin.Tuple.tupleExact _) (wpAny_newObj_type @fl z))
  |exact wpAny_bind (wpAny_bind (m:=Builtin.Tuple.tupleExact _) (wpAny_newObj_type @bd z))
end
end HT
namespace L2
open PySem PySem.Spec PyProof.Rows
abbrev TO:=St->Hp->(Option Int->Hp->Prop)->Prop
def PO (X:Cx)(e:Option Expr)(t:TO):Prop:=
 ∀(pins:List (Addr×Obj)) (s:Shared) (σ:St) (H:Hp) (Q:Option Int->Hp->Prop),aB X pins σ H s->t σ H Q->
  wpAny @e X.A (evalPart e X.env) (λu s'=>∃o H',aB X pins σ H' s'/\IsPart u o/\Q o H') X.xe s
def Ia:TO:=λ_ H Q=>Q none H
section
variable {X:Cx}{e:Expr}{te:TE}{lo hi:Option Expr}{tl th:TO}{pos p2:Pos}
theorem mz:PO X none Ia:=by
 intro pins s σ H Q I h;rw [evalPart_none];exact wpAny_pure ⟨none,H,I,.none,h⟩
def K6 (X:Cx)(r:V->Option Int->Option Int->Hp->VK->Prop):Prop:=
 ∀(pins:List (Addr×Obj)) (s:Shared) (σ:St) (H:Hp) (x:V) (v vl vu:Value) (lo hi:Option Int) (sl:Addr) (Q:VK),aB X pins σ H s->aK x v->s.heap.IsSliceOf sl vl vu .none->IsPart vl lo->IsPart vu hi->r x lo hi H Q->
  ∃T id,typeLookup (.type T) "__getitem__"=pure (some (.builtin id))/\s.TypeIs v T/\wpAny @e X.A (getItem v (.ref sl)) @A X.xe s
def Sq (r:V->Option Int->Option Int->Hp->VK->Prop)(te:TE)(tl th:TO):TE:=λσ H Q=>te σ H λx H1=>tl σ H1 λl H2=>th σ H2 λu H3=>r x l u H3 Q
theorem im {r:V->Option Int->Option Int->Hp->VK->Prop}(Y:K6 X r)(he:PE X e te)(W:PO X lo tl)(z:PO X hi th):PE X (.Subscript e (.Slice lo hi none p2) pos) (Sq r te tl th):=by
 intro pins s σ H Q I h;rwa[Subscript_ (bP @dU λv s1 ⟨x,H1,I1,J,q1⟩=> ?_)];rwa[wpAny_Slice (bP (W pins s1 σ H1 _ I1 q1) λG R ⟨l,H2,O,pl,q2⟩=>bP (z pins R σ H2 _ O q2) λF L ⟨u,j,I3,pu,S⟩=> ?_)];rw [evalPart_none];rwa[wpAny_pure ?_];have U:aB X pins σ j {L with heap:=L.heap.push {cls:= .type "slice",data:= .fields #[G,F,.none]}}:=I3.kept (t':=L.toks) λb ob q=>Heap.get?_push_of_some _ q;obtain ⟨T,id,hT,ht,Z⟩:=Y pins {L with heap:=L.heap.push {cls:= .type "slice",data:= .fields #[G,F,.none]}} σ j x v G F l u L.heap.objs.size Q U J (Heap.IsSliceOf.new ..) pl pu S;show wpAny @e X.A (subscriptTail e (.Slice lo hi none p2) v (.ref L.heap.objs.size)) @A X.xe {L with heap:=L.heap.push {cls:= .type "slice",data:= .fields #[G,F,.none]}};exact tail_any (ops:=[.ref L.heap.objs.size,v]) ht hT Z @D
noncomputable def fB (xs:List V)(lo hi:Option Int):List V:=(xs.drop @dH).take (HT.sIx xs.length xs.length hi - HT.sIx xs.length 0 lo)
theorem pD (xs:List V)(lo hi:Option Int):(fB xs lo hi).length<=xs.length:=by
 unfold fB;rw [length_take,length_drop];lia
def Rz (K:Fg):V->Option Int->Option Int->Hp->VK->Prop:=λx lo hi H Q=>∃a xs,x= .ref a/\aD K H a xs/\
 ¬(HT.sIx xs.length 0 lo=0/\HT.sIx xs.length xs.length hi=xs.length)/\∀p,H p=none->Q (.ref p) (upd H p (.tup @bo))
theorem Ef:K6 X (Rz X.K):=by
 intro pins s σ H x v S U lo hi sl Q I G hs pl L h;obtain ⟨a,xs,rfl,j,O,q⟩:=h;cases G;obtain ⟨its,r,J,F⟩:=I.tuple j
 have z:its.toArray.size=xs.length:=by rw [size_toArray];exact r.length.symm
 rwa[⟨"tuple",_,PyProof.Rows.slot_tuple_getitem.lookup,J.typeIs,?_⟩];rwa[HT.getItem_tuple_cut J hs pl L (by rw [z];exact O) ?_ (by rw [z];exact F)];rw [z];rwa[⟨.ref s.heap.objs.size,_,I.laid (t':=s.toks) (o:= .tup @bo) (λb R q=>Heap.get?_push_of_some _ q) @f ?_,rfl,q _ @bG⟩];exact ⟨Nat.le_trans (pD xs lo hi) F,_,(r.drop @dH).take (HT.sIx xs.length xs.length hi - HT.sIx xs.length 0 lo),IsTup.new _ _⟩
def Pe (K:Fg):R2:=λx y H Q=>∃a b xs ys,x= .ref a/\y= .ref b/\aD K H a xs/\aD K H b ys/\xs≠[]/\xs.length+ys.length<=sizeLine/\
 (ys=[]->Q (.ref a) H)/\(ys≠[]->∀p,H p=none->Q (.ref p) (upd H p (.tup (xs++ys))))
theorem aU.nil_iff {xs:List V}{us:List Value}(r:aU xs us):us=[]↔xs=[]:=by
 cases r with
 |nil=>simp
 |cons _ _=>simp
theorem Ja:dE X @bQ (Pe X.K):=by
 intro pins s σ H x y v u Q I R J h;obtain ⟨a,b,xs,ys,rfl,rfl,O,Z,L,F,S,Y⟩:=h;cases R;cases J;obtain ⟨its,j,U,_⟩:=I.tuple O;obtain ⟨G,W,p2,_⟩:=I.tuple Z;rwa[HT.cat_tup U p2 (λz=>L (j.nil_iff.mp z)) (λz=>⟨.ref a,H,I,rfl,S (W.nil_iff.mp z)⟩) @k (by rw [<-j.length,<-W.length];exact F)];rwa[⟨.ref s.heap.objs.size,_,I.laid (t':=s.toks) (o:= .tup (xs++ys)) (λb ob q=>Heap.get?_push_of_some _ q) @f ?_,rfl,Y (λw=>z (W.nil_iff.mpr w)) _ @bG⟩];exact ⟨by rw [length_append];exact F,_,j.append W,IsTup.new _ _⟩
end
def CP (n:Nat)(i:Int):Option Nat:=if 0<=i then (if i<n then some i.toNat else none) else if -(n:Int)<=i then some (i+n).toNat else none
def oQ {α:Type}(xs:List α)(i:Int):Option α:=(CP xs.length i).bind λj=>xs[j]?
theorem Bg {n:Nat}{i:Int}{j:Nat}(h:CP n i=some j):seqIndex? i n=some j/\j<n/\ -(n:Int)<=i/\i<n:=by
 unfold CP at h;by_cases F:0<=i
 ·rw [if_pos F] at h;by_cases h1:i<n
  ·rw [if_pos h1] at h;have e:i.toNat=j:=Option.some.inj h;exact ⟨by rw [seqIndex_of F h1,e],by lia,by lia,h1⟩
  ·rw [if_neg h1] at h;cases h
 ·rw [if_neg F] at h;by_cases h1: -(n:Int)<=i
  ·rw [if_pos h1] at h;have e:(i+n).toNat=j:=Option.some.inj h;exact ⟨by rw [seqIndex_neg @c h1,e],by lia,h1,by lia⟩
  ·rw [if_neg h1] at h;cases h
theorem wL {α:Type}{xs:List α}{i:Int}{v:α}(h:oQ xs i=some v):∃j,seqIndex? i xs.length=some j/\xs[j]? =some v/\j<xs.length/\ -(xs.length:Int)<=i/\i<xs.length:=by
 unfold oQ at h
 cases e:CP xs.length i with
 |none=>rw [e] at h;cases h
 |some j=>
  rw [e] at h;obtain ⟨h1,h2,L,z⟩:=Bg e;exact ⟨j,h1,h,h2,L,z⟩
theorem c7 {α:Type}{xs:List α}{j:Nat}{v:α}(h:xs[j]? =some v):oQ xs (j:Int)=some v:=by
 have Z:j<xs.length:=(List.getElem?_eq_some_iff.mp h).1
 have e:CP xs.length (j:Int)=some j:=by
  unfold CP;rw [if_pos @c,if_pos @c];simp
 unfold oQ;rw [e];exact h
def Ku (b:Expr):Prop:=∀o i,subscripted b false o i=operate [o,i] (getItem o i)
def Dt (X:Cx)(r:R2):Prop:=
 ∀(value slice:Expr) (pins:List (Addr×Obj)) (s:Shared) (σ:St) (H:Hp) (x y:V) (v u:Value) (Q:VK),aB X pins σ H s->aK x v->aK y u->r x y H Q->
  subscripted slice false v u=operate [v,u] (getItem v u)->wpAny @e X.A (subscriptTail value slice v u) @A X.xe s
def yF (X:Cx)(id:String)(r:V->List V->Hp->VK->Prop):Prop:=
 ∀(pins:List (Addr×Obj)) (s:Shared) (σ:St) (H:Hp) (x:V) (xs:List V) (v:Value) (us:List Value) (Q:VK),aB X pins σ H s->aK x v->aU xs us->r x xs H Q->
  wpAny @e X.A (call (.builtin id) (v::us)) @A X.xe s
section
variable {X:Cx}{a b:Expr}{ta tb:TE}{pos:Pos}
theorem av {r:R2}(Y:Dt X r)(j:PE X a ta)(F:PE X b tb)(hs:Ku b):PE X (.Subscript a b pos) @fe:=by
 intro pins s σ H Q I h;exact Subscript_ (NY j F I h λv u R x y H2 O J z q=>Y a b pins R σ H2 x y v u Q O J z q (hs _ _))
def RD (K:Fg):R2:=λx y H Q=>∃p xs i v,x= .ref p/\y= .int i/\aN K H p xs/\oQ xs i=some v/\Q v H
def RB (K:Fg):R2:=λx y H Q=>∃p xs i v,x= .ref p/\y= .int i/\aD K H p xs/\oQ xs i=some v/\Q v H
def RC:R2:=λx y H Q=>∃z i c,x= .str z/\y= .int i/\z.length<=sizeLine/\oQ z.cps.toList i=some c/\Q (.str ⟨#[c]⟩) H
theorem JP:Dt X (RD X.K):=by
 intro value J pins s σ H x y v u Q I Y R h hs;obtain ⟨p,xs,i,z,rfl,rfl,U,he,q⟩:=h;cases Y;obtain ⟨t,rfl⟩:=R;obtain ⟨its,r,pl,hz⟩:=I.list U;obtain ⟨j,h1,h2,h3,h4,S⟩:=wL he;obtain ⟨w,O,G⟩:=r.get h2;have W:=r.length;have hn:=lH;have F:EP X pins σ Q w s:=⟨z,H,I,G,q⟩;by_cases L:0<=i
 ·have Z:i.toNat=j:=by
   rw [seqIndex_of L S] at h1;exact Option.some.inj h1
  exact item_listR pl.isList L @c (by rw [Z];simpa using O) F hs
 ·have Z:(i+(its.toArray.size:Int)).toNat=j:=by
   rw [seqIndex_neg @c h4] at h1;rw [size_toArray,<-W];exact Option.some.inj h1
  exact subscriptTail_builtinR (x:=w) pl.isList.typeIs slot_list_getitem.lookup
   (wpAny_getItem_list_neg (Q:=λr s'=>r=w/\EP X pins σ Q r s') pl.isList @c (by rw [size_toArray]<;>lia) @c (by rw [Z];simpa using O) ⟨rfl,F⟩) hs
theorem NB:Dt X (RB X.K):=by
 intro value J pins s σ H x y v u Q I R L h hs;obtain ⟨p,xs,i,z,rfl,rfl,O,U,q⟩:=h;cases R;obtain ⟨t,rfl⟩:=L;obtain ⟨its,r,pl,hz⟩:=I.tuple O;obtain ⟨j,h1,h2,Z,h4,Y⟩:=wL U;obtain ⟨w,S,G⟩:=r.get h2;have W:=r.length;have hn:=lH;have F:EP X pins σ Q w s:=⟨z,H,I,G,q⟩
 exact subscriptTail_builtinR (x:=w) pl.typeIs slot_tuple_getitem.lookup
  (getItem_tuple (j:=j) (Q:=λr s'=>r=w/\EP X pins σ Q r s') pl @c @c (by rw [size_toArray,<-W];exact h1) (by simpa using S) ⟨rfl,F⟩) hs
theorem NC:Dt X RC:=by
 intro value J pins s σ H x y v u Q I L F h hs;obtain ⟨z,i,c,rfl,rfl,hz,U,q⟩:=h;obtain ⟨t,rfl⟩:=L;obtain ⟨Y,rfl⟩:=F;obtain ⟨j,h1,h2,Z,O,S⟩:=wL U
 have W:z.cps.toList.length=z.length:=by simp [Str.length]
 rw [W] at h1 O S;have hn:=lH
 exact tail_any @eJ slot_str_getitem.lookup (getItem_str (c:=c) (by
  have G:decide (i< -(2^63:Int))=false:=decide_eq_false @c;have R:decide (i≥2^63)=false:=decide_eq_false @c
  rw [G,R,Bool.or_false]) (by rw [h1];simpa using h2) ⟨.str ⟨#[c]⟩,H,I.tok _,⟨_,rfl⟩,q⟩) hs
theorem Ae (its:List Value)(n j:Nat)(u:Value):Obj.mapSeq (·.setIfInBounds j u) {cls:= .type "list",data:= .seq its.toArray n}= {cls:= .type "list",data:= .seq (its.set j u).toArray n}:=by
 simp [Obj.mapSeq]
theorem aB.lst {pins:List (Addr×Obj)}{σ:St}{H:Hp}{s:Shared}{p:Addr}{xs:List V}(I:aB X pins σ H s)(h:H p=some (.lst xs)):
 ∃(its:List Value) (n:Nat),aU xs its/\s.heap.get? p=some {cls:= .type "list",data:= .seq its.toArray n}/\xs.length<=sizeLine:=by
 obtain ⟨z,its,n,r,e⟩:=I.hok p _ h;exact ⟨its,n,r,e,z⟩
theorem aB.lstUpd {pins:List (Addr×Obj)}{σ:St}{H:Hp}{s:Shared}{p:Addr}{xs ys:List V}{its its':List Value}{n F:Nat}{f:Obj->Obj}(I:aB X pins σ H s)(h:H p=some (.lst xs))
(G:s.heap.get? p=some {cls:= .type "list",data:= .seq its.toArray n})(j:f {cls:= .type "list",data:= .seq its.toArray n}= {cls:= .type "list",data:= .seq its'.toArray F})(r:aU ys its')(z:ys.length<=sizeLine)(t:Nat):
 aB X pins σ @ba {s with heap:=s.heap.update p f,toks:=t}:=by
 have e:(s.heap.update p f).get? p=some {cls:= .type "list",data:= .seq its'.toArray F}:=by
  rw [Heap.get?_update_self f G (by rw [j]<;>rfl),j]
 rwa[I.write (x:=p) (e:=p) (by rw [h];trivial) (.inl rfl) (λb u J q=>(Heap.get?_update_other _ _ (Ne.symm J)).trans q) ⟨_,e⟩ ?_];exact ⟨z,its',F,r,e⟩
def Pa:V->V->V->Hp->(Hp->Prop)->Prop:=λo i v H Q=>∃p xs k j,o= .ref p/\i= .int k/\H p=some (.lst xs)/\CP xs.length k=some j/\Q @bT
theorem Ei:G9 X Pa:=by
 intro pins s σ H o i v ov iv u Q I ro Z U h;obtain ⟨p,xs,k,j,rfl,rfl,O,hj,q⟩:=h;cases ro;obtain ⟨t,rfl⟩:=Z;obtain ⟨its,n,r,z,Y⟩:=I.lst O;obtain ⟨h1,h2,L,S⟩:=Bg hj;have F:=r.length;have hn:=lH
 have J:aB X pins σ @bT {s with heap:=s.heap.update p (Obj.mapSeq (·.setIfInBounds j u))}:=
  I.lstUpd O z (Ae its n j u) (r.set U j) (by rw [length_set];exact Y) s.toks
 by_cases G:0<=k
 ·have R:k.toNat=j:=by
   rw [seqIndex_of G S] at h1;exact Option.some.inj h1
  exact W.ki_setAt z G @c (by rw [size_toArray,<-F];exact S) (by rw [R];exact ⟨_,J,q⟩)
 ·have R:(k+(its.toArray.size:Int)).toNat=j:=by
   rw [seqIndex_neg @c L] at h1;rw [size_toArray,<-F];exact Option.some.inj h1
  exact W.ki_setBack z @c (by rw [size_toArray,<-F];exact L) @c (by rw [R];exact ⟨_,J,q⟩)
theorem vn (lo hi:Option Int)(n:Nat):(sliceBounds lo hi none n).1=((HT.sIx n 0 lo:Nat):Int)/\(sliceBounds lo hi none n).2.1=((HT.sIx n n hi:Nat):Int)/\(sliceBounds lo hi none n).2.2=1:=by
 rwa[⟨?_,?_,rfl⟩]
 ·cases lo with
  |none=>simp [sliceBounds,HT.sIx]
  |some i=>
   simp only [sliceBounds,HT.sIx,Option.getD_none,show (1:Int)>0 by decide,if_true];by_cases h:i<0
   ·simp only [h,if_true]<;>lia
   ·simp only [h,if_false]<;>lia
 ·cases hi with
  |none=>simp [sliceBounds,HT.sIx]
  |some i=>
   simp only [sliceBounds,HT.sIx,Option.getD_none,show (1:Int)>0 by decide,if_true];by_cases h:i<0
   ·simp only [h,if_true]<;>lia
   ·simp only [h,if_false]<;>lia
theorem sU (its:List Value)(lo hi:Option Int):slicePick its.toArray lo hi none=((its.drop (HT.sIx its.length 0 lo)).take (HT.sIx its.length its.length hi - HT.sIx its.length 0 lo)).toArray:=by
 obtain ⟨h1,h2,L⟩:=vn lo hi its.toArray.size;unfold slicePick;rw [h1,h2,L];simp only [sliceRange_one,pick_run,size_toArray]<;>rfl
def RA (K:Fg):V->Option Int->Option Int->Hp->VK->Prop:=λx lo hi H Q=>∃a xs,x= .ref a/\aN K H a xs/\∀p,H p=none->Q (.ref p) (upd H p (.lst @bo))
theorem Io:K6 X (RA X.K):=by
 intro pins s σ H x v R S lo hi sl Q I F hs pl G h;obtain ⟨a,xs,rfl,j,q⟩:=h;cases F;obtain ⟨its,r,J,L⟩:=I.list j;have z:=r.length;rwa[⟨"list",_,slot_list_getitem.lookup,J.isList.typeIs,?_⟩];rwa[wpAny_getItem_list_slice J.isList hs pl G .none @g ?_ (by rw [size_toArray]<;>lia)];rw [sU,<-z];rwa[⟨.ref s.heap.objs.size,_,I.laid (t':=s.toks) (o:= .lst @bo) (λb O q=>Heap.get?_push_of_some _ q) @f ?_,rfl,q _ @bG⟩];exact ⟨Nat.le_trans (pD xs lo hi) L,_,0,(r.drop @dH).take (HT.sIx xs.length xs.length hi - HT.sIx xs.length 0 lo),Heap.get?_push_size _ rfl⟩
def dY:V->Bool
 | .non=>true
 | .bl _=>true
 | .int _=>true
 | .str _=>true
 |_=>false
noncomputable def Ka:V->V->Bool
 | .non,.non=>true
 | .bl a,.bl b=>a==b
 | .bl a,.int b=>(if a then 1 else 0)==b
 | .int a,.bl b=>a==(if b then 1 else 0)
 | .int a,.int b=>a==b
 | .str a,.str b=>a==b
 |_,_=>false
theorem Gy {A:Around}{s:Shared}{y x:V}{u v:Value}(z:aK y u)(J:aK x v)(G:dY y=true)(j:dY x=true):SeqAt.EqAt A s u v (Ka y x):=by
 cases y with
 |non=>
  cases z
  cases x with
  |non=>cases J;exact SeqAt.EqAt.same _
  |bl b=>cases J;exact SeqAt.EqAt.none_bool b
  |int b=>obtain ⟨t,rfl⟩:=J;exact SeqAt.EqAt.none_int b t
  |str b=>obtain ⟨t,rfl⟩:=J;exact SeqAt.EqAt.none_str b t
  |_=>exact absurd (show false=true from j) Bool.false_ne_true
 |bl a=>
  cases z
  cases x with
  |non=>cases J;exact SeqAt.EqAt.bool_none a
  |bl b=>cases J;exact SeqAt.EqAt.bool_bool a b
  |int b=>obtain ⟨t,rfl⟩:=J;exact SeqAt.EqAt.bool_int a b t
  |str b=>obtain ⟨t,rfl⟩:=J;exact SeqAt.EqAt.bool_str a b t
  |_=>exact absurd (show false=true from j) Bool.false_ne_true
 |int a=>
  obtain ⟨F,rfl⟩:=z
  cases x with
  |non=>cases J;exact SeqAt.EqAt.int_none a F
  |bl b=>cases J;exact SeqAt.EqAt.int_bool a F b
  |int b=>obtain ⟨t,rfl⟩:=J;exact SeqAt.EqAt.int_int a F b t
  |str b=>obtain ⟨t,rfl⟩:=J;exact SeqAt.EqAt.int_str a F b t
  |_=>exact absurd (show false=true from j) Bool.false_ne_true
 |str a=>
  obtain ⟨F,rfl⟩:=z
  cases x with
  |non=>cases J;exact SeqAt.EqAt.str_none a F
  |bl b=>cases J;exact SeqAt.EqAt.str_bool a F b
  |int b=>obtain ⟨t,rfl⟩:=J;exact SeqAt.EqAt.str_int a F b t
  |str b=>obtain ⟨t,rfl⟩:=J;exact SeqAt.EqAt.str_str a F b t
  |_=>exact absurd (show false=true from j) Bool.false_ne_true
 |_=>exact absurd (show false=true from G) Bool.false_ne_true
noncomputable def Ar (x:V)(u:Value):Bool:=match u with
 | .none=>Ka .non x
 | .bool b=>Ka (.bl b) x
 | .int i _=>Ka (.int i) x
 | .str z _=>Ka (.str z) x
 |_=>false
theorem Gw {x y:V}{u:Value}(r:aK y u)(f:dY y=true):Ar x u=Ka y x:=by
 cases y with
 |non=>cases r;rfl
 |bl b=>cases r;rfl
 |int i=>obtain ⟨t,rfl⟩:=r;rfl
 |str z=>obtain ⟨t,rfl⟩:=r;rfl
 |_=>exact absurd (show false=true from f) Bool.false_ne_true
theorem m7 {x:V}:∀ {xs:List V} {us:List Value},aU xs us->xs.all dY=true->us.any (Ar x)=xs.any λy=>Ka y x
 |_,_,.nil,_=>rfl
 |y::xs,u::us,.cons r t,f=>by
  rw [all_cons,Bool.and_eq_true] at f;rw [any_cons,any_cons,Gw r f.1,m7 t f.2]
theorem jK {A:Around}{s:Shared}{x:V}{v:Value}(J:aK x v)(j:dY x=true):∀ {xs:List V} {us:List Value},aU xs us->xs.all dY=true->∀u∈us,SeqAt.EqAt A s u v (Ar x u)
 |_,_,.nil,_=>λu z=>by cases z
 |y::xs,u::us,.cons r t,f=>λF z=>by
  rw [all_cons,Bool.and_eq_true] at f
  rcases mem_cons.mp z with rfl|z
  ·rw [Gw r f.1];exact Gy r J f.1 j
  ·exact jK J j t f.2 F z
noncomputable def xR (x:V)(xs:List V):Bool:=xs.any λy=>Ka y x
def Qx (K:Fg)(neg:Bool):R2:=λx y H Q=>∃p xs,y= .ref p/\(aN K H p xs\/aD K H p xs)/\dY x=true/\xs.all dY=true/\Q (.bl (if neg then !xR x xs else xR x xs)) H
theorem Cm:dE X @cB (Qx X.K false):=by
 intro pins s σ H x y v u Q I J z h;obtain ⟨p,xs,rfl,L,j,fs,q⟩:=h;cases z
 rcases L with L|L
 ·obtain ⟨its,r,pl,G⟩:=I.list L;rwa[SeqAt.in_listAt (Ar x) pl.isList (λw F=>jK J j r fs w (by simpa using F)) ⟨.bl _,H,I,rfl,?_⟩];rw [show its.toArray.any (Ar x)=its.any (Ar x) by simp,m7 r fs];exact q
 ·obtain ⟨its,r,pl,G⟩:=I.tuple L;rwa[SeqAt.in_tupleAt (Ar x) pl (λw F=>jK J j r fs w (by simpa using F)) ⟨.bl _,H,I,rfl,?_⟩];rw [show its.toArray.any (Ar x)=its.any (Ar x) by simp,m7 r fs];exact q
theorem v0:dE X @ds (Qx X.K true):=by
 intro pins s σ H x y v u Q I J z h;obtain ⟨p,xs,rfl,L,j,fs,q⟩:=h;cases z
 rcases L with L|L
 ·obtain ⟨its,r,pl,G⟩:=I.list L;rwa[SeqAt.notIn_listAt (Ar x) pl.isList (λw F=>jK J j r fs w (by simpa using F)) ⟨.bl _,H,I,rfl,?_⟩];rw [show its.toArray.any (Ar x)=its.any (Ar x) by simp,m7 r fs];exact q
 ·obtain ⟨its,r,pl,G⟩:=I.tuple L;rwa[SeqAt.notIn_tupleAt (Ar x) pl (λw F=>jK J j r fs w (by simpa using F)) ⟨.bl _,H,I,rfl,?_⟩];rw [show its.toArray.any (Ar x)=its.any (Ar x) by simp,m7 r fs];exact q
theorem wB:bR X (.builtin "len") (λxs H Q=>∃p ys,xs=[.ref p]/\(aN X.K H p ys\/aD X.K H p ys)/\Q (.int ys.length) H):=by
 intro pins s σ H xs G Q I r h;obtain ⟨p,ys,rfl,L,q⟩:=h;obtain ⟨u,rfl,J⟩:=kx r;cases J;have j:=lH
 rcases L with L|L
 ·obtain ⟨its,O,pl,F⟩:=I.list L;have z:=O.length;exact Calls.call_len_list pl.isList (by simp only [size_toArray]<;>lia) ⟨.int ys.length,H,I.tok _,⟨s.toks+1,by rw [size_toArray,z]⟩,q⟩
 ·obtain ⟨its,O,pl,F⟩:=I.tuple L;have z:=O.length;exact len_tuple pl (by simp only [size_toArray]<;>lia) ⟨.int ys.length,H,I.tok _,⟨s.toks+1,by rw [size_toArray,z]⟩,q⟩
theorem wA:bR X (.builtin "len") (λxs H Q=>∃z,xs=[.str z]/\z.length<=sizeLine/\Q (.int z.length) H):=by
 intro pins s σ H xs j Q I r h;obtain ⟨z,rfl,F,q⟩:=h;obtain ⟨u,rfl,t,rfl⟩:=kx r;have G:=lH;exact len_str @c ⟨.int z.length,H,I.tok _,⟨_,rfl⟩,q⟩
theorem wz:bR X (.type "list") (λxs H Q=>∃p ys,xs=[.ref p]/\(aN X.K H p ys\/aD X.K H p ys)/\∀l,H l=none->Q (.ref l) @cq):=by
 intro pins s σ H xs W Q I r h;obtain ⟨p,ys,rfl,L,q⟩:=h;obtain ⟨u,rfl,U⟩:=kx r;cases U
 have z:∀(its:List Value),aU ys its->ys.length<=sizeLine->∀(h':Heap) (j:Nat),(∀b o',s.heap.get? b=some o'->h'.get? b=some o')->
  h'.get? s.heap.objs.size=some {cls:= .type "list",dict:=none,data:= .seq its.toArray j,slots:= #[]}->EP X pins σ Q (.ref s.heap.objs.size) {s with heap:=h'}:=λits O G h' j kp e=>
  ⟨.ref s.heap.objs.size,_,I.laid (t':=s.toks) kp @f (show bH X.prog X.w _ h' _ (.lst ys) from ⟨G,its,j,O,e⟩),rfl,q _ @bG⟩
 rcases L with L|L
 ·obtain ⟨its,O,pl,G⟩:=I.list L;have F:=O.length;obtain ⟨o,R,J,n,S⟩:=pl.isList;exact call_list_seq p (.inl rfl) R J S (λh' j kp e=>z its O G h' j kp e) (by simp only [size_toArray]<;>lia)
 ·obtain ⟨its,O,pl,G⟩:=I.tuple L;have F:=O.length;obtain ⟨o,R,J,n,S⟩:=pl;exact call_list_seq p (.inr rfl) R J S (λh' j kp e=>z its O G h' j kp e) (by simp only [size_toArray]<;>lia)
theorem tS:bR X (.type "tuple") (λxs H Q=>∃p ys,xs=[.ref p]/\((aN X.K H p ys/\∀l,H l=none->Q (.ref l) @db)\/(aD X.K H p ys/\Q (.ref p) H))):=by
 intro pins s σ H xs R Q I r h;obtain ⟨p,ys,rfl,h⟩:=h;obtain ⟨u,rfl,j⟩:=kx r;cases j
 rcases h with ⟨L,q⟩|⟨L,q⟩
 ·obtain ⟨its,O,pl,F⟩:=I.list L;have z:=O.length;rwa[call_tuple_list pl.isList (λh' kp=> ?_) (by simp only [size_toArray]<;>lia)];have J:aB X pins σ H {s with heap:=h'}:=I.kept (t':=s.toks) kp
  have G:aB X pins σ (upd H h'.objs.size (.tup ys)) {s with heap:=h'.push {cls:= .type "tuple",data:= .seq its.toArray}}:=
   J.laid (t':=s.toks) (λb o e=>Heap.get?_push_of_some _ e) @f (show bH X.prog X.w _ _ _ (.tup ys) from ⟨F,its,O,IsTup.new _ _⟩)
  exact ⟨.ref h'.objs.size,_,G,rfl,q _ @cp⟩
 ·obtain ⟨its,O,pl,F⟩:=I.tuple L;exact call_tuple_same pl ⟨.ref p,H,I,rfl,q⟩
def Qt (K:Fg)(T:String)(x:V)(H:Hp):Prop:=match x with
 | .str _=>T="str"
 | .int _=>T="int"
 | .ref p=>(T="list"/\∃xs,aN K H p xs)\/(T="tuple"/\∃o,K.lookup p=some o/\o.cls= .type "tuple"/\o.dict=none)\/
    (T="dict"/\((∃kvs,H p=some (.dK kvs))\/∃kvs,H p=some (.dT kvs)))\/(T="set"/\∃S n,H p=some (.set S n))
 |_=>False
theorem DK {pins:List (Addr×Obj)}{σ:St}{H:Hp}{s:Shared}{T:String}{x:V}{v:Value}(I:aB X pins σ H s)(r:aK x v)(ty:Qt X.K T x H):
 s.TypeIs v T/\∀a,v= .ref a->∃ob,s.heap.get? a=some ob/\ob.dict=none:=by
 cases x with
 |str z=>
  obtain ⟨t,rfl⟩:=r;cases (show T="str" from ty);exact ⟨typeIs_str s z t,λ_ e=>nomatch e⟩
 |int i=>
  obtain ⟨t,rfl⟩:=r;cases (show T="int" from ty);exact ⟨typeIs_int s i t,λ_ e=>nomatch e⟩
 |ref p=>
  cases r
  rcases ty with ⟨rfl,xs,L⟩|⟨rfl,o,R,F,J⟩|⟨rfl,R⟩|⟨rfl,S,n,R⟩
  ·obtain ⟨its,_,pl,_⟩:=I.list L;rwa[⟨pl.isList.typeIs,λa e=> ?_⟩];cases e;obtain ⟨o,n,e,c,J,_⟩:=pl;exact ⟨o,e,J⟩
  ·rwa[⟨⟨o,I.kIn p o R,F⟩,λa e=> ?_⟩];cases e;exact ⟨o,I.kIn _ o R,J⟩
  ·have z:∃o,s.heap.get? p=some o/\o.ExactDict:=by
    rcases R with ⟨kvs,R⟩|⟨kvs,R⟩
    ·obtain ⟨_,_,_,_,o,_,_,e,ex,_⟩:=I.hok p _ R;exact ⟨o,e,ex⟩
    ·obtain ⟨_,_,_,_,o,_,_,e,ex,_⟩:=I.hok p _ R;exact ⟨o,e,ex⟩
   obtain ⟨o,e,ex⟩:=z;rwa[⟨⟨o,e,ex.1⟩,λa j=> ?_⟩];cases j;exact ⟨o,e,ex.2.1⟩
  ·obtain ⟨o,_,_,_,e,ex,_⟩:=I.hok p _ R;rwa[⟨⟨o,e,ex.1⟩,λa j=> ?_⟩];cases j;exact ⟨o,e,ex.2.1⟩
 |_=>exact False.elim ty
variable {o e:Expr}{es:List Expr}{to:TE}{t:TA}{name:Str}{apos cpos:Pos}{T id:String}{r:V->List V->Hp->VK->Prop}
end
def Sg (X:Cx)(id:String)(r:V->List V->Hp->VK->Prop):Prop:=
 ∀(pins:List (Addr×Obj)) (s:Shared) (σ:St) (H:Hp) (x:V) (xs:List V) (v:Value) (us:List Value) (Q:VK),aB X pins σ H s->aK x v->aU xs us->r x xs H Q->
  wpAny @e X.A (call (.builtin id) (v::us)) @A X.xe s
theorem aU.one:∀ {x:V} {us:List Value},aU [x] us->∃u,us=[u]/\aK x u
 |_,_,.cons r .nil=>⟨_,rfl,r⟩
section
variable {X:Cx}{pins:List (Addr×Obj)}{σ:St}{H:Hp}{s:Shared}{l b:Addr}{xs ys zs:List V}
theorem aB.lset {its its':List Value}{n:Nat}{f:Array Value->Array Value}{t':Nat}(I:aB X pins σ H s)(j:H l=some (.lst xs))
(e:s.heap.get? l=some {cls:= .type "list",data:= .seq its.toArray n})(z:f its.toArray=its'.toArray)(W:aU ys its')(F:ys.length<=sizeLine):
 aB X pins σ @cq {s with heap:=s.heap.update l (Obj.mapSeq f),toks:=t'}:=by
 have q:=PySem.IsL.update e f;rw [z] at q;rwa[I.write (x:=l) (e:=l) (by rw [j];exact trivial) (.inl rfl) (λL u J G=>(Heap.get?_update_other s.heap (Obj.mapSeq f) (Ne.symm J)).trans G) ⟨_,q⟩ ?_];exact ⟨F,its',_,W,q⟩
theorem aB.lnew {its:List Value}{t':Nat}(I:aB X pins σ H s)(W:aU ys its)(F:ys.length<=sizeLine):
 aB X pins σ (upd H s.heap.objs.size (.lst ys)) {s with heap:=s.heap.push {cls:= .type "list",data:= .seq its.toArray},toks:=t'}:=
 I.laid (λ_ _ q=>Heap.get?_push_of_some _ q) @f ⟨F,its,0,W,Heap.get?_push_size _ rfl⟩
theorem aB.fresh (I:aB X pins σ H s):H s.heap.objs.size=none:=I.hok.fresh @f
theorem aB.lstM (I:aB X pins σ H s)(j:H l=some (.lst xs)):xs.length<=sizeLine/\∃(its:List Value) (n:Nat),aU xs its/\xs.length=its.length/\s.heap.get? l=some {cls:= .type "list",data:= .seq its.toArray n}:=by
 obtain ⟨z,its,n,r,e⟩:=I.hok l _ j;exact ⟨z,its,n,r,r.length,e⟩
theorem rc {n:Nat}(h:n<=sizeLine):Builtin.List.listTooLong n=false:=by
 unfold Builtin.List.listTooLong;exact decide_eq_false @c
end
section
variable {X:Cx}
def IM:V->List V->Hp->VK->Prop:=λx vs H Q=>∃l xs y,x= .ref l/\vs=[y]/\H l=some (.lst xs)/\xs.length<sizeLine/\Q .non (upd H l (.lst (xs++[y])))
theorem CD:Sg X "list.append" IM:=by
 intro pins s σ H x R v O Q I J G h;obtain ⟨l,xs,y,rfl,rfl,j,S,q⟩:=h;cases J;obtain ⟨u,rfl,L⟩:=G.one;obtain ⟨z,its,n,r,W,e⟩:=I.lstM j;rwa[call_meets F.slot_list_append ⟨_,e,rfl⟩ F.entry_list_append (F.args_list_append_2 _ _) (PySem.list_append l its.toArray n u (by rw [size_toArray];lia)) ⟨e,?_⟩];rwa[⟨.non,_,I.lset (its':=its++[u]) j e @g (r.append (.cons L .nil)) ?_,rfl,q⟩];rw [length_append,length_singleton];lia
def IL:V->List V->Hp->VK->Prop:=λx vs H Q=>∃l b xs zs,x= .ref l/\vs=[.ref b]/\H l=some (.lst xs)/\H b=some (.lst zs)/\xs.length+zs.length<=sizeLine/\Q .non (upd H l (.lst (xs++zs)))
theorem CC:Sg X "list.extend" IL:=by
 intro pins s σ H x vs v us Q I rx O h;obtain ⟨l,b,xs,zs,rfl,rfl,L,U,hz,q⟩:=h;cases rx;obtain ⟨u,rfl,S⟩:=O.one;cases S;obtain ⟨z,its,n,r,hl,e⟩:=I.lstM L;obtain ⟨z2,G,Y,W,Z,R⟩:=I.lstM U
 have J:its.toArray.size+G.toArray.size<=sizeLine:=by rw [size_toArray,size_toArray];lia
 have j: ¬(!its.toArray.isEmpty&&Builtin.List.listTooLong (its.toArray.size+G.toArray.size))=true:=by
  rw [rc J,Bool.and_false];exact Bool.false_ne_true
 refine call_meets F.slot_list_extend ⟨_,e,rfl⟩ F.entry_list_extend (F.args_list_extend_2 _ _)
  (AutoSeq1.list_extend_list_list_0 l its.toArray n b G.toArray Y j (by rw [size_toArray];lia) @c) ⟨e,R,?_⟩
 rwa[⟨.non,_,I.lset (its':=its++G) L e @g (r.append W) ?_,rfl,q⟩];rw [length_append];lia
def RF:R2:=λx y H Q=>∃l b xs zs,x= .ref l/\y= .ref b/\H l=some (.lst xs)/\H b=some (.lst zs)/\xs.length+zs.length<=sizeLine/\∀p,H p=none->Q (.ref p) (upd H p (.lst (xs++zs)))
theorem MN:dE X @bQ RF:=by
 intro pins s σ H x y v u Q I J j h;obtain ⟨l,b,xs,zs,rfl,rfl,L,U,O,q⟩:=h;cases J;cases j;obtain ⟨z,its,n,r,hl,e⟩:=I.lstM L;obtain ⟨S,G,Y,W,Z,R⟩:=I.lstM U;rwa[PySem.P.add_list e R ?_ (by rw [size_toArray,size_toArray];lia)]
 have F:its.toArray++G.toArray=(its++G).toArray:=by simp
 rw [F];exact ⟨.ref _,_,I.lnew (t':=s.toks) (r.append W) (by rw [length_append];lia),rfl,q _ I.fresh⟩
end
end L2
namespace Att
open PySem PySem.W PySem.Calls PyProof.Rows
theorem pO {P:Params}{h:Heap}:∀(ns:List Int) (vs:List Value),WellAll P h vs @eK->IntsAre vs ns:=by
 intro ns
 induction ns with
 |nil=>
  intro vs w;rw [map_nil] at w;cases w;exact .nil
 |cons n ns ih=>
  intro vs w;rw [map_cons] at w
  cases w with
  |cons a b=>
   cases a;exact .cons _ _ (ih _ b)
theorem BX {l:OpenLaw}{n:Nat}(U:l.most=some n){P:Params}{h:Heap}{z:List WData}{j:List Value}
(F:l.row.toRowW.claim.pre z=true)(L:WellAll P h j z):
 ∃a vs ns,j=[Value.ref a]/\z=[WData.list @eK]/\h.get? a=some {cls:= .type "list",data:= .seq vs.toArray}/\IntsAre vs ns/\ns.length<=n:=by
 have J:WShape.hasAll [] z [.list .int]=true:=(pre_splitW F).1;have O:l.pre.holds [] {args:=z}=true:=(pre_splitW F).2;obtain ⟨d,r,rfl,h1,h2⟩:=hasAllW_cons J;obtain rfl:=hasAllW_nil h2;obtain ⟨xs,rfl,R⟩:=hasW_list h1;obtain ⟨ns,rfl⟩:=items_int R
 have G:ns.length<=n:=by
  unfold OpenLaw.pre at O
  have I:(WTm.not (.lt (.lit (.int (n:Int))) (.len (.arg 0)))).holds [] {args:=[.list (ns.map .int)]}=true:=by
   have I:=(holds_andW O).1;rw [U] at I;exact I
  have S:=condW_of I (w_not (w_lt w_lit (w_len_list (w_arg rfl))));rw [length_map] at S;rwa[Nat.le_of_not_lt λq=> ?_]
  have W:(n:Int)<((ns.length:Nat):Int):=by lia
  first
   |(rw [decide_eq_true W] at S;exact absurd S @b)
   |(simp at S;lia)
 cases L with
 |cons w1 w2=>
  cases w2
  cases w1 with
  |list ho hall=>exact ⟨_,_,ns,rfl,rfl,ho,pO ns _ hall,G⟩
theorem Ch (l:OpenLaw)(z:List WData):l.row.toRowW.claim.post z (.bool true) z=true:=
 postW_of (r:=l.row.toRowW) (X:=(true==true))
  (show WShape.has [] (.bool true) .bool=true by first|rfl|decide|simp [WShape.has,WShape.arms,WShape.armsAll])
  (show (WTm.eq .res (.lit (.bool true))).value [] {args:=z,res:=some (.bool true),after:=z}=some (.bool (true==true)) from w_eq_bool (w_res rfl) w_lit) rfl
end Att
namespace L2
open PySem PySem.Spec PyProof.Rows
theorem ue:∀ {vs:List Value} {ns:List Int},IntsAre vs ns->aU @bW vs
 |_,_,.nil=> .nil
 |_,_,.cons n t h=> .cons ⟨t,rfl⟩ (ue h)
def cF (s:Stmt):Arguments:=match s with
 | .FunctionDef _ a _ _ _ _ _ _ _ _=>a
 |_=> {posonlyargs:=[],args:=[],vararg:=none,kwonlyargs:=[],kw_defaults:=[],kwarg:=none,defaults:=[]}
def bO (s:Stmt):List Stmt:=match s with
 | .FunctionDef _ _ b _ _ _ _ _ _ _=>b
 |_=>[]
def af (s:Stmt):Scope:=match s with
 | .FunctionDef _ _ _ _ _ _ sc _ _ _=>sc
 |_=> {kind:= .function,names:=[],isGenerator:=false,isCoroutine:=false}
abbrev bg:oU:=λ_ _ _ _ _ _=>False
abbrev E0:XK:=λ_ _ _=>False
theorem jI {X:Cx}:ib bg X E0:=λ_ _ _ _ _ _ _ h=>h.elim
structure bB (K:Fg)(x qual:Str)(st:Stmt)(f:Addr)(fd:FuncData):Prop where
 ex:∃(oc:Value) (od:Option Addr) (kV doc pm:Value) (an:Option Addr) (cdv ct:Value) (osl:Array @Z),
  fd=W.fnOf x qual @dZ @df @cd .none kV doc pm an cdv ct/\K.lookup f=some ⟨oc,od,.func fd,osl⟩/\W.codeIn K cdv qual=true
 kp:W.keepIn K (.ref f)=true
section
variable {P:Program}{w:World}{K:Fg}{mg:Str->Option Value}{base:Heap}
theorem bB.ok {x qual:Str}{st:Stmt}{f:Addr}{fd:FuncData}{N ps:List Str}{k:Nat}{sp:Sp}(F:bB K x qual st f fd)(S:ap N ps @cd)(Y:∀vs H Q E,sp vs H Q E->vs.length=ps.length)
(G:∀(cdv:Value) (A:Around) (outer:List Env) (s:Shared) (H:Hp) (vs:List V) (Q:VK) (E:XK),b8 k (A.deeper (envOfC qual @cd s.heap.objs.size f cdv))->sp vs H Q E->
   ∃t,tW (rQ bg P w K mg base N qual @cd f cdv A outer s H E).nox @df t/\t {nx:=λ_ H'=>Q .non H',rt:=Q} @cN H):az P w K mg base bg (k+1) f fd ps sp:=by
 obtain ⟨oc,R,Z,L,J,W,cdv,U,aa,rfl,z,j⟩:=F.ex;rwa[Gm z j S Y λA outer s H vs Q E I O=> ?_];obtain ⟨t,h,q⟩:=G cdv A outer s H vs Q E I O;exact ⟨t,h.nox,q⟩
theorem bB.binds {x qual:Str}{st:Stmt}{f:Addr}{fd:FuncData}{ps:List Str}(F:bB K x qual st f fd)
(h:∀(kV doc pm:Value) (an:Option Addr) (cdv ct:Value) (us:List Value),us.length=ps.length->bindArgs (W.fnOf x qual @dZ @df @cd .none kV doc pm an cdv ct) ⟨us,[]⟩=pure @cH):fK K fd ps []:=by
 obtain ⟨z,G,kV,doc,pm,an,cdv,ct,aa,rfl,I,j⟩:=F.ex;exact .all (h kV doc pm an cdv ct)
theorem wk {x qual:Str}{st:Stmt}{f:Addr}{F:Value}{od z:Option Addr}{aa:Array @Z}{Z L J j U:Value}(l:K.lookup f=some ⟨F,od,.func (W.fnOf x qual @dZ @df @cd .none Z L J z j U),aa⟩)
(c:W.codeIn K j qual=true)(k:W.keepIn K (.ref f)=true):bB K x qual st f (W.fnOf x qual @dZ @df @cd .none Z L J z j U):=⟨⟨F,od,Z,L,J,z,j,U,aa,rfl,l,c⟩,k⟩
end
theorem dG {A:Around}{k:Nat}(Y:b8 k A):A.units+1<cLine:=Nat.lt_of_le_of_lt (Nat.add_le_add_left (by decide:1<=64) _) Y.units
def aq (H H':Hp):Prop:=∀b o,H b=some o->H' b=some o
theorem aq.refl (H:Hp):aq H H:=λ_ _ h=>h
theorem aq.trans {H H1 H2:Hp}(a:aq H H1)(b:aq H1 H2):aq H H2:=λc o h=>b c o (a c o h)
theorem aq.free {H H':Hp}(e:aq H H'){l:Addr}(h:H' l=Option.none):H l=Option.none:=by
 cases q:H l with
 |none=>rfl
 |some o=>
  rw [e l o q] at h;cases h
theorem aq.seq {K:Fg}{H H':Hp}{a:Addr}{xs:List V}(e:aq H H')(h:aN K H a xs):aN K H' a xs:=by
 rcases h with (h|⟨o,h⟩)|h
 ·exact .inl (.inl (e _ _ h))
 ·exact .inl (.inr ⟨o,e _ _ h⟩)
 ·exact .inr h
noncomputable def fo (cells:List (Str×Addr)):List (Str×NameKind)->List (Str×Addr)->List (Str×Addr)
 |[],cs=>cs
 |(n,.free)::r,cs=>fo cells r (match cells.lookup n with|some a=>(n,a)::cs|none=>cs)
 |(_,_)::r,cs=>fo cells r cs
theorem oK {j:List (Str×Addr)}{n:Str}{r:List (Str×NameKind)}{cs:List (Str×Addr)}{a:Addr}(h:j.lookup n=some a):fo j ((n,.free)::r) cs=fo j r ((n,a)::cs):=by
 show fo j r (match j.lookup n with|some a=>(n,a)::cs|none=>cs)=_;rw [h]
theorem jb {j:List (Str×Addr)}{n:Str}{k:NameKind}{r:List (Str×NameKind)}{cs:List (Str×Addr)}(h:k≠ .free):fo j ((n,k)::r) cs=fo j r cs:=by
 cases k<;>first|rfl|exact absurd rfl h
theorem mX {j:List (Str×Addr)}:∀ {l:List (Str×NameKind)} {cs:List (Str×Addr)},(∀p∈cs,j.lookup p.1=some p.2)->∀p∈fo j l cs,j.lookup p.1=some p.2
 |[],_,h=>h
 |(n,k)::r,cs,h=>by
  by_cases R:k= .free
  ·subst R
   cases e:j.lookup n with
   |none=>
    have:fo j ((n,.free)::r) cs=fo j r cs:=by
     show fo j r (match j.lookup n with|some a=>(n,a)::cs|none=>cs)=_;rw [e]
    rw [this];exact mX h
   |some a=>
    rw [oK e];rwa[mX λp G=> ?_]
    rcases mem_cons.mp G with rfl|G
    ·exact e
    ·exact h p G
  ·rw [jb R];exact mX h
theorem jc {j:List (Str×Addr)}:∀ {l:List (Str×NameKind)} {cs:List (Str×Addr)} {p:Str×Addr},p∈cs->p∈fo j l cs
 |[],_,_,h=>h
 |(n,k)::r,cs,p,h=>by
  by_cases R:k= .free
  ·subst R;show p∈fo j r (match j.lookup n with|some a=>(n,a)::cs|none=>cs)
   cases e:j.lookup n with
   |none=>exact jc h
   |some a=>exact jc (mem_cons_of_mem _ h)
  ·rw [jb R];exact jc h
theorem rW {j:List (Str×Addr)}{x:Str}{c:Addr}(I:j.lookup x=some c):∀ {l:List (Str×NameKind)} {cs:List (Str×Addr)},(x,NameKind.free)∈l->(x,c)∈fo j l cs
 |(n,k)::r,cs,h=>by
  rcases mem_cons.mp h with e|h2
  ·cases e;rw [oK I];exact jc mem_cons_self
  ·by_cases R:k= .free
   ·subst R;show (x,c)∈fo j r (match j.lookup n with|some a=>(n,a)::cs|none=>cs);exact rW I h2
   ·rw [jb R];exact rW I h2
theorem kE {α β:Type}[BEq α][LawfulBEq α]{x:α}{c:β}:∀ {l:List (α×β)},(x,c)∈l->∃d,l.lookup x=some d
 |(n,a)::r,h=>by
  cases e:x==n with
  |true=>exact ⟨a,by simp only [lookup_cons,e]⟩
  |false=>
   rcases mem_cons.mp h with q|q
   ·cases q;simp at e
   ·obtain ⟨d,J⟩:=kE q;exact ⟨d,by simp only [lookup_cons,e];exact J⟩
theorem oJ {j:List (Str×Addr)}{l:List (Str×NameKind)}{x:Str}{c:Addr}(h:(fo j l []).lookup x=some c):j.lookup x=some c:=
 mX (l:=l) (cs:=[]) (λ_ G=>absurd G @g) (x,c) @dG
theorem GO {j:List (Str×Addr)}{l:List (Str×NameKind)}{x:Str}{c:Addr}(I:j.lookup x=some c)(h:(x,NameKind.free)∈l):(fo j l []).lookup x=some c:=by
 obtain ⟨d,J⟩:=kE (rW (cs:=[]) I h);rw [J,<-I,oJ J]
theorem kG {scope:Scope}{env:Env}(h:∀n,(n,NameKind.free)∈scope.names->∃c,env.cells.lookup n=some c):closureFor scope env=pure @cS:=by
 have z:∀(l:List (Str×NameKind)) (j:List (Str×Addr)),(∀n,(n,NameKind.free)∈l->∃c,env.cells.lookup n=some c)->
  (forIn l j (λ(x:Str×NameKind) (r:List (Str×Addr))=>match x with
    |(name,kind)=>if (kind==NameKind.free)=true then (do let c<-cellOf env name;pure (ForInStep.yield ((name,c)::r))) else (do pure PUnit.unit;pure (ForInStep.yield r))):Sem (List (Str×Addr)))=pure (fo env.cells l j):=by
  intro l
  induction l with
  |nil=>intro j _;rfl
  |cons p r ih=>
   intro j W;obtain ⟨n,k⟩:=p;have Y:=ih;by_cases R:k= .free
   ·subst R;obtain ⟨c,I⟩:=W n mem_cons_self;rw [oK I];rw [<-ih ((n,c)::j) λm F=>W m @cM];rw [forIn_cons];simp only [cellOf,I,beq_self_eq_true,if_true];rfl
   ·rw [jb R];rw [<-ih j λm F=>W m @cM];rw [forIn_cons]
    have G:(k==NameKind.free)=false:=by simpa using R
    simp only [G,Bool.false_eq_true,if_false];rfl
 have e:=z scope.names [] h;unfold closureFor
 first
  |exact congrArg (λm=>m>>=pure) e
  |(simp only [bind_pure];exact e)
  |(rw [show (pure @cS:Sem (List (Str×Addr)))=(pure @cS>>=pure) from rfl,<-e];rfl)
noncomputable def bA (X:Cx)(scope:Scope)(N':List Str)(C:Addr)(s:Shared)(H:Hp)(ex:List Addr):Cx where
 prog:=X.prog
 w:=X.w
 K:=X.K
 mg:=X.mg
 base:=X.base
 A:=X.A
 N:=N'
 s₀:=s
 H₀:=H
 env:=compEnvC scope @bj C X.env
 outer:=X.stack
 stack:=X.stack
 ex:=ex
 fn:=λ_=>false
 calm:=X.calm
 pn:=[]
 xe:=λ_ _=>False
structure dF (X:Cx)(scope:Scope)(N':List Str)(pk:List @K):Prop where
 kind:scope.kind= .function
 nocell:∀y∈scope.names,y.2≠ .cell
 loc:∀y∈scope.names,y.2= .local->scope.names.lookup y.1=some .local
 free:∀n,(n,NameKind.free)∈scope.names->X.env.kindOf n=some .cell\/X.env.kindOf n=some .free
 nofl:∀n,(n,NameKind.free)∈scope.names->scope.names.lookup n≠some .local
 pl:pk.length=N'.length
 pn:∀(j i:Nat) (x:Str),pk[j]? =some (some i)->N'[j]? =some x->X.N[i]? =some x/\(x,NameKind.free)∈scope.names
def c9 (pk:List @K)(σ:St):St:=pk.map λo=>o.bind λi=>(σ[i]?).join
theorem rg {scope:Scope}{env:Env}{x:Str}(S:∀y∈scope.names,y.2≠ .cell)(h:(relabel scope env).names.lookup x=some .cell\/(relabel scope env).names.lookup x=some .free):(x,NameKind.free)∈scope.names:=by
 have L:∀k,(relabel scope env).names.lookup x=some k->(k= .cell\/k= .free)->(x,NameKind.free)∈scope.names:=λk e j=>by
  have m:=PySem.mem_of_lookup e;obtain ⟨p,G,R⟩:=mem_map.mp m;obtain ⟨n,F⟩:=p;dsimp only at R;by_cases I:(F==NameKind.free&&env.scope.kind== .function&&env.kindOf n==some .cell)=true
  ·rw [if_pos I] at R
   have z:F= .free:=by
    simp only [Bool.and_eq_true] at I;simpa using I.1.1
   have J:n=x:=(Prod.mk.inj R).1;rw [<-J,<-z];exact G
  ·rw [if_neg I] at R;have J:n=x:=(Prod.mk.inj R).1;have O:F=k:=(Prod.mk.inj R).2
   rcases j with j|j
   ·exact absurd (O.trans j) (S _ G)
   ·rw [<-J,<-j,<-O];exact G
 rcases h with h|h
 ·exact L _ h (.inl rfl)
 ·exact L _ h (.inr rfl)
section
variable {X:Cx}{pins:List (Addr×Obj)}{σ:St}{H:Hp}{s:Shared}{scope:Scope}{N':List Str}{pk:List @K}{fp:List Addr}
theorem Kg (I:aB X pins σ H s)(S:dF X scope N' pk){C:Addr}(J:s.heap.objs.size<=C)(j:∀b∈fp,jW X pins H b)(G:∀b∈fp,b<s.heap.objs.size):(bA X scope N' C s H fp).Ok where
 mod:=I.ok.mod
 kind:=S.kind
 glob:=I.ok.glob
 blt:=I.ok.blt
 above:=J
 inj:=λx y c h1 h2=>I.ok.inj x y c (oJ h1) (oJ h2)
 has:=λx h=>by
  have m:(x,NameKind.free)∈scope.names:=rg S.nocell h;obtain ⟨c,L⟩:=I.ok.has x (S.free x m);exact ⟨c,GO L m⟩
 cab:=λx c h _=>nomatch h
 hd:=I.ok.hd
 frames:=I.ok.frames
 stk:= .inl rfl
 exf:=λb F=>⟨Nat.ne_of_lt (Nat.lt_of_lt_of_le (G b F) J),λx c e=>(j b F).2.2.2.2.1 x c (oJ e)⟩
 bs:=I.bs
 bsz:=Nat.le_trans I.ok.bsz I.sz
 noex:=λb o e F=>by
  rcases (j b F).2.2.2.1 with z|z
  ·exact I.ok.noex b o e z
  ·exact absurd (Nat.lt_of_lt_of_le @co (Nat.le_trans I.ok.bsz z)) @bl
 exfs:=λb F z=>by
  rcases mem_cons.mp @fM with e|e
  ·exact (j b F).2.1 e
  ·exact (j b F).2.2.1 e
 funs:=I.stack
 frf:=I.stkFree
theorem EU {pk:List @K}{σ:St}{j:Nat}{v:V}(h:(c9 pk σ)[j]? =some @bI):∃i,pk[j]? =some (some i)/\σ[i]? =some @bI:=by
 unfold c9 at h;rw [getElem?_map] at h
 cases e:pk[j]? with
 |none=>rw [e] at h;cases h
 |some o=>
  rw [e] at h
  cases o with
  |none=>cases h
  |some i=>
   rwa[⟨i,rfl,?_⟩];have h':(σ[i]?).join=some v:=Option.some.inj h
   cases q:σ[i]? with
   |none=>rw [q] at h';cases h'
   |some z=>rw [q] at h';rw [show z=some v from h']
theorem GL {J:Shared}{C D:Addr}{od:Obj}(I:aB X pins σ H s)(S:dF X scope N' pk)(hC:s.heap.objs.size<=C)(hf:∀b∈fp,jW X pins H b)(Y:∀b∈fp,b<s.heap.objs.size)
(W:J.os=s.os)(hg:J.gens=s.gens)(F:∀b o,s.heap.get? b=some o->J.heap.get? b=some o)(aa:J.heap.Ns C λ_=>none)(hD:s.heap.objs.size<=D)(Z:D≠C)(ac:J.heap.get? D=some od)(ab:∀v,od.data≠ .cell v):
 aB @fU [(D,od)] @W H J where
 ok:=Kg I S hC hf Y
 os:=W
 bare:=by rw [hg];exact I.bare
 base:=Un.kept F
 loc:=⟨_,aa,λj x v h1 h2 L=>by
  obtain ⟨i,e1,e2⟩:=EU h2;obtain ⟨hN,hm⟩:=S.pn j i x e1 h1;obtain ⟨m,hn,hl⟩:=I.loc;have hk:=S.free x hm;obtain ⟨c,hc⟩:=I.ok.has x hk
  have hv:Qg X.env.scope x:=by
   rcases hk with k|k
   ·exact .inr (.inl k)
   ·exact .inr (.inr k)
  obtain ⟨u,r,l⟩:=hl i x v hN e2 hv;rwa[⟨u,r,.inr ⟨?_,c,GO hc hm,?_⟩⟩]
  ·rcases L with L|L|L
   ·exfalso;have U:(relabel scope X.env).names.lookup x=some .local:=L;obtain ⟨p,hp,e⟩:=mem_map.mp (PySem.mem_of_lookup U);obtain ⟨n,R⟩:=p;dsimp only at e;by_cases G:(R==NameKind.free&&X.env.scope.kind== .function&&X.env.kindOf n==some .cell)=true
    ·rw [if_pos G] at e;exact nomatch (Prod.mk.inj e).2
    ·rw [if_neg G] at e;have en:n=x:=(Prod.mk.inj e).1;have ek:R= .local:=(Prod.mk.inj e).2;have q:=S.loc _ hp ek;have q2:(relabel scope X.env).names.lookup x=some .local:=U;exact S.nofl x hm (by rw [<-en];exact q)
   ·exact .inl L
   ·exact .inr L
  ·rcases l with ⟨k,_⟩|⟨_,c',e,z⟩
   ·rcases hk with R|R<;>(rw [R] at k;cases k)
   ·rw [hc] at e;cases e;obtain ⟨o,O,hd⟩:=z
    exact ⟨o,F _ _ O,hd⟩⟩
 cell:=λx c h=>by
  obtain ⟨v,o,O,hd⟩:=I.cell x c (oJ h);exact ⟨v,o,F _ _ O,hd⟩
 free:=I.hok.fresh hC
 freeC:=λx c h=>I.freeC x c (oJ h)
 pin:=λp hp=>by
  have e:p=(D,od):=by simpa using (show p∈([]:List (Addr×Obj))++[(D,od)] from hp)
  subst e;rwa[⟨ac,I.hok.fresh hD,Z,λz=> ?_,ab⟩];obtain ⟨_,o,O,_⟩:=I.stack.mem z;exact absurd (Nat.lt_of_lt_of_le (Heap.lt_size O) hD) @bl
 hok:=I.hok.kept F
 len:=by unfold c9;rw [length_map];exact S.pl
end
theorem AA {prog:Program}{w:World}{A:Around}{E:Value->Shared->Prop}{s:Shared}{l:Addr}{its:Array Value}{n:Nat}{x:Value}{Q:Value->Shared->Prop}
(e:s.heap.get? l=some {cls:= .type "list",data:= .seq its n})(hsz:its.size<=sizeLine)
(z:∀h' n',h'.get? l=some {cls:= .type "list",data:= .seq (its.push x) n'}->Heap.SameBut l s.heap h'->Q .none {s with heap:=h'}):
 wpAny @m A (call (.builtin "list.append") [.ref l,x]) Q E s:=by
 have W:s.heap.IsList l its:=PySem.IsL.isList e;rwa[wpAny_call_entry slot_list_append W.typeIs entry_list_append ?_ (args_list_append _ _)];show wpAny _ _ (updateSeq l (·.push x)>>=λ_=>ret .none) _ _ s;rwa[wpAny_bind ?_];have q:(s.heap.update l (Obj.mapSeq (·.push x))).get? l=some (Obj.mapSeq (·.push x) {cls:= .type "list",data:= .seq its n}):=Heap.get?_update_self _ e rfl;exact wpAny_updateSeq e rfl (wpAny_pure ⟨.none,rfl,z _ _ q (Heap.SameBut.update ..)⟩)
section
variable {X:Cx}{pins:List (Addr×Obj)}{σ:St}{H H':Hp}{s s':Shared}{scope:Scope}{N':List Str}{pk:List @K}{fp:List Addr}
theorem gQ.track {P:Program}{w:World}{H:Hp}{h:Heap}{a:Addr}{o:HO}(x:gQ P w H h)(z:H a=none)(j:bH P w @bD h a o):gQ P w @bD h:=λb u e=>by
 by_cases F:b=a
 ·subst F;rw [aj] at e;cases e;exact j
 ·rw [ao F] at e
  exact (x b u e).stay (λc v _ q=>q) (λc q=>by rw [ao @eH];exact q) λc xs q=>by rw [ao @eH];exact q
theorem gQ.but {P:Program}{w:World}{H:Hp}{h h':Heap}{a:Addr}(x:gQ P w H h)(j:H a=none)(k:∀b o,b≠a->h.get? b=some o->h'.get? b=some o):gQ P w H h':=λb u e=>
 (x b u e).stay (λc v I q=>k c v (by
   rcases I with rfl|I
   ·exact λz=>by rw [z,j] at e;cases e
   ·exact bL I j) q) @dW λ_ _ q=>q
theorem GK {C D:Addr}{h':Heap}{ys:List V}{its:List Value}{n:Nat}{Y:St}{O:List (Addr×Obj)}(I:aB X pins σ H s)(S:∀b∈fp,jW X pins H b)
(J:aB @fU O Y H' s')(W:s.heap.objs.size<=C)(hD:s.heap.objs.size<=D)(Z:D≠C)(L:H' D=none)(e:s'.heap.get? D=some {cls:= .type "list",data:= .seq its.toArray n})(r:aU ys its)
(hz:ys.length<=sizeLine)(sb:Heap.SameBut C s'.heap h'):aB X pins σ @ck {s' with heap:=h'}:=by
 have u:Un @dX fp H H' s.heap s'.heap:=J.base;have j:∀b o,b≠C->s'.heap.get? b=some o->h'.get? b=some o:=λb o F q=>(sb.2 b F).trans q;have G:∀b o,s.heap.get? b=some o->b≠C/\b≠D:=λb o q=>⟨Nat.ne_of_lt (Nat.lt_of_lt_of_le @fk W),Nat.ne_of_lt (Nat.lt_of_lt_of_le @fk hD)⟩;have U:H' C=none:=J.free
 have af:gQ X.prog X.w @ck h':=by
  rwa[gQ.but (a:=C) (gQ.track (h:=s'.heap) J.hok L ⟨hz,its,n,r,e⟩) ?_ j];rw [ao @fw];exact U
 rwa[I.call' (s':= {s' with heap:=h'}) (ch:=fp) J.os ?_ af J.bare λb F=>⟨(S b F).2.2.2.1,(S b F).2.1,(S b F).2.2.2.2.1,(S b F).2.2.2.2.2⟩];rwa[⟨λb o q n F R=> ?_,λb o q n F R=> ?_,λb o q n R=> ?_,λb o q R=> ?_,λb xs q=> ?_,λb o xs q=> ?_,λb ps q=> ?_⟩]
 ·exact j b o (G b o q).1 (u.keep b o q n F R)
 ·obtain ⟨sl,z⟩:=u.slot b o q n F R;exact ⟨sl,j b _ (G b o q).1 z⟩
 ·rw [ao (G b o q).2];exact u.free b o q n R
 ·obtain ⟨o',z⟩:=u.there b o q R;exact ⟨o',j b o' (G b o q).1 z⟩
 ·have z:=u.tups b xs q;rw [ao (bL z L)];exact z
 ·have z:=u.frzs b o xs q;rw [ao (bL z L)];exact z
 ·obtain ⟨m,z⟩:=u.tbls b ps q;exact ⟨m,by rw [ao (bL z L)];exact z⟩
end
def Hr (X:Cx)(es:List Expr)(t:TT):Prop:=
 ∀(pins:List (Addr×Obj)) (s:Shared) (σ:St) (H:Hp) (Q:Bool->Hp->Prop),aB X pins σ H s->t σ H Q->
  wpAny @e X.A (forIn es true λc r=>if r=true then do let ok<-isTrue c X.env (eval c X.env);pure (ForInStep.yield ok) else pure (ForInStep.yield r)) @dP X.xe s
def Re:TT:=λ_ H Q=>Q true H
theorem bU {X:Cx}:Hr X [] Re:=λpins s σ H Q I h=>wpAny_tests_nil ⟨H,I,h⟩
theorem ff {X:Cx}{c:Expr}{t:TT}(h:PT X c t):Hr X [c] t:=λpins s σ H Q I L=>wpAny_tests_one (h pins s σ H Q I L)
def tV (σ σ':St):Prop:=σ'.length=σ.length/\∀(i:Nat) v,σ[i]? =some @bI->σ'[i]? =some @bI
def DV (pk:List @K)(wi:TI)(g:TG)(tt:TT)(te:TE):TE:=λσ H Q=>wi σ H λJ H1=>∃W:Nat->Nat->List V->Hp->Prop,(∃m,W 0 m [] H1)/\∀i m ys H,W i m ys H->
 (J.stop i H/\ys.length<=sizeLine/\∀p,H p=none->Q (.ref p) @ba)\/
 (J.go i H/\ys.length<sizeLine/\∃N:List V->Hp->Prop,(∀zs H',N zs H'->∃m',m'<m/\W (i+1) m' zs H')/\∀x H',J.yld i H x H'->g x @W H' λσ2 H2=>tV @W σ2/\tt σ2 H2 λb H3=>
   if b=true then te σ2 H3 λv H4=>N (ys++[v]) H4 else N ys H3)
structure G5 (P:Program)(w:World)(K:Fg)(A₀:Around)(c:Bool)(tg:Expr)(J:It)(fp:List Addr)(it:Addr)(tn:Nat->Heap->Prop):Prop where
 mem:it∈fp
 obj:∀i h,tn i h->∀b∈fp,∃o,h.get? b=some o/\∀v,o.data≠ .cell v
 keep:∀i h h',tn i h->(∀b∈fp,∀o,h.get? b=some o->h'.get? b=some o)->tn i h'
 item:∀(X:Cx),X.prog=P->X.w=w->X.K=K->X.A=A₀->X.calm=c->∀(i:Nat) (pins:List (Addr×Obj)) (s:Shared) (σ:St) (H:Hp) (E:Value->Shared->Prop),aB X pins σ H s->(∀b∈fp,jW X pins H b)->tn i s.heap->J.go i H->
  wpAny @bg X.A @dn (λr s1=>∃u,r=some u/\
   wpAny @bg X.A @cA (λ_ s2=>∃x H',aB X pins σ H' s2/\aK x u/\J.yld i H x H'/\tn (i+1) s2.heap/\∀b∈fp,H' b=none) E s1) E s
 done:∀(X:Cx),X.prog=P->X.w=w->X.K=K->X.A=A₀->X.calm=c->∀(i:Nat) (pins:List (Addr×Obj)) (s:Shared) (σ:St) (H:Hp) (E:Value->Shared->Prop),aB X pins σ H s->(∀b∈fp,jW X pins H b)->tn i s.heap->J.stop i H->
  wpAny @bg X.A @dn (λr s1=>r=none/\aB X pins σ H s1) E s
 self:∀(A:Around) (i:Nat) (s:Shared) (Q:Value->Shared->Prop) (E:Value->Shared->Prop),tn i s.heap->Q (.ref it) s->wpAny @bg A (pyIter (.ref it)) Q E s
theorem wM.toA {P:Program}{w:World}{K:Fg}{z:Around}{c:Bool}{tg:Expr}{J:It}{fp:List Addr}{it:Addr}{j:Nat->Heap->Prop}(T:wM P w K tg J fp it j)(I:c=true):G5 P w K z c tg J fp it j:=
 ⟨T.mem,T.obj,T.keep,λX h1 h2 L _ S=>T.item X h1 h2 L (S.trans I),λX h1 h2 L _ S=>T.done X h1 h2 L (S.trans I),T.self⟩
def R5 (X:Cx)(pins:List (Addr×Obj))(σ:St)(tg:Expr)(R:It->Hp->Prop)(itv:Value)(s2:Shared):Prop:=
 ∃(it:Addr) (fp:List Addr) (tn:Nat->Heap->Prop) (J:It) (H':Hp),itv= .ref it/\aB X pins σ H' s2/\G5 X.prog X.w X.K X.A X.calm tg J fp it tn/\tn 0 s2.heap/\(∀b∈fp,jW X pins H' b)/\R J H'
def Se (X:Cx)(tg iter:Expr)(t:TI):Prop:=
 ∀(pins:List (Addr×Obj)) (s:Shared) (σ:St) (H:Hp) (R:It->Hp->Prop),aB X pins σ H s->t σ H R->
  wpAny @e X.A @eW (λv s1=>wpAny @e X.A (pyIter v) (R5 X pins σ tg R) X.xe s1) X.xe s
theorem PI.toA {X:Cx}{tg iter:Expr}{t:TI}(h:PI X tg iter t)(j:X.calm=true):Se X tg iter t:=λpins s σ H R I q=>
 bP (h pins s σ H R I q) λv G h1=>bP h1 λag L ⟨F,fp,z,J,H2,e,O,T,r⟩=>⟨F,fp,z,J,H2,e,O,T.toA j,r⟩
set_option maxHeartbeats 4000000 in
theorem rS {X:Cx}{pins:List (Addr×Obj)}{σ:St}{H:Hp}{F:Shared}{scope:Scope}{N':List Str}{pk:List @K}{fp:List Addr}{tg elt iter:Expr}{ifs:List Expr}{pos:Pos}{g:TG}{tt:TT}{te:TE}
{J:It}{it:Addr}{tn:Nat->Heap->Prop}{R:Value->Addr->Result->Shared->Prop}{E:Value->Shared->Prop}{Q:VK}
(S:dF X scope N' pk)(hg:∀C s H ex,PG @r tg g)(ht:∀C s H ex,Hr @r ifs tt)(he:∀C s H ex,PE @r elt te)
(I:aB X pins σ H F)(T:G5 X.prog X.w X.K X.A X.calm tg J fp it tn)(st:tn 0 F.heap)(hf:∀b∈fp,jW X pins H b)
(hW:∃W:Nat->Nat->List V->Hp->Prop,(∃m,W 0 m [] H)/\∀i m ys H,W i m ys H->
   (J.stop i H/\ys.length<=sizeLine/\∀p,H p=none->Q (.ref p) @ba)\/
   (J.go i H/\ys.length<sizeLine/\∃N:List V->Hp->Prop,(∀zs H',N zs H'->∃m',m'<m/\W (i+1) m' zs H')/\∀x H',J.yld i H x H'->g x @W H' λσ2 H2=>tV @W σ2/\tt σ2 H2 λb H3=>
     if b=true then te σ2 H3 λv H4=>N (ys++[v]) H4 else N ys H3))
(hR:∀(C D:Addr) (s':Shared) (ys:List V) (H':Hp),(∃m,s'.heap.Ns C m)->Q (.ref D) @ck->(∀h',Heap.SameBut C s'.heap h'->aB X pins σ @ck {s' with heap:=h'})->F.heap.objs.size<=C->upd H' D (.lst ys) C=none->
   R (.ref D) C (.ok .next) s'):
 wpAny @e X.A (newList []) (λacc s₃=>wpAny @e X.A (newFunctionEnv scope X.env.globals @bj [] X.env.qual none .none (some X.env)) (λcenv s₄=>
  codeAny @e X.A (.compStart (.ListComp elt [⟨tg,iter,ifs,0⟩] scope pos) 0 (.ref it) acc {cenv with scope:=relabel scope X.env}) (R acc cenv.locals) s₄) E s₃) E F:=by
 obtain ⟨W,⟨m0,w0⟩,aw⟩:=hW;rwa[wpAny_newObj_type (wpAny_newFunctionEnv S.nocell (by intro y hy;simp at hy) (λh₁ ae Z=> ?_) S.kind)];dsimp only at ae Z ⊢;generalize ai:F.heap.push {cls:= .type "list",dict:=none,data:= .seq ([]:List Value).toArray}=H2 at ae Z ⊢
 have hC:H2.objs.size=F.heap.objs.size+1:=by rw [<-ai,Heap.size_push]
 have aa:F.heap.objs.size≠H2.objs.size:=by rw [hC];exact Nat.ne_of_lt @cl
 have U:F.heap.objs.size<=H2.objs.size:=by rw [hC];exact Nat.le_succ _
 have ap:∀b o,F.heap.get? b=some o->h₁.get? b=some o:=λb o e=>
  Z.extBut b o (Nat.ne_of_lt (Nat.lt_of_lt_of_le @co U)) (Heap.get?_push_of_some _ (ai▸Heap.get?_push_of_some _ e))
 have ax:h₁.get? F.heap.objs.size=some {cls:= .type "list",data:= .seq ([]:List Value).toArray}:=
  Z.extBut _ _ aa (Heap.get?_push_of_some _ (ai▸Heap.get?_push_size _ rfl))
 have ak:∀b∈fp,b<F.heap.objs.size:=λb L=>by
  obtain ⟨o,e,_⟩:=T.obj 0 _ st b L;exact Heap.lt_size e
 have av:tn 0 h₁:=T.keep 0 _ _ st λb _ o e=>ap b o e;have aF:X.env.locals≠H2.objs.size:=Nat.ne_of_lt (Nat.lt_of_lt_of_le I.lt U);generalize aE:H2.objs.size=C at *;generalize ah:F.heap.objs.size=D at *
 have Y:F.heap.objs.size<=D:=by rw [ah];exact Nat.le_refl _
 have ac:F.heap.objs.size<=C:=by rw [ah];exact U
 have af:∀s₃:Shared,s₃= {F with heap:=h₁,toks:=F.toks+([]:List (Str×Value)).length}->
  codeAny @e X.A (.compLoop (.ListComp elt [⟨tg,iter,ifs,0⟩] scope pos) 0 (.ref it) (.ref D) @cX) (R (.ref D) C) s₃:=by
  rintro s₃ rfl
  refine codeAny_loop rfl (λn s'=>∃i H' ys its k,aB @X [(D,{cls:= .type "list",data:= .seq its k})] @W H' s'/\aU ys its.toList/\tn i s'.heap/\(∀b∈fp,H' b=none)/\W i n ys H') ?_ m0
   ⟨0,H,[],#[],0,GL I S ac hf (λb L=>by rw [ah];exact ak b L) rfl rfl ap (by simpa using ae) Y aa ax (λv z=>nomatch z),.nil,av,λb L=>(hf b L).1,w0⟩
  rintro n s3 ⟨i,H3,ys,its,k,I3,ad,an,au,w3⟩;show wpAny _ _ ((compTurn (.ListComp elt [⟨tg,iter,ifs,0⟩] scope pos) 0 (.ref it) (.ref D) @cX).onRaise (λx=>do noteFrame x @cX;theTreesLotGoes x)) _ _ s3;rwa[wpAny_noted ?_];rw [compTurn_list];have G:∀ {α:Type} {t:Sem α} {Q':α->Shared->Prop} {E':Value->Shared->Prop} {s':Shared},wpAny @e X.A t Q' @dR s'->wpAny @e X.A t Q' E' s':=λh=>wpAny_mono h (λ_ _ x=>x) λ_ _ x=>x.elim
  have al:∀ {H':Hp} {j},(∀b∈fp,H' b=none)->(∀p∈j,p.1=D)->∀b∈fp,jW @X j H' b:=λ{H' j} hn hp b L=>
   ⟨hn b L,(I3.ok.exf b L).1,I3.ok.exfs b L,.inl L,(I3.ok.exf b L).2,λp aC z=>by
     have az:p∈j:=by simpa using (show p∈([]:List (Addr×Obj))++j from aC)
     have q:=ak b L;rw [<-z,hp p az] at q
     exact Nat.lt_irrefl _ q⟩
  have O:∀p∈[(D,({cls:= .type "list",data:= .seq its k}:Obj))],p.1=D:=λp hp=>by
   have e:p=(D,({cls:= .type "list",data:= .seq its k}:Obj)):=by simpa using hp
   rw [e]
  have ab:∀ {j:List (Addr×Obj)} {σ' H' s'},aB @X j σ' H' s'->(D,({cls:= .type "list",data:= .seq its k}:Obj))∈j->s'.heap.get? D=some {cls:= .type "list",data:= .seq its k}/\H' D=none:=λ{j σ' H' s'} J hm=>by
   obtain ⟨a1,a2,_⟩:=J.pin _ (show (D,({cls:= .type "list",data:= .seq its k}:Obj))∈([]:List (Addr×Obj))++j by simpa using hm);exact ⟨a1,a2⟩
  rwa[wpAny_bind (wpAny_standAt @fx)]
  rcases aw i n ys H3 w3 with ⟨as,hz,qn⟩|⟨go,hz,N,hN,am⟩
  ·rwa[G (bP (T.done @X rfl rfl rfl rfl rfl i _ s3 _ H3 @dR I3 (al au O) an as) λr s4 ⟨hr,I4⟩=> ?_)];subst hr;rwa[wpAny_pure ?_];obtain ⟨a1,a2⟩:=ab I4 @g;obtain ⟨mC,ay,_⟩:=I4.loc;exact hR C D s4 ys H3 ⟨mC,ay⟩ (qn D a2) (λh' sb=>GK I hf I4 ac Y aa a2 (its:=its.toList) (n:=k) (by simpa using a1) ad hz sb) U (by rw [ao (Ne.symm aa)];exact I4.free)
  ·rwa[G (bP (T.item @X rfl rfl rfl rfl rfl i _ s3 _ H3 @dR I3 (al au O) an go) λr s4 ⟨u,hr,h4⟩=> ?_)];subst hr;rwa[wpAny_bind (G (bP h4 λ_ s5 ⟨x,H5,I5,r5,y5,aj,aD⟩=> ?_))];have I5':=I5.pinned (al aD O) (T.obj _ _ aj);rwa[wpAny_bind (G (bP (hg C F H fp _ s5 _ H5 x u _ I5' r5 (am x H5 y5)) λ_ s6 ⟨σ6,H6,I6,aq,q6⟩=> ?_))];rwa[wpAny_bind (G (bP (ht C F H fp _ s6 σ6 H6 _ I6 q6) λb s7 ⟨H7,I7,q7⟩=> ?_))]
   have ag:∀ {H':Hp} {s':Shared},aB @X ([(D,{cls:= .type "list",data:= .seq its k})]++qW fp s5.heap) σ6 H' s'->
    aB @X [(D,{cls:= .type "list",data:= .seq its k})] @W H' s'/\tn (i+1) s'.heap/\∀b∈fp,H' b=none:=λ{H' s'} I7=>by
    rwa[⟨I7.unpinned.weak aq.1.symm aq.2,T.keep _ _ _ aj λb L o e=>(I7.pin (b,o) (mem_append_right _ (mem_append_right _ (i7 L e)))).1,λb L=> ?_⟩];obtain ⟨o,e,d⟩:=T.obj _ _ aj b L;exact (I7.pin (b,o) (mem_append_right _ (mem_append_right _ (i7 L e)))).2.1
   cases b with
   |false=>
    rw [if_neg Bool.false_ne_true] at q7;obtain ⟨m',hm,w7⟩:=hN _ _ q7;obtain ⟨J7,t7,f7⟩:=ag I7;rw [if_neg Bool.false_ne_true]
    first
     |exact wpAny_pure ⟨rfl,m',hm,i+1,H7,ys,its,k,J7,ad,t7,f7,w7⟩
     |exact wpAny_bind (wpAny_pure (wpAny_pure ⟨rfl,m',hm,i+1,H7,ys,its,k,J7,ad,t7,f7,w7⟩))
   |true=>
    rw [if_pos rfl] at q7;rw [if_pos rfl];rwa[wpAny_bind (wpAny_bind (G (bP (he C F H fp _ s7 σ6 H7 _ I7 q7) λy s8 ⟨v,H8,I8,r8,n8⟩=> ?_)))];obtain ⟨m',hm,w8⟩:=hN _ _ n8;obtain ⟨J8,t8,f8⟩:=ag I8;obtain ⟨a1,a2⟩:=ab J8 @g
    have aA:its.size<=sizeLine:=by
     have e:=ad.length
     have e2:its.toList.length=its.size:=by simp
     lia
    rwa[wpAny_bind (AA a1 aA λh' k' e' sb=> ?_)]
    have J9:aB @X [] @W H8 {s8 with heap:=h'}:=
     aB.turned (t':=s8.toks) (it:=D) (J8.pins_of λp hp=>nomatch hp) (λb o L e=>(sb.2 b L).trans e) a2 aa (.inr Y) (λx c e z=>by
      obtain ⟨w',o,ho,hd⟩:=J8.cell x c e
      rw [z,a1] at ho;cases ho;cases hd) λp hp=>nomatch (show p∈([]:List (Addr×Obj))++[] from hp)
    have J10:aB @X [(D,{cls:= .type "list",data:= .seq @hg k'})] @W H8 {s8 with heap:=h'}:=
     J9.pins_of λp hp=>by
      have e:p=(D,({cls:= .type "list",data:= .seq @hg k'}:Obj)):=by simpa using hp
      subst e;rwa[⟨e',a2,aa,λz=> ?_,λv z=>nomatch z⟩];obtain ⟨_,o,ho,_⟩:=I.stack.mem z;exact absurd (Nat.lt_of_lt_of_le (Heap.lt_size ho) Y) @bl
    have t9:tn (i+1) h':=T.keep _ _ _ t8 λb L o e=>(sb.2 b (λz=>Nat.lt_irrefl D (by have:=ak b L;rw [z] at this;exact this))).trans e
    have ar:aU (ys++[v]) (its.push y).toList:=by
     rw [Array.toList_push];exact aU.append ad (.cons r8 .nil)
    first
     |exact wpAny_pure (wpAny_pure ⟨rfl,m',hm,i+1,H8,ys++[v],its.push y,k',J10,ar,t9,f8,w8⟩)
     |exact wpAny_bind (wpAny_pure (wpAny_pure ⟨rfl,m',hm,i+1,H8,ys++[v],its.push y,k',J10,ar,t9,f8,w8⟩))
 exact codeAny_compStart_list (af _ rfl) (T.self _ 0 _ _ _ av (af _ rfl))
section
variable {X:Cx}{scope:Scope}{N':List Str}{pk:List @K}{tg elt iter:Expr}{ifs:List Expr}{pos:Pos}{wi:TI}{g:TG}{tt:TT}{te:TE}
theorem E6 (S:dF X scope N' pk)(hi:Se X tg iter wi)(F:∀C s H ex,PG @r tg g)(ht:∀C s H ex,Hr @r ifs tt)
(Z:∀C s H ex,PE @r elt te)(hs:∀x,foldedSetIterable iter X.env x=pure x:=by intro _;rfl):PE X (.ListComp elt [⟨tg,iter,ifs,0⟩] scope pos) @eL:=by
 intro pins s σ H Q I h;rw [eval_ListComp];rwa[wpAny_comprehension_free (use:=none) rfl hs (kG λn z=>I.ok.has n (S.free n z)) S.kind S.loc ?_];rwa[bP @cF λv s1 h1=>bP h1 λag s2 h2=> ?_];obtain ⟨it,fp,tn,J,H2,e,O,T,ae,Y,G⟩:=h2;subst e;rwa[rS (R:=λj C=>compPost @e X.A X.xe none @A j C) S F ht Z O T ae Y G ?_];intro C D s' ys H' z q W _ _;obtain ⟨m,L⟩:=z;exact ⟨m,L,λh' U=>⟨.ref D,_,W h' U,rfl,q⟩⟩
theorem IX (I:X.calm=true)(S:dF X scope N' pk)(hi:PI X tg iter wi)(W:∀C s H ex,PG @r tg g)(J:∀C s H ex,Hr @r ifs tt)
(j:∀C s H ex,PE @r elt te)(hs:∀x,foldedSetIterable iter X.env x=pure x:=by intro _;rfl):PE X (.ListComp elt [⟨tg,iter,ifs,0⟩] scope pos) @eL:=E6 S (hi.toA I) W J j hs
theorem IN {i:Nat}{x:Str}{F j:Pos}(hc:X.calm=true)(hN:X.N.Nodup)(hx:X.N[i]? =some x)(hl:K9 X.env.scope x)(S:dF X scope N' pk)(hi:PI X tg iter wi)(hg:∀C s H ex,PG @r tg g)
(ht:∀C s H ex,Hr @r ifs tt)(he:∀C s H ex,PE @r elt te)(hs:∀x,foldedSetIterable iter X.env x=pure x:=by intro _;rfl)
(Z:swapsWith (.ListComp elt [⟨tg,iter,ifs,0⟩] scope pos) (some (.Name x F)) j.line X.env=pure true:=by rfl)(hf:X.fn x=true\/X.env.scope.names.lookup x=some .local:=by first|exact .inl rfl|exact .inr rfl|assumption):
 PS X (.Assign [.Name x F] (.ListComp elt [⟨tg,iter,ifs,0⟩] scope pos) j) (DW @eL (mT i)):=by
 intro pins s σ H D0 I h;rw [exec_Assign_Name_used _ _ _ _ Z];rwa[wpAny_bind (wpAny_standAt @fx)];show wpAny _ _ (comprehension (.ListComp elt [⟨tg,iter,ifs,0⟩] scope pos) scope X.env (firstIterPos [⟨tg,iter,ifs,0⟩] pos) (newList []) false @eW (some @dg)>>=λ_=>pure ()) _ _ s;rwa[wpAny_bind (wpAny_comprehension_free (use:=some @dg) rfl hs (kG λn hn=>I.ok.has n (S.free n hn)) S.kind S.loc ?_)];rwa[bP ((hi.toA hc) pins s σ H _ I h) λv s1 h1=>bP h1 λag s2 h2=> ?_];obtain ⟨it,fp,tn,J,H2,e,O,T,ae,f2,hW⟩:=h2;subst e;rwa[rS (Q:=λx H1=>mT i x σ H1 D0.nx) (R:=λL C=>compPost @e X.A X.xe (some @dg) _ L C) S hg ht he O T ae f2 hW ?_];intro C D s' ys H' hn q hv U ab;obtain ⟨m,hm⟩:=hn;have I':aB X pins σ @ck s':=hv s'.heap (Heap.SameBut.refl ..);rwa[wpAny_assign_Name (um (v:= .ref D) I' hN hx hl rfl (λY I'' ch=> ?_) hf)];obtain ⟨a,sb,G⟩:=ch
 have aa:C≠a:=by
  rcases G with G|G
  ·rw [G];exact Nat.ne_of_gt (Nat.lt_of_lt_of_le O.lt U)
  ·obtain ⟨v,z⟩:=O.cell x a G;exact Nat.ne_of_gt (Nat.lt_of_lt_of_le z.lt U)
 rwa[⟨m,hm.sameBut sb aa,λh' W=>wpAny_pure (wpAny_pure ⟨_,_,?_,q⟩)⟩];rwa[aB.turned (t':=Y.toks) (it:=C) I'' (λb o hb e=>(W.2 b hb).trans e) ab (Nat.ne_of_gt (Nat.lt_of_lt_of_le O.lt U)) (.inr (Nat.le_trans O.sz U)) (λy c e z=> ?_) λp hp z=> ?_]
 ·obtain ⟨v,q⟩:=O.cell y c e;exact absurd (Nat.lt_of_lt_of_le q.lt U) (by rw [z];exact Nat.lt_irrefl _)
 ·exact absurd (Nat.lt_of_lt_of_le (Heap.lt_size (O.pin p hp).1) U) (by rw [z];exact Nat.lt_irrefl _)
end
theorem cq {pk:List @K}{σ:St}{x:V}:tV (c9 (none::pk) σ) ((c9 (none::pk) σ).set 0 (some x)):=by
 rwa[⟨by simp,λi v h=> ?_⟩]
 cases i with
 |zero=>exact nomatch (show (none:Option V)=some v from Option.some.inj h)
 |succ i=>simpa [c9] using h
section
variable {X:Cx}
def cV:V->Option Value
 | .ty n=>some (.type n)
 | .ref C=>some (.ref C)
 |_=>none
theorem GX {c:V}{t u:Value}(h:cV c=some t)(r:aK c u):u=t:=by
 cases c with
 |ty n=>cases h;exact r
 |ref C=>cases h;exact r
 |_=>cases h
theorem yg:bR X (.builtin "isinstance") (λxs H Q=>∃x c cv t b,xs=[x,c]/\cV c=some cv/\jp X.K H x t/\W.kitOne X.K t cv=some b/\Q (.bl b) H):=by
 intro pins s σ H xs J Q I r h;obtain ⟨x,c,cv,t,b,rfl,j,ty,e,q⟩:=h;obtain ⟨u,G,rfl,z,F⟩:=AN r;cases GX j F;exact CQ I z ty e λtk=>⟨.bl b,H,I.tok _,rfl,q⟩
theorem yy {bs:List Bool}:∀ {us:List Value},aU @bq us->LSm.BoolsAre us bs:=by
 induction bs with
 |nil=>intro us r;rw [map_nil] at r;cases r;exact .nil
 |cons b bs ih=>
  intro us r;rw [map_cons] at r
  cases r with
  |cons r1 r2=>cases r1;exact .cons b (ih r2)
theorem Dg (G:X.calm=true):bR X (.builtin "all") (λxs H Q=>∃(a:Addr) (bs:List Bool),xs=[.ref a]/\aN X.K H a @bq/\Q (.bl @gC) H):=by
 intro pins s σ H xs Y Q I r h;obtain ⟨a,bs,rfl,O,q⟩:=h;obtain ⟨u,rfl,S⟩:=kx r;cases S;obtain ⟨its,J,pl,Z⟩:=I.list O;have W:s.heap.IsList a its.toArray:=pl.isList;have F:=yy J
 have z:a<s.heap.objs.size:=by obtain ⟨_,e,_⟩:=W;exact Heap.lt_size e
 rwa[call_all_walk (wpAny_pyIter_list W ?_)]
 refine ⟨s.heap.objs.size,[s.heap.objs.size,a],[s.heap.objs.size],its.toArray.size,_,_,λi=>(bs[i]?).getD true,rfl,Walks.list (A:=X.A.in1) @gB _ a (Nat.ne_of_lt z) its.toArray,
  ⟨⟨_,Heap.get?_push_size _ rfl,rfl,rfl⟩,W.push _⟩,λi v s' Q' U L j=> ?_,λh' tk R=> ?_⟩
 ·obtain ⟨b,e,rfl⟩:=F.get i v (by simpa using L);simp only [e,Option.getD_some] at j;exact wpAny_truthy_bool j
 ·have e:((List.range its.toArray.size).all λi=>(bs[i]?).getD true)=bs.all id:=by
   rw [size_toArray,F.length];exact LSm.range_all bs
  rw [e];exact ⟨.bl _,H,I.kept (LSm.kept_iter R),rfl,q⟩
def QC (x:Str):It:=⟨λi _=>i<x.cps.size,λi H v H'=>H'=H/\∃c,x.cps[i]? =some c/\v= .str ⟨#[c]⟩,λi _=>x.cps.size<=i⟩
theorem uh {P:Program}{w:World}{K:Fg}{tg:Expr}{it:Addr}{x:Str}{t:Tok}{T:String}(O:T="str_ascii_iterator"\/T="str_iterator"):
 wM P w K tg (QC x) [it] it (λi h=>i<=x.cps.size/\h.IsStrIter it T x t i) where
 mem:=by simp
 obj:=λi h st b F=>by
  have e:b=it:=by simpa using F
  subst e;obtain ⟨o,G,j,hd⟩:=st.2;exact ⟨o,G,λv z=>by rw [hd] at z;cases z⟩
 keep:=λi h h' st k=>⟨st.1,let ⟨o,G,r⟩:=st.2;⟨o,k it @g o G,r⟩⟩
 item:=by
  intro X S hw hK j i pins s σ H E I R st L;subst S hw hK;obtain ⟨U,Y,f2,Z,f4,f5⟩:=R it @g
  have W:Walks X.prog X.w X.A it [it] [it] x.cps.size (SignAt x) (λi h=>h.IsStrIter it T x t i):=by
   rcases O with rfl|rfl
   ·exact Walks.strAscii @ez it x t
   ·exact Walks.strWide @ez it x t
  rwa[W.item i s _ _ L st.2 λv h' tk hv J kk=> ?_];obtain ⟨c,u,hx,rfl⟩:=hv;have I1:aB X pins σ H {s with heap:=h',toks:=tk}:=I.turned (λb o F e=>kk b o (by simpa using F) e) U Y Z f4 f5;obtain ⟨o,G,aa,hd⟩:=id J;exact ⟨_,rfl,Bl (s:= {s with heap:=h',toks:=tk}) G aa hd (by rcases O with rfl|rfl<;>decide) ⟨.str ⟨#[c]⟩,H,I1,⟨_,rfl⟩,⟨rfl,c,hx,rfl⟩,⟨L,J⟩,λb F=>(R b F).1⟩⟩
 done:=by
  intro X S hw hK j i pins s σ H E I R st L;subst S hw hK;obtain ⟨U,Y,f2,Z,f4,f5⟩:=R it @g
  have W:Walks X.prog X.w X.A it [it] [it] x.cps.size (SignAt x) (λi h=>h.IsStrIter it T x t i):=by
   rcases O with rfl|rfl
   ·exact Walks.strAscii @ez it x t
   ·exact Walks.strWide @ez it x t
  have e:i=x.cps.size:=Nat.le_antisymm st.1 L;subst e;exact W.done s _ _ st.2 λh' tk kk=>⟨rfl,I.turned (λb o F e=>kk b o (by simpa using F) e) U Y Z f4 f5⟩
 self:=λA i s Q E st h=>by
  rcases O with rfl|rfl
  ·exact wpAny_pyIter_striter_ascii st.2 h
  ·exact wpAny_pyIter_striter_wide st.2 h
theorem Ig {ts:List Str}:∀ {us:List Value},aU @dw us->∃l:List (Str×Tok),us=strValues l/\l.map (·.1)=ts:=by
 induction ts with
 |nil=>intro us r;rw [map_nil] at r;cases r;exact ⟨[],rfl,rfl⟩
 |cons b bs ih=>
  intro us r;rw [map_cons] at r
  cases r with
  |cons r1 r2=>
   obtain ⟨t,rfl⟩:=r1;obtain ⟨l,rfl,e⟩:=ih r2;exact ⟨(b,t)::l,rfl,by rw [map_cons,e]⟩
theorem FR:yF X "str.join" (λx xs H Q=>∃z a ts,x= .str z/\xs=[.ref a]/\aN X.K H a @dw/\(ts.toArray.foldl (· + ·.length+z.length) 0)<=sizeLine/\(Builtin.Str.glued z ts).length<=sizeLine/\Q (.str @cv) H):=by
 intro pins s σ H x xs v U Q I J R h;obtain ⟨z,a,ts,rfl,rfl,L,O,j,q⟩:=h;obtain ⟨t,rfl⟩:=J;obtain ⟨u,rfl,S⟩:=kx R;cases S;obtain ⟨its,G,pl,_⟩:=I.list L;obtain ⟨l,rfl,W⟩:=Ig G;rwa[call_meets F.slot_str_join @eJ F.entry_str_join (F.args_str_join_2 _ _) (meets_str_join_list z t a l ?_) ⟨pl.isList,?_⟩]
 ·rw [W];exact rc O
 ·subst W
  cases l with
  |nil=>exact ⟨j,.str _,H,I.tok _,⟨_,rfl⟩,q⟩
  |cons p r=>
   cases r with
   |nil=>exact ⟨.str _,H,I,⟨p.2,rfl⟩,q⟩
   |cons p2 r=>exact ⟨j,.str _,H,I.tok _,⟨_,rfl⟩,q⟩
theorem zV:dE X @dQ (λx y H Q=>∃z n,x= .str z/\y= .int n/\1<n/\n<=1000/\0<z.length/\z.length<=1000/\Q (.str ⟨(List.replicate n.toNat z.cps).foldl (· ++ ·) #[]⟩) H):=by
 intro pins s σ H x y v u Q I O J h;obtain ⟨z,n,rfl,rfl,h1,h2,S,U,q⟩:=h;obtain ⟨t,rfl⟩:=O;obtain ⟨R,rfl⟩:=J;have W:(z.length:Int)*n<=1000*1000:=Int.mul_le_mul @c h2 @c @b
 have Y:z.length*n.toNat<=1000000:=by
  have e:((z.length*n.toNat:Nat):Int)=(z.length:Int)*n:=by rw [Int.natCast_mul,Int.toNat_of_nonneg @c]
  lia
 have hs:sizeLine=16777216:=sizeLine_eq;have G:(n==1)=false:=beq_eq_false_iff_ne.mpr @c;have F:(z.length==0)=false:=beq_eq_false_iff_ne.mpr @c;rwa[PySem.P.mul_str ?_ (λ_ _=> ?_) (λ_ _=>rc @c) ?_]
 ·rw [decide_eq_false @c,decide_eq_false @c];rfl
 ·have:=Int.le_ediv_of_mul_le (a:=(z.length:Int)) (b:=2^63 - 1) (c:=n) @c @c;lia
 ·rw [if_neg @c,G,F];rwa[⟨?_,.str _,H,I.tok _,⟨_,rfl⟩,q⟩];show ((List.replicate n.toNat z.cps).foldl (· ++ ·) #[]).size<=sizeLine
  have L:∀(k:Nat) (j:Array Nat),((List.replicate k z.cps).foldl (· ++ ·) j).size=j.size+z.length*k:=by
   intro k
   induction k with
   |zero=>intro j;simp
   |succ k ih=>
    intro j;rw [replicate_succ,foldl_cons,ih,Array.size_append,Nat.mul_succ];have e:z.cps.size=z.length:=rfl;lia
  rw [L];simp only [size_toArray,length_nil];lia
theorem JE:yF X "int.bit_length" (λx xs H Q=>∃i,x= .int i/\xs=[]/\Q (.int (Builtin.Int.intBits i)) H):=by
 intro pins s σ H x xs v j Q I J R h;obtain ⟨i,rfl,rfl,q⟩:=h;obtain ⟨t,rfl⟩:=J;cases R;exact call_int_bit_length ⟨.int _,H,I.tok _,⟨_,rfl⟩,q⟩
end
structure bf (P:Program)(w:World)(K:Fg)(mg:Str->Option Value)(base:Heap)(n:Nat)(x:Str)(ps:List Str)(sp:Sp):Prop where
 ex:∃f fd,az P w K mg base bg n f fd ps sp/\fK K fd ps []/\W.keepIn K (.ref f)=true/\mg x=some (.ref f)
section
variable {X:Cx}{x:Str}{p pos:Pos}{e:Expr}{es:List Expr}{t:TA}{ps:List Str}{sp:Sp}{n m:Nat}
theorem Pk (c:bf X.prog X.w X.K X.mg X.base n x ps sp)(Y:b8 m X.A)(J:n<=m)(W:Gl X x)(G:PA X (e::es) t)(z:(x==("__debug__":Str))=false:=by decide)
(S:starEach (e::es) X.env=(false,eval e X.env)::starEach es X.env:=by rfl)(j:(backTo pos @N).any (·.1)=false:=by rfl):
 PE X (.Call (.Name x p) (e::es) [] pos) (xc sp [] E0 t):=by
 obtain ⟨f,fd,F,b,k,I⟩:=c.ex;exact A8 (F.mono J) Y W I k b .nil jI G z S j
end
noncomputable def rT (sc:Scope)(N:List Str)(scope:Scope)(N':List Str)(pk:List @K):Bool:=
 (scope.kind== .function)&&scope.names.all (λy=>y.2 != .cell)&&scope.names.all (λy=> !(y.2== .local)||scope.names.lookup y.1==some .local)&&
 scope.names.all (λy=> !(y.2== .free)||((sc.names.lookup y.1==some .cell||sc.names.lookup y.1==some .free)&&scope.names.lookup y.1 != some .local))&&
 (pk.length==N'.length)&&(List.range pk.length).all λj=>match pk[j]?,N'[j]? with
   |some (some i),some x=>N[i]? ==some x&&scope.names.contains (x,NameKind.free)
   |_,_=>true
theorem aE {X:Cx}{scope:Scope}{N':List Str}{pk:List @K}(h:rT X.env.scope X.N scope N' pk=true):dF X scope N' pk:=by
 unfold rT at h;simp only [Bool.and_eq_true] at h;obtain ⟨⟨⟨⟨⟨h1,h2⟩,O⟩,G⟩,I⟩,J⟩:=h;rwa[⟨by simpa using h1,λy R=> ?_,λy R W=> ?_,λn F=> ?_,λn F=> ?_,by simpa using I,λj i x S L=> ?_⟩]
 ·have:=all_eq_true.mp h2 y R;simpa using this
 ·have:=all_eq_true.mp O y R;rw [W] at this;simpa using this
 ·have:=all_eq_true.mp G _ F;simp only [beq_self_eq_true,Bool.not_true,Bool.false_or,Bool.and_eq_true,Bool.or_eq_true] at this
  rcases this.1 with z|z
  ·exact .inl (show X.env.scope.names.lookup n=_ by simpa using z)
  ·exact .inr (show X.env.scope.names.lookup n=_ by simpa using z)
 ·have:=all_eq_true.mp G _ F;simp only [beq_self_eq_true,Bool.not_true,Bool.false_or,Bool.and_eq_true,Bool.or_eq_true] at this;simpa using this.2
 ·have Z:j<pk.length:=(List.getElem?_eq_some_iff.mp S).1;have:=all_eq_true.mp J j (mem_range.mpr Z);rw [S,L] at this;simp only [Bool.and_eq_true] at this;exact ⟨by simpa using this.1,by simpa using this.2⟩
section
variable {X:Cx}
theorem Da:bR X (.builtin "len") (λxs H Q=>∃x,xs=[x]/\((∃z,x= .str z/\z.length<=sizeLine/\Q (.int z.length) H)\/∃p,x= .ref p/\∃ys,(aN X.K H p ys\/aD X.K H p ys)/\Q (.int ys.length) H)):=by
 intro pins s σ H xs j Q I r h;obtain ⟨x,rfl,h⟩:=h
 rcases h with ⟨z,rfl,F,q⟩|⟨p,rfl,ys,L,q⟩
 ·exact wA pins s σ H _ j Q I r ⟨z,rfl,F,q⟩
 ·exact wB pins s σ H _ j Q I r ⟨p,ys,rfl,L,q⟩
def Pc (K:Fg):R2:=λx y H Q=>∃i,y= .int i/\((∃z,x= .str z/\z.length<=sizeLine/\∃c,oQ z.cps.toList i=some c/\Q (.str ⟨#[c]⟩) H)\/∃p,x= .ref p/\∃xs,(aN K H p xs\/aD K H p xs)/\∃v,oQ xs i=some v/\Q v H)
theorem ND:Dt X (Pc X.K):=by
 intro value J pins s σ H x y v u Q I F j h hs;obtain ⟨i,rfl,h⟩:=h
 rcases h with ⟨z,rfl,R,c,O,q⟩|⟨p,rfl,xs,L|L,G,W,q⟩
 ·exact NC value J pins s σ H _ _ v u Q I F j ⟨z,i,c,rfl,rfl,R,O,q⟩ hs
 ·exact JP value J pins s σ H _ _ v u Q I F j ⟨p,xs,i,G,rfl,rfl,L,W,q⟩ hs
 ·exact NB value J pins s σ H _ _ v u Q I F j ⟨p,xs,i,G,rfl,rfl,L,W,q⟩ hs
theorem G1 {R:List Int}{k:Int}(F:0<=k)(h1:k<R.length):oQ @gd k=some (.int (R.getD k.toNat 0)):=by
 obtain ⟨j,rfl⟩:=Int.eq_ofNat_of_zero_le F;rwa[c7 ?_]
 have Z:j<R.length:=by lia
 rw [getElem?_map,getElem?_eq_getElem Z];simp [List.getD,getElem?_eq_getElem Z]
def tR (J:It)(pk:List @K)(g:TG)(tt:TT)(te:TE)(σ:St)(H:Hp)(Q:VK):Prop:=∃W:Nat->Nat->List V->Hp->Prop,(∃m,W 0 m [] H)/\∀i m ys H,W i m ys H->
 (J.stop i H/\ys.length<=sizeLine/\∀p,H p=none->Q (.ref p) @ba)\/
 (J.go i H/\ys.length<sizeLine/\∃N:List V->Hp->Prop,(∀zs H',N zs H'->∃m',m'<m/\W (i+1) m' zs H')/\∀x H',J.yld i H x H'->g x @W H' λσ2 H2=>tV @W σ2/\tt σ2 H2 λb H3=>
   if b=true then te σ2 H3 λv H4=>N (ys++[v]) H4 else N ys H3)
def Ap (J:It)(g:TG)(tb:TS)(D:pQ)(σ:St)(H:Hp):Prop:=∃W:Nat->Nat->St->Hp->Prop,(∃m,W 0 m σ H)/\∀i m σ H,W i m σ H->
 (J.stop i H/\D.nx σ H)\/(J.go i H/\∃N:St->Hp->Prop,(∀σ' H',N σ' H'->∃m',m'<m/\W (i+1) m' σ' H')/\∀x H',J.yld i H x H'->g x σ H' λσ2 H2=>tb {D with nx:=N,ct:=N,bk:=D.nx} σ2 H2)
section
variable {K:Fg}{a:Addr}{xs:List V}{g:TG}{tb:TS}{D:pQ}{σ:St}{H:Hp}
theorem dX (j:Nat->St->Hp->Prop)(F:j 0 σ H)(W:∀i σ H,i<=xs.length->j i σ H->aN K H a xs)
(hs:∀i x σ H,xs[i]? =some x->j i σ H->g x σ H λσ2 H2=>tb {D with nx:=j (i+1),ct:=j (i+1),bk:=D.nx} σ2 H2)(J:∀σ H,j xs.length σ H->D.nx σ H):Ap @gZ g tb D σ H:=Gj j F W hs J
theorem jN (j:Nat->St->Hp->Prop)(F:j 0 σ H)(W:∀i σ H,i<=xs.length->j i σ H->aD K H a xs)
(hs:∀i x σ H,xs[i]? =some x->j i σ H->g x σ H λσ2 H2=>tb {D with nx:=j (i+1),ct:=j (i+1),bk:=D.nx} σ2 H2)(J:∀σ H,j xs.length σ H->D.nx σ H):Ap @ha g tb D σ H:=J0 j F W hs J
theorem fY {lo:Int}{n:Nat}(j:Nat->St->Hp->Prop)(F:j 0 σ H)
(hs:∀i σ H,i<n->j i σ H->g (.int (lo+i)) σ H λσ2 H2=>tb {D with nx:=j (i+1),ct:=j (i+1),bk:=D.nx} σ2 H2)(J:∀σ H,j n σ H->D.nx σ H):Ap @gT g tb D σ H:=CW j F hs J
end
theorem lM {lo:Int}{n:Nat}{pk:List @K}{g:TG}{tt:TT}{te:TE}{σ:St}{H:Hp}{Q:VK}(j:Nat->List V->Hp->Prop)(L:n<=sizeLine)(F:∀i ys H,j i ys H->ys.length<=i)(G:j 0 [] H)
(hs:∀i ys H,i<n->j i ys H->g (.int (lo+i)) @W H λσ2 H2=>tV @W σ2/\tt σ2 H2 λb H3=>if b=true then te σ2 H3 λv H4=>j (i+1) (ys++[v]) H4 else j (i+1) ys H3)
(J:∀ys H,j (n) ys H->∀p,H p=none->Q (.ref p) @ba):
 tR @gT pk g tt te σ H Q:=by
 rwa[⟨λi m ys H=>m=n - i/\i<=n/\j i ys H,⟨n,by simp,Nat.zero_le _,G⟩,?_⟩];rintro i m ys H ⟨rfl,hi,p⟩;have W:=F _ _ _ p;by_cases z:i<n
 ·rwa[.inr ⟨z,by lia,j (i+1),λzs H' I=>⟨n - (i+1),by lia,rfl,z,I⟩,λx H' y=> ?_⟩];obtain ⟨e,y⟩:=y;subst e y;exact hs i ys _ z p
 ·have e:i=n:=by lia
  subst e;exact .inl ⟨Nat.le_refl _,by lia,J ys H p⟩
theorem b4 {K:Fg}{a:Addr}{xs:List V}{pk:List @K}{g:TG}{tt:TT}{te:TE}{σ:St}{H:Hp}{Q:VK}(j:Nat->List V->Hp->Prop)(O:xs.length<=sizeLine)(F:∀i ys H,j i ys H->ys.length<=i)(I:j 0 [] H)(G:∀i ys H,i<=xs.length->j i ys H->aN K H a xs)
(hs:∀i x ys H,xs[i]? =some x->j i ys H->g x @W H λσ2 H2=>tV @W σ2/\tt σ2 H2 λb H3=>if b=true then te σ2 H3 λv H4=>j (i+1) (ys++[v]) H4 else j (i+1) ys H3)
(L:∀ys H,j @fy ys H->∀p,H p=none->Q (.ref p) @ba):
 tR @gZ pk g tt te σ H Q:=by
 rwa[⟨λi m ys H=>m=xs.length - i/\i<=xs.length/\j i ys H,⟨xs.length,by simp,Nat.zero_le _,I⟩,?_⟩];rintro i m ys H ⟨rfl,hi,p⟩;have W:=F _ _ _ p;by_cases z:i<xs.length
 ·rwa[.inr ⟨⟨xs,xs[i],G i ys H hi p,by simp [z]⟩,by lia,j (i+1),λzs H' J=>⟨xs.length - (i+1),by lia,rfl,z,J⟩,λx H' y=> ?_⟩];obtain ⟨e,y⟩:=y;subst e;exact hs i x ys _ (y xs (G i ys _ hi p)) p
 ·have e:i=xs.length:=by lia
  subst e;exact .inl ⟨⟨xs,G _ ys H @f p,Nat.le_refl _⟩,by lia,L ys H p⟩
theorem cN {K:Fg}{a:Addr}{xs:List V}{pk:List @K}{g:TG}{tt:TT}{te:TE}{σ:St}{H:Hp}{Q:VK}(j:Nat->List V->Hp->Prop)(O:xs.length<=sizeLine)(F:∀i ys H,j i ys H->ys.length<=i)(I:j 0 [] H)(G:∀i ys H,i<=xs.length->j i ys H->aD K H a xs)
(hs:∀i x ys H,xs[i]? =some x->j i ys H->g x @W H λσ2 H2=>tV @W σ2/\tt σ2 H2 λb H3=>if b=true then te σ2 H3 λv H4=>j (i+1) (ys++[v]) H4 else j (i+1) ys H3)
(L:∀ys H,j @fy ys H->∀p,H p=none->Q (.ref p) @ba):
 tR @ha pk g tt te σ H Q:=by
 rwa[⟨λi m ys H=>m=xs.length - i/\i<=xs.length/\j i ys H,⟨xs.length,by simp,Nat.zero_le _,I⟩,?_⟩];rintro i m ys H ⟨rfl,hi,p⟩;have W:=F _ _ _ p;by_cases z:i<xs.length
 ·rwa[.inr ⟨⟨xs,xs[i],G i ys H hi p,by simp [z]⟩,by lia,j (i+1),λzs H' J=>⟨xs.length - (i+1),by lia,rfl,z,J⟩,λx H' y=> ?_⟩];obtain ⟨e,y⟩:=y;subst e;exact hs i x ys _ (y xs (G i ys _ hi p)) p
 ·have e:i=xs.length:=by lia
  subst e;exact .inl ⟨⟨xs,G _ ys H @f p,Nat.le_refl _⟩,by lia,L ys H p⟩
theorem GJ {z:Str}{pk:List @K}{g:TG}{tt:TT}{te:TE}{σ:St}{H:Hp}{Q:VK}(j:Nat->List V->Hp->Prop)(R:z.cps.size<=sizeLine)(G:∀i ys H,j i ys H->ys.length<=i)(J:j 0 [] H)
(hs:∀i c ys H,z.cps[i]? =some c->j i ys H->g (.str ⟨#[c]⟩) @W H λσ2 H2=>tV @W σ2/\tt σ2 H2 λb H3=>if b=true then te σ2 H3 λv H4=>j (i+1) (ys++[v]) H4 else j (i+1) ys H3)
(O:∀ys H,j (z.cps.size) ys H->∀p,H p=none->Q (.ref p) @ba):
 tR (QC z) pk g tt te σ H Q:=by
 rwa[⟨λi m ys H=>m=z.cps.size - i/\i<=z.cps.size/\j i ys H,⟨z.cps.size,by simp,Nat.zero_le _,J⟩,?_⟩];rintro i m ys H ⟨rfl,hi,p⟩;have S:=G _ _ _ p;by_cases F:i<z.cps.size
 ·rwa[.inr ⟨F,by lia,j (i+1),λzs H' L=>⟨z.cps.size - (i+1),by lia,rfl,F,L⟩,λx H' y=> ?_⟩];obtain ⟨e,c,I,W⟩:=y;subst e W;exact hs i c ys _ I p
 ·have e:i=z.cps.size:=by lia
  subst e;exact .inl ⟨Nat.le_refl _,by lia,O ys H p⟩
end
section
variable {X:Cx}{K:Fg}
theorem zW (j:X.K=K):dE X @cB (Qx K false):=j▸Cm
theorem tH (j:X.K=K):dE X @ds (Qx K true):=j▸v0
theorem JQ (j:X.K=K):Dt X (Pc K):=j▸ND
def Pb (K:Fg):List V->Hp->VK->Prop:=λxs H Q=>∃x,xs=[x]/\((∃z,x= .str z/\z.length<=sizeLine/\Q (.int z.length) H)\/∃p,x= .ref p/\∃ys,(aN K H p ys\/aD K H p ys)/\Q (.int ys.length) H)
theorem Db (j:X.K=K):bR X (.builtin "len") (Pb K):=j▸Da
def Pd (K:Fg):List V->Hp->VK->Prop:=λxs H Q=>∃x c cv t b,xs=[x,c]/\cV c=some cv/\jp K H x t/\W.kitOne K t cv=some b/\Q (.bl b) H
theorem Dc (j:X.K=K):bR X (.builtin "isinstance") (Pd K):=j▸yg
def Pg (K:Fg):List V->Hp->VK->Prop:=λxs H Q=>∃(a:Addr) (bs:List Bool),xs=[.ref a]/\aN K H a @bq/\Q (.bl @gC) H
theorem Df (j:X.K=K)(I:X.calm=true):bR X (.builtin "all") (Pg K):=j▸Dg I
def IK (K:Fg):List V->Hp->VK->Prop:=λxs H Q=>∃p ys,xs=[.ref p]/\(aN K H p ys\/aD K H p ys)/\∀l,H l=none->Q (.ref l) @cq
theorem Ay (j:X.K=K):bR X (.type "list") (IK K):=j▸wz
def EQ (K:Fg):List V->Hp->VK->Prop:=λxs H Q=>∃p ys,xs=[.ref p]/\((aN K H p ys/\∀l,H l=none->Q (.ref l) @db)\/(aD K H p ys/\Q (.ref p) H))
theorem yf (j:X.K=K):bR X (.type "tuple") (EQ K):=j▸tS
def Mu (K:Fg):V->List V->Hp->VK->Prop:=λx xs H Q=>∃z a ts,x= .str z/\xs=[.ref a]/\aN K H a @dw/\(ts.toArray.foldl (· + ·.length+z.length) 0)<=sizeLine/\(Builtin.Str.glued z ts).length<=sizeLine/\Q (.str @cv) H
theorem FS (j:X.K=K):yF X "str.join" (Mu K):=j▸FR
theorem IU (F:X.K=K){es:List Expr}{k:Nat}{t:BK}{n:Nat}{pos:Pos}(I:X.calm=true)(h:Di X es t)
(z:(assignEach es X.env).length=n:=by rfl)(j:(assignEach es X.env).findIdx? (·.1)=none:=by rfl):PG X (.Tuple es k pos) (PY K n t):=F▸MA I h z j
end
theorem tV.refl (σ:St):tV σ σ:=⟨rfl,λ_ _ h=>h⟩
theorem tV.cons {σ j:St}{o o':Option V}(h:o=none\/o=o')(s:tV σ j):tV (o::σ) (o'::j):=by
 rwa[⟨by simp [s.1],λi v e=> ?_⟩]
 cases i with
 |zero=>
  rcases h with rfl|rfl
  ·exact nomatch (show (none:Option V)=some v from Option.some.inj e)
  ·exact e
 |succ i=>exact s.2 i v (by simpa using e)
theorem Rt {σ:St}{x:V}:tV (none::σ) (some x::σ):= .cons (.inl rfl) (.refl _)
def cc:Expr->Bool
 | .Starred _ _=>false
 |_=>true
theorem bv {e:Expr}{es:List Expr}{env:Env}(h:cc e=true):starEach (e::es) env=(false,eval e env)::starEach es env:=by
 cases e<;>first|rfl|cases h
def bd:List Expr->Bool
 |[]=>true
 |e::es=>cc e&&bd es
theorem cL {pos:Pos}{env:Env}:∀ {es:List Expr},bd es=true->(backTo pos @cg).any (·.1)=false
 |[],_=>rfl
 |e::es,h=>by
  have h':(cc e&&bd es)=true:=h;rw [Bool.and_eq_true] at h';rw [bv h'.1];show (false||(backTo pos @cg).any (·.1))=false;rw [cL h'.2];rfl
theorem oo {pos:Pos}{env:Env}:∀ {es:List Expr},bd es=true->(backTo pos @cg).all (λx=> !x.1)=true
 |[],_=>rfl
 |e::es,h=>by
  have h':(cc e&&bd es)=true:=h;rw [Bool.and_eq_true] at h';rw [bv h'.1];show (true&&(backTo pos @cg).all (λx=> !x.1))=true;rw [oo h'.2];rfl
def fX:Expr->Bool
 | .Call _ [] [] _=>false
 |_=>true
theorem wJ {o:Expr}{name:Str}{env:Env}{z:Sem Value}(h:fX o=true):attributeBase o name env z=z:=by
 unfold attributeBase;split
 ·cases h
 ·rfl
def uv:Expr->Bool
 | .UnaryOp _ _ _=>false
 | .BoolOp _ _ _=>false
 | .IfExp _ _ _ _=>false
 | .Compare _ _ _ _=>false
 |_=>true
theorem F8 {e:Expr}{env:Env}{z:Sem Value}(h:uv e=true):isTrue e env z=(do let v<-z;standAt e.pos;holding [v] (truthy v)):=by
 cases e<;>first|rfl|cases h
section
variable {X:Cx}{K:Fg}{x:Str}{p pos apos cpos:Pos}{e o a:Expr}{es:List Expr}{t:TA}{te to ta:TE}{ps:List Str}{sp:Sp}{n m:Nat}{id T:String}{r:List V->Hp->VK->Prop}{name:Str}{rm:V->List V->Hp->VK->Prop}
theorem au (j:PE X e te)(Y:PA X es t)(hs:cc e=true:=by rfl):PA X (e::es) (DU te t):=IZ j Y (bv hs)
theorem bV (c:bf X.prog X.w X.K X.mg X.base n x ps sp)(Y:b8 m X.A)(j:n<=m)(W:Gl X x)(F:PA X (e::es) t)(z:(x==("__debug__":Str))=false:=by decide)(G:bd (e::es)=true:=by rfl):
 PE X (.Call (.Name x p) (e::es) [] pos) (xc sp [] E0 t):=by
 have h':(cc e&&bd es)=true:=G;rw [Bool.and_eq_true] at h';exact Pk c Y j W F z @eM @eN
theorem aA (I:bR X (.builtin id) r)(L:Gl X x)(F:X.mg x=none)(W:bootBuiltins x=some (.builtin id))(j:PA X (e::es) t)(J:x≠"__name__":=by decide)(z:(x==("__debug__":Str))=false:=by decide)
(G:bd (e::es)=true:=by rfl):PE X (.Call (.Name x p) (e::es) [] pos) (Qw r t):=by
 have h':(cc e&&bd es)=true:=G;rw [Bool.and_eq_true] at h';exact E8 I L F W j J z @eM @eN
theorem bD (I:bR X (.type T) r)(L:Gl X x)(F:X.mg x=none)(W:bootBuiltins x=some (.type T))(j:PA X (e::es) t)(J:x≠"__name__":=by decide)(z:(x==("__debug__":Str))=false:=by decide)
(G:bd (e::es)=true:=by rfl):PE X (.Call (.Name x p) (e::es) [] pos) (Qw r t):=by
 have h':(cc e&&bd es)=true:=G;rw [Bool.and_eq_true] at h';exact Ci I L F W j J z @eM @eN
end
def uD (b:Bool)(A B:Prop):Prop:=if b=true then A else B
theorem An {b:Bool}{A B:Prop}(h1:b=true->A)(h2:b=false->B):uD b A B:=by
 cases b with
 |true=>exact h1 rfl
 |false=>exact h2 rfl
theorem bG {b:Bool}{A B:Prop}(e:b=true)(h:A):uD b A B:=by subst e;exact h
theorem aL {b:Bool}{A B:Prop}(e:b=false)(h:B):uD b A B:=by subst e;exact h
theorem gw {c:Prop}[Decidable c]{A B:Prop}(h1:c->A)(h2: ¬c->B):uD (decide c) A B:=An (λh=>h1 (of_decide_eq_true h)) (λh=>h2 (of_decide_eq_false h))
theorem fz {c:Prop}[Decidable c]{A B:Prop}(I:c)(h:A):uD (decide c) A B:=bG (decide_eq_true I) h
theorem bK {c:Prop}[Decidable c]{A B:Prop}(I: ¬c)(h:B):uD (decide c) A B:=aL (decide_eq_false I) h
theorem Qz {c:Prop}[Decidable c]{A B:Prop}(h1: ¬c->A)(h2:c->B):uD (!decide c) A B:=by
 by_cases h:c
 ·rw [decide_eq_true h];exact aL rfl (h2 h)
 ·rw [decide_eq_false h];exact bG rfl (h1 h)
theorem PE.imp {X:Cx}{e:Expr}{t t':TE}(h:PE X e t)(i:∀σ H Q,t' σ H Q->t σ H Q):PE X e t':=λpins s σ H Q I q=>h pins s σ H Q I (i σ H Q q)
theorem dE.imp {X:Cx}{f:Value->Value->Sem Value}{r O:R2}(h:dE X f r)(i:∀x y H Q,O x y H Q->r x y H Q):dE X f O:=λpins s σ H x y v u Q I J z q=>h pins s σ H x y v u Q I J z @ge
theorem Dt.imp {X:Cx}{r O:R2}(h:Dt X r)(i:∀x y H Q,O x y H Q->r x y H Q):Dt X O:=λvalue J pins s σ H x y v u Q I j z q=>h value J pins s σ H x y v u Q I j z @ge
theorem bR.imp {X:Cx}{f:Value}{r O:List V->Hp->VK->Prop}(h:bR X f r)(i:∀xs H Q,O xs H Q->r xs H Q):bR X f O:=λpins s σ H xs j Q I J q=>h pins s σ H xs j Q I J (i _ _ _ q)
theorem yF.imp {X:Cx}{id:String}{r O:V->List V->Hp->VK->Prop}(h:yF X id r)(i:∀x xs H Q,O x xs H Q->r x xs H Q):yF X id O:=λpins s σ H x xs v j Q I J R q=>h pins s σ H x xs v j Q I J R @ge
def HN (i:Nat):TE:=λσ H Q=>match σ[i]? with|some @bI=>Q v H|_=>False
theorem wv {X:Cx}(i:Nat){x:Str}{pos:Pos}(z:X.N[i]? =some x:=by rfl)(W:Qg X.env.scope x:=by first|exact Or.inl rfl|exact Or.inr @q|exact Or.inr @gn)(J:(x==("__debug__":Str))=false:=by decide)
(F:(x==("__classdict__":Str))=false:=by decide):PE X (.Name x pos) (HN i):=
 (EY z W J F).imp λσ H Q h=>by
   unfold HN at h
   cases e:σ[i]? with
   |none=>rw [e] at h;exact h.elim
   |some o=>
    cases o with
    |none=>rw [e] at h;exact h.elim
    |some v=>rw [e] at h;exact ⟨v,e,h⟩
def wI (g:Int->Int->V):R2:=λx y H Q=>match x,y with| .int i,.int j=>Q @de H|_,_=>False
def wC (C:Int->Int->Prop)(g:Int->Int->V):R2:=λx y H Q=>match x,y with| .int i,.int j=>C i j/\Q @de H|_,_=>False
theorem kQ {g:Int->Int->V}:∀x y H Q,wI g x y H Q->ER g x y H Q:=λx y H Q h=>by
 cases x with
 |int i=>cases y with
  |int j=>exact ⟨i,j,rfl,rfl,h⟩
  |_=>exact False.elim h
 |_=>exact False.elim h
theorem u2 {C:Int->Int->Prop}{g:Int->Int->V}:∀x y H Q,wC C g x y H Q->rI C g x y H Q:=λx y H Q h=>by
 cases x with
 |int i=>cases y with
  |int j=>exact ⟨i,j,rfl,rfl,h⟩
  |_=>exact False.elim h
 |_=>exact False.elim h
section
variable {X:Cx}{K:Fg}
theorem qg:dE X (binaryOp .Sub) (wI λi j=> .int (i - j)):=MG.imp kQ
theorem Lr:dE X (binaryOp .FloorDiv) (wC Dp λi j=> .int (i / j)):=I9.imp u2
def Q0:R2:=λx y H Q=>match x,y with| .int i,.int j=>0<j/\Q (.int (i% j)) H|_,_=>False
theorem DD:dE X (binaryOp .Mod) Q0:=MK.imp λx y H Q h=>u2 (C:=λ_ j=>0<j) (g:=λi j=> .int (i% j)) x y H Q (by
 cases x with
 |int i=>cases y with
  |int j=>exact h
  |_=>exact False.elim h
 |_=>exact False.elim h)
theorem KA:dE X (binaryOp .Pow) (wC AI λi j=> .int (i^j.toNat)):=MI.imp u2
theorem Op:dE X (binaryOp .LShift) (wC AI λi j=> .int (i*2^j.toNat)):=MH.imp u2
theorem Ox:dE X (binaryOp .BitAnd) (wI λi j=> .int (Builtin.bitAnd i j)):=MO.imp kQ
theorem QQ:dE X (binaryOp .BitOr) (wI λi j=> .int (Builtin.bitOr i j)):=Po.imp kQ
theorem w_lt:dE X (compareOp .Lt) (wI λi j=> .bl (decide (i<j))):=Pq.imp kQ
theorem jo:dE X (compareOp .LtE) (wI λi j=> .bl (decide (i<=j))):=Pr.imp kQ
theorem sS:dE X (compareOp .Gt) (wI λi j=> .bl (decide (j<i))):=Ps.imp kQ
theorem Ov:dE X (compareOp .GtE) (wI λi j=> .bl (decide (j<=i))):=Pt.imp kQ
def Ki (p q:Addr)(H:Hp)(Q:VK):Prop:=∃xs ys,H p=some (.lst xs)/\H q=some (.lst ys)/\xs.length+ys.length<=sizeLine/\∀l,H l=none->Q (.ref l) (upd H l (.lst (xs++ys)))
def Rb:R2:=λx y H Q=>match x,y with
 | .int i,.int j=>Q (.int (i+j)) H
 | .str a,.str b=>a.length+b.length<=sizeLine/\Q (.str (a++b)) H
 | .ref p,.ref q=>Ki p q H Q
 |_,_=>False
theorem Oz:dE X @bQ Rb:=(MP.or (zX.or MN)).imp λx y H Q h=>by
 cases x with
 |int i=>cases y with
  |int j=>exact .inl ⟨i,j,rfl,rfl,h⟩
  |_=>exact False.elim h
 |str a=>cases y with
  |str b=>exact .inr (.inl ⟨a,b,rfl,rfl,h⟩)
  |_=>exact False.elim h
 |ref p=>cases y with
  |ref q=>obtain ⟨xs,ys,h1,h2,L,z⟩:=h;exact .inr (.inr ⟨p,q,xs,ys,rfl,rfl,h1,h2,L,z⟩)
  |_=>exact False.elim h
 |_=>exact False.elim h
def QZ:R2:=λx y H Q=>match x,y with
 | .int i,.int j=>wR i j/\Q (.int (i*j)) H
 | .str z,.int n=>(1<n/\n<=1000/\0<z.length/\z.length<=1000)/\Q (.str ⟨(List.replicate n.toNat z.cps).foldl (· ++ ·) #[]⟩) H
 |_,_=>False
theorem ub:dE X @dQ QZ:=(MJ.or zV).imp λx y H Q h=>by
 cases x with
 |int i=>cases y with
  |int j=>exact .inl ⟨i,j,rfl,rfl,h⟩
  |_=>exact False.elim h
 |str z=>cases y with
  |int n=>exact .inr ⟨z,n,rfl,rfl,h.1.1,h.1.2.1,h.1.2.2.1,h.1.2.2.2,h.2⟩
  |_=>exact False.elim h
 |_=>exact False.elim h
def QY:V->Hp->VK->Prop:=λx H Q=>match x with| .int i=>Q (.int (-i)) H|_=>False
theorem KC:Od X (unaryOp .USub) QY:=λpins s σ H x v Q I J h=>by
 cases x with
 |int i=>exact LB pins s σ H _ v Q I J ⟨i,rfl,h⟩
 |_=>exact False.elim h
noncomputable def P3:V->V->Option Bool
 | .non,.non=>some true
 | .int i,.int j=>some (decide (i=j))
 | .str a,.str b=>some (decide (a=b))
 | .bl a,.bl b=>some (decide (a=b))
 | .non,.int _=>some false| .int _,.non=>some false| .non,.str _=>some false| .str _,.non=>some false| .non,.bl _=>some false| .bl _,.non=>some false
 | .int _,.str _=>some false| .str _,.int _=>some false| .bl _,.str _=>some false| .str _,.bl _=>some false
 |_,_=>none
theorem Gx {x y:V}{b:Bool}(h:P3 x y=some b):Mb x y=true/\decide (x=y)=b:=by
 cases x<;>cases y<;>first|cases h|skip
 all_goals first
  |exact ⟨rfl,by simp⟩
  |(refine ⟨rfl,?_⟩;simp)
def Q3 (neg:Bool):R2:=λx y H Q=>match y with
 | .non=>(match x with| .non=>Q (.bl (!neg)) H|_=>Q (.bl neg) H)
 |_=>False
theorem Ot:dE X (compareOp .Is) (Q3 false):=ML.imp λx y H Q h=>by
 cases y with
 |non=>cases x<;>exact ⟨rfl,h⟩
 |_=>exact False.elim h
def ut (K:Fg)(neg:Bool)(x:V)(p:Addr)(H:Hp)(Q:VK):Prop:=∃xs,(aN K H p xs\/aD K H p xs)/\dY x=true/\xs.all dY=true/\Q (.bl (if neg then !xR x xs else xR x xs)) H
def oW (a b:Str):Bool:= !(Builtin.Str.occurrences b a 0 b.length 1).isEmpty
def Sb (K:Fg)(neg:Bool):R2:=λx y H Q=>match y with
 | .str b=>(match x with| .str a=>Q (.bl (if neg then !oW a b else oW a b)) H|_=>False)
 | .ref p=>ut K neg x p H Q
 |_=>False
theorem Ou (z:X.K=K):dE X @cB (Sb K false):=(Ck.or (zW z)).imp λx y H Q h=>by
 cases y with
 |str b=>cases x with
  |str a=>exact .inl ⟨a,b,rfl,rfl,h⟩
  |_=>exact False.elim h
 |ref p=>obtain ⟨xs,h1,h2,L,j⟩:=h;exact .inr ⟨p,xs,rfl,h1,h2,L,j⟩
 |_=>exact False.elim h
theorem uZ (z:X.K=K):dE X @ds (Sb K true):=(vZ.or (tH z)).imp λx y H Q h=>by
 cases y with
 |str b=>cases x with
  |str a=>exact .inl ⟨a,b,rfl,rfl,h⟩
  |_=>exact False.elim h
 |ref p=>obtain ⟨xs,h1,h2,L,j⟩:=h;exact .inr ⟨p,xs,rfl,h1,h2,L,j⟩
 |_=>exact False.elim h
def mw (K:Fg)(p:Addr)(i:Int)(H:Hp)(Q:VK):Prop:=∃xs,(aN K H p xs\/aD K H p xs)/\∃v,oQ xs i=some v/\Q v H
def vp (z:Str)(i:Int)(H:Hp)(Q:VK):Prop:=z.length<=sizeLine/\∃c,oQ z.cps.toList i=some c/\Q (.str ⟨#[c]⟩) H
def Sk (K:Fg):R2:=λx y H Q=>match x,y with
 | .str z,.int i=>vp z i H Q
 | .ref p,.int i=>mw K p i H Q
 |_,_=>False
theorem aI (j:X.K=K):Dt X (Sk K):=(JQ j).imp λx y H Q h=>by
 cases x with
 |str z=>cases y with
  |int i=>obtain ⟨h1,h2⟩:=h;exact ⟨i,rfl,.inl ⟨z,rfl,h1,h2⟩⟩
  |_=>exact False.elim h
 |ref p=>cases y with
  |int i=>obtain ⟨xs,h1,h2⟩:=h;exact ⟨i,rfl,.inr ⟨p,rfl,xs,h1,h2⟩⟩
  |_=>exact False.elim h
 |_=>exact False.elim h
def jC (K:Fg)(p:Addr)(H:Hp)(Q:VK):Prop:=∃ys,(aN K H p ys\/aD K H p ys)/\Q (.int ys.length) H
def Q2 (K:Fg):List V->Hp->VK->Prop:=λxs H Q=>match xs with
 |[.str z]=>z.length<=sizeLine/\Q (.int z.length) H
 |[.ref p]=>jC K p H Q
 |_=>False
theorem d6 (j:X.K=K):bR X (.builtin "len") (Q2 K):=(Db j).imp λxs H Q h=>by
 match xs,h with
 |[.str z],h=>exact ⟨_,rfl,.inl ⟨z,rfl,h⟩⟩
 |[.ref p],h=>exact ⟨_,rfl,.inr ⟨p,rfl,h⟩⟩
noncomputable def JR:V->String->Option Bool
 | .non,T=>some (T=="NoneType")
 | .bl _,T=>some (T=="bool"||T=="int")
 | .int _,T=>some (T=="int")
 | .str _,T=>some (T=="str")
 |_,_=>none
def lK (K:Fg)(x c:V)(H:Hp)(Q:VK):Prop:=∃cv t b,cV c=some cv/\jp K H x t/\W.kitOne K t cv=some b/\Q (.bl b) H
noncomputable def vX (T:String):Bool:=T=="int"||T=="str"||T=="bool"||T=="list"||T=="tuple"||T=="dict"
def Lw (K:Fg):List V->Hp->VK->Prop:=λxs H Q=>match xs with
 |[x,.ty T]=>(match JR x T with|some b=>vX T=true/\Q (.bl b) H|none=>lK K x (.ty T) H Q)
 |[x,c]=>lK K x c H Q
 |_=>False
end
theorem CM {K:Fg}{H:Hp}{x:V}{T:String}{b:Bool}(h:JR x T=some b)(G:vX T=true):∃t,jp K H x t/\W.kitOne K t (.type T)=some b:=by
 have I:T="int"\/T="str"\/T="bool"\/T="list"\/T="tuple"\/T="dict":=by
  unfold vX at G;simp only [Bool.or_eq_true,beq_iff_eq] at G
  rcases G with ((((h|h)|h)|h)|h)|h<;>simp [h]
 cases x with
 |non=>refine ⟨_,.non,?_⟩;rcases I with rfl|rfl|rfl|rfl|rfl|rfl<;>(cases h;rfl)
 |bl y=>refine ⟨_,.bl y,?_⟩;rcases I with rfl|rfl|rfl|rfl|rfl|rfl<;>(cases h;rfl)
 |int y=>refine ⟨_,.int y,?_⟩;rcases I with rfl|rfl|rfl|rfl|rfl|rfl<;>(cases h;rfl)
 |str y=>refine ⟨_,.str y,?_⟩;rcases I with rfl|rfl|rfl|rfl|rfl|rfl<;>(cases h;rfl)
 |_=>cases h
section
variable {X:Cx}{K:Fg}{a b c e:Expr}{ta tb te:TE}{tA tB':TT}{gx:List Expr}{pos:Pos}
theorem Os (F:X.K=K):bR X (.builtin "isinstance") (Lw K):=(Dc F).imp λxs H Q h=>by
 have j:∀x c,lK K x c H Q->Pd K [x,c] H Q:=λx c ⟨G,t,b,h1,h2,L,z⟩=>⟨x,c,G,t,b,rfl,h1,h2,L,z⟩
 match xs,h with
 |[x,.ty T],h=>
  have h':(match JR x T with|some b=>vX T=true/\Q (.bl b) H|none=>lK K x (.ty T) H Q):=h
  cases e:JR x T with
  |none=>rw [e] at h';exact j _ _ h'
  |some b=>
   rw [e] at h';obtain ⟨t,h1,h2⟩:=CM (K:=K) (H:=H) e h'.1;exact ⟨x,.ty T,_,t,b,rfl,rfl,h1,h2,h'.2⟩
 |[x,.ref C],h=>exact j _ _ h
 |[x,.non],h=>exact j _ _ h
 |[x,.bl _],h=>exact j _ _ h
 |[x,.int _],h=>exact j _ _ h
 |[x,.str _],h=>exact j _ _ h
 |[x,.byt _],h=>exact j _ _ h
 |[x,.flt _],h=>exact j _ _ h
def OC (t:TE):TT:=λσ H Q=>t σ H λx H'=>match x with| .bl k=>Q k H'|_=>False
theorem aP {j:CmpOp}{r:R2}(F:dE X @eI r)(ha:PE X a ta)(hb:PE X b tb)(L:behindInMarks j b=false):PT X (.Compare a [j] [b] pos) (OC @fe):=by
 intro pins s σ H Q I h
 refine wpAny_isTrue_Compare1 (bP @dV λv Y ⟨x,H1,Z,U,q1⟩=>bP (hb pins Y σ H1 _ Z q1) λu R ⟨y,H2,O,W,q2⟩=>
  bP (F pins R σ H2 x y v u _ O U W q2) λcv s3 ⟨z,G,I3,J,S⟩=> ?_) L
 cases z with
 |bl k=>cases J;exact wpAny_truthy_bool ⟨G,I3,S⟩
 |_=>exact False.elim S
def qu (K:Fg)(p:Addr)(H:Hp)(Q:Bool->Hp->Prop):Prop:=(∃xs,(aN K H p xs\/aD K H p xs)/\Q (!xs.isEmpty) H)\/∃kvs,H p=some (.dK kvs)/\Q (!kvs.isEmpty) H
def OB (K:Fg)(ta:TE):TT:=λσ H Q=>ta σ H λx H'=>match x with
 | .bl k=>Q k H'
 | .non=>Q false H'
 | .int i=>Q (i != 0) H'
 | .str y=>y.length<=sizeLine/\Q ((y.length:Int) != 0) H'
 | .ref p=>qu K p H' Q
 |_=>False
theorem cI (F:X.K=K)(j:PE X a ta)(R:uv a=true:=by rfl):PT X a (OB K ta):=by
 subst F;intro pins s σ H Q I h;rwa[isTrue_plain (bP @L λv O ⟨x,H1,J,z,G⟩=> ?_) (F8 R)]
 cases x with
 |bl k=>exact jx pins O σ H1 _ v Q J z ⟨k,rfl,G⟩
 |non=>exact jx pins O σ H1 _ v Q J z ⟨false,rfl,G⟩
 |int i=>exact jx pins O σ H1 _ v Q J z ⟨_,rfl,G⟩
 |str y=>exact jx pins O σ H1 _ v Q J z ⟨_,⟨G.1,rfl⟩,G.2⟩
 |ref p=>
  rcases G with ⟨xs,L|L,q⟩|⟨kvs,L,q⟩
  ·exact jx pins O σ H1 _ v Q J z ⟨_,.inl ⟨xs,L,rfl⟩,q⟩
  ·exact jx pins O σ H1 _ v Q J z ⟨_,.inr (.inl ⟨xs,L,rfl⟩),q⟩
  ·exact jx pins O σ H1 _ v Q J z ⟨_,.inr (.inr ⟨kvs,L,rfl⟩),q⟩
 |_=>exact False.elim G
def Q9 (t u:TT):TT:=λσ H Q=>t σ H λc H1=>uD c (u σ H1 Q) (Q false H1)
def Sj (t u:TT):TT:=λσ H Q=>t σ H λc H1=>uD c (Q true H1) (u σ H1 Q)
theorem gU (j:PT X a tA)(F:PW X (.BoolOp .And (b::gx) pos) tB'):PW X (.BoolOp .And (a::b::gx) pos) (Q9 tA tB'):=Mw j F
theorem cG (j:PT X a tA)(F:PW X (.BoolOp .Or (b::gx) pos) tB'):PW X (.BoolOp .Or (a::b::gx) pos) (Sj tA tB'):=Ph j F
def OQ (ta tb:TE):TE:=λσ H Q=>ta σ H λx H1=>match x with| .bl c=>uD c @go (Q (.bl false) H1)|_=>False
def QW (ta tb:TE):TE:=λσ H Q=>ta σ H λx H1=>match x with| .bl c=>uD c (Q (.bl true) H1) @go|_=>False
theorem iO (j:PE X a ta)(F:PE X (.BoolOp .And (b::gx) pos) tb):PE X (.BoolOp .And (a::b::gx) pos) (OQ ta tb):=by
 intro pins s σ H Q I h;rwa[BoolOp_and (bP @L λv O ⟨x,H1,J,z,G⟩=> ?_)]
 cases x with
 |bl c=>
  cases z;rwa[wpAny_truthy_bool ?_]
  cases c with
  |true=>exact F pins O σ H1 Q J G
  |false=>exact ⟨.bl false,H1,J,rfl,G⟩
 |_=>exact False.elim G
theorem Kz (j:PE X a ta)(F:PE X (.BoolOp .Or (b::gx) pos) tb):PE X (.BoolOp .Or (a::b::gx) pos) (QW ta tb):=by
 intro pins s σ H Q I h;rwa[BoolOp_or (bP @L λv O ⟨x,H1,J,z,G⟩=> ?_)]
 cases x with
 |bl c=>
  cases z;rwa[wpAny_truthy_bool ?_]
  cases c with
  |false=>exact F pins O σ H1 Q J G
  |true=>exact ⟨.bl true,H1,J,rfl,G⟩
 |_=>exact False.elim G
def QX (K:Fg)(ta:TE):TE:=λσ H Q=>ta σ H λx H'=>match x with
 | .bl k=>Q (.bl (!k)) H'
 | .non=>Q (.bl true) H'
 | .int i=>Q (.bl (!(i != 0))) H'
 | .str y=>y.length<=sizeLine/\Q (.bl (!((y.length:Int) != 0))) H'
 | .ref p=>qu K p H' λk H2=>Q (.bl (!k)) H2
 |_=>False
theorem yV (F:X.K=K)(j:PE X a ta):PE X (.UnaryOp .Not a pos) (QX K ta):=by
 subst F;intro pins s σ H Q I h;rwa[UnaryOp_ (bP @L λv O ⟨x,H1,S,R,G⟩=> ?_)]
 have z:(∃k,Qh X.K x H1 k/\Q (.bl (!k)) H1)->wpAny @e X.A (unaryOp .Not v) @A X.xe O:=λh=>
  not_of (bP (jx pins O σ H1 x v (λk H2=>Q (.bl (!k)) H2) S R h) λk W ⟨H2,J,U⟩=>⟨.bl (!k),H2,J,rfl,U⟩)
 cases x with
 |bl k=>exact z ⟨k,rfl,G⟩
 |non=>exact z ⟨false,rfl,G⟩
 |int i=>exact z ⟨_,rfl,G⟩
 |str y=>exact z ⟨_,⟨G.1,rfl⟩,G.2⟩
 |ref p=>
  rcases G with ⟨xs,L|L,q⟩|⟨kvs,L,q⟩
  ·exact z ⟨_,.inl ⟨xs,L,rfl⟩,q⟩
  ·exact z ⟨_,.inr (.inl ⟨xs,L,rfl⟩),q⟩
  ·exact z ⟨_,.inr (.inr ⟨kvs,L,rfl⟩),q⟩
 |_=>exact False.elim G
def Q5 (t:TT)(ta tb:TE):TE:=λσ H Q=>t σ H λc H1=>uD c (ta σ H1 Q) @go
theorem AK (I:PT X c tA)(j:PE X a ta)(F:PE X b tb):PE X (.IfExp c a b pos) (Q5 tA ta tb):=E3 I j F
def Q4 (c:TT)(t u:TS):TS:=λD σ H=>c σ H λb H1=>uD b (t D σ H1) (u D σ H1)
theorem ax {t u:TS}{p q:List Stmt}(I:PT X c tA)(j:tW X p t)(F:tW X q u):PS X (.If c p q pos) (Q4 tA t u):=Pj I j F
def oX (K:Fg)(p:Addr)(lo hi:Option Int)(H:Hp)(Q:VK):Prop:=(∃xs,aN K H p xs/\∀l,H l=none->Q (.ref l) (upd H l (.lst @bo)))\/
 ∃xs,aD K H p xs/\ ¬(HT.sIx xs.length 0 lo=0/\HT.sIx xs.length xs.length hi=xs.length)/\∀l,H l=none->Q (.ref l) @ej
def Si (K:Fg):V->Option Int->Option Int->Hp->VK->Prop:=λx lo hi H Q=>match x with| .ref p=>oX K p lo hi H Q|_=>False
theorem QP (z:X.K=K):K6 X (Si K):=by
 subst z;intro pins s σ H x v G F lo hi sl Q I J hs pl j h
 cases x with
 |ref p=>
  rcases h with ⟨xs,h1,h2⟩|⟨xs,h1,h2,L⟩
  ·exact Io pins s σ H _ v G F lo hi sl Q I J hs pl j ⟨p,xs,rfl,h1,h2⟩
  ·exact Ef pins s σ H _ v G F lo hi sl Q I J hs pl j ⟨p,xs,rfl,h1,h2,L⟩
 |_=>exact False.elim h
def OE (t:TE):TO:=λσ H Q=>t σ H λx H1=>match x with| .int i=>Q (some i) H1|_=>False
theorem iN (h:PE X e te):PO X (some e) (OE te):=by
 intro pins s σ H Q I F;rw [evalPart_some];rwa[bP (h pins s σ H _ I F) λu O ⟨x,H1,J,z,G⟩=> ?_]
 cases x with
 |int i=>obtain ⟨t,rfl⟩:=z;exact ⟨some i,H1,J,.int i t,G⟩
 |_=>exact False.elim G
def DG (K:Fg)(T:String)(x:V)(H:Hp)(P:Prop):Prop:=match x with
 | .str _=>T="str"/\P
 | .int _=>T="int"/\P
 | .ref _=>Qt K T x H/\P
 |_=>False
def Sm (K:Fg)(T:String)(r:V->List V->Hp->VK->Prop)(to:TE)(t:TA):TE:=λσ H Q=>to σ H λx H1=>DG K T x H1 (t σ H1 λxs H2=>r x xs H2 Q)
end
section
variable {X:Cx}{K:Fg}{o e:Expr}{es:List Expr}{to:TE}{t:TA}{name:Str}{apos cpos:Pos}{T id:String}{r:V->List V->Hp->VK->Prop}
theorem w4 {x:V}{H:Hp}{P:Prop}(h:DG K T x H P):Qt K T x H/\P:=by
 cases x with
 |str z=>exact h
 |int i=>exact h
 |ref p=>exact h
 |_=>exact False.elim h
theorem gD (hK:X.K=K)(pa:PlainAttrs T)(U:Slot T name id)(G:typeOf (.builtin id)=pure (.type "method_descriptor"))(hm:yF X id r)(W:PE X o to)(ha:PA X (e::es) t)
(hb:fX o=true:=by rfl)(R:bd (e::es)=true:=by rfl)(hl:(e::es).length<29:=by decide)(z:(apos.endLine==cpos.line)=true:=by rfl):
 PE X (.Call (.Attribute o name apos) (e::es) [] cpos) (Sm K T r to t):=by
 subst hK;have h':(cc e&&bd es)=true:=R;rw [Bool.and_eq_true] at h';have hs:starEach (e::es) X.env=(false,eval e X.env)::starEach es X.env:=bv h'.1;have j:(backTo cpos @N).any (·.1)=false:=cL h'.2
 have F:((backTo cpos (starEach (e::es) X.env)).all (λx=> !x.1)&&(backToKw cpos @dI).all @eA
  &&decide ((e::es).length+([]:List Keyword).length+(if ([]:List Keyword).isEmpty then 0 else 1)<30))=true:=by
  rw [oo R,arm_keywordEach_nil];show (true&&true&&decide ((e::es).length+0+0<30))=true;rw [decide_eq_true @c];rfl
 intro pins s σ H Q I h;rwa[wpAny_Call_method_late (wJ hb) F z rfl (bP @ea λv s1 ⟨x,H1,O,L,J⟩=> ?_)];obtain ⟨ty,J⟩:=w4 J;obtain ⟨h1,h2⟩:=DK O L ty;rwa[⟨T,id,pa,U,G,h1,h2,?_⟩];have S:=ha cpos pins s1 σ H1 _ O J;rw [hs] at S ⊢;rwa[Calls.callWith_builtin (by show (false||(backTo cpos @N).any (·.1))=false;rw [j]<;>rfl) (Calls.evalArgs_plain ?_)];exact bP S λus Y ⟨Z,H2,I2,r2,q2⟩=>hm pins Y σ H2 x Z v us Q I2 L r2 q2
def Q8 (K:Fg)(T:String)(r:V->List V->Hp->VK->Prop)(to:TE):TE:=λσ H Q=>to σ H λx H1=>DG K T x H1 (r x [] H1 Q)
theorem Dz (R:X.K=K)(O:PlainAttrs T)(U:Slot T name id)(G:typeOf (.builtin id)=pure (.type "method_descriptor"))(S:yF X id r)(L:PE X o to)
(Y:fX o=true:=by rfl)(z:(apos.endLine==cpos.line)=true:=by rfl):PE X (.Call (.Attribute o name apos) [] [] cpos) (Q8 K T r to):=by
 subst R;intro pins s σ H Q I h;rwa[wpAny_Call_method0_late (wJ Y) z (bP @eb λv W ⟨x,H1,J,F,j⟩=> ?_)];obtain ⟨ty,j⟩:=w4 j;obtain ⟨h1,h2⟩:=DK J F ty;exact ⟨T,id,O,U,G,h1,h2,Calls.callWith_builtin rfl (PySem.evalArgs_none (S pins W σ H1 x [] v [] Q J F .nil j))⟩
def Gs (z y:Str):Int:=match Builtin.Str.occurrences z y 0 z.length 1 with|i::_=>(i:Int)|[]=> -1
def Be (K:Fg)(z:Str)(a:Addr)(H:Hp)(Q:VK):Prop:=∃ts:List Str,aN K H a @dw/\(ts.toArray.foldl (· + ·.length+z.length) 0)<=sizeLine/\(Builtin.Str.glued z ts).length<=sizeLine/\Q (.str @cv) H
def OK (K:Fg):V->List V->Hp->VK->Prop:=λx xs H Q=>match x,xs with| .str z,[.ref a]=>Be K z a H Q|_,_=>False
theorem DE (F:X.K=K):yF X "str.join" (OK K):=(FS F).imp λx xs H Q h=>by
 match x,xs,h with
 | .str z,[.ref a],h=>obtain ⟨j,h1⟩:=h;exact ⟨z,a,j,rfl,rfl,h1⟩
def OO:V->List V->Hp->VK->Prop:=λx xs H Q=>match x,xs with| .int i,[]=>Q (.int (Builtin.Int.intBits i)) H|_,_=>False
theorem DF:yF X "int.bit_length" OO:=JE.imp λx xs H Q h=>by
 match x,xs,h with
 | .int i,[],h=>exact ⟨i,rfl,rfl,h⟩
def Km (a:Addr)(y:V)(H:Hp)(Q:VK):Prop:=∃xs,H a=some (.lst xs)/\xs.length<sizeLine/\Q .non (upd H a (.lst (xs++[y])))
def HU:V->List V->Hp->VK->Prop:=λx xs H Q=>match x,xs with| .ref a,[y]=>Km a y H Q|_,_=>False
theorem jt:yF X "list.append" HU:=by
 intro pins s σ H x xs v j Q I J R h
 match x,xs,h with
 | .ref a,[y],h=>
   obtain ⟨ys,h1,h2,L⟩:=h;exact CD pins s σ H _ _ v j Q I J R ⟨a,ys,y,rfl,rfl,h1,h2,L⟩
def Kr (K:Fg)(a:Addr)(H:Hp)(Q:VK):Prop:=∃bs:List Bool,aN K H a @bq/\Q (.bl (bs.all _root_.id)) H
def Ra (K:Fg):List V->Hp->VK->Prop:=λxs H Q=>match xs with|[.ref a]=>Kr K a H Q|_=>False
theorem Oy (j:X.K=K)(I:X.calm=true):bR X (.builtin "all") (Ra K):=(Df j I).imp λxs H Q h=>by
 match xs,h with
 |[.ref a],h=>obtain ⟨z,h1⟩:=h;exact ⟨a,z,rfl,h1⟩
def xN (K:Fg)(p:Addr)(H:Hp)(Q:VK):Prop:=∃ys,(aN K H p ys\/aD K H p ys)/\∀l,H l=none->Q (.ref l) @cq
def OJ (K:Fg):List V->Hp->VK->Prop:=λxs H Q=>match xs with|[.ref a]=>xN K a H Q|_=>False
theorem qh (j:X.K=K):bR X (.type "list") (OJ K):=(Ay j).imp λxs H Q h=>by
 match xs,h with
 |[.ref a],h=>obtain ⟨ys,h1⟩:=h;exact ⟨a,ys,rfl,h1⟩
def DN (K:Fg)(p:Addr)(H:Hp)(Q:VK):Prop:=∃ys,(aN K H p ys/\∀l,H l=none->Q (.ref l) @db)\/(aD K H p ys/\Q (.ref p) H)
def Lu (K:Fg):List V->Hp->VK->Prop:=λxs H Q=>match xs with|[.ref a]=>DN K a H Q|_=>False
theorem gE (j:X.K=K):bR X (.type "tuple") (Lu K):=(yf j).imp λxs H Q h=>by
 match xs,h with
 |[.ref a],h=>obtain ⟨ys,h1⟩:=h;exact ⟨a,ys,rfl,h1⟩
def xQ (K:Fg)(p:Addr)(H:Hp)(R:It->Hp->Prop):Prop:=(∃xs,aN K H p xs/\R (Hj K p) H)\/∃xs,aD K H p xs/\R (Hi K p) H
def QU (K:Fg)(te:TE):TI:=λσ H R=>te σ H λx H1=>match x with| .str z=>R (QC z) H1| .ref p=>xQ K p H1 R|_=>False
end
theorem dJ {X:Cx}{K:Fg}(W:X.K=K){tg e:Expr}{te:TE}(Z:PE X e te):PI X tg e (QU K te):=by
 subst W;intro pins s σ H R I h;rwa[bP (Z pins s σ H _ I h) λv O ⟨x,H1,J,G,q⟩=> ?_];have aa:∀ {t:TE},True:=λ{_}=>trivial
 have j:((∃z,x= .str z/\R (QC z) H1)\/(∃a,x= .ref a/\(∃xs,aN X.K H1 a xs)/\R (Hj X.K a) H1)\/(∃a,x= .ref a/\(∃xs,aD X.K H1 a xs)/\R (Hi X.K a) H1))->
  wpAny @e X.A (pyIter v) @ey X.xe O:=λq=>by
  rcases q with ⟨z,rfl,q⟩|⟨a,rfl,⟨xs,L⟩,q⟩|⟨a,rfl,⟨xs,L⟩,q⟩
  ·obtain ⟨t,rfl⟩:=G
   have fp:∀b∈[O.heap.objs.size],jW X pins H1 b:=λb F=>by
    have e:b=O.heap.objs.size:=by simpa using F
    subst e;exact J.fpOk @f @cp
   cases S:z.cps.all (· <128)
   ·exact wpAny_pyIter_wide S ⟨O.heap.objs.size,[O.heap.objs.size],_,_,H1,rfl,J.kept (t':=O.toks) λb o e=>Heap.get?_push_of_some _ e,uh (.inr rfl),⟨Nat.zero_le _,_,Heap.get?_push_size _ rfl,rfl,rfl⟩,fp,q⟩
   ·exact wpAny_pyIter_ascii S ⟨O.heap.objs.size,[O.heap.objs.size],_,_,H1,rfl,J.kept (t':=O.toks) λb o e=>Heap.get?_push_of_some _ e,uh (.inl rfl),⟨Nat.zero_le _,_,Heap.get?_push_size _ rfl,rfl,rfl⟩,fp,q⟩
  ·cases G;obtain ⟨its,U,p,Y⟩:=J.list L;rwa[wpAny_pyIter_list p.isList ?_];rwa[⟨O.heap.objs.size,[O.heap.objs.size],_,_,H1,rfl,J.kept (t':=O.toks) λb o e=>Heap.get?_push_of_some _ e,BQ a _,⟨_,Heap.get?_push_size _ rfl,rfl,rfl⟩,λb F=> ?_,q⟩]
   have e:b=O.heap.objs.size:=by simpa using F
   subst e;exact J.fpOk @f @cp
  ·cases G;obtain ⟨its,U,p,Y⟩:=J.tuple L;rwa[wpAny_pyIter_tuple (show O.heap.IsTuple a its.toArray from p) ?_];rwa[⟨O.heap.objs.size,[O.heap.objs.size],_,_,H1,rfl,J.kept (t':=O.toks) λb o e=>Heap.get?_push_of_some _ e,yX a _,⟨_,Heap.get?_push_size _ rfl,rfl,rfl⟩,λb F=> ?_,q⟩]
   have e:b=O.heap.objs.size:=by simpa using F
   subst e;exact J.fpOk @f @cp
 cases x with
 |str z=>exact j (.inl ⟨z,rfl,q⟩)
 |ref p=>
  rcases q with ⟨xs,h1,h2⟩|⟨xs,h1,h2⟩
  ·exact j (.inr (.inl ⟨p,rfl,⟨xs,h1⟩,h2⟩))
  ·exact j (.inr (.inr ⟨p,rfl,⟨xs,h1⟩,h2⟩))
 |_=>exact False.elim q
section
variable {X:Cx}{tg:Expr}
def OD (ta:TA):TI:=λσ H R=>ta σ H λvs H1=>match vs with|[.int j]=>(-4611686018427387904<=j/\j<4611686018427387904)/\R (Kx 0 j.toNat) H1|_=>False
theorem dU {a:Expr}{ta:TA}{p pos:Pos}(W:Gl X "range")(F:X.mg "range"=none)(z:PA X [a] ta)(hs:cc a=true:=by rfl):PI X tg (.Call (.Name "range" p) [a] [] pos) (OD ta):=by
 intro pins s σ H R I h;rwa[Call_ (oB I W F boot_range (PyProof.Rows.callWith_type1 (bP (z pos pins s σ H _ I h) λS U ⟨L,H1,O,J,G⟩=> ?_) (bv hs) rfl))]
 match L,G with
 |[.int j],G=>
  cases J with
  |cons r rr=>
   cases rr;obtain ⟨t,rfl⟩:=r;have h1: -4611686018427387904<=j:=G.1.1;have h2:j<4611686018427387904:=G.1.2;exact call_range_1 (EO O @c @c @c @c (by simpa using G.2))
def setL (p:Addr)(k:Int)(v:V)(H:Hp)(Q:Hp->Prop):Prop:=∃xs j,H p=some (.lst xs)/\CP xs.length k=some j/\Q @bT
def HQ:V->V->V->Hp->(Hp->Prop)->Prop:=λo i v H Q=>match o,i with| .ref p,.int k=>setL p k v H Q|_,_=>False
theorem kq:G9 X HQ:=by
 intro pins s σ H o i v F G u Q I J Z z h
 match o,i,h with
 | .ref p,.int k,h=>
   obtain ⟨xs,j,h1,h2,L⟩:=h;exact Ei pins s σ H _ _ v F G u Q I J Z z ⟨p,xs,k,j,rfl,rfl,h1,h2,L⟩
def BP (K:Fg)(n:Nat)(a:Addr)(H:Hp)(P:List V->Prop):Prop:=∃xs,aD K H a xs/\xs.length=n/\P xs
def QR (K:Fg)(n:Nat)(t:BK):TG:=λv σ H Q=>match v with| .ref a=>BP K n a H λxs=>t xs σ H Q|_=>False
def yU (t:TG)(u:BK):BK:=λvs σ H Q=>match vs with|v::r=>t v σ H λσ' H'=>u r σ' H' Q|[]=>False
def Ky:BK:=λvs σ H Q=>match vs with|[]=>Q σ H|_=>False
theorem dm:Di X [] Ky:=λpins s σ H L j Q I r h=>by
 match L,h with
 |[],h=>exact IT pins s σ H [] j Q I r ⟨rfl,h⟩
theorem aF {e:Expr}{es:List Expr}{t:TG}{u:BK}(h1:PG X e t)(h2:Di X es u)(hs:cc e=true:=by rfl):Di X (e::es) (yU t u):=λpins s σ H L j Q I r h=>by
 match L,h with
 |v::vr,h=>exact EW h1 h2 (by cases e<;>first|rfl|cases hs) pins s σ H _ j Q I r ⟨v,vr,rfl,h⟩
theorem eJ {K:Fg}(G:X.K=K){es:List Expr}{k:Nat}{t:BK}{n:Nat}{pos:Pos}(z:X.calm=true)(h:Di X es t)
(F:(assignEach es X.env).length=n:=by rfl)(j:(assignEach es X.env).findIdx? (·.1)=none:=by rfl):PG X (.Tuple es k pos) (QR K n t):=λpins s σ H v u Q I r q=>by
 match v,q with
 | .ref a,⟨xs,h1,h2,h3⟩=>exact IU G z h F j pins s σ H _ u Q I r ⟨a,xs,rfl,h1,h2,h3⟩
end
def KG (pk:List @K)(wi:TI)(g:TG)(tt:TT)(te:TE):TE:=λσ H Q=>wi σ H λJ H1=>tR J pk g tt te σ H1 Q
def Q6 (wi:TI)(g:TG)(tb:TS):TS:=λD σ H=>wi σ H λJ H1=>Ap J g tb D σ H1
section
variable {X:Cx}{scope:Scope}{N':List Str}{pk:List @K}{tg elt iter:Expr}{ifs:List Expr}{pos:Pos}{wi:TI}{g:TG}{tt:TT}{te:TE}
def v3:Expr->Bool
 | .Set _ _ _=>false
 |_=>true
theorem jO {e:Expr}{env:Env}(h:v3 e=true)(x:Value):foldedSetIterable e env x=pure x:=by
 unfold foldedSetIterable
 cases e<;>first|rfl|cases h
theorem bz (I:X.calm=true)(S:dF X scope N' pk)(hi:PI X tg iter wi)(W:∀C s H ex,PG @r tg g)(J:∀C s H ex,Hr @r ifs tt)
(j:∀C s H ex,PE @r elt te)(hs:v3 iter=true:=by rfl):PE X (.ListComp elt [⟨tg,iter,ifs,0⟩] scope pos) (KG pk wi g tt te):=
 IX I S hi W J j (jO hs)
theorem lV {i:Nat}{x:Str}{F j:Pos}(I:X.calm=true)(G:X.N.Nodup)(z:X.N[i]? =some x)(W:K9 X.env.scope x)(S:dF X scope N' pk)(hi:PI X tg iter wi)(R:∀C s H ex,PG @r tg g)
(O:∀C s H ex,Hr @r ifs tt)(J:∀C s H ex,PE @r elt te)(hs:v3 iter=true:=by rfl)
(Z:swapsWith (.ListComp elt [⟨tg,iter,ifs,0⟩] scope pos) (some (.Name x F)) j.line X.env=pure true:=by rfl)(L:X.fn x=true\/X.env.scope.names.lookup x=some .local:=by first|exact .inl rfl|exact .inr rfl|assumption):
 PS X (.Assign [.Name x F] (.ListComp elt [⟨tg,iter,ifs,0⟩] scope pos) j) (DW (KG pk wi g tt te) (mT i)):=
 IN I G z W S hi R O J (jO hs) Z L
theorem cO {R:List Stmt}{tb:TS}(G:PassesOwn @e X.A X.env X.xe)(I:X.calm=true)(hi:PI X tg iter wi)(W:PG X tg g)(F:tW X R tb)
(hs:v3 iter=true:=by rfl):PS X (.For tg iter R [] pos) (Q6 wi g tb):=Mx G I hi W F (jO hs)
end
def Ic (t u:TS):TS:=λD σ H=>∃M:St->Hp->Prop,t {D with nx:=M} σ H/\∀σ' H',M σ' H'->u D σ' H'
theorem gI {X:Cx}{st:Stmt}{gx:List Stmt}{t u:TS}(h1:PS X st t)(h2:tW X gx u):tW X (st::gx) (Ic t u):=by
 intro pins s σ H D I h;obtain ⟨M,J,z⟩:=h;rwa[wpAny_execs_cons (bP (h1 pins s σ H {D with nx:=M} I J) λf O q=> ?_)]
 cases f with
 |next=>
  obtain ⟨j,H',F,q⟩:=q;exact h2 pins O j H' D F (z j H' q)
 |ret v=>exact q
 |brk=>exact q
 |cont=>exact q
theorem yb {t u:TS}{D:pQ}{σ:St}{H:Hp}(M:St->Hp->Prop)(h1:t {D with nx:=M} σ H)(h2:∀σ' H',M σ' H'->u D σ' H'):Ic t u D σ H:=⟨M,h1,h2⟩
section
variable {K:Fg}{H:Hp}{p q:Addr}{xs ys:List V}{Q:VK}
theorem j3 (h:aN K H p ys)(g:Q (.int ys.length) H):jC K p H Q:=⟨ys,.inl h,g⟩
theorem bh (h:aD K H p ys)(g:Q (.int ys.length) H):jC K p H Q:=⟨ys,.inr h,g⟩
theorem cP {i:Int}{v:V}(h:aN K H p xs)(e:oQ xs i=some v)(g:Q v H):mw K p i H Q:=⟨xs,.inl h,v,e,g⟩
theorem ae {i:Int}{v:V}(h:aD K H p xs)(e:oQ xs i=some v)(g:Q v H):mw K p i H Q:=⟨xs,.inr h,v,e,g⟩
theorem AX {z:Str}{i:Int}{c:Nat}(F:z.length<=sizeLine)(e:oQ z.cps.toList i=some c)(g:Q (.str ⟨#[c]⟩) H):vp z i H Q:=⟨F,c,e,g⟩
theorem zo {x:V}(h:aN K H p xs)(h1:dY x=true)(h2:xs.all dY=true)(g:Q (.bl (xR x xs)) H):ut K false x p H Q:=⟨xs,.inl h,h1,h2,g⟩
theorem BW {x:V}(h:aN K H p xs)(h1:dY x=true)(h2:xs.all dY=true)(g:Q (.bl (!xR x xs)) H):ut K true x p H Q:=⟨xs,.inl h,h1,h2,g⟩
theorem ur {x:V}(h:aD K H p xs)(h1:dY x=true)(h2:xs.all dY=true)(g:Q (.bl (!xR x xs)) H):ut K true x p H Q:=⟨xs,.inr h,h1,h2,g⟩
theorem Iu {R:Bool->Hp->Prop}(h:aN K H p xs)(g:R (!xs.isEmpty) H):qu K p H R:= .inl ⟨xs,.inl h,g⟩
theorem L6 {lo hi:Option Int}(h:aN K H p xs)(g:∀l,H l=none->Q (.ref l) (upd H l (.lst @bo))):oX K p lo hi H Q:= .inl ⟨xs,h,g⟩
theorem L5 {lo hi:Option Int}(h:aD K H p xs)(F: ¬(HT.sIx xs.length 0 lo=0/\HT.sIx xs.length xs.length hi=xs.length))(g:∀l,H l=none->Q (.ref l) @ej):oX K p lo hi H Q:= .inr ⟨xs,h,F,g⟩
theorem NA {z:Str}{ts:List Str}(h:aN K H p @dw)(h1:(ts.toArray.foldl (· + ·.length+z.length) 0)<=sizeLine)(h2:(Builtin.Str.glued z ts).length<=sizeLine)(g:Q (.str @cv) H):Be K z p H Q:=⟨ts,h,h1,h2,g⟩
theorem iK {y:V}(h:H p=some (.lst xs))(F:xs.length<sizeLine)(g:Q .non (upd H p (.lst (xs++[y])))):Km p y H Q:=⟨xs,h,F,g⟩
theorem Qe {bs:List Bool}(h:aN K H p @bq)(g:Q (.bl @gC) H):Kr K p H Q:=⟨bs,h,g⟩
theorem OX (h:aN K H p ys)(g:∀l,H l=none->Q (.ref l) @db):DN K p H Q:=⟨ys,.inl ⟨h,g⟩⟩
theorem cz {R:It->Hp->Prop}(h:aN K H p xs)(g:R (Hj K p) H):xQ K p H R:= .inl ⟨xs,h,g⟩
theorem cZ {R:It->Hp->Prop}(h:aD K H p xs)(g:R (Hi K p) H):xQ K p H R:= .inr ⟨xs,h,g⟩
theorem kz {k:Int}{j:Nat}{v:V}{R:Hp->Prop}(h:H p=some (.lst xs))(Z:CP xs.length k=some j)(g:R @bT):setL p k v H R:=⟨xs,j,h,Z,g⟩
theorem ju {n:Nat}{P:List V->Prop}(h:aD K H p xs)(W:xs.length=n)(g:P xs):BP K n p H P:=⟨xs,h,W,g⟩
end
theorem eX {i j:Int}(h1: -18446744073709551616<i)(h2:i<18446744073709551616):wR i j:= .inl ⟨h1,h2⟩
theorem oH {i j:Int}(h1: -18446744073709551616<j)(h2:j<18446744073709551616):wR i j:= .inr ⟨h1,h2⟩
theorem GP {i j:Int}(h1:0<j)(h2:j<1073741824):Dp i j:=⟨h1,h2⟩
theorem yc {i j:Int}(h1:0<=j)(h2:j<=1000000)(L:i.natAbs<18446744073709551616):AI i j:=⟨h1,h2,L⟩
theorem cg (x:Str):x.cps.toList.length=x.length:=by simp [Str.length]
theorem AW {n:Nat}(h:n<=9000):n<sizeLine:=by rw [sizeLine_eq];lia
def R1 (K:Fg)(H:Hp)(a:Addr)(ns:List Int):Prop:=aN K H a @bW/\ns.length<=63
inductive D where
 |non|bl (b:Bool)|int (i:Int)|str (x:Str)|lst (ds:List D)|tup (ds:List D)
mutual
def ja:D->D->Bool
 | .non,.non=>true
 | .bl a,.bl b=>a==b
 | .bl a,.int b=>(if a then 1 else 0)==b
 | .int a,.bl b=>a==(if b then 1 else 0)
 | .int a,.int b=>a==b
 | .str a,.str b=>a==b
 | .lst xs,.lst ys=>eqDs xs ys
 | .tup xs,.tup ys=>eqDs xs ys
 |_,_=>false
def eqDs:List D->List D->Bool
 |[],[]=>true
 |x::xs,y::ys=>ja x y&&eqDs xs ys
 |_,_=>false
end
mutual
theorem jQ:∀d:D,ja d d=true
 | .non=>rfl
 | .bl a=>by simp [ja]
 | .int a=>by simp [ja]
 | .str a=>by simp [ja]
 | .lst xs=>by rw [ja];exact eqDs_refl xs
 | .tup xs=>by rw [ja];exact eqDs_refl xs
theorem eqDs_refl:∀ds:List D,eqDs ds ds=true
 |[]=>rfl
 |d::ds=>by rw [eqDs,jQ d,eqDs_refl ds];rfl
end
theorem fZ:∀ {xs ys:List D},xs.length≠ys.length->eqDs xs ys=false
 |[],[],h=>absurd rfl h
 |[],_::_,_=>by simp [eqDs]
 |_::_,[],_=>by simp [eqDs]
 |x::xs,y::ys,h=>by
  rw [eqDs,fZ (xs:=xs) (ys:=ys) (by simpa using h),Bool.and_false]
theorem gb:∀ {xs ys:List D},xs.length=ys.length->((List.range xs.length).all λj=>ja (xs.getD j .non) (ys.getD j .non))=eqDs xs ys
 |[],[],_=>rfl
 |[],_::_,h=>by simp at h
 |_::_,[],h=>by simp at h
 |x::xs,y::ys,h=>by
  have z:=gb (xs:=xs) (ys:=ys) (by simpa using h);rw [eqDs,<-z,length_cons,range_succ_eq_map,all_cons,all_map];rfl
inductive bM (K:Fg)(H:Hp):V->D->Prop
 |non:bM K H .non .non
 |bl (b:Bool):bM K H (.bl b) (.bl b)
 |int (i:Int):bM K H (.int i) (.int i)
 |str (x:Str):bM K H (.str x) (.str x)
 |lst {a:Addr} {xs:List V} {ds:List D} (h:aN K H a xs) (hl:xs.length=ds.length) (hi:∀(i:Nat) x d,xs[i]? =some x->ds[i]? =some d->bM K H x d):bM K H (.ref a) (.lst ds)
 |tup {a:Addr} {xs:List V} {ds:List D} (h:aD K H a xs) (hl:xs.length=ds.length) (hi:∀(i:Nat) x d,xs[i]? =some x->ds[i]? =some d->bM K H x d):bM K H (.ref a) (.tup ds)
mutual
def jq:D->Nat
 | .lst ds=>deps ds+1
 | .tup ds=>deps ds+1
 |_=>0
def deps:List D->Nat
 |[]=>0
 |d::ds=>max (jq d) (deps ds)
end
theorem lL:∀ {ds:List D} {i:Nat} {d:D},ds[i]? =some d->jq d<=deps ds
 |[],_,_,h=>by simp at h
 |d::ds,0,_,h=>by simp at h;subst h;rw [deps];exact Nat.le_max_left _ _
 |d::ds,i+1,e,h=>by
  have:=lL (ds:=ds) (i:=i) (d:=e) (by simpa using h);rw [deps];exact Nat.le_trans this (Nat.le_max_right _ _)
section
variable {X:Cx}{pins:List (Addr×Obj)}{σ:St}{H:Hp}{s:Shared}
theorem xJ {a:Addr}{xs ys:List V}(I:aB X pins σ H s)(h:aN X.K H a xs)(h':aD X.K H a ys):False:=by
 obtain ⟨its,_,p,_⟩:=I.list h;obtain ⟨G,_,p2,_⟩:=I.tuple h';obtain ⟨o,e,c,_⟩:=p.isList;obtain ⟨o',j,z,_⟩:=p2;rw [e] at j;cases j;rw [c] at z;injection z with c2;exact absurd c2 @b
theorem bM.inj (I:aB X pins σ H s){x:V}{d e:D}(h:bM X.K H x d)(h':bM X.K H x e):d=e:=by
 induction h generalizing e with
 |non=>cases h';rfl
 |bl b=>cases h';rfl
 |int i=>cases h';rfl
 |str z=>cases h';rfl
 | @lst a xs ds hq hl hi ih=>
   cases h' with
   | @lst _ ys es hq' hl' hi'=>
     have j:=I.list_inj hq hq';subst j;congr 1;rwa[ext_getElem @c λi h1 h2=> ?_];exact ih i xs[i] _ @g (by simp [h1]) (hi' i xs[i] _ @g (by simp [h2]))
   |tup hq' _ _=>exact (xJ I hq hq').elim
 | @tup a xs ds hq hl hi ih=>
   cases h' with
   | @tup _ ys es hq' hl' hi'=>
     have j:=I.tuple_inj hq hq';subst j;congr 1;rwa[ext_getElem @c λi h1 h2=> ?_];exact ih i xs[i] _ @g (by simp [h1]) (hi' i xs[i] _ @g (by simp [h2]))
   |lst hq' _ _=>exact (xJ I hq' hq).elim
open PySem.SeqAt in
theorem jR (I:aB X pins σ H s){x:V}{d:D}(h:bM X.K H x d):∀ {y:V} {e:D} {u v:Value} {A:Around},bM X.K H y e->aK x u->aK y v->A.units+jq d<cLine->EqAt A s u v (ja d e):=by
 have F:∀ {x y:V} {u v:Value} {A:Around},dY x=true->dY y=true->aK x u->aK y v->EqAt A s u v (Ka x y):=λf1 f2 W Y=>Gy W Y f1 f2
 induction h with
 |non=>
  intro y e u v A S L G hu
  cases S with
  |non=>exact F (x:= .non) (y:= .non) rfl rfl L G
  |bl b=>exact F (x:= .non) (y:= .bl b) rfl rfl L G
  |int i=>exact F (x:= .non) (y:= .int i) rfl rfl L G
  |str z=>exact F (x:= .non) (y:= .str z) rfl rfl L G
  |lst hq _ _=>cases L;cases G;obtain ⟨_,_,p,_⟩:=I.list hq;exact EqAt.none_list p.isList @c
  |tup hq _ _=>cases L;cases G;obtain ⟨_,_,p,_⟩:=I.tuple hq;exact EqAt.none_tuple p @c
 |bl b=>
  intro y e u v A S L G hu
  cases S with
  |non=>exact F (x:= .bl b) (y:= .non) rfl rfl L G
  |bl c=>exact F (x:= .bl b) (y:= .bl c) rfl rfl L G
  |int i=>exact F (x:= .bl b) (y:= .int i) rfl rfl L G
  |str z=>exact F (x:= .bl b) (y:= .str z) rfl rfl L G
  |lst hq _ _=>cases L;cases G;obtain ⟨_,_,p,_⟩:=I.list hq;exact EqAt.bool_list b p.isList @c
  |tup hq _ _=>cases L;cases G;obtain ⟨_,_,p,_⟩:=I.tuple hq;exact EqAt.bool_tuple b p @c
 |int i=>
  intro y e u v A S L G hu
  cases S with
  |non=>exact F (x:= .int i) (y:= .non) rfl rfl L G
  |bl c=>exact F (x:= .int i) (y:= .bl c) rfl rfl L G
  |int j=>exact F (x:= .int i) (y:= .int j) rfl rfl L G
  |str z=>exact F (x:= .int i) (y:= .str z) rfl rfl L G
  |lst hq _ _=>obtain ⟨t,rfl⟩:=L;cases G;obtain ⟨_,_,p,_⟩:=I.list hq;exact EqAt.int_list i t p.isList @c
  |tup hq _ _=>obtain ⟨t,rfl⟩:=L;cases G;obtain ⟨_,_,p,_⟩:=I.tuple hq;exact EqAt.int_tuple i t p @c
 |str z=>
  intro y e u v A S L G hu
  cases S with
  |non=>exact F (x:= .str z) (y:= .non) rfl rfl L G
  |bl c=>exact F (x:= .str z) (y:= .bl c) rfl rfl L G
  |int j=>exact F (x:= .str z) (y:= .int j) rfl rfl L G
  |str z'=>exact F (x:= .str z) (y:= .str z') rfl rfl L G
  |lst hq _ _=>obtain ⟨t,rfl⟩:=L;cases G;obtain ⟨_,_,p,_⟩:=I.list hq;exact EqAt.str_list z t p.isList @c
  |tup hq _ _=>obtain ⟨t,rfl⟩:=L;cases G;obtain ⟨_,_,p,_⟩:=I.tuple hq;exact EqAt.str_tuple z t p @c
 | @lst a xs ds hq hl hi ih=>
   intro y e u v A S L G hu
   have ad:jq (.lst ds)=deps ds+1:=by rw [jq]
   cases L
   obtain ⟨its,W,U,z1⟩:=I.list hq
   cases S with
   |non=>cases G;exact EqAt.list_none U.isList @c
   |bl b=>cases G;exact EqAt.list_bool b U.isList @c
   |int j=>obtain ⟨t,rfl⟩:=G;exact EqAt.list_int j t U.isList @c
   |str z=>obtain ⟨t,rfl⟩:=G;exact EqAt.list_str z t U.isList @c
   | @lst b ys es hq' hl' hi'=>
     cases G
     by_cases R:a=b
     ·subst R
      have e:=bM.inj I (.lst hq hl hi) (.lst hq' hl' hi')
      rw [<-e,jQ]
      exact EqAt.same _
     obtain ⟨J,Y,p2,z2⟩:=I.list hq'
     rw [ja]
     have l1:=W.length
     have l2:=Y.length
     by_cases O:ds.length=es.length
     ·rw [<-gb O]
      have aa:ds.length=its.toArray.size:=by rw [size_toArray];lia
      rw [aa]
      rwa[EqAt.of_refs R (RcAt.lists U.isList p2.isList (by simp only [size_toArray];lia) @c λj h1 h2=> ?_)]
      have j1:j<xs.length:=by rw [size_toArray] at h1;lia
      have j2:j<ys.length:=by rw [size_toArray] at h2;lia
      obtain ⟨w1,e1,q1⟩:=W.get (i:=j) (x:=xs[j]) @g
      obtain ⟨w2,Z,q2⟩:=Y.get (i:=j) (x:=ys[j]) @g
      have k1:its.toArray[j]=w1:=by
       have:its[j]? =some its.toArray[j]:=by simp
       rw [this] at e1;exact Option.some.inj e1
      have k2:J.toArray[j]=w2:=by
       have:J[j]? =some J.toArray[j]:=by simp
       rw [this] at Z;exact Option.some.inj Z
      rw [k1,k2]
      have d1:ds[j]? =some @bs:=by simp [List.getD,getElem?_eq_getElem (show j<ds.length by lia)]
      have d2:es[j]? =some @bt:=by simp [List.getD,getElem?_eq_getElem (show j<es.length by lia)]
      have ab:=lL d1
      rwa[ih j xs[j] _ @g d1 (hi' j ys[j] _ @g d2) q1 q2 ?_]
      have:A.in1.units=A.units+1:=rfl
      lia
     ·rw [fZ O]
      exact EqAt.of_refs R (RcAt.lists_lengths U.isList p2.isList (by simp only [size_toArray];rw [bne_iff_ne];lia) @c)
   |tup hq' _ _=>cases G;obtain ⟨_,_,p2,_⟩:=I.tuple hq';exact EqAt.list_tuple U.isList p2 @c
 | @tup a xs ds hq hl hi ih=>
   intro y e u v A S L G hu
   have ad:jq (.tup ds)=deps ds+1:=by rw [jq]
   cases L
   obtain ⟨its,W,U,z1⟩:=I.tuple hq
   cases S with
   |non=>cases G;exact EqAt.tuple_none U @c
   |bl b=>cases G;exact EqAt.tuple_bool b U @c
   |int j=>obtain ⟨t,rfl⟩:=G;exact EqAt.tuple_int j t U @c
   |str z=>obtain ⟨t,rfl⟩:=G;exact EqAt.tuple_str z t U @c
   |lst hq' _ _=>cases G;obtain ⟨_,_,p2,_⟩:=I.list hq';exact EqAt.tuple_list U p2.isList @c
   | @tup b ys es hq' hl' hi'=>
     cases G
     by_cases R:a=b
     ·subst R
      have e:=bM.inj I (.tup hq hl hi) (.tup hq' hl' hi')
      rw [<-e,jQ]
      exact EqAt.same _
     obtain ⟨J,Y,p2,z2⟩:=I.tuple hq'
     rw [ja]
     have l1:=W.length
     have l2:=Y.length
     have ac:eqDs ds es=((List.range @cm).all @eB&&its.toArray.size==J.toArray.size):=by
      by_cases O:ds.length=es.length
      ·have e1:its.toArray.size=ds.length:=by rw [size_toArray];lia
       have Z:J.toArray.size=ds.length:=by rw [size_toArray];lia
       rw [e1,Z,Nat.min_self,gb O];simp
      ·rw [fZ O]
       have:(its.toArray.size==J.toArray.size)=false:=beq_eq_false_iff_ne.mpr (by simp only [size_toArray];lia)
       rw [this,Bool.and_false]
     rw [ac]
     rwa[EqAt.of_refs R (RcAt.tuples U p2 @c λj h1 h2=> ?_)]
     have j1:j<xs.length:=by rw [size_toArray] at h1;lia
     have j2:j<ys.length:=by rw [size_toArray] at h2;lia
     obtain ⟨w1,e1,q1⟩:=W.get (i:=j) (x:=xs[j]) @g
     obtain ⟨w2,Z,q2⟩:=Y.get (i:=j) (x:=ys[j]) @g
     have k1:its.toArray[j]=w1:=by
      have:its[j]? =some its.toArray[j]:=by simp
      rw [this] at e1;exact Option.some.inj e1
     have k2:J.toArray[j]=w2:=by
      have:J[j]? =some J.toArray[j]:=by simp
      rw [this] at Z;exact Option.some.inj Z
     rw [k1,k2]
     have d1:ds[j]? =some @bs:=by simp [List.getD,getElem?_eq_getElem (show j<ds.length by lia)]
     have d2:es[j]? =some @bt:=by simp [List.getD,getElem?_eq_getElem (show j<es.length by lia)]
     have ab:=lL d1
     rwa[ih j xs[j] _ @g d1 (hi' j ys[j] _ @g d2) q1 q2 ?_]
     have:A.in1.units=A.units+1:=rfl
     lia
end
def xX (K:Fg)(x y:V)(H:Hp)(P:Bool->Prop):Prop:=∃d e,bM K H x d/\bM K H y e/\jq d<=60/\P (ja d e)
theorem wm {K:Fg}{x y:V}{H:Hp}{P:Bool->Prop}{d:D}(h1:bM K H x d)(h2:bM K H y d)(J:jq d<=60)(g:P true):xX K x y H P:=⟨d,d,h1,h2,J,by rw [jQ];exact g⟩
def ON (K:Fg):R2:=λx y H Q=>match P3 x y with|some b=>Q (.bl b) H|none=>xX K x y H λb=>Q (.bl b) H
def OF (K:Fg):R2:=λx y H Q=>match P3 x y with|some b=>Q (.bl (!b)) H|none=>xX K x y H λb=>Q (.bl (!b)) H
section
variable {X:Cx}{K:Fg}{m:Nat}
theorem w6 {d:D}(Y:b8 m X.A)(J:jq d<=60):X.A.units+jq d<cLine:=by have:=Y.un;lia
open PySem.SeqAt in
theorem d9 (hK:X.K=K)(hr:b8 m X.A):dE X (compareOp .Eq) (ON K):=by
 subst hK
 intro pins s σ H x y v u Q I R L h
 unfold ON at h
 cases e:P3 x y with
 |some b=>
  rw [e] at h
  obtain ⟨h1,h2⟩:=Gx e
  exact Pu pins s σ H x y v u Q I R L ⟨h1,by rw [h2];exact h⟩
 |none=>
  rw [e] at h
  obtain ⟨d,e',h1,h2,hd,q⟩:=h
  have F:EP X pins σ Q (.bool (ja d e')) s:=⟨.bl _,H,I,rfl,q⟩
  have hu:=w6 (X:=X) hr hd
  have G:X.A.units<cLine:=by lia
  cases h1 with
  | @lst a xs ds hq hl hi=>
    have D1:bM X.K H (.ref a) (.lst ds):= .lst hq hl hi
    cases R
    obtain ⟨its,Y,U,z1⟩:=I.list hq
    cases h2 with
    |non=>cases L;exact RcAt.list_none U.isList G _ _ _ _ F
    |bl b=>cases L;exact RcAt.list_bool b U.isList G _ _ _ _ F
    |int j=>obtain ⟨t,rfl⟩:=L;exact RcAt.list_int j t U.isList G _ _ _ _ F
    |str z=>obtain ⟨t,rfl⟩:=L;exact RcAt.list_str z t U.isList G _ _ _ _ F
    |tup hq' _ _=>cases L;obtain ⟨_,_,p2,_⟩:=I.tuple hq';exact RcAt.list_tuple U.isList p2 G _ _ _ _ F
    | @lst b ys es hq' hl' hi'=>
      cases L
      obtain ⟨J,Z,p2,z2⟩:=I.list hq'
      have ad:jq (.lst ds)=deps ds+1:=by rw [jq]
      rw [ja] at F
      have l1:=Y.length
      have l2:=Z.length
      by_cases O:ds.length=es.length
      ·rw [<-gb O,show ds.length=its.toArray.size by rw [size_toArray];lia] at F
       rwa[RcAt.lists U.isList p2.isList (by simp only [size_toArray];lia) G @dq _ _ _ _ F]
       have j1:j<xs.length:=by rw [size_toArray] at g1;lia
       have j2:j<ys.length:=by rw [size_toArray] at g2;lia
       obtain ⟨w1,W,q1⟩:=Y.get (i:=j) (x:=xs[j]) @g
       obtain ⟨w2,S,q2⟩:=Z.get (i:=j) (x:=ys[j]) @g
       have k1:its.toArray[j]=w1:=by
        have:its[j]? =some its.toArray[j]:=by simp
        rw [this] at W;exact Option.some.inj W
       have k2:J.toArray[j]=w2:=by
        have:J[j]? =some J.toArray[j]:=by simp
        rw [this] at S;exact Option.some.inj S
       rw [k1,k2]
       have d1:ds[j]? =some @bs:=by simp [List.getD,getElem?_eq_getElem (show j<ds.length by lia)]
       have d2:es[j]? =some @bt:=by simp [List.getD,getElem?_eq_getElem (show j<es.length by lia)]
       have ab:=lL d1
       rwa[jR I (hi j xs[j] _ @g d1) (hi' j ys[j] _ @g d2) q1 q2 ?_]
       have:X.A.in1.units=X.A.units+1:=rfl
       lia
      ·rw [fZ O] at F
       exact RcAt.lists_lengths U.isList p2.isList (by simp only [size_toArray];rw [bne_iff_ne];lia) G _ _ _ _ F
  | @tup a xs ds hq hl hi=>
    cases R
    obtain ⟨its,Y,U,z1⟩:=I.tuple hq
    cases h2 with
    |non=>cases L;exact RcAt.tuple_none U G _ _ _ _ F
    |bl b=>cases L;exact RcAt.tuple_bool b U G _ _ _ _ F
    |int j=>obtain ⟨t,rfl⟩:=L;exact RcAt.tuple_int j t U G _ _ _ _ F
    |str z=>obtain ⟨t,rfl⟩:=L;exact RcAt.tuple_str z t U G _ _ _ _ F
    |lst hq' _ _=>cases L;obtain ⟨_,_,p2,_⟩:=I.list hq';exact RcAt.tuple_list U p2.isList G _ _ _ _ F
    | @tup b ys es hq' hl' hi'=>
      cases L
      obtain ⟨J,Z,p2,z2⟩:=I.tuple hq'
      have ad:jq (.tup ds)=deps ds+1:=by rw [jq]
      rw [ja] at F
      have l1:=Y.length
      have l2:=Z.length
      have ac:eqDs ds es=((List.range @cm).all @eB&&its.toArray.size==J.toArray.size):=by
       by_cases O:ds.length=es.length
       ·have W:its.toArray.size=ds.length:=by rw [size_toArray];lia
        have S:J.toArray.size=ds.length:=by rw [size_toArray];lia
        rw [W,S,Nat.min_self,gb O];simp
       ·rw [fZ O]
        have:(its.toArray.size==J.toArray.size)=false:=beq_eq_false_iff_ne.mpr (by simp only [size_toArray];lia)
        rw [this,Bool.and_false]
      rw [ac] at F
      rwa[RcAt.tuples U p2 G @dq _ _ _ _ F]
      have j1:j<xs.length:=by rw [size_toArray] at g1;lia
      have j2:j<ys.length:=by rw [size_toArray] at g2;lia
      obtain ⟨w1,W,q1⟩:=Y.get (i:=j) (x:=xs[j]) @g
      obtain ⟨w2,S,q2⟩:=Z.get (i:=j) (x:=ys[j]) @g
      have k1:its.toArray[j]=w1:=by
       have:its[j]? =some its.toArray[j]:=by simp
       rw [this] at W;exact Option.some.inj W
      have k2:J.toArray[j]=w2:=by
       have:J[j]? =some J.toArray[j]:=by simp
       rw [this] at S;exact Option.some.inj S
      rw [k1,k2]
      have d1:ds[j]? =some @bs:=by simp [List.getD,getElem?_eq_getElem (show j<ds.length by lia)]
      have d2:es[j]? =some @bt:=by simp [List.getD,getElem?_eq_getElem (show j<es.length by lia)]
      have ab:=lL d1
      rwa[jR I (hi j xs[j] _ @g d1) (hi' j ys[j] _ @g d2) q1 q2 ?_]
      have:X.A.in1.units=X.A.units+1:=rfl
      lia
  |non=>cases h2 with
   |lst hq _ _=>cases R;cases L;obtain ⟨_,_,p,_⟩:=I.list hq;exact RcAt.none_list p.isList G _ _ _ _ F
   |tup hq _ _=>cases R;cases L;obtain ⟨_,_,p,_⟩:=I.tuple hq;exact RcAt.none_tuple p G _ _ _ _ F
   |_=>cases e
  |bl b=>cases h2 with
   |lst hq _ _=>cases R;cases L;obtain ⟨_,_,p,_⟩:=I.list hq;exact RcAt.bool_list b p.isList G _ _ _ _ F
   |tup hq _ _=>cases R;cases L;obtain ⟨_,_,p,_⟩:=I.tuple hq;exact RcAt.bool_tuple b p G _ _ _ _ F
   |int j=>cases R;obtain ⟨t,rfl⟩:=L;exact RcAt.bool_int b j t _ _ _ _ F
   |_=>cases e
  |int i=>cases h2 with
   |lst hq _ _=>obtain ⟨t,rfl⟩:=R;cases L;obtain ⟨_,_,p,_⟩:=I.list hq;exact RcAt.int_list i t p.isList G _ _ _ _ F
   |tup hq _ _=>obtain ⟨t,rfl⟩:=R;cases L;obtain ⟨_,_,p,_⟩:=I.tuple hq;exact RcAt.int_tuple i t p G _ _ _ _ F
   |bl b=>obtain ⟨t,rfl⟩:=R;cases L;exact RcAt.int_bool i t b _ _ _ _ F
   |_=>cases e
  |str z=>cases h2 with
   |lst hq _ _=>obtain ⟨t,rfl⟩:=R;cases L;obtain ⟨_,_,p,_⟩:=I.list hq;exact RcAt.str_list z t p.isList G _ _ _ _ F
   |tup hq _ _=>obtain ⟨t,rfl⟩:=R;cases L;obtain ⟨_,_,p,_⟩:=I.tuple hq;exact RcAt.str_tuple z t p G _ _ _ _ F
   |_=>cases e
open PySem.SeqAt in
theorem fg (hK:X.K=K)(hr:b8 m X.A):dE X (compareOp .NotEq) (OF K):=by
 subst hK
 intro pins s σ H x y v u Q I R L h
 unfold OF at h
 cases e:P3 x y with
 |some b=>
  rw [e] at h
  obtain ⟨h1,h2⟩:=Gx e
  exact Pp pins s σ H x y v u Q I R L ⟨h1,by rw [h2];exact h⟩
 |none=>
  rw [e] at h
  obtain ⟨d,e',h1,h2,hd,q⟩:=h
  have F:EP X pins σ Q (.bool (!ja d e')) s:=⟨.bl _,H,I,rfl,q⟩
  have hu:=w6 (X:=X) hr hd
  have G:X.A.units<cLine:=by lia
  cases h1 with
  | @lst a xs ds hq hl hi=>
    have D1:bM X.K H (.ref a) (.lst ds):= .lst hq hl hi
    cases R
    obtain ⟨its,Y,U,z1⟩:=I.list hq
    cases h2 with
    |non=>cases L;exact RcNeAt.list_none U.isList G _ _ _ _ F
    |bl b=>cases L;exact RcNeAt.list_bool b U.isList G _ _ _ _ F
    |int j=>obtain ⟨t,rfl⟩:=L;exact RcNeAt.list_int j t U.isList G _ _ _ _ F
    |str z=>obtain ⟨t,rfl⟩:=L;exact RcNeAt.list_str z t U.isList G _ _ _ _ F
    |tup hq' _ _=>cases L;obtain ⟨_,_,p2,_⟩:=I.tuple hq';exact RcNeAt.list_tuple U.isList p2 G _ _ _ _ F
    | @lst b ys es hq' hl' hi'=>
      cases L
      obtain ⟨J,Z,p2,z2⟩:=I.list hq'
      have ad:jq (.lst ds)=deps ds+1:=by rw [jq]
      rw [ja] at F
      have l1:=Y.length
      have l2:=Z.length
      by_cases O:ds.length=es.length
      ·rw [<-gb O,show ds.length=its.toArray.size by rw [size_toArray];lia] at F
       rwa[RcNeAt.lists U.isList p2.isList (by simp only [size_toArray];lia) G @dq _ _ _ _ F]
       have j1:j<xs.length:=by rw [size_toArray] at g1;lia
       have j2:j<ys.length:=by rw [size_toArray] at g2;lia
       obtain ⟨w1,W,q1⟩:=Y.get (i:=j) (x:=xs[j]) @g
       obtain ⟨w2,S,q2⟩:=Z.get (i:=j) (x:=ys[j]) @g
       have k1:its.toArray[j]=w1:=by
        have:its[j]? =some its.toArray[j]:=by simp
        rw [this] at W;exact Option.some.inj W
       have k2:J.toArray[j]=w2:=by
        have:J[j]? =some J.toArray[j]:=by simp
        rw [this] at S;exact Option.some.inj S
       rw [k1,k2]
       have d1:ds[j]? =some @bs:=by simp [List.getD,getElem?_eq_getElem (show j<ds.length by lia)]
       have d2:es[j]? =some @bt:=by simp [List.getD,getElem?_eq_getElem (show j<es.length by lia)]
       have ab:=lL d1
       rwa[jR I (hi j xs[j] _ @g d1) (hi' j ys[j] _ @g d2) q1 q2 ?_]
       have:X.A.in1.units=X.A.units+1:=rfl
       lia
      ·rw [fZ O] at F
       exact RcNeAt.lists_lengths U.isList p2.isList (by simp only [size_toArray];rw [bne_iff_ne];lia) G _ _ _ _ F
  | @tup a xs ds hq hl hi=>
    cases R
    obtain ⟨its,Y,U,z1⟩:=I.tuple hq
    cases h2 with
    |non=>cases L;exact RcNeAt.tuple_none U G _ _ _ _ F
    |bl b=>cases L;exact RcNeAt.tuple_bool b U G _ _ _ _ F
    |int j=>obtain ⟨t,rfl⟩:=L;exact RcNeAt.tuple_int j t U G _ _ _ _ F
    |str z=>obtain ⟨t,rfl⟩:=L;exact RcNeAt.tuple_str z t U G _ _ _ _ F
    |lst hq' _ _=>cases L;obtain ⟨_,_,p2,_⟩:=I.list hq';exact RcNeAt.tuple_list U p2.isList G _ _ _ _ F
    | @tup b ys es hq' hl' hi'=>
      cases L
      obtain ⟨J,Z,p2,z2⟩:=I.tuple hq'
      have ad:jq (.tup ds)=deps ds+1:=by rw [jq]
      rw [ja] at F
      have l1:=Y.length
      have l2:=Z.length
      have ac:eqDs ds es=((List.range @cm).all @eB&&its.toArray.size==J.toArray.size):=by
       by_cases O:ds.length=es.length
       ·have W:its.toArray.size=ds.length:=by rw [size_toArray];lia
        have S:J.toArray.size=ds.length:=by rw [size_toArray];lia
        rw [W,S,Nat.min_self,gb O];simp
       ·rw [fZ O]
        have:(its.toArray.size==J.toArray.size)=false:=beq_eq_false_iff_ne.mpr (by simp only [size_toArray];lia)
        rw [this,Bool.and_false]
      rw [ac] at F
      rwa[RcNeAt.tuples U p2 G @dq _ _ _ _ F]
      have j1:j<xs.length:=by rw [size_toArray] at g1;lia
      have j2:j<ys.length:=by rw [size_toArray] at g2;lia
      obtain ⟨w1,W,q1⟩:=Y.get (i:=j) (x:=xs[j]) @g
      obtain ⟨w2,S,q2⟩:=Z.get (i:=j) (x:=ys[j]) @g
      have k1:its.toArray[j]=w1:=by
       have:its[j]? =some its.toArray[j]:=by simp
       rw [this] at W;exact Option.some.inj W
      have k2:J.toArray[j]=w2:=by
       have:J[j]? =some J.toArray[j]:=by simp
       rw [this] at S;exact Option.some.inj S
      rw [k1,k2]
      have d1:ds[j]? =some @bs:=by simp [List.getD,getElem?_eq_getElem (show j<ds.length by lia)]
      have d2:es[j]? =some @bt:=by simp [List.getD,getElem?_eq_getElem (show j<es.length by lia)]
      have ab:=lL d1
      rwa[jR I (hi j xs[j] _ @g d1) (hi' j ys[j] _ @g d2) q1 q2 ?_]
      have:X.A.in1.units=X.A.units+1:=rfl
      lia
  |non=>cases h2 with
   |lst hq _ _=>cases R;cases L;obtain ⟨_,_,p,_⟩:=I.list hq;exact RcNeAt.none_list p.isList G _ _ _ _ F
   |tup hq _ _=>cases R;cases L;obtain ⟨_,_,p,_⟩:=I.tuple hq;exact RcNeAt.none_tuple p G _ _ _ _ F
   |_=>cases e
  |bl b=>cases h2 with
   |lst hq _ _=>cases R;cases L;obtain ⟨_,_,p,_⟩:=I.list hq;exact RcNeAt.bool_list b p.isList G _ _ _ _ F
   |tup hq _ _=>cases R;cases L;obtain ⟨_,_,p,_⟩:=I.tuple hq;exact RcNeAt.bool_tuple b p G _ _ _ _ F
   |int j=>cases R;obtain ⟨t,rfl⟩:=L;exact RcNeAt.bool_int b j t _ _ _ _ F
   |_=>cases e
  |int i=>cases h2 with
   |lst hq _ _=>obtain ⟨t,rfl⟩:=R;cases L;obtain ⟨_,_,p,_⟩:=I.list hq;exact RcNeAt.int_list i t p.isList G _ _ _ _ F
   |tup hq _ _=>obtain ⟨t,rfl⟩:=R;cases L;obtain ⟨_,_,p,_⟩:=I.tuple hq;exact RcNeAt.int_tuple i t p G _ _ _ _ F
   |bl b=>obtain ⟨t,rfl⟩:=R;cases L;exact RcNeAt.int_bool i t b _ _ _ _ F
   |_=>cases e
  |str z=>cases h2 with
   |lst hq _ _=>obtain ⟨t,rfl⟩:=R;cases L;obtain ⟨_,_,p,_⟩:=I.list hq;exact RcNeAt.str_list z t p.isList G _ _ _ _ F
   |tup hq _ _=>obtain ⟨t,rfl⟩:=R;cases L;obtain ⟨_,_,p,_⟩:=I.tuple hq;exact RcNeAt.str_tuple z t p G _ _ _ _ F
   |_=>cases e
end
structure N1 (h:Heap)(a T:Addr)(cls:Value)(dd:Option Addr)(fl:Value):Prop where
 ex:∃oe vs oT ts,h.get? a=some oe/\oe.cls=cls/\oe.dict=dd/\oe.data= .fields vs/\vs[1]? =some (.ref T)/\vs[2]? =some .none/\T≠a/\h.get? T=some oT/\oT.data= .fields ts/\ts[3]? =some fl
structure Pass (fs:List Addr)(ch:List Addr)(h h':Heap):Prop where
 keep:∀b o,b∉ch->b∉fs->h.get? b=some o->h'.get? b=some o
 slot:∀b o,b∉ch->h.get? b=some o->∃sl,h'.get? b=some {o with slots:=sl}
theorem JK {o:Obj}{vs:Array Value}(J:o.data= .fields vs)(f:Array Value->Array Value):Obj.mapFields f o= {o with data:= .fields (f vs)}:=by
 obtain ⟨c,d,j,sl⟩:=o;cases J;rfl
section
variable {M:Model}{A:Around}{E:Value->Shared->Prop}{s:Shared}
theorem uG {base:Heap}{env:Env}{outer:List Env}{L e:Addr}{Z:Obj}{vs:Array Value}{F:Value}{G:Bool}{Q:Unit->Shared->Prop}
(ag:A.frames=some (env::outer))(hl:s.heap.FunFrames base (env::outer))(hf:env.frame=some L)(he:s.heap.get? e=some Z)(hd:Z.data= .fields vs)(hsz:1<vs.size)(h2:vs[2]? =some .none)
(h:∀h' T,Pass (wV (env::outer)) [e] s.heap h'->s.heap.get? T=none->N1 h' e T Z.cls Z.dict (rawInt L)->Q () {s with heap:=h'}):
 wpAny M A (do let a<-frameOf env;let pl<-entryPlaceOf L G;let b<-EntryCells.newEntry F a .none (rawInt L) .none pl;setField (.ref e) 1 b) Q E s:=by
 have Y:e∉(env::outer).filterMap (·.frame):=λhm=>by
  obtain ⟨_,o,U,ad⟩:=hl.mem hm;rw [he] at U;cases U;exact ad vs hd
 rwa[wpAny_bind (wpAny_frameOf_fun ag hl hf λj I=>wpAny_bind (wpAny_entryPlaceOf λpl R=> ?_))];unfold EntryCells.newEntry newFields;rwa[wpAny_bind (wpAny_newObj_type ?_ (R.sizeOk5 _ _ _ _ _))];have W:j.get? e=some Z:=(I.2.1 e Y).trans he;generalize U:({cls:= .type "traceback",dict:=none,data:= .fields ([F,.ref L,.none,rawInt L,.none]++(if pl.isEmpty then List.replicate 6 Value.none else pl)).toArray}:Obj)=o
 have af:o.data= .fields ([F,.ref L,.none,rawInt L,.none]++(if pl.isEmpty then List.replicate 6 Value.none else pl)).toArray:=by rw [<-U]
 have aj:o.isFreed=false:=by rw [<-U];rfl
 have aa:=Heap.get?_push_of_some (h:=j) o W;rwa[wpAny_setField aa hd hsz ?_];have S:j.objs.size≠e:=Nat.ne_of_gt (Heap.lt_size W);have ab:=Obj.data_mapFields hd (·.setIfInBounds 1 @cC);have ai:=Heap.get?_update_self (Obj.mapFields (·.setIfInBounds 1 @cC)) aa (Obj.isFreed_of_fields ab);have ae:=(Heap.get?_update_other (j.push o) (Obj.mapFields (·.setIfInBounds 1 @cC)) (Ne.symm S)).trans (Heap.get?_push_size j aj)
 have J:∀b u,b≠e->j.get? b=some u->((j.push o).update e (Obj.mapFields (·.setIfInBounds 1 @cC))).get? b=some u:=λb u ah hb=>by
  rw [Heap.get?_update_other _ _ (Ne.symm ah)];exact Heap.get?_push_of_some _ hb
 rwa[h _ j.objs.size ⟨λb u hb ac O=> ?_,λb u hb O=> ?_⟩ (Heap.get?_none_of_le (by rw [I.1];exact Nat.le_refl _)) ⟨_,_,o,_,ai,?_,?_,ab,by simp [hsz],by rw [Array.getElem?_setIfInBounds_ne @b];exact h2,S,ae,af,?_⟩]
 ·exact J b u (λz=>hb (by simp [z])) ((I.2.1 b ac).trans O)
 ·obtain ⟨sl,hs⟩:=I.2.2 b u O;exact ⟨sl,J b _ (λz=>hb (by simp [z])) hs⟩
 ·exact Obj.cls_mapFields _ _
 ·rw [JK hd]
 ·first|(simp;done)|(rcases R with rfl|⟨_,_,_,_,_,_,_,rfl⟩<;>simp)
theorem Aq {a T:Addr}{F fl:Value}{dd:Option Addr}{f:Option Addr}{Q:Unit->Shared->Prop}(x:N1 s.heap a T F dd fl)
(h:∀h',Pass [] [T] s.heap h'->N1 h' a T F dd (f.elim .none λf=>rawInt f)->Q () {s with heap:=h'}):wpAny M A (setFlight (.ref a) f) Q E s:=by
 obtain ⟨oe,Z,oT,Y,h1,h2,h3,W,S,I,U,R,L,h9⟩:=x.ex;have J:3<Y.size:=(Array.getElem?_eq_some_iff.mp h9).1;unfold setFlight;rwa[wpAny_bind @dJ];rw [if_pos (show (Value.ref T != Value.none)=true from by simp)];have j:∀b,b≠T->∀g,(s.heap.update T g).get? b=s.heap.get? b:=λb G g=>Heap.get?_update_other _ _ (Ne.symm G);rwa[wpAny_setField R L J (h _ ⟨λb o G _ O=>(j b (λz=>G (by simp [z])) _).trans O,λb o G O=>⟨o.slots,(j b (λz=>G (by simp [z])) _).trans O⟩⟩ ?_)];exact ⟨oe,Z,_,_,(j a (Ne.symm U) _).trans h1,h2,h3,W,S,I,U,Heap.get?_update_self _ R (Obj.isFreed_of_fields (Obj.data_mapFields L _)),Obj.data_mapFields L _,by simp [J]⟩
end
theorem Pass.more {fs fs' ch:List Addr}{h h1:Heap}(a:Pass fs ch h h1)(hs:∀b∈fs,b∈fs'):Pass fs' ch h h1:=⟨λb o F j e=>a.keep b o F (λz=>j (hs b z)) e,a.slot⟩
def Nw (X:Cx)(pins:List (Addr×Obj))(H:Hp)(b:Addr):Prop:=H b=none/\b≠X.env.locals/\b∉X.fs/\(b∈X.ex\/X.s₀.heap.get? b=none)/\(∀x c,X.env.cells.lookup x=some c->c≠b)/\∀p∈X.pn++pins,p.1≠b
theorem bH.here {P:Program}{w:World}{H:Hp}{h:Heap}{a:Addr}{o:HO}(x:bH P w H h a o):∃u,h.get? a=some u:=by
 cases o with
 |lst xs=>obtain ⟨_,_,_,_,e⟩:=x;exact ⟨_,e⟩
 |tup xs=>obtain ⟨_,_,_,o,e,_⟩:=x;exact ⟨_,e⟩
 |dK kvs=>obtain ⟨_,_,_,_,o,_,_,e,_⟩:=x;exact ⟨_,e⟩
 |dT kvs=>obtain ⟨_,_,_,_,o,_,_,e,_⟩:=x;exact ⟨_,e⟩
 |set S n=>obtain ⟨o,_,_,_,e,_⟩:=x;exact ⟨_,e⟩
 |ins C dx fs=>obtain ⟨_,_,_,e,_⟩:=x;exact ⟨_,e⟩
 |own y=>obtain ⟨_,e⟩:=x;exact ⟨_,e⟩
 |xd fs=>obtain ⟨_,⟨_,_,_,e,_⟩,_⟩:=x;exact ⟨_,e⟩
 |rng lo hi=>obtain ⟨_,_,_,e⟩:=x;exact ⟨_,e⟩
 |frz ob u=>obtain ⟨e,_⟩:=x;exact ⟨_,e⟩
 |tbl ps=>exact ⟨_,show h.get? a=some _ from x⟩
 |met f y=>exact ⟨_,show h.get? a=some _ from x⟩
 |ext φ=>obtain ⟨_,e,_⟩:=x;exact e
theorem gQ.none_of {P:Program}{w:World}{H:Hp}{h:Heap}{a:Addr}(x:gQ P w H h)(e:h.get? a=none):H a=none:=by
 cases q:H a with
 |none=>rfl
 |some o=>obtain ⟨u,z⟩:=(x a o q).here;rw [e] at z;cases z
section
variable {X:Cx}{pins:List (Addr×Obj)}{σ:St}{H:Hp}{s:Shared}
theorem aB.nw {H':Hp}{b:Addr}(I:aB X pins σ H s)(F:s.heap.get? b=none)(J:H' b=none):Nw X pins H' b:=by
 rwa[⟨J,λz=> ?_,λz=> ?_,?_,λx c e z=> ?_,λp L z=> ?_⟩]
 ·obtain ⟨m,⟨o,_,_,j,_⟩,_⟩:=I.loc;rw [<-z,F] at j;cases j
 ·obtain ⟨_,o,j,_⟩:=I.funs.mem z;rw [F] at j;cases j
 ·by_cases G:b∈X.ex
  ·exact .inl G
  ·rwa[.inr ?_]
   cases q:X.s₀.heap.get? b with
   |none=>rfl
   |some o=>obtain ⟨o',e⟩:=I.base.there b o q G;rw [F] at e;cases e
 ·obtain ⟨v,o,j,_⟩:=I.cell x c e;rw [z,F] at j;cases j
 ·have e:=(I.pin p L).1;rw [z,F] at e;cases e
theorem aB.pass {ch:List Addr}{h':Heap}(I:aB X pins σ H s)(p:Pass @dX ch s.heap h')(G:∀b∈ch,Nw X pins H b):aB X pins σ H {s with heap:=h'}:=by
 have U:∀b u,H b=some u->b∉ch:=λb u e z=>by rw [(G b z).1] at e;cases e
 have J:∀b u,H b=some u->b∉wV X.stack:=λb u e z=>by rw [I.stkFree b z] at e;cases e
 have R:∀b o,X.s₀.heap.get? b=some o->b∉X.ex->b∉ch:=λb o e j F=>by
  rcases (G b F).2.2.2.1 with z|z
  ·exact j z
  ·rw [e] at z;cases z
 have ac:∀b o,X.s₀.heap.get? b=some o->b≠X.env.locals:=λb o e=>Nat.ne_of_lt @R
 have Z:∀b o,X.s₀.heap.get? b=some o->b∉X.fs->b∉wV X.stack:=λb o e F z=>by
  rcases mem_cons.mp @fM with q|q
  ·exact ac b o e q
  ·exact F q
 have ab:X.env.locals∉ch:=λz=>(G _ z).2.1 rfl;have aa:∀x c,X.env.cells.lookup x=some c->c∉ch:=λx c e z=>(G c z).2.2.2.2.1 x c e rfl
 have O:∀x c,X.env.cells.lookup x=some c->∀v,s.heap.IsCell c v->h'.IsCell c v:=λx c e v ⟨o,Y,hd⟩=>by
  obtain ⟨sl,q⟩:=p.slot c o (aa x c e) Y;exact ⟨_,q,hd⟩
 rwa[⟨I.ok,I.os,I.bare,⟨λb o e n F j=> ?_,λb o e n F j=> ?_,I.base.free,λb o e j=> ?_,I.base.tups,I.base.frzs,I.base.tbls⟩,?_,λx c e=> ?_,I.free,I.freeC,λq hq=> ?_,λb u e=> ?_,I.len⟩]
 ·exact p.keep b o @dd (Z b o e F) (I.base.keep b o e n F j)
 ·obtain ⟨sl,W⟩:=I.base.slot b o e n F j;obtain ⟨ae,L⟩:=p.slot b _ @dd W;exact ⟨ae,L⟩
 ·obtain ⟨o',W⟩:=I.base.there b o e j;obtain ⟨ae,L⟩:=p.slot b _ @dd W;exact ⟨_,L⟩
 ·obtain ⟨m,⟨o,es,ep,Y,r⟩,hl⟩:=I.loc;obtain ⟨sl,hL⟩:=p.slot _ o ab Y;rwa[⟨m,⟨_,es,ep,hL,r⟩,λi x v W L e3=> ?_⟩];obtain ⟨u,rv,l⟩:=hl i x v W L e3;rwa[⟨u,rv,?_⟩]
  rcases l with l|⟨k,c,e,z⟩
  ·exact .inl l
  ·exact .inr ⟨k,c,e,O x c e _ z⟩
 ·obtain ⟨v,z⟩:=I.cell x c e;exact ⟨v,O x c e v z⟩
 ·obtain ⟨e,n,ne,nf,d⟩:=I.pin q hq;rwa[⟨p.keep q.1 q.2 (λz=>(G _ z).2.2.2.2.2 q hq rfl) @k e,n,ne,nf,d⟩]
  rcases mem_cons.mp (I.stkSub _ z) with y|y
  ·exact ne y
  ·exact nf y
 ·rwa[(I.hok b u e).stay (λc v S q=>p.keep c v ?_ ?_ q) @dW λ_ _ q=>q]
  ·rcases S with z|z
   ·rw [z];exact U b u e
   ·exact U c _ z
  ·rcases S with z|z
   ·rw [z];exact J b u e
   ·exact J c _ z
def Oc (X:Cx)(pins:List (Addr×Obj))(H:Hp)(h:Heap)(a:Addr)(cls:Value)(dd:Option Addr):Prop:=Nw X pins H a/\
 ((∃oe vs,h.get? a=some oe/\oe.cls=cls/\oe.dict=dd/\oe.data= .fields vs/\vs[1]? =some .none/\vs[2]? =some .none)\/∃T fl,N1 h a T cls dd fl/\Nw X pins H T/\(fl= .none\/∃L,X.env.frame=some L/\fl=rawInt L))
theorem FL {A:Around}{M:Model}{E:Value->Shared->Prop}{a:Addr}{U:Value}{dd:Option Addr}{Q:Unit->Shared->Prop}{L:Addr}(I:aB X pins σ H s)(x:Oc X pins H s.heap a U dd)
(hA:A.frames=some X.stack)(F:X.stack=X.env::X.outer)(hf:X.env.frame=some L)
(h:∀h' T,aB X pins σ H {s with heap:=h'}->Nw X pins H T->N1 h' a T U dd (rawInt L)->Q () {s with heap:=h'}):wpAny M A (noteFrame (.ref a) X.env) Q E s:=by
 obtain ⟨fa,x⟩:=x
 have ag:A.frames=some (X.env::X.outer):=by rw [<-F];exact hA
 have hl:s.heap.FunFrames X.base (X.env::X.outer):=by rw [<-F];exact I.stack
 unfold noteFrame;simp only [hf]
 rcases x with ⟨oe,vs,h1,h2,h3,W,S,G⟩|⟨T,fl,x,fT,aa⟩
 ·rwa[wpAny_bind @dJ];rw [if_neg @b];rwa[uG ag hl hf h1 W (Array.getElem?_eq_some_iff.mp S).1 G λh' T p R x=> ?_];rw [<-F] at p;have J:=I.pass p (by simpa using fa);exact h h' T J (I.nw R (I.hok.none_of R)) (by rw [<-h2,<-h3];exact x)
 ·obtain ⟨oe,vs,oT,ts,h1,h2,h3,W,S,G,h6,h7,h8,h9⟩:=id x.ex;rwa[wpAny_bind @dJ];rw [if_pos (show (Value.ref T != Value.none)=true from by simp)];rwa[wpAny_bind (wpAny_field h7 h8 h9 ?_)]
  rcases aa with rfl|⟨L',Y,rfl⟩
  ·rw [if_neg (show ¬((Value.none==rawInt L)=true) from by simp [rawInt])];have ab:3<ts.size:=(Array.getElem?_eq_some_iff.mp h9).1;rwa[wpAny_bind (wpAny_setField h7 h8 ab ?_)];have j:∀b,b≠T->∀g,(s.heap.update T g).get? b=s.heap.get? b:=λb Z g=>Heap.get?_update_other _ _ @fw
   have p1:Pass @dX [T] s.heap (s.heap.update T (Obj.mapFields (·.setIfInBounds 3 Value.none))):=
    ⟨λb o Z _ O=>(j b (λz=>Z (by simp [z])) _).trans O,λb o Z O=>⟨o.slots,(j b (λz=>Z (by simp [z])) _).trans O⟩⟩
   have J1:=I.pass p1 (by simpa using fT);rwa[uG (s:= {s with heap:=s.heap.update T (Obj.mapFields (·.setIfInBounds 3 Value.none))}) ag (base:=X.base) (by rw [<-F];exact J1.stack) hf ((j a (Ne.symm h6) _).trans h1) W (Array.getElem?_eq_some_iff.mp S).1 G λh' T' p R x'=> ?_];rw [<-F] at p;have J:=J1.pass p (by simpa using fa);exact h h' T' J (J1.nw R (J1.hok.none_of R)) (by rw [<-h2,<-h3];exact x')
  ·rw [hf] at Y;cases Y;rw [if_pos (show (rawInt L==rawInt L)=true from by simp)];exact wpAny_pure (h s.heap T I fT x)
theorem CK {A:Around}{M:Model}{E:Value->Shared->Prop}{a:Addr}{F:Value}{dd:Option Addr}{Q:Unit->Shared->Prop}{L:Addr}(I:aB X pins σ H s)(x:Oc X pins H s.heap a F dd)
(S:A.frames=some X.stack)(j:X.stack=X.env::X.outer)(R:X.env.frame=some L)
(h:∀h' T,aB X pins σ H {s with heap:=h'}->Nw X pins H T->N1 h' a T F dd .none->Q () {s with heap:=h'}):wpAny M A (leaving X.env (.ref a)) Q E s:=by
 unfold leaving;rwa[wpAny_bind (FL I x S j R λh1 T J G U=>Aq (s:= {s with heap:=h1}) U λh2 p O=> ?_)];exact h h2 T (J.pass (p.more λ_ z=>nomatch z) (by simpa using G)) G O
end
def yM (P:Program)(w:World):oU:=λouter H s E e s'=>∃(a T:Addr) (cls:Value) (dd:Option Addr) (H':Hp),e= .ref a/\s'.os=s.os/\AllBare s'.gens/\Un (wV outer) [] H H' s.heap s'.heap/\gQ P w H' s'.heap/\
 s.heap.get? a=none/\s.heap.get? T=none/\H' a=none/\H' T=none/\N1 s'.heap a T cls dd .none/\E cls dd H'
def Fl (X:Cx)(E:XK):Prop:=∀(pins:List (Addr×Obj)) (σ:St) (H:Hp) (s:Shared) (a:Addr) (cls:Value) (dd:Option Addr),aB X pins σ H s->Oc X pins H s.heap a cls dd->E cls dd H->X.xe (.ref a) s
theorem aB.afterE {X:Cx}{pins:List (Addr×Obj)}{σ:St}{H:Hp}{s s':Shared}{E:XK}{e:Value}(I:aB X pins σ H s)(h:yM X.prog X.w X.stack H s E e s'):
 ∃a cls dd H',e= .ref a/\aB X pins σ H' s'/\Oc X pins H' s'.heap a cls dd/\E cls dd H':=by
 obtain ⟨a,T,cls,dd,H',rfl,os,j,L,af,J,O,G,F,x,q⟩:=h;rwa[⟨a,cls,dd,H',rfl,I.call' os L af j (λb z=>nomatch z),⟨I.nw J G,.inr ⟨T,_,x,I.nw O F,.inl rfl⟩⟩,q⟩]
theorem Fl.passes {X:Cx}{E:XK}(f:Fl X E):ib (yM X.prog X.w) X E:=λpins σ H s e s' I h=>by
 obtain ⟨a,F,U,H',rfl,J,x,q⟩:=I.afterE h;exact f pins σ H' s' a F U J x q
section
variable {P:Program}{w:World}{K:Fg}{mg:Str->Option Value}{base:Heap}{N:List Str}{qual:Str}{scope:Scope}{f:Addr}{cd:Value}{A:Around}{outer:List Env}{s:Shared}{H:Hp}{E:XK}
theorem j8:Fl (rQ @cr P w K mg base N qual scope f cd A outer s H E) E:=by
 intro pins σ H' s' a F U I x q;show wpAny _ _ _ _ _ _;rwa[CK I x I.ok.frames rfl rfl λh' T J G L=> ?_];have j:=x.1;rwa[⟨a,T,F,U,H',rfl,J.os,J.bare,J.base,J.hok,?_,?_,j.1,G.1,L,q⟩]
 ·rcases j.2.2.2.1 with z|z
  ·exact absurd (show a∈([]:List Addr) from z) @g
  ·exact z
 ·rcases G.2.2.2.1 with z|z
  ·exact absurd (show T∈([]:List Addr) from z) @g
  ·exact z
end
theorem bB.okX {P:Program}{w:World}{K:Fg}{mg:Str->Option Value}{base:Heap}{x qual:Str}{st:Stmt}{f:Addr}{fd:FuncData}{N ps:List Str}{k:Nat}{sp:Sp}(F:bB K x qual st f fd)(S:ap N ps @cd)(Y:∀vs H Q E,sp vs H Q E->vs.length=ps.length)
(G:∀(cdv:Value) (A:Around) (outer:List Env) (s:Shared) (H:Hp) (vs:List V) (Q:VK) (E:XK),b8 k (A.deeper (envOfC qual @cd s.heap.objs.size f cdv))->sp vs H Q E->
   ∃t,tW (rQ @cr P w K mg base N qual @cd f cdv A outer s H E) @df t/\t {nx:=λ_ H'=>Q .non H',rt:=Q} @cN H):az P w K mg base @cr (k+1) f fd ps sp:=by
 obtain ⟨oc,R,Z,L,J,W,cdv,U,aa,rfl,z,j⟩:=F.ex;exact Gm z j S Y λA outer s H vs Q E I O=>G cdv A outer s H vs Q E I O
structure Do (P:Program)(w:World)(K:Fg)(mg:Str->Option Value)(base:Heap)(n:Nat)(x:Str)(ps:List Str)(sp:Sp):Prop where
 ex:∃f fd,az P w K mg base @cr n f fd ps sp/\fK K fd ps []/\W.keepIn K (.ref f)=true/\mg x=some (.ref f)
section
variable {X:Cx}{x:Str}{p pos:Pos}{e:Expr}{es:List Expr}{t:TA}{ps:List Str}{sp:Sp}{n m:Nat}{E:XK}
theorem E4 (fl:Fl X E)(c:Do X.prog X.w X.K X.mg X.base n x ps sp)(Y:b8 m X.A)(G:n<=m)(W:Gl X x)(I:PA X (e::es) t)(z:(x==("__debug__":Str))=false:=by decide)
(J:bd (e::es)=true:=by rfl):PE X (.Call (.Name x p) (e::es) [] pos) (xc sp [] E t):=by
 obtain ⟨f,fd,F,b,k,j⟩:=c.ex;have h':(cc e&&bd es)=true:=J;rw [Bool.and_eq_true] at h';exact A8 (F.mono G) Y W j k b .nil fl.passes I z @eM @eN
end
theorem J4 {K:Fg}{h:Heap}{C:Addr}{bmB:List Value}{newId:String}(X:K.In h)(q:W.excIn K C bmB newId=true):
 ∃bm N nm q bs hdct sn sub ab col dd k0 k1 k2 k3 k5 mN,h.get? C=some (excClassObj nm q C N bs bm hdct sn sub ab col dd k0 k1 k2 k3 k5 newId)/\h.Ns N mN/\mN "__init__"=none/\OwnTail h bmB bm:=by
 unfold W.excIn at q;split at q
 case h_2=>cases q
 case h_1 dd cd sl ho=>
  split at q
  case h_2=>cases q
  case h_1 C' bm k0 k1 k2 k3 n k5 hm hs=>
   simp only [Bool.and_eq_true,beq_iff_eq,Bool.not_eq_true'] at q;obtain ⟨⟨⟨⟨⟨S,R⟩,j⟩,O⟩,af⟩,z⟩:=q;subst S R;obtain ⟨nm,bs,G,I,L,J,sn,sub,ab,col,F⟩:=cd;dsimp only at hm j af z;subst hm j;obtain ⟨l⟩:=sl;simp only at hs;subst hs;exact ⟨bm,I,nm,L,bs,J,sn,sub,ab,col,dd,k0,k1,k2,k3,k5,_,X _ _ ho,.of_isNs (W.isNs_of_in X af),W.nsMap_none_of_in X af z,W.tail_of_in X O⟩
def LL (C:Addr)(E:XK)(t:TA):TS:=λ_ σ H=>t σ H λvs H1=>vs.length<=sizeLine/\E (.ref C) none H1
section
variable {X:Cx}{C:Addr}{bmB:List Value}{B newId initId:String}{x:Str}{np cpos pos:Pos}{e:Expr}{es:List Expr}{t:TA}{E:XK}
theorem aB.made' {pins:List (Addr×Obj)}{σ:St}{H:Hp}{s:Shared}{h':Heap}{a:Addr}{vs:List Value}(I:aB X pins σ H s)(m:Heap.MadeExcOf s.heap h' a (.ref C) vs):
 aB X pins σ H {s with heap:=h'}/\Oc X pins H h' a (.ref C) none:=by
 obtain ⟨t,h1,_⟩:=m.there;exact ⟨I.kept (t':=s.toks) m.keeps,I.nw m.new (I.hok.none_of m.new),.inl ⟨_,_,h1,rfl,rfl,rfl,rfl,rfl⟩⟩
theorem qU (fl:Fl X E)(hc:X.calm=true)(O:W.excIn X.K C bmB newId=true)(Y:ExcBaseFacts B newId initId bmB)(hg:Gl X x)(hm:X.mg x=some (.ref C))(ha:PA X (e::es) t)
(hp:bd (e::es)=true:=by rfl)(L:(x==("__debug__":Str))=false:=by decide):PS X (.Raise (some (.Call (.Name x np) (e::es) [] cpos)) none pos) (LL C E t):=by
 intro pins s σ H D I h;have h':(cc e&&bd es)=true:=hp;rw [Bool.and_eq_true] at h';have Z:=bv (env:=X.env) (es:=es) h'.1;have G:(backTo cpos @N).any (·.1)=false:=cL h'.2;obtain ⟨bm,N,nm,q,bs,j,sn,R,ab,U,dd,k0,k1,k2,k3,k5,mN,hC,hN,S,T⟩:=J4 I.ok.mod.kin O
 refine wpAny_Raise_call_subT (C:=C) (nm:=nm) (q:=q) (N:=N) (bs:=bs) (bm:=bm) (hdct:=j) (sn:=sn) (sub:=R) (ab:=ab) (col:=U) (dd:=dd) (k0:=k0) (k1:=k1) (k2:=k2) (k3:=k3) (k5:=k5)
  Y (mN:=mN) (T.hasType Y.hasBase) @bS (by rw [Z];show (false||(backTo cpos @N).any (·.1))=false;rw [G];rfl) S (mM I hg hm ⟨rfl,?_⟩ L)
 have hA:=ha cpos pins s σ H _ I h;rw [Z] at hA ⊢;rwa[Calls.evalArgs_plain (bP hA λus s2 ⟨vs,H2,F,r,z,q2⟩=>⟨rfl,by rw [<-r.length];exact z,F.bk _ _ hC,hN.keeps F.bk,T.keeps F.bk,λh' a m=> ?_⟩)];obtain ⟨J,x⟩:=F.made' m;exact fl pins σ H2 _ a _ _ J x q2
end
structure Exc0 (K:Fg)(C:Addr):Prop where
 ex:∃bmB newId,W.excIn K C bmB newId=true/\bmB.contains (.type "BaseException")=true
noncomputable def Cx.mk' (X:Cx)(a:Addr):Cx:= {X with A:=X.A.mark (some (.ref a)),calm:=false,xe:=λ_ _=>False}
def XP (X:Cx)(pins:List (Addr×Obj))(σ:St)(E:XK)(e:Value)(s':Shared):Prop:=∃a cls dd H',e= .ref a/\aB X pins σ H' s'/\Oc X pins H' s'.heap a cls dd/\E cls dd H'
open PySem.W
section
variable {prog:Program}{w:World}{A:Around}{E:Value->Shared->Prop}{s:Shared}{K:Frag}{x D:Addr}{ox:Obj}{odo:Option Obj}{name:Str}
theorem NK {R:Result->Shared->Prop}{tk:Tok}(X:K.In s.heap)(I:PySem.W.InstAt s.heap x ox D odo)
(aa:findIn K (.ref D) "__class__"=some (some (.builtin "object.__class__")))(G:mroIn K D (.type "BaseException")=some true)(z:mroIn K D (.type "object")=some true)
(h:R (.ok (.ret (.ref D))) s):codeAny @m A (.call (.builtin "BaseException.__getattribute__") ⟨[.ref x,.str "__class__" tk],[]⟩) R s:=by
 obtain ⟨S,g,d,t,os⟩:=s;have J:=I.type (M:=model prog w);have O:=looks_findIn (M:=model prog w) X aa;have U:=looks_mroIn (M:=model prog w) X G;rwa[codeAny_call_builtin PySem.F.attr_ValueError.ga.plain PySem.F.entry_bexc_ga ?_]
 have L:builtinKind "BaseException.__getattribute__"=some .slot:=by decide+kernel
 have j:splitId "BaseException.__getattribute__"=some ("BaseException","__getattribute__"):=by decide+kernel
 have Z:=PySem.F.args_bexc_ga (.ref x) (.str "__class__" tk);simp only [checkBuiltinCall,L,j];rwa[wpAny_bind ?_];unfold isInstance;rwa[wpAny_bind (J.at (U.at ?_))];have f5:=KF.type_class;have f6:=PySem.F.slot_gs_get.lookup;have Y:=PySem.F.slot_gs_set.lookup
 repeat (any_goals (first|assumption|with_reducible refine J.at ?_|with_reducible refine O.at ?_|wp_step))
 rwa[class_get (s:=⟨S,g,d,t,os⟩) (ox:=ox) (od:=odo) X I z ?_]
 repeat (any_goals (first|assumption|wp_step))
theorem J5 {Q:Option Value->Shared->Prop}(X:K.In s.heap)(I:PySem.W.InstAt s.heap x ox D odo)(J:findIn K (.ref D) "__getattribute__"=some (some (.builtin "BaseException.__getattribute__")))
(j:findIn K (.ref D) "__getattr__"=some none)(aa:findIn K (.ref D) "__class__"=some (some (.builtin "object.__class__")))(G:mroIn K D (.type "BaseException")=some true)(z:mroIn K D (.type "object")=some true)
(h:Q (some (.ref D)) {s with toks:=s.toks+1}):wpAny @m A (getAttr? (.ref x) "__class__") Q E s:=by
 obtain ⟨U,g,d,t,os⟩:=s;have L:=I.type (M:=model prog w);have O:=looks_findIn (M:=model prog w) X J;have L2':=looks_findIn (M:=model prog w) X j;have S:=looks_findIn (M:=model prog w) X aa;have Z:=looks_mroIn (M:=model prog w) X G;have Y:=PySem.F.attr_ValueError.ga.bind (.ref x);unfold getAttr? getAttrBy? getAttrBy;rwa[wpAny_bind (wpAny_mkText (wpAny_bind (wpAny_attempt (wpAny_holding (wpAny_bind (L.at (wpAny_bind (O.at ?_))))))))]
 have R:(Value.builtin "BaseException.__getattribute__"==Value.builtin "object.__getattribute__")=false:=by decide+kernel
 repeat (any_goals (first|assumption|wp_step))
 rwa[L2'.at ?_]
 repeat (any_goals (first|assumption|wp_step))
 rwa[NK X I aa G z ?_];exact handed_on rfl (wpAny_pure h)
end
def NL (a:Addr)(cls:Value)(dd:Option Addr):HO:= .ext λh=>∃oe vs,h.get? a=some oe/\oe.cls=cls/\oe.dict=dd/\oe.data= .fields vs/\vs[2]? =some .none
structure Qs (K:Frag)(D:Addr):Prop where
 ga:findIn K (.ref D) "__getattribute__"=some (some (.builtin "BaseException.__getattribute__"))
 gr:findIn K (.ref D) "__getattr__"=some none
 cl:findIn K (.ref D) "__class__"=some (some (.builtin "object.__class__"))
 mB:mroIn K D (.type "BaseException")=some true
 mO:mroIn K D (.type "object")=some true
theorem xP {K:Frag}{x D:Addr}{ox:Obj}{odo:Option Obj}(k:Qs K D):KitX K (.ref x) (.ref D) (λh=>PySem.W.InstAt h x ox D odo) where
 ty:=λ_ _ _ I=>I.type
 it:=λM h X _=>by
  obtain ⟨cd,j,_⟩:=Option.bind_eq_some_iff.mp k.mO;unfold clsIn at j;split at j
  ·rename_i O S G ae F;intro A' Z Y s' R q;unfold isType loadHead;exact wpAny_bind (wpAny_loadPart (R _ _ (X _ _ F)) (wpAny_pure q))
  ·cases j
 ne:=λh L U its n sl X J=>by
  obtain ⟨cd,j,_⟩:=Option.bind_eq_some_iff.mp k.mO;rwa[Bool.eq_false_iff.mpr λq=> ?_];have e:D=L:=Value.ref.inj (beq_iff_eq.mp q);subst e;unfold clsIn at j;split at j
  ·rename_i O S G ae F;have z:=(X _ _ F).symm.trans J;cases z
  ·cases j
 ca:=λX I q=>J5 X I k.ga k.gr k.cl k.mB k.mO q
section
variable {X:Cx}
def Ak (K:Fg)(a:Addr)(c:V)(H:Hp)(Q:VK):Prop:=∃D dd cv b,H a=some (NL a (.ref D) dd)/\Qs K D/\(dd=none\/∃d fs,dd=some d/\H d=some (.xd fs))/\cV c=some cv/\W.kitOne K (.ref D) cv=some b/\Q (.bl b) H
end
structure Qi (k:Nat)(A:Around)(a:Addr):Prop where
 hd:A.handled=some (.ref a)
 dp:A.depth+3*k+5<recursionLimit
 un:A.units+16*k+200<cLine
structure Qr (P:Program)(w:World)(K:Fg)(mg:Str->Option Value)(base:Heap)(k:Nat)(f:Addr)(fd:FuncData)(ps:List Str)(sp:Addr->Sp):Prop where
 len:∀a vs H Q E,sp a vs H Q E->vs.length=ps.length
 run:∀(a:Addr) (A:Around) (outer:List Env) (s:Shared) (H:Hp) (args:Args) (us:List Value) (vs:List V) (Q:VK) (E:XK),Qi k A a->oS P w K mg base A outer s H->BindsTo s fd args @cH->aU vs us->sp a vs H Q E->
  codeAny @bg A (.call (.ref f) args) @dx s
structure CalH (P:Program)(w:World)(K:Fg)(mg:Str->Option Value)(base:Heap)(n:Nat)(x:Str)(ps:List Str)(sp:Addr->Sp):Prop where
 ex:∃f fd,Qr P w K mg base n f fd ps sp/\fK K fd ps []/\W.keepIn K (.ref f)=true/\mg x=some (.ref f)
def oE (K:Fg)(a:Addr)(c:V)(H:Hp)(Q:VK):Prop:=lK K (.ref a) c H Q\/Ak K a c H Q
def DH (K:Fg):List V->Hp->VK->Prop:=λxs H Q=>match xs with
 |[.ref a,c]=>oE K a c H Q
 |xs=>Lw K xs H Q
theorem yW {X:Cx}{K:Fg}(J:X.K=K):bR X (.builtin "isinstance") (DH K):=by
 intro pins s σ H xs j Q I r h;have F:Lw K xs H Q->wpAny @e X.A (call (.builtin "isinstance") j) @A X.xe s:=λh=>Os J pins s σ H xs j Q I r h
 match xs,h with
 |[.ref a,c],h=>
  rcases h with h|⟨D,dd,U,b,e,k,G,hc,S,q⟩
  ·subst J;obtain ⟨U,t,b,h1,h2,h3,h4⟩:=h;exact yg pins s σ H _ j Q I r ⟨.ref a,c,U,t,b,rfl,h1,h2,h3,h4⟩
  ·subst J;obtain ⟨u,w',rfl,r1,r2⟩:=AN r;cases GX hc r2;obtain rfl:u=Value.ref a:=r1;obtain ⟨⟨Z,vs,O,Y,R,L,k5⟩,_,_⟩:=I.hok a _ e
   rcases G with rfl|⟨d,fs,rfl,ed⟩
   ·rwa[W.kia_one (xP (ox:=Z) (odo:=none) k) I.kIn ⟨O,Y,?_,?_⟩ S (λz=>nomatch z) λtk=>⟨.bl b,H,I.tok _,rfl,q⟩]
    ·unfold W.notCls;rw [L]
    ·rw [R];trivial
   ·obtain ⟨mA,⟨od,es,ep,e',_⟩,_⟩:=I.hok d _ ed;rwa[W.kia_one (xP (ox:=Z) (odo:=some od) k) I.kIn ⟨O,Y,?_,?_⟩ S (λz=>nomatch z) λtk=>⟨.bl b,H,I.tok _,rfl,q⟩]
    ·unfold W.notCls;rw [L]
    ·rw [R];exact e'
 |[],h=>exact F h
 |[.non],h=>exact F h
 |[.bl _],h=>exact F h
 |[.int _],h=>exact F h
 |[.str _],h=>exact F h
 |[.byt _],h=>exact F h
 |[.flt _],h=>exact F h
 |[.ty _],h=>exact F h
 |[.ref _],h=>exact F h
 |[.non,c],h=>exact F h
 |[.bl _,c],h=>exact F h
 |[.int _,c],h=>exact F h
 |[.str _,c],h=>exact F h
 |[.byt _,c],h=>exact F h
 |[.flt _,c],h=>exact F h
 |[.ty _,c],h=>exact F h
 |x::y::z::r,h=>exact F (by cases x<;>exact h)
theorem v9 {K:Fg}{H:Hp}{a:Addr}{c:V}{G t:Value}{b:Bool}{Q:VK}(h1:cV c=some G)(h2:jp K H (.ref a) t)(L:W.kitOne K t G=some b)(g:Q (.bl b) H):oE K a c H Q:= .inl ⟨G,t,b,h1,h2,L,g⟩
theorem ux {M:Model}{A:Around}{E:Value->Shared->Prop}{s:Shared}{env:Env}{o:Expr}{m:Str}{apos pos:Pos}{es:List Expr}{Q:Value->Shared->Prop}(j:fX o=true)(G:bd es=true)(W:es.length<29)(z:(apos.endLine==pos.line)=true)
(h:wpAny M A (eval o env) (λov s₁=>wpAny M A (getMethod ov m (do return (<-importBound o env).getD true)) (λfx s₂=>wpAny M A (callWith pos fx.1 fx.2 @gQ (backToKw pos (keywordEach [] env))) Q E s₂) E s₁) E s):
 wpAny M A (eval (.Call (.Attribute o m apos) es [] pos) env) Q E s:=by
 have F:methodCallForm (es.length+([]:List Keyword).length) @gQ (backToKw pos (keywordEach [] env))=true:=by
  unfold methodCallForm;rw [oo G,arm_keywordEach_nil];show (true&&true&&decide (es.length+0+0<30))=true;rw [decide_eq_true @c];rfl
 rw [arm_eval_Call,wJ j];rwa[wpAny_bind (bP h λov O h1=>wpAny_bind (wpAny_standAt ?_))];unfold methodCall;rw [F];rwa[wpAny_bind (wpAny_holding ?_)];unfold calleeOf;rw [if_pos rfl];rwa[bP h1 λfx R h2=> ?_];rwa[wpAny_bind ?_];unfold methodCallPos;rw [z];exact wpAny_pure h2
structure jU (P:Program)(w:World)(K:Fg)(mg:Str->Option Value)(base:Heap)(CX:oU)(n:Nat)(m:Str)(C:Addr)(sp:Sp):Prop where
 ex:∃f fd ps,t6 K C/\Ha K C m f/\az P w K mg base CX n f fd ps sp/\fK K fd ps []
def v5 (P:Program)(w:World)(K:Fg)(mg:Str->Option Value)(base:Heap)(CX:oU)(n:Nat)(m:Str)(a:Addr)(E:XK)(H:Hp)(k:Sp->Prop):Prop:=∃C dx fs sp,H a=some (.ins C dx fs)/\fs.lookup m=none/\jU P w K mg base CX n m C sp/\k sp
def KD (P:Program)(w:World)(K:Fg)(mg:Str->Option Value)(base:Heap)(CX:oU)(n:Nat)(m:Str)(E:XK)(to:TE)(t:TA):TE:=λσ H Q=>to σ H λx H1=>match x with
 | .ref a=>v5 P w K mg base CX n m a E H1 λsp=>t σ H1 λvs H2=>sp (.ref a::vs) H2 Q E
 |_=>False
section
variable {X:Cx}{CX:oU}{o e:Expr}{es:List Expr}{to:TE}{t:TA}{m:Str}{apos pos:Pos}{n k:Nat}{E:XK}
theorem uW (R:ib CX X E)(Y:b8 k X.A)(hn:n<=k)(L:PE X o to)(ha:PA X (e::es) t)(hb:fX o=true:=by rfl)(G:bd (e::es)=true:=by rfl)(U:(e::es).length<29:=by decide)
(z:(apos.endLine==pos.line)=true:=by rfl):PE X (.Call (.Attribute o m apos) (e::es) [] pos) (KD X.prog X.w X.K X.mg X.base CX n m E to t):=by
 have h':(cc e&&bd es)=true:=G;rw [Bool.and_eq_true] at h';intro pins s σ H Q I h;rwa[ux hb G U z (bP @eb λu Z ⟨x,H1,J,rx,q⟩=> ?_)]
 match x,q with
 | .ref a,⟨C,dx,fs,sp,ea,l,c,q⟩=>
   obtain rfl:u=Value.ref a:=rx;obtain ⟨f,fd,ps,cl,j,F,b⟩:=c.ex;rwa[rK J ea cl j l ?_];rwa[W.callWith_K (first:=[.ref a]) (h₀:=X.base) I.ok.mod.kin j.kp (bP (ha pos pins Z σ H1 _ J q) λus s2 ⟨S,H2,O,r,q2⟩=>⟨O.kIn,?_⟩) @eM @eN];exact zN (us:= .ref a::us) (vs:= .ref a::S) (F.mono hn) Y b .nil R O (.cons rfl r) (by rw [append_nil];exact q2)
theorem Dy (O:ib CX X E)(Y:b8 k X.A)(S:n<=k)(L:PE X o to)(U:fX o=true:=by rfl)(z:(apos.endLine==pos.line)=true:=by rfl):
 PE X (.Call (.Attribute o m apos) [] [] pos) (KD X.prog X.w X.K X.mg X.base CX n m E to LM):=by
 intro pins s σ H Q I h;rwa[ux U rfl @b z (bP @eb λu Z ⟨x,H1,J,R,q⟩=> ?_)]
 match x,q with
 | .ref a,⟨C,dx,fs,sp,ea,l,c,q⟩=>
   obtain rfl:u=Value.ref a:=R;obtain ⟨f,fd,ps,G,j,F,b⟩:=c.ex;rwa[rK J ea G j l ?_];exact W.callWith_K0 (first:=[.ref a]) J.kIn j.kp (zN (us:=[.ref a]) (vs:=[.ref a]) (F.mono S) Y b .nil O J (.cons rfl .nil) q)
def pz (K:Fg)(f:Str)(a:Addr)(H:Hp)(Q:VK):Prop:=∃C dx fs v,H a=some (.ins C dx fs)/\t6 K C/\aV K C f/\fs.lookup f=some v/\Q v H
def Q7 (K:Fg)(f:Str)(to:TE):TE:=λσ H Q=>to σ H λx H1=>match x with| .ref a=>pz K f a H1 Q|_=>False
theorem uX {K:Fg}{f:Str}(z:X.K=K)(j:PE X o to)(L:fX o=true:=by rfl):PE X (.Attribute o f pos) (Q7 K f to):=by
 subst z;intro pins s σ H Q I h;rwa[Kl (wJ L) (bP @L λu S ⟨x,H1,G,J,q⟩=> ?_)]
 match x,q with
 | .ref a,⟨C,dx,fs,v,ea,c,n,l,q⟩=>
   obtain rfl:u=Value.ref a:=J;exact Ao G ea c n l λU R O F=>⟨v,H1,O,F,q⟩
def putAt (K:Fg)(f:Str)(a:Addr)(y:V)(H:Hp)(R:Hp->Prop):Prop:=∃C dx fs,H a=some (.ins C dx fs)/\t6 K C/\aV K C f/\fs.length<1000/\R @cn
def QV (K:Fg)(f:Str)(to tv:TE):TS:=λD σ H=>tv σ H λy H1=>to σ H1 λx H2=>match x with| .ref a=>putAt K f a y H2 λH3=>D.nx σ H3|_=>False
theorem cJ {K:Fg}{f:Str}{value:Expr}{tv:TE}{pos':Pos}(F:X.K=K)(j:PE X o to)(W:PE X value tv)(hs:swapsWith value (some (.Attribute o f pos')) pos.line X.env=pure false:=by rfl):PS X (.Assign [.Attribute o f pos'] value pos) (QV K f to tv):=by
 subst F;intro pins s σ H D I h;rwa[plainObj_wpAny_Assign_Attribute (bP @ea λu R ⟨y,H1,S,z,q⟩=>bP (j pins R σ H1 _ S q) λL Y ⟨x,H2,O,J,U⟩=> ?_) hs]
 match x,U with
 | .ref a,⟨C,dx,fs,ea,c,n,l,q⟩=>
   obtain rfl:L=Value.ref a:=J;exact zn O ea c n l z λZ G=>⟨σ,_,G,q⟩
theorem qa {P:Program}{w:World}{K:Fg}{mg:Str->Option Value}{base:Heap}{a C dx:Addr}{fs:List (Str×V)}{sp:Sp}{H:Hp}{R:Sp->Prop}(h1:H a=some (.ins C dx fs))(h2:fs.lookup m=none)(L:jU P w K mg base CX n m C sp)(g:R sp):v5 P w K mg base CX n m a E H R:=⟨C,dx,fs,sp,h1,h2,L,g⟩
theorem fA {K:Fg}{f:Str}{a C dx:Addr}{fs:List (Str×V)}{v:V}{H:Hp}{Q:VK}(h1:H a=some (.ins C dx fs))(h2:t6 K C)(L:aV K C f)(j:fs.lookup f=some v)(g:Q v H):pz K f a H Q:=⟨C,dx,fs,v,h1,h2,L,j,g⟩
theorem cK {K:Fg}{f:Str}{a C dx:Addr}{fs:List (Str×V)}{y:V}{H:Hp}{R:Hp->Prop}(h1:H a=some (.ins C dx fs))(h2:t6 K C)(L:aV K C f)(j:fs.length<1000)(g:R @cn):putAt K f a y H R:=⟨C,dx,fs,h1,h2,L,j,g⟩
end
structure jm (P:Program)(w:World)(K:Fg)(mg:Str->Option Value)(base:Heap)(CX:oU)(n:Nat)(x:Str)(C:Addr)(sp:Sp):Prop where
 ex:∃f fd ps,Mk K C f/\az P w K mg base CX n f fd ps sp/\fK K fd ps []/\mg x=some (.ref C)
section
variable {X:Cx}{CX:oU}{e:Expr}{es:List Expr}{t:TA}{x:Str}{p pos:Pos}{n k:Nat}{E:XK}{C:Addr}{sp:Sp}
def iq (C:Addr)(sp:Sp)(E:XK)(vs:List V)(H:Hp)(Q:VK):Prop:=∀a dx,H a=none->H dx=none->dx≠a->sp (.ref a::(vs++[])) @s (λv H2=>v= .non/\Q (.ref a) H2) E
def OH (C:Addr)(sp:Sp)(E:XK)(t:TA):TE:=λσ H Q=>t σ H λvs H1=>iq C sp E vs H1 Q
theorem gC (c:jm X.prog X.w X.K X.mg X.base CX n x C sp)(j:ib CX X E)(Y:b8 k X.A)(L:n+1<=k)(W:Gl X x)(G:PA X (e::es) t)(z:(x==("__debug__":Str))=false:=by decide)(I:bd (e::es)=true:=by rfl):
 PE X (.Call (.Name x p) (e::es) [] pos) (OH C sp E t):=by
 obtain ⟨f,fd,ps,M,F,b,J⟩:=c.ex;have h':(cc e&&bd es)=true:=I;rw [Bool.and_eq_true] at h';rwa[(IV M F (Y.mono L) W J b .nil j G z @eM @eN).imp λσ H Q h=> ?_];exact h
end
section
variable {X:Cx}{K:Fg}{a b c:Expr}{ta tb tc:TE}{pos:Pos}
def GR (K:Fg)(p q:Addr)(H:Hp)(Q:VK):Prop:=Ki p q H Q\/∃xs ys,aD K H p xs/\aD K H q ys/\xs≠[]/\xs.length+ys.length<=sizeLine/\(ys=[]->Q (.ref p) H)/\(ys≠[]->∀l,H l=none->Q (.ref l) (upd H l (.tup (xs++ys))))
def OS (K:Fg):R2:=λx y H Q=>match x,y with
 | .int i,.int j=>Q (.int (i+j)) H
 | .str a,.str b=>a.length+b.length<=sizeLine/\Q (.str (a++b)) H
 | .ref p,.ref q=>GR K p q H Q
 |_,_=>False
theorem Ls (F:X.K=K):dE X @bQ (OS K):=by
 subst F;rwa[(Oz.or Ja).imp λx y H Q h=> ?_]
 cases x with
 |int i=>cases y with
  |int j=>exact .inl h
  |_=>exact False.elim h
 |str a=>cases y with
  |str b=>exact .inl h
  |_=>exact False.elim h
 |ref p=>cases y with
  |ref q=>
   rcases h with h|⟨xs,ys,h1,h2,L,z,S,J⟩
   ·exact .inl h
   ·exact .inr ⟨p,q,xs,ys,rfl,rfl,h1,h2,L,z,S,J⟩
  |_=>exact False.elim h
 |_=>exact False.elim h
theorem P8 {p q:Addr}{H:Hp}{Q:VK}{xs ys:List V}(h1:H p=some (.lst xs))(h2:H q=some (.lst ys))(F:xs.length+ys.length<=sizeLine)(g:∀l,H l=none->Q (.ref l) (upd H l (.lst (xs++ys)))):GR K p q H Q:= .inl ⟨xs,ys,h1,h2,F,g⟩
def Lz (r r':R2)(ta tb tc:TE):TE:=λσ H Q=>ta σ H λx H1=>tb σ H1 λy H2=>r x y H2 λz H3=>match z with| .bl k=>uD k (tc σ H3 λw' H4=>r' y w' H4 Q) (Q (.bl false) H3)|_=>False
theorem qf {G j:CmpOp}{r O:R2}(U:dE X (compareOp G) r)(F:dE X @eI O)(ha:PE X a ta)(hb:PE X b tb)(R:PE X c tc)
(hm:lastMarks [G,j] [b,c]=false:=by with_unfolding_all rfl):PE X (.Compare a [G,j] [b,c] pos) (Lz r O ta tb tc):=by
 intro pins s σ H Q I h
 refine Compare_chain (bP @dV λv s1 ⟨x,H1,I1,r1,q1⟩=>chain_link (bP (hb pins s1 σ H1 _ I1 q1) λu Y ⟨y,H2,Z,W,q2⟩=>
  bP (U pins Y σ H2 x y v u _ Z r1 W q2) λd s3 ⟨z,J,L,r3,S⟩=> ?_)) hm
 match z,S with
 | .bl k,S=>
   cases r3;rwa[wpAny_truthy_bool ?_]
   cases k with
   |false=>exact ite_ff ⟨.bl false,J,L,rfl,S⟩
   |true=>exact ite_tt (chain_last (bP (R pins s3 σ J _ L S) λw' s4 ⟨z',H4,I4,r4,q4⟩=>F pins s4 σ H4 y z' u w' Q I4 W r4 q4))
def HP (r r':R2)(ta tb tc:TE):TT:=λσ H Q=>ta σ H λx H1=>tb σ H1 λy H2=>r x y H2 λz H3=>match z with| .bl k=>uD k (tc σ H3 λw' H4=>r' y w' H4 λv H5=>match v with| .bl c=>Q c H5|_=>False) (Q false H3)|_=>False
theorem fR {J j:CmpOp}{r R:R2}(Y:dE X (compareOp J) r)(G:dE X @eI R)(ha:PE X a ta)(hb:PE X b tb)(U:PE X c tc)
(Z:lastMarks [J,j] [b,c]=false:=by with_unfolding_all rfl):PT X (.Compare a [J,j] [b,c] pos) (HP r R ta tb tc):=by
 intro pins s σ H Q I h
 refine isTrue_chain (bP @dV λv s1 ⟨x,H1,I1,r1,q1⟩=>test_link (bP (hb pins s1 σ H1 _ I1 q1) λu s2 ⟨y,H2,I2,W,q2⟩=>
  bP (Y pins s2 σ H2 x y v u _ I2 r1 W q2) λd s3 ⟨z,L,O,r3,S⟩=> ?_)) Z
 match z,S with
 | .bl k,S=>
   cases r3;rwa[wpAny_truthy_bool ?_]
   cases k with
   |false=>exact ite_ff ⟨L,O,S⟩
   |true=>
    rwa[ite_tt (test_last (bP (U pins s3 σ L _ O S) λw' s4 ⟨z',H4,I4,r4,q4⟩=>bP (G pins s4 σ H4 y z' u w' _ I4 W r4 q4) λd' s5 ⟨z2,H5,I5,r5,F⟩=> ?_))]
    match z2,F with
    | .bl c,F=>
      cases r5;exact wpAny_truthy_bool ⟨H5,I5,F⟩
def J3 (a b:Addr)(H:Hp)(Q:VK):Prop:=∃xs zs,H a=some (.lst xs)/\H b=some (.lst zs)/\xs.length+zs.length<=sizeLine/\Q .non (upd H a (.lst (xs++zs)))
def HS:V->List V->Hp->VK->Prop:=λx xs H Q=>match x,xs with| .ref a,[.ref b]=>J3 a b H Q|_,_=>False
theorem lW:yF X "list.extend" HS:=by
 intro pins s σ H x xs v j Q I J R h
 match x,xs,h with
 | .ref a,[.ref b],⟨ys,zs,h1,h2,h3,h4⟩=>exact CC pins s σ H _ _ v j Q I J R ⟨a,b,ys,zs,rfl,rfl,h1,h2,h3,h4⟩
theorem Gv {a b:Addr}{H:Hp}{Q:VK}{xs zs:List V}(h:H a=some (.lst xs))(h2:H b=some (.lst zs))(F:xs.length+zs.length<=sizeLine)(g:Q .non (upd H a (.lst (xs++zs)))):J3 a b H Q:=⟨xs,zs,h,h2,F,g⟩
def Q1:List V->Hp->VK->Prop:=λxs H Q=>match xs with|[.int i,.int j]=>Q (.int (if j>i then j else i)) H|_=>False
theorem Oq (I:X.calm=true):bR X (.builtin "max") Q1:=(C9 I).imp λxs H Q h=>by
 match xs,h with
 |[.int i,.int j],h=>exact ⟨i,j,rfl,h⟩
end
open Builtin Builtin.Str
section
variable {X:Cx}{K:Fg}
theorem Ii {l:List (Str×Tok)}:aU ((l.map (·.1)).map V.str) (strValues l):=by
 induction l with
 |nil=>exact .nil
 |cons p r ih=>exact .cons ⟨p.2,rfl⟩ ih
def Lv:V->List V->Hp->VK->Prop:=λx xs H Q=>match x,xs with
 | .str z,[.str y]=>((y.length==0)=false/\z.length+2<=sizeLine)/\∀l,H l=none->Q (.ref l) (upd H l (.lst ((Txt.split z y).map V.str)))
 |_,_=>False
theorem Hx:yF X "str.split" Lv:=by
 intro pins s σ H x xs v U Q I J L h
 match x,xs,h with
 | .str x,[.str y],⟨⟨hy,hsz⟩,q⟩=>
   obtain ⟨t,rfl⟩:=J
   cases L with
   |cons r rr=>
    cases rr;obtain ⟨u,rfl⟩:=r
    have G:(partsBetween x (occurrences x y 0 x.length (x.length+1)) y.length).length<=sizeLine:=by
     have S:=StrLaws.occ_length_le x y 0 x.length (x.length+1);rw [length_partsBetween];lia
    have z:∀(l:List (Str×Tok)) (k:Nat),l.map (·.1)=Txt.split x y->l.length<=sizeLine->EP X pins σ Q (.ref s.heap.objs.size) {s with heap:=s.heap.push {cls:= .type "list",data:= .seq (strValues l).toArray},toks:=k}:=λl k e W=>by
     rwa[⟨.ref s.heap.objs.size,_,I.laid (t':=k) (o:= .lst ((Txt.split x y).map V.str)) (λb O q=>Heap.get?_push_of_some _ q) @f ?_,rfl,q _ @bG⟩];rw [<-e];exact ⟨by simpa using W,strValues l,0,Ii,Heap.get?_push_size _ rfl⟩
    have aa:1<=sizeLine:=by lia
    cases h1:(decide (x.length<y.length)||decide (strKind x<strKind y))
    ·cases j:(occurrences x y 0 x.length (x.length+1)).isEmpty
     ·rwa[call_meets F.slot_str_split @eO F.entry_str_split @dD (meets_str_split_sep x y t u h1 hy j @c G) ?_];show wants _ _ _ {s with toks:=_,heap:=s.heap.push {cls:= .type "list",data:= .seq (strsFrom s.toks (partsBetween x (occurrences x y 0 x.length (x.length+1)) y.length)).toArray}};rw [strsFrom_eq];have e:(numbered s.toks (partsBetween x (occurrences x y 0 x.length (x.length+1)) y.length)).map (·.1)=Txt.split x y:=(numbered_texts _ _).trans ((if_neg (ne_true_of_eq_false h1)).trans (if_neg (ne_true_of_eq_false j))).symm;rwa[z _ _ e ?_];have R:=congrArg List.length (numbered_texts s.toks (partsBetween x (occurrences x y 0 x.length (x.length+1)) y.length));rw [length_map] at R;lia
     ·exact call_meets F.slot_str_split @eO F.entry_str_split @dD (meets_str_split_not_found x y t u h1 hy j)
       (z [(x,t)] s.toks ((if_neg (ne_true_of_eq_false h1)).trans (if_pos j)).symm aa)
    ·exact call_meets F.slot_str_split @eO F.entry_str_split @dD (meets_str_split_cannot_occur x y t u h1)
      (z [(x,t)] s.toks (if_pos h1).symm aa)
def QS (K:Fg):V->Option Int->Option Int->Hp->VK->Prop:=λx lo hi H Q=>match x with
 | .ref p=>oX K p lo hi H Q
 | .str z=>z.length<=sizeLine/\Q (.str (Txt.slice z lo hi)) H
 |_=>False
theorem wZ (S:X.K=K):K6 X (QS K):=by
 intro pins s σ H x v U W lo hi sl Q I R hs pl O h
 cases x with
 |ref p=>exact QP S pins s σ H _ v U W lo hi sl Q I R hs pl O h
 |str z=>
  obtain ⟨t,rfl⟩:=R;obtain ⟨J,q⟩:=h;rwa[⟨"str",_,F.slot_str_getitem.lookup,typeIs_str _ _ _,?_⟩];have G:∀L k,EP X pins σ Q (.str (Txt.slice z lo hi) L) {s with toks:=k}:=λL k=>⟨.str _,H,I.tok k,⟨L,rfl⟩,q⟩
  cases pl with
  |none=>cases O with
   |none=>exact wpAny_getItem_str_slice (l:=none) (u:=none) (st:=none) hs rfl @U
   |int j tj=>exact wpAny_getItem_str_slice (l:=none) (u:=some (j,tj)) (st:=none) hs rfl @U
  |int i ti=>cases O with
   |none=>exact wpAny_getItem_str_slice (l:=some (i,ti)) (u:=none) (st:=none) hs rfl @U
   |int j tj=>exact wpAny_getItem_str_slice (l:=some (i,ti)) (u:=some (j,tj)) (st:=none) hs rfl @U
 |_=>exact False.elim h
theorem p9 {x:Str}{C:Addr}{pos:Pos}(W:Gl X x)(F:X.mg x=some (.ref C))(z:(x==("__debug__":Str))=false:=by decide):PE X (.Name x pos) (tC (.ref C)):=A7 (v:=V.ref C) W F rfl z
end
theorem aq.seqT {K:Fg}{H H':Hp}{a:Addr}{xs:List V}(e:aq H H')(h:aD K H a xs):aD K H' a xs:=by
 rcases h with (h|⟨o,h⟩)|h
 ·exact .inl (.inl (e _ _ h))
 ·exact .inl (.inr ⟨o,e _ _ h⟩)
 ·exact .inr h
theorem aq.upd {H:Hp}{p:Addr}{o:HO}(G:H p=none):aq H @fz:=λb u z=>by rw [ao (bL z G)];exact z
theorem aq.any {K:Fg}{H H':Hp}{a:Addr}{xs:List V}(e:aq H H')(h:aN K H a xs\/aD K H a xs):aN K H' a xs\/aD K H' a xs:=h.imp e.seq e.seqT
section
variable {K:Fg}{H H':Hp}{x:V}
theorem KQ {α β:Type}{F:α->β->Prop}:∀ {xs:List α} {ds:List β} {i:Nat} {x:α},Paired F xs ds->xs[i]? =some x->∃d,ds[i]? =some d/\F x d
 |_,_,0,_,.cons r _,h=>⟨_,rfl,by simp at h;exact h▸r⟩
 |_,_,i+1,_,.cons _ t,h=>by simpa using KQ t (by simpa using h)
 |_,_,i,_,.nil,h=>by simp at h
theorem KP {α β:Type}{F:α->β->Prop}:∀ {xs:List α} {ds:List β} {i:Nat} {d:β},Paired F xs ds->ds[i]? =some d->∃x,xs[i]? =some x/\F x d
 |_,_,0,_,.cons r _,h=>⟨_,rfl,by simp at h;exact h▸r⟩
 |_,_,i+1,_,.cons _ t,h=>by simpa using KP t (by simpa using h)
 |_,_,i,_,.nil,h=>by simp at h
theorem _root_.PySem.Paired.len {α β:Type}{F:α->β->Prop}{xs:List α}{ds:List β}(h:Paired F xs ds):xs.length=ds.length:=by
 induction h with
 |nil=>rfl
 |cons _ _ ih=>simp [ih]
theorem Sc {α β:Type}{F:α->β->Prop}:∀ {xs:List α} {ds:List β},xs.length=ds.length->(∀(i:Nat) x d,xs[i]? =some x->ds[i]? =some d->F x d)->Paired F xs ds
 |[],[],_,_=> .nil
 |x::xs,d::ds,hl,h=> .cons (h 0 x d rfl rfl) (Sc (by simpa using hl) λi y e h1 h2=>h (i+1) y e (by simpa using h1) (by simpa using h2))
 |[],_::_,hl,_=>by simp at hl
 |_::_,[],hl,_=>by simp at hl
theorem _root_.PySem.Paired.get1 {α β:Type}{F:α->β->Prop}{xs:List α}{ds:List β}{i:Nat}{x:α}(h:Paired F xs ds)(e:xs[i]? =some x):∃d,ds[i]? =some d/\F x d:=KQ h e
theorem _root_.PySem.Paired.get2 {α β:Type}{F:α->β->Prop}{xs:List α}{ds:List β}{i:Nat}{d:β}(h:Paired F xs ds)(e:ds[i]? =some d):∃x,xs[i]? =some x/\F x d:=KP h e
theorem _root_.PySem.Paired.of {α β:Type}{F:α->β->Prop}{xs:List α}{ds:List β}(W:xs.length=ds.length)(h:∀(i:Nat) x d,xs[i]? =some x->ds[i]? =some d->F x d):Paired F xs ds:=Sc W h
theorem _root_.PySem.Paired.app {α β:Type}{F:α->β->Prop}{xs z:List α}{ds j:List β}(h:Paired F xs ds)(h':Paired F z j):Paired F (xs++z) (ds++j):=by
 induction h with
 |nil=>exact h'
 |cons r _ ih=>exact .cons r ih
abbrev aC (K:Fg)(H:Hp):List V->List D->Prop:=Paired (bM K H)
theorem d3 {a:Addr}{xs:List V}{ds:List D}(h:aD K H a xs)(p:aC K H xs ds):bM K H (.ref a) (.tup ds):=
 .tup h p.len λi x d h1 h2=>by obtain ⟨e,L,r⟩:=p.get1 h1;rw [h2] at L;cases L;exact r
theorem C2 {a:Addr}{xs:List V}{ds:List D}(h:aN K H a xs)(p:aC K H xs ds):bM K H (.ref a) (.lst ds):=
 .lst h p.len λi x d h1 h2=>by obtain ⟨e,L,r⟩:=p.get1 h1;rw [h2] at L;cases L;exact r
theorem bM.outT {ds:List D}(h:bM K H x (.tup ds)):∃a xs,x= .ref a/\aD K H a xs/\aC K H xs ds:=by
 cases h with
 |tup h hl hi=>exact ⟨_,_,rfl,h,PySem.Paired.of hl hi⟩
theorem bM.isInt {i:Int}(h:bM K H x (.int i)):x= .int i:=by cases h;rfl
theorem bM.isStr {i:Str}(h:bM K H x (.str i)):x= .str i:=by cases h;rfl
theorem bM.same {d:D}(h:bM K H x d)(s:aq H H'):bM K H' x d:=by
 induction h with
 |non=>exact .non
 |bl b=>exact .bl b
 |int i=>exact .int i
 |str z=>exact .str z
 |lst h hl hi ih=>exact .lst (s.seq h) hl ih
 |tup h hl hi ih=>exact .tup (s.seqT h) hl ih
theorem aC.same {xs:List V}{ds:List D}(h:aC K H xs ds)(s:aq H H'):aC K H' xs ds:=Paired.imp' (λ_ _ z=>bM.same z s) h
mutual
def noL:D->Bool
 | .lst _=>false
 | .tup ds=>noLs ds
 |_=>true
def noLs:List D->Bool
 |[]=>true
 |d::ds=>noL d&&noLs ds
end
theorem fj:∀ {ds:List D} {i:Nat} {d:D},noLs ds=true->ds[i]? =some d->noL d=true
 |[],_,_,_,h=>by simp at h
 |e::ds,0,d,hn,h=>by
  rw [noLs,Bool.and_eq_true] at hn;simp at h;exact h▸hn.1
 |e::ds,i+1,d,hn,h=>by
  rw [noLs,Bool.and_eq_true] at hn;exact fj hn.2 (by simpa using h)
theorem aD.noL {a p:Addr}{xs zs:List V}{o:HO}(h:aD K H a xs)(G:H p=some (.lst zs)):aD K @fz a xs:=by
 rcases h with (h|⟨u,h⟩)|h
 ·exact .inl (.inl (by rw [ao (λz=>by rw [z,G] at h;cases h)];exact h))
 ·exact .inl (.inr ⟨u,by rw [ao (λz=>by rw [z,G] at h;cases h)];exact h⟩)
 ·exact .inr h
theorem bM.noL {d:D}{p:Addr}{zs:List V}{o:HO}(h:bM K H x d)(j:L2.noL d=true)(G:H p=some (.lst zs)):bM K (L2.upd H p o) x d:=by
 induction h with
 |non=>exact .non
 |bl b=>exact .bl b
 |int i=>exact .int i
 |str z=>exact .str z
 |lst h hl hi ih=>rw [L2.noL] at j;cases j
 |tup h hl hi ih=>
  rw [L2.noL] at j;exact .tup (h.noL G) hl λi x d h1 h2=>ih i x d h1 h2 @gp
theorem ya {xs zs:List V}{ds:List D}{p:Addr}{o:HO}(h:aC K H xs ds)(z:noLs ds=true)(G:H p=some (.lst zs)):aC K @fz xs ds:=
 PySem.Paired.of h.len λi x d h1 h2=>by
  obtain ⟨e,L,r⟩:=h.get1 h1;rw [h2] at L;cases L;exact r.noL (fj z h2) G
theorem Iv {p:Addr}{ys:List V}{Q:VK}(h:aN K H p ys\/aD K H p ys)(g:Q (.int ys.length) H):jC K p H Q:=⟨ys,h,g⟩
theorem Ej {p:Addr}{ys:List V}{Q:VK}{i:Int}{v:V}(h:aN K H p ys\/aD K H p ys)(e:oQ ys i=some v)(g:Q v H):mw K p i H Q:=⟨ys,h,v,e,g⟩
theorem Np {p:Addr}{ys:List V}{Q:VK}(h:aN K H p ys\/aD K H p ys)(g:∀l,H l=none->Q (.ref l) @cq):xN K p H Q:=⟨ys,h,g⟩
end
section
variable {K:Fg}{H H':Hp}{x:V}{Q:VK}
theorem aq.get {b:Addr}{o:HO}(s:aq H H')(h:H b=some o):H' b=some o:=s b o h
def JJ (xs:List V)(H:Hp)(Q:VK):Prop:=xs.length<=sizeLine/\∀p,H p=none->Q (.ref p) (upd H p (.tup xs))
def Qy (xs:List V)(H:Hp)(Q:VK):Prop:=xs.length<=sizeLine/\∀p,H p=none->Q (.ref p) (upd H p (.lst xs))
def OA (t:TA):TE:=λσ H Q=>t σ H λxs H1=>JJ xs H1 Q
def OI (t:TA):TE:=λσ H Q=>t σ H λxs H1=>Qy xs H1 Q
theorem cW {X:Cx}{es:List Expr}{t:TA}{pos:Pos}{F}(h:PA X es t):PE X (.Tuple es F pos) (OA t):=MB h
theorem ng {X:Cx}{es:List Expr}{t:TA}{pos:Pos}(h:PA X es t):PE X (.List es pos) (OI t):=MC h
theorem b3 {xs:List V}(F:xs.length<=sizeLine)(g:∀p H',aq H H'->H p=none->H' p=some (.tup xs)->Q (.ref p) H'):JJ xs H Q:=
 ⟨F,λp n=>g p _ (.upd n) n aj⟩
theorem mJ {xs:List V}(F:xs.length<=sizeLine)(g:∀p H',aq H H'->H p=none->H' p=some (.lst xs)->Q (.ref p) H'):Qy xs H Q:=
 ⟨F,λp n=>g p _ (.upd n) n aj⟩
theorem jw {p:Addr}{ys:List V}(h:aN K H p ys)(g:∀p H',aq H H'->H p=none->H' p=some (.tup ys)->Q (.ref p) H'):DN K p H Q:=OX h λp n=>g p _ (.upd n) n aj
theorem mK {p:Addr}{ys:List V}(h:aN K H p ys\/aD K H p ys)(g:∀p H',aq H H'->H p=none->H' p=some (.lst ys)->Q (.ref p) H'):xN K p H Q:=Np h λp n=>g p _ (.upd n) n aj
theorem Iq {p:Addr}{xs:List V}{lo hi:Option Int}(h:aN K H p xs)(g:∀p H',aq H H'->H p=none->H' p=some (.lst @bo)->Q (.ref p) H'):oX K p lo hi H Q:=L6 h λp n=>g p _ (.upd n) n aj
theorem vo {p:Addr}{xs:List V}{lo hi:Option Int}(h:aD K H p xs)(F: ¬(HT.sIx xs.length 0 lo=0/\HT.sIx xs.length xs.length hi=xs.length))(g:∀p H',aq H H'->H p=none->H' p=some (.tup @bo)->Q (.ref p) H'):oX K p lo hi H Q:=L5 h F λp n=>g p _ (.upd n) n aj
theorem aC.via {xs:List V}{ds:List D}(s:aq H H')(h:aC K H xs ds):aC K H' xs ds:=aC.same h s
theorem bJ {n:Nat}(h:n<=1000000):n<=sizeLine:=by rw [sizeLine_eq];lia
theorem aM {α:Type}{f:α->D}{xs:List V}{j:List α}(h:aC K H xs (j.map f)):xs.length=j.length:=by rw [h.len];simp
theorem bE {α:Type}{f:α->D}{xs:List V}{j:List α}{i:Nat}{x:V}(h:aC K H xs (j.map f))(e:xs[i]? =some x):∃a,j[i]? =some a/\bM K H x (f a):=by
 obtain ⟨d,J,dx⟩:=h.get1 e;rw [getElem?_map] at J
 cases z:j[i]? with
 |none=>rw [z] at J;cases J
 |some l=>rw [z] at J;exact ⟨l,rfl,Option.some.inj J▸dx⟩
end
end L2
local macro_rules | `(tactic| walk_at "l3sq") => `(tactic| first
  | assumption
  | (show L2.aD _ _ _ _; first | exact L2.aD.of (by assumption) | exact L2.aq.seqT (by assumption) (by walk_at "l3sq"))
  | (show L2.aN _ _ _ _; first | exact L2.aN.of (by assumption) | exact L2.aq.seq (by assumption) (by walk_at "l3sq"))
  | (show L2.R1 _ _ _ _; exact L2.R1.via (by assumption) (by walk_at "l3sq"))
  | (show L2.aC _ _ _ _; exact L2.aC.via (by assumption) (by walk_at "l3sq"))
  | (show L2.bM _ _ _ _; exact L2.bM.via (by assumption) (by walk_at "l3sq"))
  | (show _ = some _; exact L2.aq.get (by assumption) (by walk_at "l3sq")))
namespace L2
theorem PU {c:Prop}[Decidable c]{A B:Prop}(I: ¬c)(h:A):uD (!decide c) A B:=Qz (λ_=>h) (λz=>absurd z I)
theorem rH {c:Prop}[Decidable c]{A B:Prop}(I:c)(h:B):uD (!decide c) A B:=Qz (λz=>absurd I z) (λ_=>h)
end L2
set_option hygiene false in
local macro_rules|`(tactic|walk_at "l3gs")=>do
 let r←("hj hk hl;hm hn ho;hp hq;hr hs;ht hu hv;hw hx hy hz hA hB hC;hD hE;hF hG;hH hI".splitOn ";").toArray.mapM λx=>do let i:Array Lean.Term:=(x.splitOn " ").toArray.map λs=>⟨Lean.mkIdent (.mkSimple s)⟩;let p:=i[0]!;let e:=i.extract 1 i.size;`(Lean.Parser.Tactic.tacticSeq|(show @$p;first $[|refine @$e]*))
 `(tactic|((conv=>whnf);first $[|$r]*))
local macro_rules | `(tactic| walk_at "l3go") => `(tactic| ((repeat (walk_at "l3gs")); conv => whnf))
local macro_rules | `(tactic| walk_at "l3gc") => `(tactic| (walk_at "l3go"; refine L2.cutE (by walk_at "l3go"; exact ⟨rfl, rfl⟩) ?_))
local macro_rules | `(tactic| walk_at "l3gr") => `(tactic| first | refine L2.aL rfl ?_ | refine L2.bG rfl ?_)
namespace L2
open PySem PySem.Spec PyProof.Rows
section
variable {X:Cx}{K:Fg}{H:Hp}{Q:VK}
theorem GQ {prog:Program}{w:World}{A:Around}{E:Value->Shared->Prop}{s:Shared}{t b:Addr}{ws:List Value}{Q:Value->Shared->Prop}(ht:IsTup s.heap t (#[]:Array Value))(hb:IsTup s.heap b ws.toArray)(h:Q (.ref b) s):wpAny @m A (binaryOp .Add (.ref t) (.ref b)) Q E s:=by
 obtain ⟨⟨Y,W,S,sl⟩,O,L,n,U⟩:=id ht;obtain ⟨⟨aa,z,R,J⟩,j,G,Z,I⟩:=id hb;simp only at L U G I;subst L U G I;exact concat_meets ⟨_,O,rfl⟩ ⟨_,j,rfl⟩ noFill_tuple_add seq_tuple_add PySem.F.slot_tuple_add PySem.F.entry_tuple_add @cO (tuple_addW0 t b #[] ws.toArray n Z W z sl J @g) ⟨O,j,h⟩
def Pf (K:Fg):R2:=λx y H Q=>∃a b ys,x= .ref a/\y= .ref b/\aD K H a []/\aD K H b ys/\Q (.ref b) H
theorem Jb:dE X @bQ (Pf X.K):=by
 intro pins s σ H x y v u Q I J z h;obtain ⟨a,b,ys,rfl,rfl,j,L,q⟩:=h;cases J;cases z;obtain ⟨its,F,U,_⟩:=I.tuple j;obtain ⟨G,W,p2,_⟩:=I.tuple L;cases F;exact GQ U p2 ⟨.ref b,H,I,rfl,q⟩
def Kj (K:Fg)(p q:Addr)(H:Hp)(Q:VK):Prop:=GR K p q H Q\/∃ys,aD K H p []/\aD K H q ys/\Q (.ref q) H
def OR (K:Fg):R2:=λx y H Q=>match x,y with
 | .int i,.int j=>Q (.int (i+j)) H
 | .str a,.str b=>a.length+b.length<=sizeLine/\Q (.str (a++b)) H
 | .ref p,.ref q=>Kj K p q H Q
 |_,_=>False
theorem kP (z:X.K=K):dE X @bQ (OR K):=by
 subst z;rwa[((Ls rfl).or Jb).imp λx y H Q h=> ?_]
 cases x with
 |int i=>cases y with
  |int j=>exact .inl h
  |_=>exact False.elim h
 |str a=>cases y with
  |str b=>exact .inl h
  |_=>exact False.elim h
 |ref p=>cases y with
  |ref q=>
   rcases h with h|⟨ys,h1,h2,L⟩
   ·exact .inl h
   ·exact .inr ⟨p,q,ys,rfl,rfl,h1,h2,L⟩
  |_=>exact False.elim h
 |_=>exact False.elim h
theorem K1 {p q:Addr}{xs ys:List V}(h1:H p=some (.lst xs))(h2:H q=some (.lst ys))(F:xs.length+ys.length<=sizeLine)(g:∀l H',aq H H'->H l=none->H' l=some (.lst (xs++ys))->Q (.ref l) H'):Kj K p q H Q:= .inl (P8 h1 h2 F λl n=>g l _ (.upd n) n aj)
theorem C7 (x:V)(xs:List V):fB (x::xs) (some 1) none=xs:=by
 unfold fB
 have e:HT.sIx (x::xs).length 0 (some 1)=1:=by
  rw [show (some (1:Int))=some ((1:Nat):Int) from rfl,HT.sIx_nat,length_cons];lia
 rw [e,HT.sIx_none,length_cons];simp
theorem ii {pk:List @K}{σ:St}{x y:V}:tV (c9 (none::none::pk) σ) (((c9 (none::none::pk) σ).set 0 (some x)).set 1 (some y)):=
 tV.cons (.inl rfl) (.cons (.inl rfl) (.refl _))
theorem lY {pk:List @K}{σ:St}{x y z u:V}:tV (c9 (none::none::none::none::pk) σ) (((((c9 (none::none::none::none::pk) σ).set 0 (some x)).set 1 (some y)).set 2 (some z)).set 3 @fq):=
 tV.cons (.inl rfl) (.cons (.inl rfl) (.cons (.inl rfl) (.cons (.inl rfl) (.refl _))))
end
abbrev TJ:=Str->St->Hp->(Str->Hp->Prop)->Prop
section
variable {X:Cx}{es:List Expr}{t:TJ}{te:TE}{e:Expr}{pos:Pos}
def PJ (X:Cx)(es:List Expr)(t:TJ):Prop:=∀(pins:List (Addr×Obj)) (s:Shared) (σ:St) (H:Hp) (acc:Str) (Q:Str->Hp->Prop),aB X pins σ H s->t acc σ H Q->
 Joins @e X.A X.xe (evalEach es X.env) acc (λout s1=>∃H1,aB X pins σ H1 s1/\Q out H1) s
def RM:TJ:=λacc σ H Q=>Q acc H
theorem zT:PJ X [] RM:=λpins s σ H j Q I h=>⟨H,I,h⟩
def RK (c:Str)(t:TJ):TJ:=λacc σ H Q=>(acc++c).length<=sizeLine/\t (acc++c) σ H Q
theorem zR {c:Str}{k:Nat}(h:PJ X es t):PJ X (.Constant (.str c) k pos::es) (RK c t):=λpins s σ H j Q I ⟨F,q⟩=>
 Joins_cons (Calls.Constant_str ⟨c,_,rfl,F,h pins _ σ H _ Q @dC q⟩)
def RL (te:TE)(t:TJ):TJ:=λacc σ H Q=>te σ H λx H1=>match x with
 | .str y=>(reprText y).length<=sizeLine/\(acc++reprText y).length<=sizeLine/\t (acc++reprText y) σ H1 Q
 |_=>False
theorem zS (L:PE X e te)(h:PJ X es t):PJ X (.FormattedValue e 114 none pos::es) (RL te t):=λpins s σ H F Q I q=>by
 rwa[Joins_cons (wpAny_FormattedValue_repr (bP (L pins s σ H _ I q) λv R ⟨x,H1,J,O,G⟩=> ?_))]
 cases x with
 |str y=>
  obtain ⟨tk,rfl⟩:=O;obtain ⟨j,S,z⟩:=G;rwa[wpAny_pyReprObj_str ?_ j];exact wpAny_formatField_str ⟨_,_,rfl,S,h pins _ σ H1 _ Q (J.tok _) z⟩ ⟨_,_,rfl,S,h pins _ σ H1 _ Q ((J.tok _).tok _) z⟩ j
 |_=>exact False.elim G
def O3 (t:TJ):TE:=λσ H Q=>t Str.empty σ H λout H1=>out.length<=sizeLine/\Q (.str out) H1
theorem rF {M:Model}{A:Around}{E:Value->Shared->Prop}{Q j:Str->Shared->Prop}(i:∀o s,Q o s->j o s):∀(ps:List (Sem Value)) (acc:Str) (s:Shared),Joins M A E ps acc Q s->Joins M A E ps acc j s
 |[],acc,s,h=>i acc s h
 |x::gx,acc,s,h=>bP (show wpAny M A x _ E s from h) λv O ⟨y,t,e,z,r⟩=>⟨y,t,e,z,rF i gx (acc++y) O r⟩
theorem nh {F j:Expr}(h:PJ X (F::j::es) t):PE X (.JoinedStr (F::j::es) pos) (O3 t):=λpins s σ H Q I q=>
 wpAny_JoinedStr (rF (λo O ⟨H1,J,z,G⟩=>⟨z,.str o,H1,J.tok _,⟨_,rfl⟩,G⟩) _ _ _ (h pins s σ H Str.empty _ I q))
end
def Of (x:Str):Prop:=∀c∈x.cps.toList,c<128
theorem EM:∀c,c<128->(Builtin.Str.reprChar 39 c).length<=4/\(Builtin.Str.reprChar 34 c).length<=4:=by decide+kernel
theorem Mq (x:Str):reprQuote x=39\/reprQuote x=34:=by
 unfold reprQuote;split
 ·exact .inr rfl
 ·exact .inl rfl
theorem uu (q:Nat)(h:∀c,c<128->(Builtin.Str.reprChar q c).length<=4):∀(cs:List Nat) (n:Nat),(∀c∈cs,c<128)->cs.foldl (λn c=>n+(Builtin.Str.reprChar q c).length) n<=n+4*cs.length
 |[],n,_=>Nat.le_refl _
 |c::cs,n,hc=>by
  have h1:=h c (hc c (.head _));have h2:=uu q h cs (n+(Builtin.Str.reprChar q c).length) λd J=>hc d (.tail _ J);rw [foldl_cons,length_cons];lia
theorem xC {x:Str}(h:Of x):(reprText x).length<=4*x.length+2:=by
 rw [<-reprLen_eq,<-Array.foldl_toList];have h2:=uu (reprQuote x) (λc I=>by rcases Mq x with e|e<;>rw [e];exact (EM c I).1;exact (EM c I).2) x.cps.toList 2 h
 have:x.cps.toList.length=x.length:=by simp [Str.length]
 lia
section
variable {X:Cx}{K:Fg}
theorem Cg (bs:List Bool):((List.range bs.length).any λi=>(bs[i]?).getD true)=bs.any id:=by
 rw [Bool.eq_iff_iff,any_eq_true,any_eq_true];constructor
 ·rintro ⟨i,hi,e⟩;have hi:=mem_range.mp hi;rw [getElem?_eq_getElem hi] at e;exact ⟨_,getElem_mem hi,e⟩
 ·rintro ⟨b,F,e⟩;obtain ⟨i,hi,rfl⟩:=mem_iff_getElem.mp F;exact ⟨i,mem_range.mpr hi,by rw [getElem?_eq_getElem hi];exact e⟩
theorem De (G:X.calm=true):bR X (.builtin "any") (λxs H Q=>∃(a:Addr) (bs:List Bool),xs=[.ref a]/\aN X.K H a @bq/\Q (.bl (bs.any id)) H):=by
 intro pins s σ H xs Y Q I r h;obtain ⟨a,bs,rfl,O,q⟩:=h;obtain ⟨u,rfl,S⟩:=kx r;cases S;obtain ⟨its,J,pl,Z⟩:=I.list O;have W:s.heap.IsList a its.toArray:=pl.isList;have F:=yy J
 have z:a<s.heap.objs.size:=by obtain ⟨_,e,_⟩:=W;exact Heap.lt_size e
 rwa[call_any_walk (wpAny_pyIter_list W ?_)]
 refine ⟨s.heap.objs.size,[s.heap.objs.size,a],[s.heap.objs.size],its.toArray.size,_,_,λi=>(bs[i]?).getD true,rfl,Walks.list (A:=X.A.in1) @gB _ a (Nat.ne_of_lt z) its.toArray,
  ⟨⟨_,Heap.get?_push_size _ rfl,rfl,rfl⟩,W.push _⟩,λi v s' Q' U L j=> ?_,λh' tk R=> ?_⟩
 ·obtain ⟨b,e,rfl⟩:=F.get i v (by simpa using L);simp only [e,Option.getD_some] at j;exact wpAny_truthy_bool j
 ·have e:((List.range its.toArray.size).any λi=>(bs[i]?).getD true)=bs.any id:=by
   rw [size_toArray,F.length];exact Cg bs
  rw [e];exact ⟨.bl _,H,I.kept (LSm.kept_iter R),rfl,q⟩
def Kn (K:Fg)(a:Addr)(H:Hp)(Q:VK):Prop:=∃bs:List Bool,aN K H a @bq/\Q (.bl (bs.any _root_.id)) H
def OP (K:Fg):List V->Hp->VK->Prop:=λxs H Q=>match xs with|[.ref a]=>Kn K a H Q|_=>False
theorem Ow (j:X.K=K)(I:X.calm=true):bR X (.builtin "any") (OP K):=by
 subst j;rwa[(De I).imp λxs H Q h=> ?_];unfold OP at h;split at h
 ·obtain ⟨z,h1,h2⟩:=h;exact ⟨_,z,rfl,h1,h2⟩
 ·exact h.elim
theorem Qd {K:Fg}{p:Addr}{H:Hp}{Q:VK}{bs:List Bool}(h:aN K H p @bq)(g:Q (.bl (bs.any id)) H):Kn K p H Q:=⟨bs,h,g⟩
def u4 (x y:Str):Bool:=decide (0+y.length<=x.length)&&Builtin.Str.subAt x y 0
def AM:V->List V->Hp->VK->Prop:=λx xs H Q=>match x,xs with| .str z,[.str y]=>Q (.bl (u4 z y)) H|_,_=>False
theorem DC:yF X "str.startswith" AM:=by
 intro pins s σ H x xs v G Q I J R h;unfold AM at h;split at h
 ·rename_i z y;obtain ⟨t,rfl⟩:=J;obtain ⟨u,rfl,j,rfl⟩:=kx R;exact call_gives F.slot_str_startswith @eJ F.entry_str_startswith (F.args_str_startswith_2 _ _) (gives_str_startswith z y t j) ⟨.bl _,H,I,rfl,h⟩
 ·exact h.elim
end
def gq:Stmt->Nat->Stmt
 | .ClassDef _ _ _ body _ _ _ _ _ _ _,j=>body.getD j (.Pass ⟨0,0,0,0⟩)
 |s,_=>s
structure iL (K:Fg)(C:Addr):Prop where
 cl:t6 K C
 ha:W.findIn K (.ref C) "__class__"=some (some (.builtin "object.__class__"))
 hn:W.specialIn K (.builtin "object.__class__") "__get__"=some (some (.builtin "getset_descriptor.__get__"))
 htk:W.takesIn K (.builtin "object.__class__")=some true
 hm:W.mroIn K C (.type "object")=some true
structure K8 (K:Fg)(C:Addr):Prop where
 makes:W.makesIn K C=true
 init:W.findIn K (.ref C) "__init__"=some (some (.builtin "object.__init__"))
 kp:W.keepIn K (.ref C)=true
section
variable {X:Cx}{C:Addr}{x:Str}{p pos:Pos}
def DQ (C:Addr):TE:=λ_ H Q=>∀a dx,H a=none->H dx=none->dx≠a->Q (.ref a) @s
theorem IG {pins:List (Addr×Obj)}{σ:St}{H:Hp}{s:Shared}{Q:VK}(M:K8 X.K C)(I:aB X pins σ H s)(h:DQ C σ H Q):wpAny @e X.A (call (.ref C) []) @A X.xe s:=by
 have G:=h (s.heap.objs.size+1) s.heap.objs.size (I.hok.fresh @dY) @bG (Nat.ne_of_lt @cl);have O:=aB.made (C:=C) I;have Y:=W.makes_of (M:=model X.prog X.w) I.kIn M.makes
 have R:((s.heap.push W.emptyDict).push @z).get? (s.heap.objs.size+1)=some @z:=by
  have:=Heap.get?_push_size @eX (o:=W.instObj C s.heap.objs.size) rfl;rwa [Heap.size_push] at this
 have z:PySem.W.Looks @e ((s.heap.push W.emptyDict).push @z) (typeOf (.ref (s.heap.objs.size+1))) (.ref C):=(PySem.W.Looks.ld R).andThen .now;have F:PySem.W.Looks @e ((s.heap.push W.emptyDict).push @z) (isInstance (.ref (s.heap.objs.size+1)) (.type "object")) true:=z.andThen (Y.top.keeps λb o e=>Heap.get?_push_of_some _ (Heap.get?_push_of_some _ e));rwa[wpAny_call (CG I.kIn M.makes M.init (λj=>PySem.W.Looks.of_pure (W.oi_bind j)) ?_)];obtain ⟨L,g,d,t,os⟩:=s;rwa[codeAny_call_builtin W.oi_plain W.entry_oi (@W.check_slot @e _ _ _ "object.__init__" "object" "__init__" (.ref (L.objs.size+1)) [] [] _ W.oi_kind W.oi_split F (W.oi_args (.ref (L.objs.size+1))) ?_)];rw [W.oi_run];exact wpAny_pure (And.intro rfl ⟨V.ref (L.objs.size+1),_,O,rfl,G⟩)
theorem zU (M:K8 X.K C)(j:Gl X x)(F:X.mg x=some (.ref C))(z:(x==("__debug__":Str))=false:=by decide):PE X (.Call (.Name x p) [] [] pos) (DQ C):=by
 intro pins s σ H Q I h;rwa[wpAny_Call_Name_kw (mM I j F ?_ z)];exact W.callWith_K0 I.kIn M.kp (IG M I h)
end
theorem eQ {H:Hp}{a dx:Addr}{o:HO}(h1:H a=none)(h2:H dx=none):aq H (upd (upd H dx (.own a)) a o):=λb u z=>by
 rw [ao (λe=>by rw [e,h1] at z;cases z),ao (λe=>by rw [e,h2] at z;cases z)];exact z
theorem Ni {C:Addr}{σ:St}{H:Hp}{Q:VK}(g:∀a dx H',aq H H'->H a=none->H' a=some (.ins C dx [])->Q (.ref a) H'):DQ C σ H Q:=λa dx h1 h2 _=>g a dx _ (eQ h1 h2) h1 aj
noncomputable def RZ:Value->Option V
 | .none=>some .non
 | .bool b=>some (.bl b)
 | .int i _=>some (.int i)
 | .str x _=>some (.str x)
 | .bytes b _=>some (.byt b)
 | .float b _=>some (.flt b)
 | .ref a=>some (.ref a)
 | .type n=>some (.ty n)
 |_=>none
theorem BH {x:V}{u:Value}(h:aK x u):RZ u=some x:=by
 cases x with
 |non=>cases h;rfl
 |bl b=>cases h;rfl
 |int i=>obtain ⟨t,rfl⟩:=h;rfl
 |str i=>obtain ⟨t,rfl⟩:=h;rfl
 |byt i=>obtain ⟨t,rfl⟩:=h;rfl
 |flt i=>obtain ⟨t,rfl⟩:=h;rfl
 |ref i=>cases h;rfl
 |ty i=>cases h;rfl
theorem EN {x y:V}{u:Value}(h:aK x u)(h':aK y u):x=y:=by
 have e:=(BH h).symm.trans (BH h');exact Option.some.inj e
section
variable {X:Cx}{K:Fg}
open Classical in
noncomputable def tO (K:Fg)(H:Hp)(e:D)(u:Value):Bool:=if h:∃d,∃x,aK x u/\bM K H x d then ja h.choose e else false
theorem Bm {pins:List (Addr×Obj)}{σ:St}{H:Hp}{s:Shared}(I:aB X pins σ H s){e d:D}{x:V}{u:Value}(r:aK x u)(h:bM X.K H x d):tO X.K H e u=ja d e:=by
 have z:∃d,∃x,aK x u/\bM X.K H x d:=⟨d,x,r,h⟩;unfold tO;rw [dif_pos z];obtain ⟨y,j,F⟩:=z.choose_spec;have:=EN r j;subst this;rw [bM.inj I F h]
theorem sv {pins:List (Addr×Obj)}{σ:St}{H:Hp}{s:Shared}(I:aB X pins σ H s){e:D}:∀ {xs:List V} {ds:List D} {us:List Value},aU xs us->aC X.K H xs ds->us.any @cP=ds.any λd=>ja d e
 |_,_,_,.nil,.nil=>rfl
 |_,_,_,.cons r t,.cons h p=>by rw [any_cons,any_cons,Bm I r h,sv I t p]
theorem oz {pins:List (Addr×Obj)}{σ:St}{H:Hp}{s:Shared}{A:Around}(I:aB X pins σ H s){y:V}{e:D}{v:Value}(j:aK y v)(R:bM X.K H y e):∀ {xs:List V} {ds:List D} {us:List Value},aU xs us->aC X.K H xs ds->(∀d∈ds,A.units+jq d<cLine)->∀u∈us,SeqAt.EqAt A s u v (tO X.K H e u)
 |_,_,_,.nil,_,_=>λu z=>by cases z
 |_,_,_,.cons r t,.cons h p,hd=>λG z=>by
  rcases mem_cons.mp z with rfl|z
  ·rw [Bm I r h];exact jR I h R r j (hd _ (.head _))
  ·exact oz I j R t p (λd F=>hd d (.tail _ F)) G z
def RE (K:Fg):R2:=λx y H Q=>∃p xs ds e,y= .ref p/\(aN K H p xs\/aD K H p xs)/\aC K H xs ds/\bM K H x e/\(∀d∈ds,jq d<=50)/\Q (.bl @cE) H
theorem MM {m:Nat}(Y:b8 m X.A):dE X @cB (RE X.K):=by
 intro pins s σ H x y v u Q I J R h;obtain ⟨p,xs,ds,e,rfl,L,dx,O,U,q⟩:=h;cases R
 have z:∀d∈ds,X.A.units+1+jq d<cLine:=λd F=>by have:=Y.un;have:=U d F;lia
 have G:∀d∈ds,X.A.units+jq d<cLine:=λd F=>by have:=z d F;lia
 rcases L with L|L
 ·obtain ⟨its,r,pl,S⟩:=I.list L;rwa[SeqAt.in_listAt @cP pl.isList (λw j=>oz I J O r dx (by first|exact G|exact z) w (by simpa using j)) ⟨.bl _,H,I,rfl,?_⟩];rw [show its.toArray.any @cP=its.any @cP by simp,sv I r dx];exact q
 ·obtain ⟨its,r,pl,S⟩:=I.tuple L;rwa[SeqAt.in_tupleAt @cP pl (λw j=>oz I J O r dx (by first|exact G|exact z) w (by simpa using j)) ⟨.bl _,H,I,rfl,?_⟩];rw [show its.toArray.any @cP=its.any @cP by simp,sv I r dx];exact q
def qv (K:Fg)(x:V)(p:Addr)(H:Hp)(Q:VK):Prop:=∃xs ds e,(aN K H p xs\/aD K H p xs)/\aC K H xs ds/\bM K H x e/\(∀d∈ds,jq d<=50)/\Q (.bl @cE) H
def OM (K:Fg):R2:=λx y H Q=>match y with| .ref p=>qv K x p H Q|_=>False
theorem uc {m:Nat}(z:X.K=K)(Y:b8 m X.A):dE X @cB (OM K):=by
 subst z;rwa[(MM Y).imp λx y H Q h=> ?_];unfold OM at h;split at h
 ·obtain ⟨xs,ds,e,h1,h2,L,j,S⟩:=h;exact ⟨_,xs,ds,e,rfl,h1,h2,L,j,S⟩
 ·exact h.elim
theorem mq {x:V}{p:Addr}{H:Hp}{Q:VK}{xs:List V}{ds:List D}{e:D}(h:aN K H p xs)(h1:aC K H xs ds)(h2:bM K H x e)(L:∀d∈ds,jq d<=50)(g:Q (.bl @cE) H):qv K x p H Q:=⟨xs,ds,e,.inl h,h1,h2,L,g⟩
end
section
variable {X:Cx}{x:Str}{p pos:Pos}{e:Expr}{es:List Expr}{t:TA}{ps:List Str}{sp:Sp}{n m:Nat}{E:XK}{C:Addr}
def Sz:XK:=λ_ _ _=>False
theorem IY:ib (yM X.prog X.w) X Sz:=λpins σ H s e s' I h=>by
 obtain ⟨a,T,F,U,H',_,_,_,_,_,_,_,_,_,_,q⟩:=h;exact q.elim
end
theorem Bf (xs:Array Nat)(a:Nat):∀m,a+m<=xs.size->((List.range m).map λk=>a+k).filterMap (λi=>xs[i]?)=(xs.toList.drop a).take m
 |0,_=>by simp
 |m+1,h=>by
  have j:=Bf xs a m @c;rw [range_succ,map_append,filterMap_append,j,take_succ,getElem?_drop,Array.getElem?_toList]
  have:a+m<xs.size:=by lia
  simp [Array.getElem?_eq_getElem this]
theorem xD {start stop:Int}{n:Nat}{x:Str}(z:x.length=n)(F:0<=start)(h1:start<=stop)(h2:stop<=n):(sliceRange start stop 1).filterMap (λi=>x.cps[i]?)=(x.cps.toList.drop start.toNat).take (stop - start).toNat/\(sliceRange start stop 1).length=(stop - start).toNat:=by
 have e:sliceRange start stop 1=(List.range (stop - start).toNat).map λk=>start.toNat+k:=by
  unfold sliceRange;simp only [show (1:Int)>0 by decide,if_true]
  have c:(if start<stop then (stop - start+1 - 1) / 1 else 0)=stop - start:=by split<;>lia
  rw [c];rwa[map_congr_left λk _=> ?_];lia
 have hs:x.cps.size=n:=z;rw [e];exact ⟨Bf x.cps start.toNat _ @c,by simp⟩
theorem gG {x:Str}{l u:Option Int}{start stop:Int}(hi:Builtin.Str.strSliceIndices l u 1 x.length=sliceRange start stop 1)(F:0<=start)(h1:start<=stop)(h2:stop<=x.length):(Txt.slice x l u).cps.toList=(x.cps.toList.drop start.toNat).take (stop - start).toNat:=by
 obtain ⟨z,W⟩:=xD (x:=x) rfl F h1 h2;unfold Txt.slice;rw [hi];split
 ·rename_i h
  have L:(stop - start).toNat=x.length:=by simpa [W] using h
  have j:start.toNat=0:=by lia
  rw [j,drop_zero,L,take_of_length_le (by rw [cg];exact Nat.le_refl _)]
 ·exact z
theorem Ee {x:Str}{n:Int}(h:0<=n):(Txt.slice x none (some n)).cps.toList=x.cps.toList.take n.toNat:=by
 by_cases z:n<=x.length
 ·rw [gG (start:=0) (stop:=n) ?_ @b h z]
  ·simp
  ·unfold Builtin.Str.strSliceIndices;simp only [show (1:Int)>0 by decide,if_true,if_neg (show ¬n<0 by lia)];congr 1;lia
 ·rw [gG (start:=0) (stop:=x.length) ?_ @b @c @ec]
  ·rw [take_of_length_le (by rw [length_drop,cg];lia),take_of_length_le (by rw [cg];lia)];rfl
  ·unfold Builtin.Str.strSliceIndices;simp only [show (1:Int)>0 by decide,if_true,if_neg (show ¬n<0 by lia)];congr 1;lia
theorem zj {x:Str}{n:Int}(h:0<=n):(Txt.slice x (some n) none).cps.toList=x.cps.toList.drop n.toNat:=by
 by_cases z:n<=x.length
 ·rw [gG (start:=n) (stop:=x.length) ?_ h z @ec]
  ·rw [take_of_length_le (by rw [length_drop,cg];lia)]
  ·unfold Builtin.Str.strSliceIndices;simp only [show (1:Int)>0 by decide,if_true,if_neg (show ¬n<0 by lia)];congr 1;lia
 ·rw [gG (start:=x.length) (stop:=x.length) ?_ @c @ec @ec]
  ·rw [show ((x.length:Int) - x.length).toNat=0 by lia,take_zero,drop_of_length_le (by rw [cg];lia)]
  ·unfold Builtin.Str.strSliceIndices;simp only [show (1:Int)>0 by decide,if_true,if_neg (show ¬n<0 by lia)];congr 1;lia
theorem Ih {x y:Str}(h:x.cps.toList=y.cps.toList):x=y:=by
 cases x;cases y;congr 1;exact Array.toList_inj.mp h
open PySem.W
noncomputable def RR (K:Frag)(C:Addr)(bmB:List Value)(newId:String):Bool:=match K.lookup C with
 |some ⟨.type "type",_,.cls cd,sl⟩=>(match cd.mro,sl.toList with
  | .ref C'::bm,[_,_,_,_,some (.builtin n),_]=>C'==C&&n==newId&& !cd.hasDel&&tailIn K bmB bm&&nsOkIn K cd.ns&&cd.hasDict
  |_,_=>false)
 |_=>false
abbrev SE:List Value:=[.type "ValueError",.type "Exception",.type "BaseException",.type "object"]
def P2 (a:Addr)(cls:Value)(dd:Option Addr):HO:= .ext λh=>∃oe vs,h.get? a=some oe/\oe.cls=cls/\oe.dict=dd/\oe.data= .fields vs/\vs[1]? =some .none/\vs[2]? =some .none
structure BaseI (K:Frag)(B:Addr):Prop where
 rd:readsIn K B (.type "type")=true
 at_:findCls K (.ref B) (.type "type") "__init__"=some (.val (.builtin "ValueError.__init__"))
 ga:specialIn K (.ref B) "__getattribute__"=some (some (.builtin "type.__getattribute__"))
inductive Ru (C:Addr)(fld:Str)(vs:List V)(H:Hp)(Q:VK)(_e:XK):Prop
 |mk (a v:_) (_:vs=[.ref a,v]) (_:H a=some (P2 a (.ref C) none)) (_:∀d,H d=none->d≠a->Q .non (upd (upd H a (P2 a (.ref C) (some d))) d (.xd [(fld,v)])))
structure XI (K:Frag)(C f:Addr):Prop where
 j:RR K C SE "ValueError.__new__"=true
 init:findIn K (.ref C) "__init__"=some @bf
 fn:isFn K (.ref f)=true
 kp:keepIn K (.ref C)=true
structure XMk (P:Program)(w:World)(K:Frag)(mg:Str->Option Value)(base:Heap)(n:Nat)(x:Str)(C:Addr)(fld:Str):Prop where
 ex:∃f fd ps,XI K C f/\az P w K mg base bg n f fd ps (Ru C fld)/\fK K fd ps []/\mg x=some (.ref C)
open PySem.Calls Att
theorem ss {i:Int}{n:Nat}(h:WData.weight (.int i)<=n):Builtin.Int.intBits i<=n:=by
 unfold WData.weight at h;unfold Builtin.Int.intBits;exact h
theorem pJ:∀ {ns:List Int} {n:Nat},WData.weightAll @eK<=n->∀i∈ns,Builtin.Int.intBits i<=n
 |[],_,_,_,hi=>nomatch hi
 |a::r,n,h,i,hi=>by
  have h':WData.weight (.int a)+1+WData.weightAll (r.map WData.int)<=n:=by simpa [WData.weightAll] using h
  rcases mem_cons.mp hi with rfl|hi
  ·exact ss @c
  ·exact pJ @c i hi
theorem yC {R:List Int}(h:WData.layableAll [WData.list (List.map WData.int R)]=true):∀i∈R,Builtin.Int.intBits i<=2^20:=by
 have h1:WData.layable (WData.list (List.map WData.int R))=true:=by simpa [WData.layableAll] using h
 unfold WData.layable at h1;rw [Bool.and_eq_true,Bool.and_eq_true] at h1;have h2:=of_decide_eq_true h1.2;rwa[pJ ?_];simpa [WData.weight] using h2
theorem wK {l:OpenLaw}{n:Nat}{q:Program}{j:List Str}{XP:(Str->Option Value)->Heap->Prop}{Z:World->Heap->Prop}{d:DefRec}
(hn:l.most=some n)(R:d.params.defaults=[])
(O:∀(w:World) (s₀ s₁:Shared) (mg mb:Str->Option Value) (fa:Addr) (o:Obj) (pm cd doc:Value) (a:Addr) (vs:List Value) (ns:List Int),
   Ground q j [] XP w s₀ mg mb s₁.heap->Z w s₁.heap->
   s₁.heap.get? fa=some o->o.data= .func (docDef d.name d.params d.body d.scope pm cd doc)->s₁.heap.CodeRec cd d.name->mg d.name=some (.ref fa)->
   s₁.heap.get? a=some {cls:= .type "list",data:= .seq vs.toArray}->IntsAre vs ns->ns.length<=n->(∀i∈ns,Builtin.Int.intBits i<=2^20)->s₁.gens= #[]->
   codeAny (model l.prog w) callerA (.call (.ref fa) ⟨[.ref a],[]⟩) (λr s'=>r= .ok (.ret (.bool true))/\OldK s₁.heap s'.heap/\s'.os=s₁.os/\AllBare s'.gens) s₁):
 WalkO q j XP Z l.row.toRowW d [] @dh:=by
 intro w s₀ s₁ mg mb G Y fa o pm cd doc dV kV ho hd W hD S hg aa ab as J F ac U ad;obtain rfl:dV= .none:=Dflts.none hD R;obtain rfl:kV= .none:=Dflts.noKw hD;obtain ⟨a,vs,ns,rfl,rfl,L,z,I⟩:=BX hn J U;rwa[enter_call (codeAny_mono (O w s₀ s₁ mg mb fa o pm cd doc a vs ns G Y ho (fd_plain hd) W S L z I (yC F) hg) λr s' hq=> ?_)];obtain ⟨rfl,h2,h3,h4⟩:=hq;exact ⟨.inl ⟨.bool true,.bool true,[],rfl,λ_=>rfl,.bool true,Ch l _,λ_=>⟨List.Pairwise.nil,λ_ hm=>(nomatch hm)⟩⟩,h2,h3,h4⟩
def OG:R2:=λx y H Q=>match x,y with
 | .int i,.int j=>IntMulOk i j/\Q (.int (i*j)) H
 |_,_=>False
theorem u1 {X:Cx}:dE X @dQ OG:=(Ob (C:=IntMulOk) (g:=λi j=>i*j) λ_ _ _ _ _ _ _ I q=>mul_int q I).imp λx y H Q h=>by
 match x,y,h with
 | .int i,.int j,h=>exact ⟨i,j,rfl,rfl,h⟩
theorem Gb {i k:Int}(h:Builtin.Int.intBits i<=2^20)(k0:0<=k)(k1:k<1000):IntMulOk (i*48271+7919*k*k+11) (2305843009213693951^4):=by
 have R:7919*k*k+11<=7919*1000*1000+11:=by
  have:7919*k*k<=7919*1000*1000:=Int.mul_le_mul @c @c k0 @b;lia
 have j:0<=7919*k*k+11:=by
  have:0<=7919*k*k:=Int.mul_nonneg @c k0;lia
 rw [Int.add_assoc];rwa[IntMulOk.of_le (m:=2^21) (n:=300) ?_ @i @b];rwa[Nat.le_trans (PyProof.Rows.bits_add (PyProof.Rows.bits_mul h (PySem.intBits_le_64 @b @b)) (PySem.intBits_le_64 @c @c)) @b]
open PySem.StrLaws Builtin.Str
def jn (sp:List Nat):List (List Nat)->List Nat
 |[]=>[]
 |[p]=>p
 |p::q::r=>p++sp++jn sp (q::r)
theorem Iw {K:Fg}{x:V}{p:Addr}{H:Hp}{Q:VK}{xs:List V}{ds:List D}{e:D}(h:aD K H p xs)(h1:aC K H xs ds)(h2:bM K H x e)(L:∀d∈ds,jq d<=50)(g:Q (.bl @cE) H):qv K x p H Q:=⟨xs,ds,e,.inr h,h1,h2,L,g⟩
structure FunD (K:Fg)(x qual:Str)(st:Stmt)(T f:Addr)(fd:FuncData):Prop where
 ex:∃(oc:Value) (od:Option Addr) (kV doc pm:Value) (an:Option Addr) (cdv ct:Value) (osl:Array @Z),
  fd=W.fnOf x qual @dZ @df @cd (.ref T) kV doc pm an cdv ct/\K.lookup f=some ⟨oc,od,.func fd,osl⟩/\W.codeIn K cdv qual=true
structure CalD (P:Program)(w:World)(K:Fg)(mg:Str->Option Value)(base:Heap)(n:Nat)(x:Str)(ps:List Str)(dvs:List V)(sp:Sp):Prop where
 ex:∃f fd ds,az P w K mg base @cr n f fd ps sp/\fK K fd ps ds/\aU dvs ds/\W.keepIn K (.ref f)=true/\mg x=some (.ref f)
def R7 (P:Program)(w:World)(K:Fg)(mg:Str->Option Value)(base:Heap)(n:Nat)(f:Addr)(ps:List Str)(sp:Sp):Prop:=
 ∃fd,az P w K mg base bg n f fd ps sp/\fK K fd ps []/\W.keepIn K (.ref f)=true
theorem bf.fnv {P:Program}{w:World}{K:Fg}{mg:Str->Option Value}{base:Heap}{n:Nat}{x:Str}{ps:List Str}{sp:Sp}(c:bf P w K mg base n x ps sp):∃f,mg x=some (.ref f)/\R7 P w K mg base n f ps sp:=by
 obtain ⟨f,fd,F,b,k,j⟩:=c.ex;exact ⟨f,j,fd,F,b,k⟩
def kN (base:Heap)(mg:Str->Option Value):Prop:=∃bm o,mg "__builtins__"=some (.ref bm)/\bm≠builtinsNs/\bm≠mainGlobals/\base.get? bm=some o/\o.cls= .type "module"/\o.dict=some builtinsNs/\o.data= .plain
theorem CL {P:Program}{w:World}{K:Frag}{mg mb:Str->Option Value}{CX:oU}{k:Nat}{fa a:Addr}{fd:FuncData}{x:Str}{sp:Sp}{j:Shared}{vs:List Value}{ns:List Int}{tabs:List (Addr×Addr)}
(R:∀q∈tabs,CodeHd j.heap q.1 q.2/\j.heap.get? q.2=some (tabObj #[]))(aj:noTabs K=true)(al:kN j.heap mg)
(KX:K.In j.heap)(ae:j.heap.Ns mainGlobals mg)(O:j.heap.Ns builtinsNs mb)(an:∀x:Str,x≠"__name__"->mb x=bootBuiltins x)(ac:j.heap.NoLimit)(hg:j.gens= #[])
(ha:j.heap.get? a=some {cls:= .type "list",data:= .seq vs.toArray})(hi:IntsAre vs ns)(hl:ns.length<=sizeLine)(hr:b8 k callerA)
(F:∀base:Heap,K.In base->base.Ns mainGlobals mg->kN base mg->az P w K mg base CX k fa fd [x] sp)(ab:∀(s:Shared) (u:Value),BindsTo s fd ⟨[u],[]⟩ [(x,u)])
(ap:∀H:Hp,(∀q∈tabs,H q.2=some (.tbl #[]))->aN K H a @bW->sp [.ref a] H (λv _=>v= .bl true) λ_ _ _=>False)
(am:∀H e s',CX [] H j @eP e s'->False):
 codeAny @bg callerA (.call (.ref fa) ⟨[.ref a],[]⟩) (λr s'=>r= .ok (.ret (.bool true))/\OldK j.heap s'.heap/\s'.os=j.os/\AllBare s'.gens) j:=by
 have rv:=ue hi;have af:=hi.length
 have ta:∀q∈tabs,q.2≠a:=λq L z=>by have:=(R q L).2;rw [z,ha] at this;cases this
 have aa:∀H:Hp,aN K H a @bW->gQ P w H j.heap->(∀q∈tabs,H q.2=some (.tbl #[]))->(∀b u,H b=some u->(∃q∈tabs,b=q.2)\/(b=a/\K.lookup a=none/\∃ob xs,u= .frz ob (.lst xs)))->
  codeAny @bg callerA (.call (.ref fa) ⟨[.ref a],[]⟩) (λr s'=>r= .ok (.ret (.bool true))/\OldK j.heap s'.heap/\s'.os=j.os/\AllBare s'.gens) j:=by
  intro H hS ai ad hA;have G:∀ {b:Addr} {o:Obj},j.heap.get? b=some o->H b=none->(tK j.heap H).get? b=some o:=λe n=>Ga e n
  have ak:∀ {b:Addr} {o:Obj},j.heap.get? b=some o->o.cls≠ .none->o.cls≠ .type "list"->H b=none:=λ{b o} e d1 d2=>by
   cases q:H b with
   |none=>rfl
   |some u=>
    rcases hA b u q with ⟨t,S,rfl⟩|⟨rfl,_,_⟩
    ·rw [(R t S).2] at e;cases e;exact absurd rfl d1
    ·rw [ha] at e;cases e;exact absurd rfl d2
  have ao:∀ {b:Addr} {o:Obj} {es:Array DictEntry} {ep:Nat},j.heap.get? b=some o->o.data= .dict es ep->H b=none:=λ{b o es ep} e d=>by
   cases q:H b with
   |none=>rfl
   |some u=>
    rcases hA b u q with ⟨t,S,rfl⟩|⟨rfl,_,_⟩
    ·rw [(R t S).2] at e;cases e;cases d
    ·rw [ha] at e;cases e;cases d
  have W:∀ {b:Addr} {m:Str->Option Value},j.heap.Ns b m->(tK j.heap H).Ns b m:=λ{b m} ⟨o,es,ep,e,d,r⟩=>⟨o,es,ep,G e (ao e d),d,r⟩
  have ag:K.In @eQ:=λb o e=>G (KX b o e) (by
   cases q:H b with
   |none=>rfl
   |some u=>
    rcases hA b u q with ⟨t,S,rfl⟩|⟨rfl,hk,_⟩
    ·have e2:=KX _ _ e;rw [(R t S).2] at e2;have h2:=all_eq_true.mp aj (t.2,o) (mem_of_lookupK e);cases e2;exact absurd (show false=true from h2) Bool.false_ne_true
    ·rw [hk] at e;cases e)
  have hM:Mod K mg @eQ:=⟨ag,W ae,⟨mb,W O,an⟩,let ⟨mc,h1,h2⟩:=ac;⟨mc,W h1,h2⟩⟩;have hB:kN @eQ mg:=let ⟨bm,o,h1,h2,h3,h4,h5,h6,h7⟩:=al;⟨bm,o,h1,h2,h3,G h4 (ak h4 (by rw [h5];simp) (by rw [h5];simp)),h5,h6,h7⟩;have e0:oS P w K mg @eQ callerA [] j H:=⟨rfl,hM,λb o e=>JC e,Nat.le_of_eq (CU _ _),trivial,λb O=>absurd (show b∈([]:List Addr) from O) @g,ai,.of_eq hg⟩;rwa[codeAny_mono ((F _ ag (W ae) hB).run callerA [] j H ⟨[.ref a],[]⟩ [.ref a] [.ref a] _ _ hr e0 (ab j (.ref a)) (.cons rfl .nil) (ap H ad hS)) λr s' h=> ?_]
  cases r with
  |error e=>exact (am H e s' h).elim
  |ok fl=>
   cases fl with
   |next=>exact False.elim h
   |brk=>exact False.elim h
   |cont=>exact False.elim h
   |ret u=>
    obtain ⟨v,H',os,ah,un,Y,r',q⟩:=h;have q':v= .bl true:=q;subst q';obtain rfl:u=Value.bool true:=r';rwa[⟨rfl,⟨λb o e=> ?_,λb o e=>un.there b o e @g⟩,os,ah⟩]
    cases q:H b with
    |none=>exact .inl (un.keep b o e q (by intro z;exact absurd (show b∈([]:List Addr) from z) @g) @g)
    |some u=>
     rcases hA b u q with ⟨t,S,rfl⟩|⟨rfl,hk,ob,xs,rfl⟩
     ·obtain ⟨Z,e2⟩:=un.tbls _ _ (ad t S);have e3:s'.heap.get? t.2=some (tabObj (#[]++Z)):=Y _ _ e2;have e4:=(R t S).2;rw [e4] at e;cases e;exact .inr (.inl ⟨((R t S).1.tab e4).isCodeTable,rfl,#[],Z,rfl,e3⟩)
     ·have U:=un.frzs b ob _ q;obtain ⟨e1,_⟩:=ai b _ q;obtain ⟨e2,_⟩:=Y b _ U;rw [e] at e1;cases e1;exact .inl e2
 have aq:∀(H:Hp),(∀b u,H b=some u->u= .tbl #[]->∃q∈tabs,b=q.2)->∀b,H b=some (.tbl #[])->bH P w H j.heap b (.tbl #[]):=λH z b e=>by
  obtain ⟨q,L,rfl⟩:=z b _ e rfl;exact (R q L).2
 cases hk:K.lookup a with
 |some o=>
  have e:=KX a o hk;rw [ha] at e;cases e;rwa[aa (λb=>if b∈tabs.map (·.2) then some (.tbl #[]) else none) (.inr ⟨_,vs.toArray,_,hk,rfl,rfl,rfl,by rw [size_toArray,af];exact hl,by simpa using rv⟩) @dL (λq L=>if_pos (mem_map_of_mem L)) @dL]
  ·by_cases I:b∈tabs.map (·.2)
   ·have J:=(if_pos I).symm.trans z;cases J;obtain ⟨q,L,rfl⟩:=mem_map.mp I;exact (R q L).2
   ·have J:=(if_neg I).symm.trans z;cases J
  ·by_cases I:b∈tabs.map (·.2)
   ·obtain ⟨q,L,rfl⟩:=mem_map.mp I;exact .inl ⟨q,L,rfl⟩
   ·have J:=(if_neg I).symm.trans z;cases J
 |none=>
  have na:a∉tabs.map (·.2):=λz=>by obtain ⟨q,L,e⟩:=mem_map.mp z;exact ta q L e
  rwa[aa (λb=>if b∈tabs.map (·.2) then some (.tbl #[]) else if b=a then some (.frz {cls:= .type "list",data:= .seq vs.toArray} (.lst @bW)) else none) (.inl (.inr ⟨{cls:= .type "list",data:= .seq vs.toArray},(if_neg na).trans (if_pos rfl)⟩)) @dL (λq L=>if_pos (mem_map_of_mem L)) @dL]
  ·by_cases I:b∈tabs.map (·.2)
   ·have J:=(if_pos I).symm.trans z;cases J;obtain ⟨q,L,rfl⟩:=mem_map.mp I;exact (R q L).2
   ·have J:=(if_neg I).symm.trans z;by_cases O:b=a
    ·have U:=(if_pos O).symm.trans J;cases U;subst O;exact ⟨ha,by rw [length_map];exact hl,vs,_,rv,ha⟩
    ·have U:=(if_neg O).symm.trans J;cases U
  ·by_cases I:b∈tabs.map (·.2)
   ·obtain ⟨q,L,rfl⟩:=mem_map.mp I;exact .inl ⟨q,L,rfl⟩
   ·have J:=(if_neg I).symm.trans z;by_cases O:b=a
    ·have U:=(if_pos O).symm.trans J;cases U;exact .inr ⟨O,hk,_,_,rfl⟩
    ·have U:=(if_neg O).symm.trans J;cases U
theorem DB {l:OpenLaw}{n k:Nat}{q:Program}{L:List Str}{XP:(Str->Option Value)->Heap->Prop}{YP:World->Heap->Prop}{d:DefRec}{K:Params->Frag}{CX:World->oU}{sp:World->Sp}{x:Str}{tabs:World->List (Addr×Addr)}
(hn:l.most=some n)(W:n<=sizeLine)(U:d.params.defaults=[])(hr:b8 k callerA)
(hY:∀(w:World) (h:Heap),YP w h->(K w.params).In h/\∀t∈tabs w,h.get? t.2=some (tabObj #[]))(aj:∀w:World,noTabs @ce=true)(aa:∀w:World,∀t∈tabs w,codeHdIn @ce t.1 t.2=true)
(F:∀(w:World) (mg:Str->Option Value) (fa:Addr) (h:Heap),(K w.params).In h->h.Ns mainGlobals mg->mg d.name=some (.ref fa)->
   ∃fd:FuncData,(∀(s:Shared) (u:Value),BindsTo s fd ⟨[u],[]⟩ [(x,u)])/\
    ∀base:Heap,(K w.params).In base->base.Ns mainGlobals mg->kN base mg->az l.prog w @ce mg base (CX w) k fa fd [x] (sp w))
(Z:∀(w:World) (H:Hp) (a:Addr) (ns:List Int),ns.length<=n->(∀i∈ns,Builtin.Int.intBits i<=2^20)->(∀t∈tabs w,H t.2=some (.tbl #[]))->aN @ce H a @bW->sp w [.ref a] H (λv _=>v= .bl true) λ_ _ _=>False)
(am:∀(w:World) (H:Hp) (s:Shared) (e:Value) (s':Shared),CX w [] H s @eP e s'->False):
 WalkO q L XP YP l.row.toRowW d [] @dh:=by
 rwa[wK hn U λw s₀ s₁ mg mb fa o pm cd ac a vs ns G Y ho hd ab S O J j I hg=> ?_];obtain ⟨KX,hT⟩:=hY w _ Y;obtain ⟨fd,hb,hF⟩:=F w mg fa _ KX G.T.g S
 have al:kN s₁.heap mg:=by
  obtain ⟨bm,ob,h1,h2,h3,h4,h5,R⟩:=G.T.bmain;rwa[⟨bm,ob,h1,h2,λz=> ?_,h3,h4,h5,R⟩];obtain ⟨o',es,ep,e',d',_⟩:=G.T.g;rw [z,e'] at h3;cases h3;rw [d'] at R;cases R
 exact CL (tabs:=tabs w) (λt ht=>⟨codeHd_of_K KX (aa w t ht),hT t ht⟩) (aj w) al KX G.T.g G.T.b G.T.builtins G.T.nolimit hg O J (Nat.le_trans j W) hr hF hb (λH ad hS=>Z w H a ns j I ad hS) λH e s'=>am w H s₁ e s'
def AH (c:Addr)(q:Str):HO:= .ext λh=>h.CodeRec (.ref c) q
def AG (a:Addr)(o:Obj):HO:= .ext λh=>h.get? a=some o
section
variable {P:Program}{w:World}{H:Hp}{h:Heap}
theorem Kh {c:Addr}{q:Str}(e:h.CodeRec (.ref c) q):bH P w H h c (AH c q):=by
 obtain ⟨c0,O,W,Y,I,ab,hd,Z⟩:=id e;cases I
 exact ⟨e,⟨O,ab⟩,λh1 h2 z k=>by
  obtain ⟨U,j,R,J,L,S,F,G⟩:=z;cases L
  exact ⟨_,j,R,J,rfl,k _ S,F,G⟩⟩
theorem Bc {a:Addr}{o:Obj}(e:h.get? a=some o):bH P w H h a (AG a o):=⟨e,⟨o,e⟩,λh1 h2 z k=>k _ z⟩
end
def dI (H:Hp)(P:Addr)(q:Str):Prop:=∃ps,H P=some (.tbl ps)/\TriplesOk ps.toList/\∀pos cv,codeAmong pos ps.toList=some cv->∃c',cv= .ref c'/\H c'=some (AH c' q)
def gu (P:Addr)(H H':Hp):Prop:=∀b o,b≠P->H b=some o->H' b=some o
def bu (H H':Hp):Prop:=∀b o,(∀ps,o≠ .tbl ps)->H b=some o->H' b=some o
theorem bu.trans {H H1 H2:Hp}(a:bu H H1)(b:bu H1 H2):bu H H2:=λc o n e=>b c o n (a c o n e)
theorem aq.nt {H H':Hp}(s:aq H H'):bu H H':=λb o _ e=>s b o e
theorem gu.nt {P:Addr}{H H':Hp}{ps:Array Value}(s:gu P H H')(J:H P=some (.tbl ps)):bu H H':=λb o n e=>s b o (λz=>by rw [z,J] at e;cases e;exact n _ rfl) e
theorem dI.same {H H':Hp}{P:Addr}{q:Str}(t:dI H P q)(s:aq H H'):dI H' P q:=
 let ⟨ps,h1,h2,h3⟩:=t;⟨ps,s _ _ h1,h2,λpos G e=>let ⟨c',a,b⟩:=h3 pos G e;⟨c',a,s _ _ b⟩⟩
theorem dI.sameP {H H':Hp}{P F:Addr}{q:Str}{j:Array Value}(t:dI H P q)(s:gu F H H')(J:H F=some (.tbl j))(G:P≠F):dI H' P q:=
 let ⟨ps,h1,h2,h3⟩:=t;⟨ps,s _ _ G h1,h2,λpos I e=>let ⟨c',a,b⟩:=h3 pos I e;⟨c',a,s _ _ (λz=>by rw [z,J] at b;cases b) b⟩⟩
theorem lX {a b:Int}{t u:Tok}{c:Value}:∀ {l:List Value},TriplesOk l->TriplesOk (l++[.int a t,.int b u,c])
 |[],_=>trivial
 | .int _ _:: .int _ _::_::r,h=>lX (l:=r) h
theorem sJ {a b:Int}{t u:Tok}{c:Value}{pos:Pos}{G:Value}:∀ {l:List Value},TriplesOk l->codeAmong pos (l++[.int a t,.int b u,c])=some G->codeAmong pos l=some G\/G=c
 |[],_,h=>by
  simp only [nil_append,codeAmong] at h;split at h
  ·cases h;exact .inr rfl
  ·cases h
 | .int x _:: .int y _::z::r,ok,h=>by
   have h:(if x==pos.line&&y==pos.col then some z else codeAmong pos (r++[.int a t,.int b u,c]))=some G:=h;show (if x==pos.line&&y==pos.col then some z else codeAmong pos r)=some G\/_;by_cases j:(x==pos.line&&y==pos.col)=true
   ·rw [if_pos j] at h ⊢;exact .inl h
   ·rw [if_neg j] at h ⊢;exact sJ (l:=r) ok h
def Rn (P:Addr)(q:Str)(mk:Addr->Value->Obj):TE:=λσ H Q=>dI H P q/\∀f c' ctv H',gu P H H'->H f=none->H' f=some (AG f (mk c' ctv))->H' c'=some (AH c' q)->dI H' P q->Q (.ref f) H'
theorem E2 {X:Cx}{c P:Addr}{j:Arguments}{R:Expr}{scope:Scope}{F:List (Str×Addr)}{pos:Pos}(S:X.env.code= .ref c)(C:CodeHd X.base c P)(hB:kN X.base X.mg)(ae:defaultsOf j X.env=([],[]))(ad:closureFor scope X.env=pure F):
 PE X (.Lambda j R scope pos) (Rn P (X.env.qual++"<lambda>") λc' ctv=>kla_obj "<lambda>" (X.env.qual++"<lambda>") j R scope F ((X.mg "__name__").getD .none) c' ctv):=by
 intro pins s σ H Q I ⟨T,h⟩;rwa[kla_eval ae ?_];obtain ⟨ps,L,ht,hc⟩:=id T;have af:s.heap.get? P=some (tabObj ps):=I.hok P _ L;have C':=C.keeps I.bk;have hg:s.heap.Ns mainGlobals X.mg:=I.ok.mod.glob.keeps I.bk
 have nb:∀ {b:Addr} {o:Obj},X.base.get? b=some o->b≠P:=λ{b o} e z=>by have:=(I.bs b o e).2;rw [z,L] at this;cases this
 have al:mainGlobals≠P:=by
  obtain ⟨o,es,ep,e,_⟩:=I.ok.mod.glob;exact nb e
 have hb:s.heap.BuiltinsAt X.mg P:=by
  obtain ⟨bm,o,h1,h2,h3,h4,h5,h6,h7⟩:=hB;exact ⟨bm,o,h1,h2,h3,nb h4,I.bk _ _ h4,h5,h6,h7⟩
 cases hm:codeAmong pos ps.toList with
 |none=>
  rwa[kla_makeFunction ad I.ok.glob hg S C' af ht hm al hb λc' ctv h' tk hx O ab ac Y=> ?_];generalize Z:kla_obj "<lambda>" (X.env.qual++"<lambda>") j R scope F ((X.mg "__name__").getD .none) c' ctv=G;generalize aa:ps++ #[rawInt pos.line,rawInt pos.col,.ref c']=U at Y;have J:s.heap.objs.size<=h'.objs.size:=Nat.le_trans O (Nat.le_of_lt ab);have lt:∀ {b:Addr} {u:HO},H b=some u->b<s.heap.objs.size:=λe=>I.hok.lt e;have ai:c'≠P:=Nat.ne_of_gt (Nat.lt_of_lt_of_le (lt L) O);have ah:h'.objs.size≠P:=Nat.ne_of_gt (Nat.lt_of_lt_of_le (lt L) J);have ag:h'.objs.size≠c':=Nat.ne_of_gt ab;have an:H c'=none:=I.hok.fresh O;have W:H h'.objs.size=none:=I.hok.fresh J
  let H':Hp:=upd (upd (upd H P (.tbl U)) c' (AH c' (X.env.qual++"<lambda>"))) h'.objs.size (AG h'.objs.size G)
  have ne:∀ {b:Addr} {u:HO},b≠P->H b=some u->H' b=some u:=λ{b u} nP e=>by
   have l:=lt e;show upd @bU h'.objs.size _ b=_;rw [ao (Nat.ne_of_lt (Nat.lt_of_lt_of_le l J)),ao (Nat.ne_of_lt (Nat.lt_of_lt_of_le l O)),ao nP];exact e
  have eP:H' P=some (.tbl U):=by
   show upd @bU h'.objs.size _ P=_;rw [ao ah.symm,ao ai.symm];exact aj
  have ec:H' c'=some (AH c' (X.env.qual++"<lambda>")):=by
   show upd @bU h'.objs.size _ c'=_;rw [ao ag.symm];exact aj
  have ef:H' h'.objs.size=some (AG h'.objs.size G):=aj;have kp:∀b o,b≠P->s.heap.get? b=some o->(h'.push G).get? b=some o:=λb o nP e=>Heap.get?_push_of_some _ (hx b o nP e);have tP:(h'.push G).get? P=some (tabObj U):=Heap.get?_push_of_some _ Y
  have nP:∀ {b:Addr},H b=none->b≠P:=λ{b} n z=>by rw [z,L] at n;cases n
  have un:Un X.fs [] H H' s.heap (h'.push G):=by
   rwa[⟨λb o e n _ _=>kp b o (nP n) e,λb o e n _ _=>⟨o.slots,kp b o (nP n) e⟩,λb o e n _=> ?_,λb o e _=> ?_,λb xs e=>ne (λz=>by rw [z,L] at e;cases e) e,λb o u e=>ne (λz=>by rw [z,L] at e;cases e) e,λb qs e=> ?_⟩]
   ·have l:=Heap.lt_size e;show upd @bU h'.objs.size _ b=_;rw [ao (Nat.ne_of_lt (Nat.lt_of_lt_of_le l J)),ao (Nat.ne_of_lt (Nat.lt_of_lt_of_le l O)),ao (nP n)];exact n
   ·by_cases z:b=P
    ·exact ⟨_,by rw [z];exact tP⟩
    ·exact ⟨o,kp b o z e⟩
   ·by_cases z:b=P
    ·rw [z,L] at e;cases e;exact ⟨#[rawInt pos.line,rawInt pos.col,.ref c'],by rw [z,eP,<-aa]⟩
    ·exact ⟨#[],by rw [ne z e];simp⟩
  have am:gQ X.prog X.w H' (h'.push G):=by
   intro b u e;by_cases z1:b=h'.objs.size
   ·rw [z1,ef] at e;cases e;rw [z1];exact Bc (Heap.get?_push_size _ (by rw [<-Z];rfl))
   by_cases z2:b=c'
   ·rw [z2,ec] at e;cases e;rw [z2];exact Kh (ac.keeps λb o e=>Heap.get?_push_of_some _ e)
   by_cases z3:b=P
   ·rw [z3,eP] at e;cases e;rw [z3];exact tP
   ·have e':H b=some u:=by
     have e:upd @bU h'.objs.size _ b=some u:=e;rw [ao z1,ao z2,ao z3] at e;exact e
    rwa[(I.hok b u e').stay (λd v hd r=> ?_) (λd r=>ne (λz=>by rw [z,L] at r;cases r) r) λd xs r=>ne (λz=>by rw [z,L] at r;cases r) r];rwa[kp d v @k r]
    rcases hd with hd|hd
    ·exact z3 (hd.symm.trans z)
    ·rw [z,L] at hd;cases hd
  rwa[⟨.ref h'.objs.size,H',I.un (t':=tk) un am,rfl,h _ c' ctv H' (λb o n e=>ne n e) W (by rw [<-Z] at ef;exact ef) ec ⟨U,eP,?_,λpos' cv e=> ?_⟩⟩]
  ·rw [<-aa,Array.toList_append];exact lX ht
  ·rw [<-aa,Array.toList_append] at e
   rcases sJ ht e with z|z
   ·obtain ⟨d,e1,e2⟩:=hc pos' cv z;exact ⟨d,e1,ne (λy=>by rw [y,L] at e2;cases e2) e2⟩
   ·exact ⟨c',z,ec⟩
 |some cv=>
  obtain ⟨c',rfl,ak⟩:=hc pos cv hm;rwa[kla_makeFunctionHit ad I.ok.glob hg S C' af ht hm hb λctv h' tk hk J=> ?_];have k2:∀b o,s.heap.get? b=some o->(h'.push (kla_obj "<lambda>" (X.env.qual++"<lambda>") j R scope F ((X.mg "__name__").getD .none) c' ctv)).get? b=some o:=λb o e=>Heap.get?_push_of_some _ (hk b o e);have W:H h'.objs.size=none:=I.hok.fresh J;have sm:aq H (upd H h'.objs.size (AG h'.objs.size (kla_obj "<lambda>" (X.env.qual++"<lambda>") j R scope F ((X.mg "__name__").getD .none) c' ctv))):= .upd W;exact ⟨.ref h'.objs.size,_,I.laid (t':=tk) k2 J (Bc (Heap.get?_push_size _ rfl)),rfl,h _ c' ctv _ (λb o _ e=>sm b o e) W aj (sm _ _ ak) (T.same sm)⟩
structure jV (ps fs:List Str)(sc:Scope):Prop where
 kind:sc.kind= .function
 co:sc.isCoroutine=false
 gen:sc.isGenerator=false
 nd:(ps++fs).Nodup
 par:∀x∈ps,sc.names.lookup x=some .local
 fre:∀x∈fs,sc.names.lookup x=some .free
 nocell:∀x∈sc.names,x.2≠ .cell
 only:∀y∈sc.names,y.2= .free->y.1∈fs
noncomputable def P7 (P:Program)(w:World)(K:Frag)(mg:Str->Option Value)(base:Heap)(N:List Str)(qual:Str)(scope:Scope)(f:Addr)(cd:Value)(cl:List (Str×Addr))(A:Around)(outer:List Env)(s:Shared)(H:Hp):Cx where
 prog:=P
 w:=w
 K:=K
 mg:=mg
 base:=base
 A:=A.deeper (envX qual scope s.heap.objs.size f cd cl)
 N:=N
 s₀:=s
 H₀:=H
 env:=envX qual scope s.heap.objs.size f cd cl
 outer:=outer
 stack:=envX qual scope s.heap.objs.size f cd cl::outer
 ex:=[]
 calm:=true
 fn:=λ_=>false
 pn:=[]
 xe:=λ_ _=>False
theorem Aj {ps:List Str}{us:List Value}{i:Nat}{x:Str}{u:Value}(L:ps.Nodup)(h1:ps[i]? =some x)(h2:us[i]? =some u):(ps.zip us).reverse.lookup x=some u:=by
 have I:(ps.zip us)[i]? =some (x,u):=by rw [getElem?_zip_eq_some];exact ⟨h1,h2⟩
 have J:(x,u)∈(ps.zip us).reverse:=mem_reverse.mpr (mem_of_getElem? I)
 have z:∀v,(x,v)∈(ps.zip us).reverse->v=u:=λv W=>by
  obtain ⟨j,Z⟩:=mem_iff_getElem?.mp (mem_reverse.mp W);obtain ⟨G,F⟩:=getElem?_zip_eq_some.mp Z;have:j=i:=re L G h1;subst this;rw [h2] at F;exact (Option.some.inj F).symm
 cases e:(ps.zip us).reverse.lookup x with
 |none=>
  have:=lookup_eq_none_iff.mp e (x,u) J;simp at this
 |some v=>rw [z v (PySem.mem_of_lookup e)]
theorem JN {P:Program}{w:World}{K:Frag}{mg:Str->Option Value}{base:Heap}{k:Nat}{f c':Addr}{name qual:Str}{F:Arguments}{R:Expr}{scope:Scope}{G:List (Str×Addr)}{pm ad:Value}{ps fs:List Str}{A:Around}{outer:List Env}{s:Shared}{H:Hp}{us:List Value}{vs fvs:List V}{Q:VK}{E:XK}
(S:jV ps fs scope)(hf:s.heap.get? f=some (kla_obj name qual F R scope G pm c' ad))(ak:s.heap.CodeRec (.ref c') qual)(hr:b8 (k+1) A)(U:oS P w K mg base A outer s H)
(ac:bindArgs (kla_fn name qual F R scope G pm (.ref c') ad) ⟨us,[]⟩=pure @cH)(r:aU vs us)(hl:vs.length=ps.length)(al:fvs.length=fs.length)
(j:∀(i:Nat) x v,fs[i]? =some x->fvs[i]? =some v->∃c u,G.lookup x=some c/\aK v u/\s.heap.IsCell c @fq)(ae:∀x c,G.lookup x=some c->x∈fs)
(af:∀x y c,G.lookup x=some c->G.lookup y=some c->x=y)(Z:∀x c,G.lookup x=some c->H c=none)
(Y:b8 k (A.deeper (envX qual scope s.heap.objs.size f (.ref c') G))->∃t,PE (P7 P w K mg base (ps++fs) qual scope f (.ref c') G A outer s H) R t/\t ((vs++fvs).map some) H Q):
 codeAny @bg A (.call (.ref f) ⟨us,[]⟩) @dx s:=by
 have ul:us.length=ps.length:=by rw [<-r.length,hl]
 rwa[kla_callFunE hr.depth hf rfl S.co S.gen rfl ak ?_];rw [ac];have ai:s.heap.NoLimit:=U.mod.nolimit.keeps λb o e=>(U.bs b o e).1;rwa[wpAny_pure (wpAny_newFunctionEnv S.nocell (λy W=>S.par _ (of_mem_zip W).1) (λh₁ ah ag=>⟨ai.fresh _ ag,?_⟩) S.kind)];show codeAny _ _ (.expr R (envX qual scope s.heap.objs.size f (.ref c') G)) _ _;have hk:∀b o,s.heap.get? b=some o->h₁.get? b=some o:=λb o e=>ag.extBut b o (Nat.ne_of_lt @co) (Heap.get?_push_of_some _ e);obtain ⟨t,ht,hq⟩:=Y (hr.deeper _)
 have L:∀x c,G.lookup x=some c->∃u,s.heap.IsCell c @fq:=λx c e=>by
  obtain ⟨i,hi⟩:=mem_iff_getElem?.mp (ae x c e);have aj:i<fs.length:=(List.getElem?_eq_some_iff.mp hi).1;obtain ⟨c2,u,e2,_,hc⟩:=j i x _ hi (getElem?_eq_getElem @c);rw [e] at e2;cases e2;exact ⟨u,hc⟩
 have O:∀ {c:Addr} {v:Option Value},s.heap.IsCell c v->h₁.IsCell c v:=λ{c v} ⟨o,ho,hd⟩=>⟨o,hk _ _ ho,hd⟩;have ab:∀x,scope.names.lookup x=some .free->x∈fs:=λx e=>S.only _ (PySem.mem_of_lookup e) rfl
 have I:aB (P7 P w K mg base (ps++fs) qual scope f (.ref c') G A outer s H) [] ((vs++fvs).map some) H {s with heap:=h₁,toks:=s.toks+(ps.zip us).length}:=by
  have aa:∀b:Addr,b∉(P7 P w K mg base (ps++fs) qual scope f (.ref c') G A outer s H).ex:=λb z=>absurd (show b∈([]:List Addr) from z) @g
  refine ⟨⟨U.mod,S.kind,rfl,rfl,Nat.le_refl _,af,λy W=> ?_,λy c z _=>(nomatch (show false=true from z)),λ_=>hr.hd,Around.frames_deeper U.frames,.inr ⟨rfl,rfl⟩,λb z=>absurd z (aa b),U.bs,U.bsz,λb _ _=>aa b,λb z=>absurd z (aa b),U.funs,U.frf⟩,
   rfl,U.bare,Un.kept hk,⟨_,ah,λi y v h1 h2 h3=> ?_⟩,λy c h=> ?_,U.hok.fresh @f,Z,λp hp=>absurd (show p∈([]:List (Addr×Obj)) from hp) @g,U.hok.kept hk,?_⟩
  ·have W:scope.names.lookup y=some .cell\/scope.names.lookup y=some .free:=W
   rcases W with W|W
   ·exact absurd rfl (S.nocell _ (PySem.mem_of_lookup W))
   ·obtain ⟨i,hi⟩:=mem_iff_getElem?.mp (ab y W);have aj:i<fs.length:=(List.getElem?_eq_some_iff.mp hi).1;obtain ⟨c2,u,e2,_⟩:=j i y _ hi (getElem?_eq_getElem @c);exact ⟨c2,e2⟩
  ·have h1:(ps++fs)[i]? =some y:=h1;rw [getElem?_map] at h2;obtain ⟨v',hv,e⟩:=Option.map_eq_some_iff.mp h2;cases e;by_cases hi:i<ps.length
   ·rw [getElem?_append_left hi] at h1;rw [getElem?_append_left @c] at hv;obtain ⟨u,hu,rv⟩:=r.get hv;rwa[⟨u,rv,.inl ⟨S.par y (mem_of_getElem? h1),?_⟩⟩];exact Aj (nodup_append.mp S.nd).1 h1 hu
   ·rw [getElem?_append_right @c] at h1;rw [getElem?_append_right @c,hl] at hv;obtain ⟨c,u,e2,rv,hc⟩:=j _ y _ h1 hv;exact ⟨u,rv,.inr ⟨.inr (S.fre y (mem_of_getElem? h1)),c,e2,O hc⟩⟩
  ·obtain ⟨u,hc⟩:=L y c h;exact ⟨_,O hc⟩
  ·show _=(ps++fs).length;rw [length_map,length_append,length_append];lia
 rwa[kla_codeExpr (wpAny_mono (ht [] _ _ H Q I hq) (λu s' hs=> ?_) λe s' hs=>False.elim hs)];obtain ⟨v,H',J,rv,q⟩:=hs;exact ⟨v,H',J.os,J.bare,J.base,J.hok,rv,q⟩
structure m8 (P:Program)(w:World)(K:Frag)(mg:Str->Option Value)(base:Heap)(n:Nat)(f:Addr)(sp:Sp):Prop where
 run:∀(A:Around) (outer:List Env) (s:Shared) (H:Hp) (us:List Value) (vs:List V) (Q:VK) (E:XK),b8 n A->oS P w K mg base A outer s H->aU vs us->sp vs H Q E->codeAny @bg A (.call (.ref f) ⟨us,[]⟩) @dx s
 keep:∀(vs:List V) (H:Hp) (Q:VK) (E:XK) (h:Heap),sp vs H Q E->gQ P w H h->K.In h->∃k,(k=Keeper.frame\/k=Keeper.machine\/k=Keeper.boundFrame)/\Looks @bg h @eu k
theorem R7.cal {P:Program}{w:World}{K:Frag}{mg:Str->Option Value}{base:Heap}{n:Nat}{f:Addr}{ps:List Str}{sp:Sp}(F:R7 P w K mg base n f ps sp):m8 P w K mg base n f sp:=by
 obtain ⟨fd,F,b,k⟩:=F;rwa[⟨λA outer s H j L Q E Y G r h=> ?_,λL H Q E h _ _ z=>keeps_K k h z⟩];have z:K.In s.heap:=G.mod.kin.keeps λb o e=>(G.bs b o e).1
 have W:aU L (j++[]):=by rw [append_nil];exact r
 have I:(j++[]).length=ps.length:=by rw [<-W.length];exact F.len _ _ _ _ h
 exact F.run A outer s H ⟨j,[]⟩ (j++[]) L Q E Y G (b s j z I) W h
section
variable {X:Cx}{x:Str}{p pos:Pos}{e:Expr}{es:List Expr}{t:TA}{n m:Nat}
def LU (P:Program)(w:World)(K:Frag)(mg:Str->Option Value)(base:Heap)(m:Nat)(i:Nat)(t:TA):TE:=λσ H Q=>∃f n sp,σ[i]? =some @bf/\n<=m/\m8 P w K mg base n f sp/\t σ H λvs H1=>sp vs H1 Q E0
theorem E7 (i:Nat)(hr:b8 m X.A)(hN:X.N[i]? =some x)(Y:Qg X.env.scope x)(ha:PA X (e::es) t)(R:(x==("__debug__":Str))=false:=by decide)(U:(x==("__classdict__":Str))=false:=by decide)
(hp:bd (e::es)=true:=by rfl):PE X (.Call (.Name x p) (e::es) [] pos) (LU X.prog X.w X.K X.mg X.base m i t):=by
 have h':(cc e&&bd es)=true:=hp;rw [Bool.and_eq_true] at h';intro pins s σ H Q I h;obtain ⟨f,n,sp,hσ,hn,C,h⟩:=h;rwa[wpAny_Call_Name_kw (bP (EY (X:=X) hN Y R U pins s σ H (λv H1=>v= .ref f/\H1=H) I ⟨.ref f,hσ,rfl,rfl⟩) λu W ⟨v,H0,I0,F,ev,eH⟩=> ?_)];subst ev;subst eH;have F:u=Value.ref f:=F;subst F;have he:=bv (env:=X.env) (es:=es) h'.1;have G:(backTo pos @N).any (·.1)=false:=cL h'.2
 have j:wpAny @e X.A (spliced (backTo pos (starEach (e::es) X.env))) (λS O=>(∃k,(k=Keeper.frame\/k=Keeper.machine\/k=Keeper.boundFrame)/\Looks @e O.heap @eu k)/\wpAny @e X.A (call (.ref f) ([]++S)) @A X.xe O) X.xe W:=by
  rwa[bP (ha pos pins W σ H0 _ I0 h) λS O ⟨Z,H1,J,r,q⟩=>⟨C.keep _ _ _ _ _ q J.hok J.kIn,?_⟩];rwa[wpAny_call (codeAny_mono (C.run X.A X.stack O H1 S Z Q E0 (hr.mono hn) J.env0 r q) λr s' L=> ?_)]
  cases r with
  |error e=>exact False.elim L
  |ok fl=>
   cases fl with
   |ret u=>exact J.after L
   |next=>exact False.elim L
   |brk=>exact False.elim L
   |cont=>exact False.elim L
 rw [he] at j ⊢;exact callWith_of (P:=λh=>∃k,(k=Keeper.frame\/k=Keeper.machine\/k=Keeper.boundFrame)/\Looks @e h @eu k) (by show ((false||(backTo pos @N).any (·.1))||false)=false;rw [G];rfl) (λh z=>z) (evalArgs_plain j)
end
theorem az.calm {P:Program}{w:World}{K:Frag}{mg:Str->Option Value}{base:Heap}{k:Nat}{f:Addr}{fd:FuncData}{ps:List Str}{sp:Sp}(F:az P w K mg base @cr k f fd ps sp):az P w K mg base bg k f fd ps (λvs H Q _=>sp vs H Q E0):=by
 rwa[⟨λvs H Q E h=>F.len _ _ _ _ h,λA outer s H j G vs Q E Y J O r h=>codeAny_mono (F.run A outer s H j G vs Q E0 Y J O r h) λS s' L=> ?_⟩]
 cases S with
 |ok fl=>cases fl<;>exact L
 |error e=>obtain ⟨a,T,I,U,H',_,_,_,_,_,_,_,_,_,_,z⟩:=L;exact z.elim
theorem Do.calm {P:Program}{w:World}{K:Frag}{mg:Str->Option Value}{base:Heap}{n:Nat}{x:Str}{ps:List Str}{sp:Sp}(c:Do P w K mg base n x ps sp):bf P w K mg base n x ps (λvs H Q _=>sp vs H Q E0):=by
 obtain ⟨f,fd,F,b,k,j⟩:=c.ex;exact ⟨f,fd,F.calm,b,k,j⟩
section
variable {X:Cx}{pins:List (Addr×Obj)}{σ:St}{H:Hp}{s:Shared}{h':Heap}
theorem aB.sub {j:List (Addr×Obj)}(I:aB X pins σ H s)(h:∀p∈j,p∈pins):aB X j σ H s:=I.pins_of λp G=>I.pin p (mem_append_right _ (h p G))
theorem aB.repin {t':Nat}{a:Addr}{o o':Obj}(I:aB X ((a,o)::pins) σ H s)(L:X.s₀.heap.objs.size<=a)(j:∀p∈X.pn++pins,p.1≠a)(k:∀b u,b≠a->s.heap.get? b=some u->h'.get? b=some u)(O:h'.get? a=some o')(S:∀v,o'.data≠ .cell v):
 aB X ((a,o')::pins) σ H {s with heap:=h',toks:=t'}:=by
 obtain ⟨U,p2,F,W,Y⟩:=I.pin (a,o) @H;have R:aB X pins σ H s:=I.sub λp G=> .tail _ G
 have J:aB X pins σ H {s with heap:=h',toks:=t'}:=R.turned (it:=a) k p2 F (.inr L) (λx c e z=>by
  obtain ⟨v,Z,h1,h2⟩:=I.cell x c e;rw [z] at h1;have U:s.heap.get? a=some o:=U;rw [U] at h1;cases h1
  exact Y v h2) j
 rwa[J.pins_of λp G=> ?_]
 rcases mem_cons.mp G with rfl|G
 ·exact ⟨O,p2,F,W,S⟩
 ·exact J.pin p @bY
theorem aB.pinNew {t':Nat}{a:Addr}{o:Obj}(I:aB X pins σ H s)(G:s.heap.objs.size<=a)(k:∀b u,s.heap.get? b=some u->h'.get? b=some u)(j:h'.get? a=some o)(J:∀v,o.data≠ .cell v):aB X ((a,o)::pins) σ H {s with heap:=h',toks:=t'}:=by
 rwa[(I.kept (t':=t') k).pins_of λp L=> ?_]
 rcases mem_cons.mp L with rfl|L
 ·exact ⟨j,I.hok.fresh G,Nat.ne_of_gt (Nat.lt_of_lt_of_le I.lt G),I.nofs G,J⟩
 ·exact (I.kept (t':=t') k).pin p (mem_append_right _ L)
end
def Hh (X:Cx)(σ:St)(f:Addr)(xs:List V)(J:Hp->Prop)(kf:Nat->Int):Prop:=
 ∀(pins:List (Addr×Obj)) (s:Shared) (H:Hp) (i:Nat) (v:V) (u:Value),aB X pins σ H s->J H->xs[i]? =some v->aK v u->
  wpAny @e X.A.in1 @es (λr s'=>∃H',aB X pins σ H' s'/\aK (.int (kf i)) r/\J H') @dR s
def Oa (xs:List V)(kf:Nat->Int)(i:Nat):Prop:=∀j,j<xs.length->kf i<=kf j/\(j<i->kf i<kf j)
theorem j4 {X:Cx}{pins:List (Addr×Obj)}{σ:St}{H:Hp}{s:Shared}{l:Addr}{xs:List V}(I:aB X pins σ H s)(e:H l=some (.lst xs)):∃us:List Value,aU xs us/\s.heap.IsList l us.toArray:=by
 obtain ⟨_,us,n,r,h1⟩:=(show bH X.prog X.w H s.heap l (.lst xs) from I.hok l _ e);exact ⟨us,r,_,h1,rfl,n,rfl⟩
theorem JF {X:Cx}{pins:List (Addr×Obj)}{σ:St}{l S It f:Addr}{xs:List V}{dv:Value}{R:Result->Shared->Prop}(L:Nat->Int)(J:Hp->Prop)(hh:X.A.handled=none)(ae:∀H,J H->H l=some (.lst xs))
(aC:X.s₀.heap.objs.size<=It)(ar:X.s₀.heap.objs.size<=S)(ag:∀p∈X.pn++pins,p.1≠It)(ak:∀p∈X.pn++pins,p.1≠S)(aa:S≠It)(az:Hh X σ f xs J L)
(hR:∀i v u s' H,xs[i]? =some v->aK v u->Oa xs L i->J H->aB X pins σ H s'->R (.ok (.ret u)) s'):
 ∀(r j i:Nat) (s:Shared) (H:Hp) (v:V) (vb:Value) (tb:Tok) (c:Nat) (oI:Obj),xs.length - (j+1)=r->j+1<=xs.length->
  aB X ((S,seqObj "list" #[vb,.int (L i) tb] c)::(It,oI)::pins) σ H s->J H->s.heap.IsListIter It l (j+1)->xs[i]? =some v->aK v vb->i<=j->(∀j',j'<=j->L i<=L j'/\(j'<i->L i<L j'))->
  codeAny @e X.A (.builtin "min.loop" ⟨[.ref It,.ref f,.ref S],[("default",dv)]⟩) R s:=by
 have Z:(toString "min"++toString ".loop":String)="min.loop":=by decide
 have ap:∀(o:Obj),∀p∈X.pn++(S,o)::pins,p.1≠It:=λo p G=>by
  rcases mem_append.mp G with G|G
  ·exact ag p @cc
  ·rcases mem_cons.mp G with rfl|G
   ·exact aa
   ·exact ag p @bY
 have aw:∀(o:Obj),∀p∈X.pn++(It,o)::pins,p.1≠S:=λo p G=>by
  rcases mem_append.mp G with G|G
  ·exact ak p @cc
  ·rcases mem_cons.mp G with rfl|G
   ·exact aa.symm
   ·exact ak p @bY
 have af:∀ {a b:Addr×Obj},∀p∈a::b::pins,p∈b::a::pins:=λ{a b} p G=>by
  rcases mem_cons.mp G with rfl|G
  ·exact .tail _ (.head _)
  ·rcases mem_cons.mp G with rfl|G
   ·exact .head _
   ·exact .tail _ (.tail _ G)
 intro r
 induction r with
 |zero=>
  intro j i s H v vb tb c oI hr hj I hJ aj hv rv aI O;obtain ⟨us,ad,hl⟩:=j4 I (ae H hJ)
  have am:us.toArray.size=xs.length:=by rw [size_toArray,ad.length]
  have nS:=I.pin (S,_) @H;have nI:=I.pin (It,oI) @bb
  have al:l≠It:=λz=>by have:=nI.2.1;rw [<-z,ae H hJ] at this;cases this
  have W:=Walks.list (prog:=X.prog) (w:=X.w) (A:=X.A.in1) hh It l al us.toArray;rwa[codeAny_builtin PySem.F.entry_min_loop ?_];rw [Around.under_plainId PySem.F.plain_min_loop _];show wpAny _ X.A.in1 (seqItems? (.ref S)>>=_) _ _ _;rwa[wpAny_bind @cY];show wpAny _ X.A.in1 (tryCatch (pyNext (.ref It)) _>>=_) _ _ _;rwa[wpAny_bind (wpAny_tryCatch (W.done _ _ _ ⟨by rw [am,show xs.length=j+1 by lia];exact aj,hl⟩ λh1 ab U=> ?_))];have U:∀b u,b≠It->s.heap.get? b=some u->h1.get? b=some u:=λb u n e=>U b u (by simpa using n) e;have I0:aB X pins σ H s:=I.sub λp G=> .tail _ (.tail _ G)
  have an:∀ {a:Addr} {o:Obj},s.heap.get? a=some o->(∀v,o.data≠ .cell v)->∀x c,X.env.cells.lookup x=some c->c≠a:=λ{a o} ho hd x c e z=>by
   obtain ⟨v,oc,h1,h2⟩:=I.cell x c e;rw [z,ho] at h1;cases h1;exact hd v h2
  have aH:=U S _ aa nS.1;have s1:=Heap.SameBut.update h1 S (Obj.mapSeq λ_=>(#[]:Array Value));have I1:aB X pins σ H {s with heap:=h1,toks:=ab}:=I0.turned (it:=It) U nI.2.1 nI.2.2.1 (.inr aC) (an nI.1 nI.2.2.2.2) ag;have ax:∀x c,X.env.cells.lookup x=some c->c≠S:=an nS.1 nS.2.2.2.2;show wpAny _ X.A.in1 (updateSeq S (λ_=> #[])>>=_) _ _ _;rwa[wpAny_bind ?_];rwa[wpAny_updateSeq aH rfl (wpAny_bind (wpAny_letGo @bE))];rwa[hR i v vb _ H hv rv (λj' aA=>O j' @c) hJ ?_];exact I1.turned (it:=S) (λb u n e=>(s1.2 b n).trans e) nS.2.1 nS.2.2.1 (.inr ar) ax ak
 |succ r ih=>
  intro j i s H v vb tb c oI hr hj I hJ aj hv rv aI O
  have ac:j+1<xs.length:=by lia
  obtain ⟨us,ad,hl⟩:=j4 I (ae H hJ)
  have am:us.toArray.size=xs.length:=by rw [size_toArray,ad.length]
  have nS:=I.pin (S,_) @H;have nI:=I.pin (It,oI) @bb
  have al:l≠It:=λz=>by have:=nI.2.1;rw [<-z,ae H hJ] at this;cases this
  have W:=Walks.list (prog:=X.prog) (w:=X.w) (A:=X.A.in1) hh It l al us.toArray;rwa[codeAny_builtin PySem.F.entry_min_loop ?_];rw [Around.under_plainId PySem.F.plain_min_loop _];show wpAny _ X.A.in1 (seqItems? (.ref S)>>=_) _ _ _;rwa[wpAny_bind @cY];show wpAny _ X.A.in1 (tryCatch (pyNext (.ref It)) _>>=_) _ _ _;rwa[wpAny_bind (wpAny_tryCatch (W.item (j+1) _ _ _ (by rw [am];exact ac) ⟨aj,hl⟩ λu h1 ab hP aD U=> ?_))]
  have hu:us[j+1]? =some u:=by simpa using hP
  obtain ⟨v1,ai⟩:∃v1,xs[j+1]? =some v1:=⟨_,getElem?_eq_getElem ac⟩
  have ao:aK v1 u:=by
   obtain ⟨u',au,ru⟩:=ad.get ai;rw [hu] at au;cases au;exact ru
  obtain ⟨Y,aG,av,ah⟩:=id aD.1;have U:∀b u,b≠It->s.heap.get? b=some u->h1.get? b=some u:=λb u n e=>U b u (by simpa using n) e
  have I1:aB X ((S,seqObj "list" #[vb,.int (L i) tb] c)::(It,Y)::pins) σ H {s with heap:=h1,toks:=ab}:=
   ((I.sub af).repin (t':=ab) aC (ap _) U aG λv e=>by rw [ah] at e;cases e).sub af
  show wpAny _ X.A.in1 (tryCatch (holding [u] @es) _>>=_) _ _ _;rwa[wpAny_bind (wpAny_tryCatch (wpAny_holding (wpAny_mono (az _ _ H (j+1) v1 u I1 hJ ai ao) (λx s2 he=> ?_) λ_ _ hF=>hF.elim)))];obtain ⟨H2,I2,⟨t2,rfl⟩,ay⟩:=he;have as:=I2.pin (S,_) @H;have aE:=I2.pin (It,Y) @bb;have aF:s2.heap.IsListIter It l (j+1+1):=⟨Y,aE.1,av,ah⟩;show wpAny _ X.A.in1 (tryCatch (holding [u,.int (L (j+1)) t2] (richCompare .Lt (.int (L (j+1)) t2) (.int (L i) tb)>>=_)) _>>=_) _ _ _;rwa[wpAny_bind (wpAny_tryCatch (wpAny_holding (wpAny_bind (CmpOf.ints_lt (prog:=X.prog) (w:=X.w) (A:=X.A.in1) (P:=λi v=>∃t,v= .int (L i) t) L (λi v h=>h) (j+1) i _ _ _ _ _ ⟨t2,rfl⟩ ⟨tb,rfl⟩ ?_))))];rwa[wpAny_bind (wpAny_holding (wpAny_truthy_bool ?_))];rwa[wpAny_bind (wpAny_letGo @bE)];by_cases aq:L (j+1)<L i
  ·have s1:=Heap.SameBut.update s2.heap S (Obj.mapSeq λ_=> #[u,.int (L (j+1)) t2]);obtain ⟨c2,aL⟩:∃c2,(s2.heap.update S (Obj.mapSeq λ_=> #[u,.int (L (j+1)) t2])).get? S=some (seqObj "list" #[u,.int (L (j+1)) t2] c2):=⟨_,get?_update_seq as.1 λ_=> #[u,.int (L (j+1)) t2]⟩;simp only [aq,decide_true,if_true];rwa[wpAny_bind ?_];rwa[wpAny_updateSeq as.1 rfl (wpAny_bind (wpAny_letGo ?_))];rw [Z];rwa[wpAny_pure ⟨plainId_quiet PySem.F.plain_min_loop _,ih (j+1) (j+1) _ H2 v1 u t2 c2 Y @c ac (I2.repin (t':=s2.toks) ar (aw _) (λb u n e=>(s1.2 b n).trans e) aL λv e=>by cases e) ay ⟨Y,(s1.2 It aa.symm).trans aE.1,av,ah⟩ ai ao @f λj' aA=> ?_⟩];by_cases e:j'=j+1
   ·subst e;exact ⟨by lia,λ_=>by lia⟩
   ·have aJ:=O j' @c;have aM:=aJ.1;exact ⟨by lia,λ_=>by lia⟩
  ·simp only [aq,decide_false,Bool.false_eq_true,if_false];rwa[wpAny_bind (wpAny_letGo ?_)];rw [Z];rwa[wpAny_pure ⟨plainId_quiet PySem.F.plain_min_loop _,ih (j+1) i _ H2 v vb tb c Y @c ac I2 ay aF hv rv @c λj' aA=> ?_⟩];by_cases e:j'=j+1
   ·subst e;exact ⟨by lia,λ_=>by lia⟩
   ·exact O j' @c
theorem G2 (a v d:Value):argsOk "min" ⟨[a],[(s!"key",v),(s!"default",d)]⟩:=by unfold argsOk;kernel_rfl
theorem Nf {X:Cx}{pins:List (Addr×Obj)}{σ:St}{H:Hp}{s:Shared}{l f:Addr}{xs:List V}{d:V}{dv:Value}{Q:VK}{E:Value->Shared->Prop}(hh:X.A.handled=none)(I:aB X pins σ H s)(aw:H l=some (.lst xs))(rd:aK d dv)
(h0:xs=[]->Q d H)(h1:xs≠[]->∃(kf:Nat->Int) (J:Hp->Prop),J H/\(∀H,J H->H l=some (.lst xs))/\Hh X σ f xs J kf/\∀i v H,xs[i]? =some v->Oa xs kf i->J H->Q v H):
 wpAny @e X.A (call (.builtin "min") [.ref l] [(s!"key",.ref f),(s!"default",dv)]) @A E s:=by
 have Z:(toString "min"++toString ".loop":String)="min.loop":=by decide
 obtain ⟨us,ae,ad⟩:=j4 I aw
 have aj:us.toArray.size=xs.length:=by rw [size_toArray,ae.length]
 obtain ⟨ol,ap,_⟩:=id ad;have av:l<s.heap.objs.size:=Heap.lt_size ap;rwa[kmk_tree PySem.F.kind_min PySem.F.plain_min PySem.F.entry_min (G2 _ _ _) ?_];show wpAny _ X.A.in1 (Builtin.Builtins.bindParams "min" ["key","default"] 0 ⟨[],[(s!"key",.ref f),(s!"default",dv)]⟩>>=_) _ _ s;rwa[wpAny_bind (wpAny_of_eq (show Builtin.Builtins.bindParams "min" ["key","default"] 0 ⟨[],[(s!"key",.ref f),(s!"default",dv)]⟩=pure [some (.ref f),some dv] from rfl) ?_)];rwa[wpAny_bind @bE];rwa[wpAny_bind (wpAny_pyIter_list ad ?_)];rwa[wpAny_bind (wpAny_newList ?_ @ed)];rw [Z];generalize L:s.heap.objs.size=j at *
 have I1:aB X ((j,{cls:= .type "list_iterator",data:= .fields #[.ref l,.int 0 0]})::pins) σ H {s with heap:=s.heap.push {cls:= .type "list_iterator",data:= .fields #[.ref l,.int 0 0]}}:=
  I.pinNew (t':=s.toks) (a:=j) (by rw [L];exact Nat.le_refl _) (λb u e=>Heap.get?_push_of_some _ e) (by rw [<-L];exact Heap.get?_push_size _ rfl) λv e=>by cases e
 have hS:(s.heap.push {cls:= .type "list_iterator",data:= .fields #[.ref l,.int 0 0]}).objs.size=j+1:=by rw [size_push',L]
 generalize al:(s.heap.push {cls:= .type "list_iterator",data:= .fields #[.ref l,.int 0 0]}).objs.size=S at *
 have I2:=I1.pinNew (t':=s.toks) (h':=(s.heap.push {cls:= .type "list_iterator",data:= .fields #[.ref l,.int 0 0]}).push (seqObj "list" #[] 0)) (a:=S) (o:=seqObj "list" #[] 0) (Nat.le_of_eq al) (λb u e=>Heap.get?_push_of_some _ e) (by rw [<-al];exact Heap.get?_push_size _ rfl) λv e=>by cases e
 have aa:S≠j:=by rw [hS];exact Nat.ne_of_gt @cl
 have aC:X.s₀.heap.objs.size<=j:=by rw [<-L];exact I.sz
 have ar:X.s₀.heap.objs.size<=S:=by rw [hS];exact Nat.le_succ_of_le aC
 have ah:∀p∈X.pn++pins,p.1<j:=λp G=>by rw [<-L];exact Heap.lt_size (I.pin p G).1
 have ag:∀p∈X.pn++pins,p.1≠j:=λp G=>Nat.ne_of_lt (ah p G)
 have ak:∀p∈X.pn++pins,p.1≠S:=λp G=>by rw [hS];exact Nat.ne_of_lt (Nat.lt_succ_of_lt (ah p G))
 have az:l≠j:=Nat.ne_of_lt av;rwa[wpAny_pure ⟨plainId_quiet PySem.F.plain_min_loop _,?_⟩];generalize aq:({s with heap:=(s.heap.push {cls:= .type "list_iterator",data:= .fields #[.ref l,.int 0 0]}).push (seqObj "list" #[] 0)}:Shared)=s2 at I2;show codeAny _ _ (.builtin "min.loop" ⟨[.ref j,.ref f,.ref S],[("default",dv)]⟩) _ s2;have nS:=I2.pin (S,_) @H;have nI:=I2.pin (j,_) @bb;have W:=Walks.list (prog:=X.prog) (w:=X.w) (A:=X.A.in1) hh j l az us.toArray
 have O:s2.heap.IsList l us.toArray:=by
  obtain ⟨o,a,b⟩:=ad;rw [<-aq];exact ⟨o,Heap.get?_push_of_some _ (Heap.get?_push_of_some _ a),b⟩
 rwa[codeAny_builtin PySem.F.entry_min_loop ?_];rw [Around.under_plainId PySem.F.plain_min_loop _];show wpAny _ X.A.in1 (seqItems? (.ref S)>>=_) _ _ _;rwa[wpAny_bind @cY];show wpAny _ X.A.in1 (tryCatch (pyNext (.ref j)) _>>=_) _ _ _;by_cases hx:xs=[]
 ·rwa[wpAny_bind (wpAny_tryCatch (W.done _ _ _ ⟨by rw [aj,hx];exact ⟨_,nI.1,rfl,rfl⟩,O⟩ λh1 ab U=> ?_))]
  have I3:aB X pins σ H {s2 with heap:=h1,toks:=ab}:=(I2.sub λp G=> .tail _ (.tail _ G)).turned (it:=j) (λb u n e=>U b u (by simpa using n) e) nI.2.1 nI.2.2.1 (.inr aC) (λx c e z=>by
   obtain ⟨v,oc,h1,h2⟩:=I2.cell x c e;rw [z,nI.1] at h1;cases h1
   exact nI.2.2.2.2 v h2) ag
  exact wpAny_bind (wpAny_rule (wpAny_pure ⟨d,H,I3,rd,h0 hx⟩))
 ·obtain ⟨kf,J,hJ,an,ac,hQ⟩:=h1 hx;have R:0<xs.length:=length_pos_iff.mpr hx;rwa[wpAny_bind (wpAny_tryCatch (W.item 0 _ _ _ (by rw [aj];exact R) ⟨⟨_,nI.1,rfl,rfl⟩,O⟩ λu h1 ab hP aD U=> ?_))]
  have hu:us[0]? =some u:=by simpa using hP
  obtain ⟨v1,ai⟩:∃v1,xs[0]? =some v1:=⟨_,getElem?_eq_getElem R⟩
  have ao:aK v1 u:=by
   obtain ⟨u',au,ru⟩:=ae.get ai;rw [hu] at au;cases au;exact ru
  obtain ⟨Y,aG,ay,am⟩:=id aD.1;have U:∀b u,b≠j->s2.heap.get? b=some u->h1.get? b=some u:=λb u n e=>U b u (by simpa using n) e
  have af:∀ {a b:Addr×Obj},∀p∈a::b::pins,p∈b::a::pins:=λ{a b} p G=>by
   rcases mem_cons.mp G with rfl|G
   ·exact .tail _ (.head _)
   ·rcases mem_cons.mp G with rfl|G
    ·exact .head _
    ·exact .tail _ (.tail _ G)
  have I3:aB X ((S,seqObj "list" #[] 0)::(j,Y)::pins) σ H {s2 with heap:=h1,toks:=ab}:=
   ((I2.sub af).repin (t':=ab) aC (λp G=>by
     rcases mem_append.mp G with G|G
     ·exact ag p @cc
     ·rcases mem_cons.mp G with rfl|G
      ·exact aa
      ·exact ag p @bY) U aG λv e=>by rw [am] at e;cases e).sub af
  show wpAny _ X.A.in1 (tryCatch (holding [u] @es) _>>=_) _ _ _;rwa[wpAny_bind (wpAny_tryCatch (wpAny_holding (wpAny_mono (ac _ _ H 0 v1 u I3 hJ ai ao) (λx s3 he=> ?_) λ_ _ hF=>hF.elim)))];obtain ⟨H3,I4,⟨t2,rfl⟩,aA⟩:=he;have as:=I4.pin (S,_) @H;have aE:=I4.pin (j,Y) @bb;have s1:=Heap.SameBut.update s3.heap S (Obj.mapSeq λ_=> #[u,.int (kf 0) t2]);obtain ⟨c2,ax⟩:∃c2,(s3.heap.update S (Obj.mapSeq λ_=> #[u,.int (kf 0) t2])).get? S=some (seqObj "list" #[u,.int (kf 0) t2] c2):=⟨_,get?_update_seq as.1 λ_=> #[u,.int (kf 0) t2]⟩;show wpAny _ X.A.in1 (updateSeq S (λ_=> #[u,.int (kf 0) t2])>>=_) _ _ _;rwa[wpAny_bind ?_];rwa[wpAny_updateSeq as.1 rfl ?_];rw [Z];rwa[wpAny_pure ⟨plainId_quiet PySem.F.plain_min_loop _,JF kf J hh an aC ar ag ak aa ac (λi v u s' H hv ru hb hJ I=>⟨v,H,I,ru,hQ i v H hv hb hJ⟩) _ 0 0 _ H3 v1 u t2 c2 Y rfl R (I4.repin (t':=s3.toks) ar (λp G=> ?_) (λb u n e=>(s1.2 b n).trans e) ax λv e=>by cases e) aA ⟨Y,(s1.2 _ aa.symm).trans aE.1,ay,am⟩ ai ao @f λj' aF=> ?_⟩]
  ·rcases mem_append.mp G with G|G
   ·exact ak p @cc
   ·rcases mem_cons.mp G with rfl|G
    ·exact aa.symm
    ·exact ak p @bY
  ·have e:j'=0:=by lia
   subst e;exact ⟨by lia,λh=>absurd h @bl⟩
structure pK (X:Cx)(fs:List Str)(js:List Nat)(cl:List (Str×Addr)):Prop where
 at_:∀(i:Nat) x,fs[i]? =some x->∃j c,js[i]? =some j/\X.N[j]? =some x/\X.env.scope.names.lookup x=some .cell/\X.env.cells.lookup x=some c/\cl.lookup x=some c
 dom:∀x c,cl.lookup x=some c->x∈fs/\X.env.cells.lookup x=some c
theorem F5 {X:Cx}{σ:St}{k:Nat}{f c':Addr}{name qual p0:Str}{F:Arguments}{R:Expr}{scope:Scope}{L:List (Str×Addr)}{pm ad:Value}{fs:List Str}{js:List Nat}{fvs:List V}{xs:List V}{J:Hp->Prop}{kf:Nat->Int}{t:TE}
(S:jV [p0] fs scope)(W:pK X fs js L)(ab:∀u:Value,bindArgs (kla_fn name qual F R scope L pm (.ref c') ad) ⟨[u],[]⟩=pure [(p0,u)])(hr:b8 (k+1) X.A.in1)
(O:js.map (λj=>σ[j]?)=fvs.map λv=>some @bI)(ak:js.length=fs.length)
(hJ:∀H,J H->H f=some (AG f (kla_obj name qual F R scope L pm c' ad))/\H c'=some (AH c' qual))
(hb:∀(s:Shared) (H:Hp),b8 k (X.A.in1.deeper (envX qual scope s.heap.objs.size f (.ref c') L))->PE (P7 X.prog X.w X.K X.mg X.base ([p0]++fs) qual scope f (.ref c') L X.A.in1 X.stack s H) R t)
(ht:∀i v H,xs[i]? =some v->J H->t (some v::fvs.map some) H λr H'=>r= .int (kf i)/\J H'):Hh X σ f xs J kf:=by
 intro pins s H i v u I aa hv rv;obtain ⟨hf,hc⟩:=hJ H aa
 have ai:fvs.length=fs.length:=by
  have:=congrArg List.length O;rw [length_map,length_map] at this;lia
 have ah:s.heap.get? f=some (kla_obj name qual F R scope L pm c' ad):=(I.hok f _ hf).1;have ae:s.heap.CodeRec (.ref c') qual:=(I.hok c' _ hc).1;rwa[wpAny_call (codeAny_mono (JN (Q:=λr H'=>r= .int (kf i)/\J H') (E:=E0) (fvs:=fvs) (vs:=[v]) (us:=[u]) S ah ae hr I.env0.in1 (ab u) (.cons rv .nil) rfl ai (λn x w h1 h2=> ?_) (λx c e=>(W.dom x c e).1) (λx y c e1 e2=>I.ok.inj x y c (W.dom x c e1).2 (W.dom y c e2).2) (λx c e=>I.freeC x c (W.dom x c e).2) λaj=>⟨t,hb s H aj,ht i v H hv aa⟩) λrr s' Z=> ?_)]
 ·obtain ⟨j,c,e1,e2,e3,e4,e5⟩:=W.at_ n x h1;obtain ⟨m,hn,U⟩:=I.loc
  have hσ:σ[j]? =some (some w):=by
   have:=congrArg (λl=>l[n]?) O;simp only [getElem?_map,e1,h2,Option.map_some,Option.some.injEq] at this;exact this
  obtain ⟨u0,af,Y⟩:=U j x w e2 hσ (.inr (.inl e3))
  rcases Y with ⟨z,_⟩|⟨_,c2,e6,G⟩
  ·have z:X.env.scope.names.lookup x=some .local:=z;rw [e3] at z;cases z
  ·rw [e4] at e6;cases e6;exact ⟨c,u0,e5,af,G⟩
 ·cases rr with
  |error e=>exact False.elim Z
  |ok fl=>
   cases fl with
   |ret u=>
    obtain ⟨v',H',I',ac,rfl,ag⟩:=I.after Z;exact ⟨H',I',ac,ag⟩
   |next=>exact False.elim Z
   |brk=>exact False.elim Z
   |cont=>exact False.elim Z
def Rl (q:Str)(mk:Addr->Value->Obj)(js:List Nat)(te tl td tb:TE):TE:=λσ H Q=>te σ H λx H1=>tl σ H1 λfv H2=>td σ H2 λd H3=>
 ∃l f xs,x= .ref l/\fv= .ref f/\H3 l=some (.lst xs)/\(xs=[]->Q d H3)/\(xs≠[]->∃(c':Addr) (ctv:Value) (fvs:List V) (kf:Nat->Int) (J:Hp->Prop),js.map (λj=>σ[j]?)=fvs.map (λv=>some @bI)/\J H3/\
  (∀H,J H->H l=some (.lst xs)/\H f=some (AG f (mk c' ctv))/\H c'=some (AH c' q))/\(∀i v H,xs[i]? =some v->J H->tb (some v::fvs.map some) H λr H'=>r= .int (kf i)/\J H')/\∀i v H,xs[i]? =some v->Oa xs kf i->J H->Q v H)
theorem E1 {X:Cx}{k:Nat}{p pos F aa ac:Pos}{e D:Expr}{te tl td tb:TE}{p0:Str}{R:Arguments}{L:Expr}{j:Scope}{O:List (Str×Addr)}{fs:List Str}{js:List Nat}(hc:X.calm=true)(hg:Gl X "min")(hm:X.mg "min"=none)(hr:b8 (k+2) X.A)
(he:PE X e te)(hl:PE X (.Lambda R L j F) tl)(hd:PE X D td)(S:jV [p0] fs j)(LI:pK X fs js O)(ak:js.length=fs.length)
(ab:∀(c':Addr) (ctv u:Value),bindArgs (kla_fn "<lambda>" (X.env.qual++"<lambda>") R L j O ((X.mg "__name__").getD .none) (.ref c') ctv) ⟨[u],[]⟩=pure [(p0,u)])
(hb:∀(f c':Addr) (s:Shared) (H:Hp),b8 k (X.A.in1.deeper (envX (X.env.qual++"<lambda>") j s.heap.objs.size f (.ref c') O))->PE (P7 X.prog X.w X.K X.mg X.base ([p0]++fs) (X.env.qual++"<lambda>") j f (.ref c') O X.A.in1 X.stack s H) L tb)
(hs:cc e=true:=by rfl):
 PE X (.Call (.Name "min" p) [e] [⟨some "key",.Lambda R L j F,aa⟩,⟨some "default",D,ac⟩] pos)
  (Rl (X.env.qual++"<lambda>") (λc' ctv=>kla_obj "<lambda>" (X.env.qual++"<lambda>") R L j O ((X.mg "__name__").getD .none) c' ctv) js te tl td tb):=by
 intro pins s σ H Q I h;have st:starEach [e] X.env=[(false,eval e X.env)]:=bv hs;rwa[wpAny_Call_Name_kw (oB I hg hm boot_min ?_)];rwa[callWith_kw (env:=X.env) ?_ (by rw [st];rfl) (by rw [st];rfl)];rw [st];show wpAny _ _ (spliced ((false,eval e X.env)::backTo pos (starEach [] X.env))) _ _ s;rwa[Calls.spliced_cons (bP @dU λu s1 ⟨x,H1,I1,Y,q1⟩=> ?_)];rwa[Calls.spliced_nil ?_];rwa[kws_cons (bP (hl pins s1 σ H1 _ I1 q1) λuf s2 ⟨fv,H2,I2,Z,q2⟩=> ?_)];rwa[kws_cons (bP (hd pins s2 σ H2 _ I2 q2) λud s3 ⟨d,H3,I3,r3,q3⟩=> ?_)];rwa[kws_nil ?_];obtain ⟨l,f,xs,rfl,rfl,W,h0,h1⟩:=q3;have Y:u=Value.ref l:=Y;have Z:uf=Value.ref f:=Z;subst Y Z;rwa[Nf (f:=f) @bS I3 W r3 h0 λhx=> ?_];obtain ⟨c',ctv,ad,kf,J,U,hJ,G,ht,hQ⟩:=h1 hx;exact ⟨kf,J,hJ,λH z=>(G H z).1,F5 S LI (ab c' ctv) hr.in1 U ak (λH z=>(G H z).2) (hb f c') ht,hQ⟩
section
variable {prog:Program}{w:World}{A:Around}{E:Value->Shared->Prop}{s:Shared}
theorem Ac {it t:Addr}{i:Nat}{j:Array Value}{x:Value}{Q:Value->Shared->Prop}(aj:s.heap.IsTupleIter it t i)(R:s.heap.IsTuple t j)(O:j[i]? =some x)
(L:∀h',h'.IsTupleIter it t (i+1)->Heap.SameBut it s.heap h'->Q x {s with heap:=h'}):wpAny @m A (Builtin.SmallTypes.nextOf (.ref it)) Q E s:=by
 obtain ⟨o,I,G,J⟩:=id aj;obtain ⟨U,ap,_,S,z⟩:=R;unfold Builtin.SmallTypes.nextOf;rwa[wpAny_bind (wpAny_callSpecial?_slot (name:=s!"__next__") aj.typeIs F.slot_tuple_iterator_next (wpAny_call_entry F.slot_tuple_iterator_next aj.typeIs F.entry_tuple_iterator_next ?_ (F.args_tuple_iterator_next_1 _)))];show wpAny _ _ (field (.ref it) 0>>=_) _ _ s;rwa[wpAny_bind (wpAny_field I J (x:= .ref t) rfl ?_)];show wpAny _ _ (if (Value.ref t==Value.none)=true then _ else _) _ _ s;rw [if_neg (show ¬((Value.ref t==Value.none)=true) from Bool.false_ne_true)];show wpAny _ _ (field (.ref it) 1>>=_) _ _ s;rwa[wpAny_bind (wpAny_field I J (x:= .int i 0) rfl ?_)];show wpAny _ _ (seqItems? (.ref t)>>=_) _ _ s;rwa[wpAny_bind (wpAny_seqItems ap z ?_)];simp only [Int.toNat_natCast,O];rwa[wpAny_bind (wpAny_setField I J @g (wpAny_pure ⟨x,rfl,wpAny_pure (L _ ?_ (Heap.SameBut.update ..))⟩))];exact ⟨_,Heap.get?_update_self _ I (Obj.isFreed_of_fields (Obj.data_mapFields J _)),(Obj.cls_mapFields ..).trans G,by rw [Obj.data_mapFields J];simp [rawInt]⟩
theorem jJ {it t:Addr}{i:Nat}{j:Array Value}{Q:Value->Shared->Prop}(L:A.handled=none)(aj:s.heap.IsTupleIter it t i)(R:s.heap.IsTuple t j)(O:j[i]? =none)
(G:∀h' e,Heap.ExtBut it s.heap h'->(∃o,h'.get? e=some o/\o.cls= .type "StopIteration")->E (.ref e) {s with heap:=h'}):wpAny @m A (Builtin.SmallTypes.nextOf (.ref it)) Q E s:=by
 obtain ⟨o,I,S,J⟩:=id aj;obtain ⟨W,ap,_,U,z⟩:=R;unfold Builtin.SmallTypes.nextOf;rwa[wpAny_bind (wpAny_callSpecial?_slot (name:=s!"__next__") aj.typeIs F.slot_tuple_iterator_next (wpAny_call_entry F.slot_tuple_iterator_next aj.typeIs F.entry_tuple_iterator_next ?_ (F.args_tuple_iterator_next_1 _)))];show wpAny _ _ (field (.ref it) 0>>=_) _ _ s;rwa[wpAny_bind (wpAny_field I J (x:= .ref t) rfl ?_)];show wpAny _ _ (if (Value.ref t==Value.none)=true then _ else _) _ _ s;rw [if_neg (show ¬((Value.ref t==Value.none)=true) from Bool.false_ne_true)];show wpAny _ _ (field (.ref it) 1>>=_) _ _ s;rwa[wpAny_bind (wpAny_field I J (x:= .int i 0) rfl ?_)];show wpAny _ _ (seqItems? (.ref t)>>=_) _ _ s;rwa[wpAny_bind (wpAny_seqItems ap z ?_)];simp only [Int.toNat_natCast,O];rwa[wpAny_bind (wpAny_rule (wpAny_bind (wpAny_setField I J @g ?_)))];show wpAny _ _ (newExc (.type "StopIteration") []>>=_) _ _ _;rwa[wpAny_bind ?_];simp only [newExc,newTuple];rwa[wpAny_bind (wpAny_newObj_type ?_ (by size_fits))];rwa[wpAny_bind (m:=firstArgMember _ _) (wpAny_of_eq (a:=Value.none) (by first|rfl|(simp only [firstArgMember];rfl)) ?_)];rwa[wpAny_newObj_type ?_ (by size_fits)];simp only [raiseNew];rwa[wpAny_bind (wpAny_handled ?_)]
 first|rw [show A.in1.handled=none from L]|rw [L]
 rwa[wpAny_bind (wpAny_pure (wpAny_throw ?_))];exact G _ _ (((Heap.SameBut.update ..).extBut.push _).push _) ⟨_,Heap.get?_push_size _ rfl,rfl⟩
end
theorem uH {prog:Program}{w:World}{A:Around}(L:A.handled=none)(it l:Addr)(G:l≠it)(j:Array Value):
 Draws prog w A it [it,l] j.size (λi v=>j[i]? =some v) (λi h=>h.IsTupleIter it l i/\h.IsTuple l j) where
 live:=λ_ _ st=>let ⟨o,ho,_⟩:=st.1;⟨o,ho⟩
 frame:=λ_ _ _ st R=>⟨st.1.at λo e=>R it @g o e,let ⟨o,ho,r⟩:=st.2;⟨o,R l @g o ho,r⟩⟩
 item:=λi s Q E hi st I=>by
  rwa[Ac st.1 st.2 (x:=j[i]) (by simp [hi]) λh' F z=> ?_];exact I _ h' s.toks (by simp [hi]) ⟨F,let ⟨o,ho,r⟩:=st.2;⟨o,(z.2 l G).trans ho,r⟩⟩ z
 done:=λs Q E st J=>jJ L st.1 st.2 @g J
open Sem (wp)
open AutoSeq1 (wpAny_loadPart')
theorem rh (l:Addr)(j:Array Value)(n:Nat)(z:Option Addr)(sl:Array @Z):
 Meets (Builtin.«enumerate.__new__» ⟨[.type "enumerate",.ref l],[]⟩) (λ_ R s=>s.heap.get? l=some {cls:= .type "tuple",dict:=z,data:= .seq j n,slots:=sl}/\
  R (.ok (.ret (.ref (s.heap.push {cls:= .type "tuple_iterator",data:= .fields #[.ref l,.int 0 0]}).objs.size)))
    {s with heap:=(s.heap.push {cls:= .type "tuple_iterator",data:= .fields #[.ref l,.int 0 0]}).push {cls:= .type "enumerate",data:= .fields #[.none,.bool false,.ref s.heap.objs.size,rawInt 0,.none,.none]}}):=
 .of_wp λprog w A R s h=>by
  obtain ⟨I,g,d,tk,os⟩:=s;obtain ⟨W,h⟩:=h;have F:=sub_enumerate;have G:Heap.IsTuple (Shared.heap ⟨I,g,d,tk,os⟩) l j:=⟨_,W,rfl,n,rfl⟩
  wp_walk using wpAny_loadPart' W
  rwa[wpAny_stack_any λst=>wpAny_pure ?_];split
  ·rename_i c _ _ _ _ _;cases (c==Value.type "enumerate")
   ·wp_walk using wpAny_loadPart' W,wpAny_pyIter_tuple G
    exact ⟨_,rfl,h⟩
   ·wp_walk using wpAny_loadPart' W,wpAny_pyIter_tuple G
    exact ⟨_,rfl,h⟩
  ·wp_walk using wpAny_loadPart' W,wpAny_pyIter_tuple G
   exact ⟨_,rfl,h⟩
theorem tT {prog:Program}{w:World}{A:Around}{E:Value->Shared->Prop}{s:Shared}{l:Addr}{j:Array Value}{Q:Value->Shared->Prop}(O:s.heap.IsTuple l j)
(h:∀h',IsEnum h' (s.heap.objs.size+1) s.heap.objs.size 0 .none->h'.IsTupleIter s.heap.objs.size l 0->h'.objs.size=s.heap.objs.size+2->
   (∀b o,s.heap.get? b=some o->h'.get? b=some o)->Q (.ref (s.heap.objs.size+1)) {s with heap:=h'}):wpAny @m A (call (.type "enumerate") [.ref l]) Q E s:=by
 obtain ⟨⟨c,L,R,sl⟩,W,I,n,J⟩:=O;replace I:c= .type "tuple":=I;replace J:R= .seq j n:=J;subst I J;rwa[callType_new F.called_enumerate @b (F.typeCall_enumerate_1 _) (F.newCall_enumerate_1 _) (λG=>F.args_object_init_2 G _) F.entry_enumerate_new (rh l j n L sl) ⟨W,?_⟩];have z:(s.heap.push {cls:= .type "tuple_iterator",data:= .fields #[.ref l,.int 0 0]}).objs.size=s.heap.objs.size+1:=Heap.size_push ..;show _/\_;rw [z]
 have S:IsEnum ((s.heap.push {cls:= .type "tuple_iterator",data:= .fields #[.ref l,.int 0 0]}).push {cls:= .type "enumerate",data:= .fields #[.none,.bool false,.ref s.heap.objs.size,rawInt 0,.none,.none]}) (s.heap.objs.size+1) s.heap.objs.size 0 .none:=by
  have:=Heap.get?_push_size (s.heap.push {cls:= .type "tuple_iterator",data:= .fields #[.ref l,.int 0 0]}) (o:= {cls:= .type "enumerate",data:= .fields #[.none,.bool false,.ref s.heap.objs.size,rawInt 0,.none,.none]}) rfl;rw [z] at this;exact this
 rwa[⟨⟨_,S,rfl⟩,h _ S ⟨_,Heap.get?_push_of_some _ (Heap.get?_push_size _ rfl),rfl,rfl⟩ (by rw [Heap.size_push,z]) λb o x=>Heap.get?_push_of_some _ (Heap.get?_push_of_some _ x)⟩]
theorem aB.turnLaid {X:Cx}{pins:List (Addr×Obj)}{σ:St}{H:Hp}{s:Shared}{h':Heap}{t':Nat}{ch:List Addr}{a:Addr}{o:HO}(I:aB X pins σ H s)(J:∀b∈ch,jW X pins H b)(k:∀b u,b∉ch->s.heap.get? b=some u->h'.get? b=some u)
(R:s.heap.objs.size<=a)(O:bH X.prog X.w @bD h' a o):aB X pins σ @bD {s with heap:=h',toks:=t'}:=by
 have hn:H a=none:=I.hok.fresh R;have ne:∀ {b:Addr} {u:Obj},s.heap.get? b=some u->b≠a:=λ{b u} e=>Nat.ne_of_lt (Nat.lt_of_lt_of_le @co R)
 have L:∀ {b:Addr} {u:HO},H b=some u->b∉ch:=λ{b u} e z=>by have:=(J b z).1;rw [e] at this;cases this
 have F:aq H @bD:= .upd hn
 refine I.step (g':=s.gens) (d':=s.drawn) (ch:=ch) (λb G=> ?_) (λb u _ _ j e _=>k b u j e) (λb u _ _ j e _=>⟨u.slots,k b u j e⟩) (λb u _ e n=>by rw [ao (ne e)];exact n) (λb u j e=>⟨u,k b u j e⟩)
  (λb xs e=>F _ _ e) (λb u v e=>F _ _ e) (λb ps e=>⟨#[],by rw [F _ _ e];simp⟩) (λm hm=> ?_) (λb u e=> ?_) I.bare
 ·obtain ⟨_,U,_,Y,f4,Z⟩:=J b G;exact ⟨Y,U,f4,Z⟩
 ·obtain ⟨o,es,W,S,r⟩:=hm;exact ⟨o,es,W,k _ o (λz=>(J _ z).2.1 rfl) S,r⟩
 ·by_cases G:b=a
  ·subst G;rw [aj] at e;cases e;exact O
  ·rw [ao G] at e;rwa[(I.hok b u e).stay (λc v j q=>k c v ?_ q) (λc q=>F _ _ q) λc xs q=>F _ _ q]
   rcases j with z|z
   ·rw [z];exact L e
   ·exact L z
def QE (K:Fg)(a:Addr):It:=⟨(Hj K a).go,λi H x H'=>∃T y,x= .ref T/\H T=none/\H'=upd H T (.tup [.int i,y])/\∀xs,aN K H a xs->xs[i]? =some y,(Hj K a).stop⟩
theorem DM {P:Program}{w:World}{K:Fg}{G:List Expr}{k:Nat}{pos:Pos}(a it e:Addr):wM P w K (.Tuple G k pos) (QE K a) [e,it] e (λi h=>(∃old,IsEnum h e it i old)/\h.IsListIter it a i) where
 mem:=by simp
 obj:=λi h st b L=>by
  obtain ⟨⟨old,S⟩,o,ho,c,d⟩:=st
  rcases mem_cons.mp L with rfl|L
  ·exact ⟨_,S,λv z=>by cases z⟩
  ·rw [mem_singleton.mp L];exact ⟨o,ho,λv z=>by rw [d] at z;cases z⟩
 keep:=λi h h' st kk=>by
  obtain ⟨⟨old,S⟩,aj⟩:=st;exact ⟨⟨old,kk e @g _ S⟩,aj.at λo z=>kk it @g o z⟩
 item:=by
  intro X Y hw hK hc i pins s σ H E I hf st hg;subst Y hw hK;obtain ⟨⟨old,S⟩,aj⟩:=st;obtain ⟨xs,x,hq,hx⟩:=hg;obtain ⟨its,rv,p,hz⟩:=I.list hq;have Z:s.heap.IsList a its.toArray:=p.isList;obtain ⟨u,hu,ru⟩:=rv.get hx;obtain ⟨oi,j,ci,di⟩:=id aj;obtain ⟨ol,ap,U,_⟩:=id Z
  have aa:e≠it:=λz=>by have h1:=j.symm.trans (z▸S);cases h1;exact absurd (Value.type.inj ci) @b
  have ak:e≠a:=λz=>by have h1:=ap.symm.trans (z▸S);cases h1;exact absurd @bZ @b
  have R:a≠it:=λz=>by rw [z,j] at ap;cases ap;rw [ci] at U;exact absurd @bZ @b
  have W:=WalksT.enumerateD (Draws.list (prog:=X.prog) (w:=X.w) (A:=X.A.in1) @bS it a R its.toArray) e aa (by simp [aa,ak]) @g
  have hi:i<its.toArray.size:=by rw [size_toArray];exact (List.getElem?_eq_some_iff.mp hu).1
  rwa[W.item i s _ _ hi ⟨⟨old,S⟩,aj,Z⟩ λT am h' tk Y hT ad O hk=>⟨.ref T,rfl,?_⟩];rwa[W.go G k pos i T _ _ _ O λh2 J ac=> ?_];obtain ⟨t,u',au,rfl⟩:=Y
  have au:its[i]? =some u':=by simpa using au
  rw [hu] at au;cases au;have ae:T∉[e,it]:=W.apart i T h' O;have kk:∀b o,b∉[e,it]->s.heap.get? b=some o->h2.get? b=some o:=λb o nb z=>ac b o nb (hk b o nb z)
  have ab:IsTup h2 T (#[.int i t,u]:Array Value):=by
   obtain ⟨o,ho,c,r⟩:=ad;exact ⟨o,ac T o ae ho,c,r⟩
  have ai:bH X.prog X.w (upd H T (.tup [.int i,x])) h2 T (.tup [.int i,x]):=⟨by show 2<=sizeLine;decide,[.int i t,u],.cons ⟨t,rfl⟩ (.cons ru .nil),ab⟩;rwa[⟨.ref T,upd H T (.tup [.int i,x]),I.turnLaid (t':=tk) hf kk hT ai,rfl,⟨T,x,rfl,I.hok.fresh hT,rfl,λys hy=>by rw [I.list_inj hy hq];exact hx⟩,⟨J.1,J.2.1⟩,λb L=> ?_⟩];have ne:b≠T:=λz=>ae (by rw [<-z];exact L);rw [ao ne];exact (hf b L).1
 done:=by
  intro X Y hw hK hc i pins s σ H E I hf st hg;subst Y hw hK;obtain ⟨⟨old,S⟩,aj⟩:=st;obtain ⟨xs,hq,hx⟩:=hg;obtain ⟨its,rv,p,hz⟩:=I.list hq;have Z:s.heap.IsList a its.toArray:=p.isList;have al:=rv.length;obtain ⟨oi,j,ci,di⟩:=id aj;obtain ⟨ol,ap,U,_⟩:=id Z
  have R:a≠it:=λz=>by rw [z,j] at ap;cases ap;rw [ci] at U;exact absurd @bZ @b
  have D:=Draws.list (prog:=X.prog) (w:=X.w) (A:=X.A.in1) @bS it a R its.toArray;have hT:s.TypeIs (.ref e) "enumerate":=⟨_,S,rfl⟩;obtain ⟨f0,f1,f2,f3,f4,f5⟩:=hf it @g;unfold pyNext;rwa[wpAny_bind (wpAny_attempt (wpAny_callSpecial?_slot (name:=s!"__next__") hT F.slot_enumerate_next (wpAny_call_entry F.slot_enumerate_next hT F.entry_enumerate_next ?_ (F.args_enumerate_next_1 _))))];show wpAny _ _ (field (.ref e) 2>>=_) _ _ _;rwa[wpAny_bind (wpAny_field S rfl (x:= .ref it) rfl ?_)];rwa[wpAny_bind (wpAny_nextOf_list_end @bS aj Z (by simp;lia) λh' x af ah=> ?_)];obtain ⟨o,ho,ag⟩:=ah;rwa[wpAny_bind (wpAny_isInstance (T:="StopIteration") (b:=true) ⟨o,ho,ag⟩ isSubtype_stop ?_)];exact wpAny_pure ⟨rfl,I.turned (t':=s.toks) (λb o L e=>af b o L e) f0 f1 f3 f4 f5⟩
 self:=λ_ _ _ _ _ st h=>let ⟨⟨old,S⟩,_⟩:=st;wpAny_pyIter_enum S h
theorem GN {K:Fg}{a:Addr}{xs:List V}{pk:List @K}{g:TG}{tt:TT}{te:TE}{σ:St}{H:Hp}{Q:VK}(j:Nat->List V->Hp->Prop)(S:xs.length<=sizeLine)(G:∀i ys H,j i ys H->ys.length<=i)(J:j 0 [] H)(I:∀i ys H,i<=xs.length->j i ys H->aN K H a xs)
(hs:∀(i:Nat) x ys H T H',xs[i]? =some x->j i ys H->aq H H'->H' T=some (.tup [.int i,x])->g (.ref T) @W H' λσ2 H2=>tV @W σ2/\tt σ2 H2 λb H3=>if b=true then te σ2 H3 λv H4=>j (i+1) (ys++[v]) H4 else j (i+1) ys H3)
(R:∀ys H,j @fy ys H->∀p,H p=none->Q (.ref p) @ba):
 tR (QE K a) pk g tt te σ H Q:=by
 rwa[⟨λi m ys H=>m=xs.length - i/\i<=xs.length/\j i ys H,⟨xs.length,by simp,Nat.zero_le _,J⟩,?_⟩];rintro i m ys H ⟨rfl,hi,p⟩;have W:=G _ _ _ p;by_cases F:i<xs.length
 ·rwa[.inr ⟨⟨xs,xs[i],I i ys H hi p,by simp [F]⟩,by lia,j (i+1),λzs H' O=>⟨xs.length - (i+1),by lia,rfl,F,O⟩,λx H' y=> ?_⟩];obtain ⟨T,z,rfl,L,rfl,y⟩:=y;exact hs i z ys _ T _ (y xs (I i ys _ hi p)) p (.upd L) aj
 ·have e:i=xs.length:=by lia
  subst e;exact .inl ⟨⟨xs,I _ ys H @f p,Nat.le_refl _⟩,by lia,R ys H p⟩
def R8 (K:Fg)(a:Addr):It:=⟨(Hi K a).go,λi H x H'=>∃T y,x= .ref T/\H T=none/\H'=upd H T (.tup [.int i,y])/\∀xs,aD K H a xs->xs[i]? =some y,(Hi K a).stop⟩
theorem DL {P:Program}{w:World}{K:Fg}{G:List Expr}{k:Nat}{pos:Pos}(a it e:Addr):wM P w K (.Tuple G k pos) (R8 K a) [e,it] e (λi h=>(∃old,IsEnum h e it i old)/\h.IsTupleIter it a i) where
 mem:=by simp
 obj:=λi h st b L=>by
  obtain ⟨⟨old,S⟩,o,ho,c,d⟩:=st
  rcases mem_cons.mp L with rfl|L
  ·exact ⟨_,S,λv z=>by cases z⟩
  ·rw [mem_singleton.mp L];exact ⟨o,ho,λv z=>by rw [d] at z;cases z⟩
 keep:=λi h h' st kk=>by
  obtain ⟨⟨old,S⟩,aj⟩:=st;exact ⟨⟨old,kk e @g _ S⟩,aj.at λo z=>kk it @g o z⟩
 item:=by
  intro X Y hw hK hc i pins s σ H E I hf st hg;subst Y hw hK;obtain ⟨⟨old,S⟩,aj⟩:=st;obtain ⟨xs,x,hq,hx⟩:=hg;obtain ⟨its,rv,p,hz⟩:=I.tuple hq;have Z:s.heap.IsTuple a its.toArray:=p;obtain ⟨u,hu,ru⟩:=rv.get hx;obtain ⟨oi,j,ci,di⟩:=id aj;obtain ⟨ol,ap,U,_⟩:=id Z
  have aa:e≠it:=λz=>by have h1:=j.symm.trans (z▸S);cases h1;exact absurd (Value.type.inj ci) @b
  have ak:e≠a:=λz=>by have h1:=ap.symm.trans (z▸S);cases h1;exact absurd @bZ @b
  have R:a≠it:=λz=>by rw [z,j] at ap;cases ap;rw [ci] at U;exact absurd @bZ @b
  have W:=WalksT.enumerateD (uH (prog:=X.prog) (w:=X.w) (A:=X.A.in1) @bS it a R its.toArray) e aa (by simp [aa,ak]) @g
  have hi:i<its.toArray.size:=by rw [size_toArray];exact (List.getElem?_eq_some_iff.mp hu).1
  rwa[W.item i s _ _ hi ⟨⟨old,S⟩,aj,Z⟩ λT am h' tk Y hT ad O hk=>⟨.ref T,rfl,?_⟩];rwa[W.go G k pos i T _ _ _ O λh2 J ac=> ?_];obtain ⟨t,u',au,rfl⟩:=Y
  have au:its[i]? =some u':=by simpa using au
  rw [hu] at au;cases au;have ae:T∉[e,it]:=W.apart i T h' O;have kk:∀b o,b∉[e,it]->s.heap.get? b=some o->h2.get? b=some o:=λb o nb z=>ac b o nb (hk b o nb z)
  have ab:IsTup h2 T (#[.int i t,u]:Array Value):=by
   obtain ⟨o,ho,c,r⟩:=ad;exact ⟨o,ac T o ae ho,c,r⟩
  have ai:bH X.prog X.w (upd H T (.tup [.int i,x])) h2 T (.tup [.int i,x]):=⟨by show 2<=sizeLine;decide,[.int i t,u],.cons ⟨t,rfl⟩ (.cons ru .nil),ab⟩;rwa[⟨.ref T,upd H T (.tup [.int i,x]),I.turnLaid (t':=tk) hf kk hT ai,rfl,⟨T,x,rfl,I.hok.fresh hT,rfl,λys hy=>by rw [I.tuple_inj hy hq];exact hx⟩,⟨J.1,J.2.1⟩,λb L=> ?_⟩];have ne:b≠T:=λz=>ae (by rw [<-z];exact L);rw [ao ne];exact (hf b L).1
 done:=by
  intro X Y hw hK hc i pins s σ H E I hf st hg;subst Y hw hK;obtain ⟨⟨old,S⟩,aj⟩:=st;obtain ⟨xs,hq,hx⟩:=hg;obtain ⟨its,rv,p,hz⟩:=I.tuple hq;have Z:s.heap.IsTuple a its.toArray:=p;have al:=rv.length;obtain ⟨oi,j,ci,di⟩:=id aj;obtain ⟨ol,ap,U,_⟩:=id Z
  have R:a≠it:=λz=>by rw [z,j] at ap;cases ap;rw [ci] at U;exact absurd @bZ @b
  have D:=uH (prog:=X.prog) (w:=X.w) (A:=X.A.in1) @bS it a R its.toArray;have hT:s.TypeIs (.ref e) "enumerate":=⟨_,S,rfl⟩;obtain ⟨f0,f1,f2,f3,f4,f5⟩:=hf it @g;unfold pyNext;rwa[wpAny_bind (wpAny_attempt (wpAny_callSpecial?_slot (name:=s!"__next__") hT F.slot_enumerate_next (wpAny_call_entry F.slot_enumerate_next hT F.entry_enumerate_next ?_ (F.args_enumerate_next_1 _))))];show wpAny _ _ (field (.ref e) 2>>=_) _ _ _;rwa[wpAny_bind (wpAny_field S rfl (x:= .ref it) rfl ?_)];rwa[wpAny_bind (jJ @bS aj Z (by simp;lia) λh' x af ah=> ?_)];obtain ⟨o,ho,ag⟩:=ah;rwa[wpAny_bind (wpAny_isInstance (T:="StopIteration") (b:=true) ⟨o,ho,ag⟩ isSubtype_stop ?_)];exact wpAny_pure ⟨rfl,I.turned (t':=s.toks) (λb o L e=>af b o L e) f0 f1 f3 f4 f5⟩
 self:=λ_ _ _ _ _ st h=>let ⟨⟨old,S⟩,_⟩:=st;wpAny_pyIter_enum S h
theorem GM {K:Fg}{a:Addr}{xs:List V}{pk:List @K}{g:TG}{tt:TT}{te:TE}{σ:St}{H:Hp}{Q:VK}(j:Nat->List V->Hp->Prop)(S:xs.length<=sizeLine)(G:∀i ys H,j i ys H->ys.length<=i)(J:j 0 [] H)(I:∀i ys H,i<=xs.length->j i ys H->aD K H a xs)
(hs:∀(i:Nat) x ys H T H',xs[i]? =some x->j i ys H->aq H H'->H' T=some (.tup [.int i,x])->g (.ref T) @W H' λσ2 H2=>tV @W σ2/\tt σ2 H2 λb H3=>if b=true then te σ2 H3 λv H4=>j (i+1) (ys++[v]) H4 else j (i+1) ys H3)
(R:∀ys H,j @fy ys H->∀p,H p=none->Q (.ref p) @ba):
 tR (R8 K a) pk g tt te σ H Q:=by
 rwa[⟨λi m ys H=>m=xs.length - i/\i<=xs.length/\j i ys H,⟨xs.length,by simp,Nat.zero_le _,J⟩,?_⟩];rintro i m ys H ⟨rfl,hi,p⟩;have W:=G _ _ _ p;by_cases F:i<xs.length
 ·rwa[.inr ⟨⟨xs,xs[i],I i ys H hi p,by simp [F]⟩,by lia,j (i+1),λzs H' O=>⟨xs.length - (i+1),by lia,rfl,F,O⟩,λx H' y=> ?_⟩];obtain ⟨T,z,rfl,L,rfl,y⟩:=y;exact hs i z ys _ T _ (y xs (I i ys _ hi p)) p (.upd L) aj
 ·have e:i=xs.length:=by lia
  subst e;exact .inl ⟨⟨xs,I _ ys H @f p,Nat.le_refl _⟩,by lia,R ys H p⟩
def RN (K:Fg)(p:Addr)(H:Hp)(R:It->Hp->Prop):Prop:=(∃xs,aN K H p xs/\R (QE K p) H)\/∃xs,aD K H p xs/\R (R8 K p) H
def Sl (K:Fg)(te:TE):TI:=λσ H R=>te σ H λx H1=>match x with| .ref p=>RN K p H1 R|_=>False
theorem AJ {X:Cx}{K:Fg}(Y:X.K=K){G:List Expr}{k:Nat}{tpos p pos:Pos}{e:Expr}{te:TE}(Z:Gl X "enumerate")(hm:X.mg "enumerate"=none)(he:PE X e te)(hs:cc e=true:=by rfl):
 PI X (.Tuple G k tpos) (.Call (.Name "enumerate" p) [e] [] pos) (Sl K te):=by
 subst Y;intro pins s σ H R I h;have st:starEach [e] X.env=[(false,eval e X.env)]:=bv hs;rwa[Call_ (oB I Z hm boot_enumerate (PyProof.Rows.callWith_type1 ?_ st (cL (by rfl))))];rw [st];show wpAny _ _ (spliced ((false,eval e X.env)::backTo pos (starEach [] X.env))) _ _ s;rwa[Calls.spliced_cons (bP @dU λu O ⟨x,H1,J,z,S⟩=> ?_)];rwa[Calls.spliced_nil ?_]
 cases x with
 |ref a=>
  have z:u=Value.ref a:=z;subst z
  have fp:∀b∈[O.heap.objs.size+1,O.heap.objs.size],jW X pins H1 b:=λb F=>by
   rcases mem_cons.mp F with rfl|F
   ·exact J.fpOk @dY (J.hok.fresh @dY)
   ·rw [mem_singleton.mp F];exact J.fpOk @f @cp
  rcases S with ⟨xs,L,q⟩|⟨xs,L,q⟩
  ·obtain ⟨its,U,p,hz⟩:=J.list L;rwa[call_enumerate_list p.isList λh' h1 h2 W j=> ?_];exact wpAny_pyIter_enum h1 ⟨_,[O.heap.objs.size+1,O.heap.objs.size],_,_,H1,rfl,J.kept (t':=O.toks) j,DM a _ _,⟨⟨_,h1⟩,h2⟩,fp,q⟩
  ·obtain ⟨its,U,p,hz⟩:=J.tuple L;rwa[tT (show O.heap.IsTuple a its.toArray from p) λh' h1 h2 W j=> ?_];exact wpAny_pyIter_enum h1 ⟨_,[O.heap.objs.size+1,O.heap.objs.size],_,_,H1,rfl,J.kept (t':=O.toks) j,DL a _ _,⟨⟨_,h1⟩,h2⟩,fp,q⟩
 |_=>exact False.elim S
section
variable {X:Cx}{K:Fg}
def Rc:List V->Hp->VK->Prop:=λxs H Q=>match xs with|[.int i]=>Q (.int (if i<0 then -i else i)) H|_=>False
theorem AL:bR X (.builtin "abs") Rc:=GS.imp λxs H Q h=>by
 match xs,h with
 |[.int i],h=>exact ⟨i,rfl,h⟩
theorem JS {R:List Int}:∀ {us:List Value},aU @gd us->IntsAre us R:=by
 induction R with
 |nil=>intro us r;cases r;exact .nil
 |cons a r ih=>
  intro us h
  cases h with
  |cons r1 r2=>
   obtain ⟨t,rfl⟩:=r1;exact .cons _ _ (ih r2)
def RU (K:Fg)(a:Addr)(j:Int)(H:Hp)(Q:VK):Prop:=∃ns:List Int,aN K H a @bW/\Q (.int (ns.count j:Nat)) H
def Ly (K:Fg):V->List V->Hp->VK->Prop:=λx xs H Q=>match x,xs with| .ref a,[.int j]=>RU K a j H Q|_,_=>False
theorem Hz (G:X.K=K):yF X "list.count" (Ly K):=by
 subst G;intro pins s σ H x xs v S Q I J F h
 match x,xs,h with
 | .ref a,[.int j],h=>
   obtain ⟨R,L,q⟩:=h;have J:v=Value.ref a:=J;subst J;obtain ⟨u,rfl,t,rfl⟩:=kx F;obtain ⟨its,z,p,O⟩:=I.list L;rwa[count_list_ints p.isList (JS z) ?_];exact ⟨.int (R.count j:Nat),H,I.tok _,⟨_,rfl⟩,q⟩
end
theorem pK.two {X:Cx}{j F:Str}{O U:Addr}{W S:Nat}{L:List (Str×Addr)}(G:(j==F)=false)(n0:X.N[W]? =some j)(n1:X.N[S]? =some F)(k0:X.env.scope.names.lookup j=some .cell)(k1:X.env.scope.names.lookup F=some .cell)
(e0:X.env.cells.lookup j=some O)(e1:X.env.cells.lookup F=some U)(h:L=[(j,O),(F,U)]\/L=[(F,U),(j,O)]):pK X [j,F] [W,S] L:=by
 have J:(F==j)=false:=by
  cases z:F==j with
  |false=>rfl
  |true=>rw [eq_of_beq z] at G;rw [beq_self_eq_true] at G;cases G
 have Y:L.lookup j=some O:=by
  rcases h with rfl|rfl
  ·simp [List.lookup]
  ·simp [List.lookup,G]
 have Z:L.lookup F=some U:=by
  rcases h with rfl|rfl
  ·simp [List.lookup,J]
  ·simp [List.lookup]
 rwa[⟨λi x I=> ?_,λx c e=> ?_⟩]
 ·match i,I with
  |0,I=>cases I;exact ⟨W,O,rfl,n0,k0,e0,Y⟩
  |1,I=>cases I;exact ⟨S,U,rfl,n1,k1,e1,Z⟩
 ·have I:x=j\/x=F:=by
   rcases h with rfl|rfl
   ·cases z:x==j with
    |true=>exact .inl (eq_of_beq z)
    |false=>
     cases R:x==F with
     |true=>exact .inr (eq_of_beq R)
     |false=>simp [List.lookup,z,R] at e
   ·cases z:x==j with
    |true=>exact .inl (eq_of_beq z)
    |false=>
     cases R:x==F with
     |true=>exact .inr (eq_of_beq R)
     |false=>simp [List.lookup,z,R] at e
  rcases I with rfl|rfl
  ·rw [Y] at e;cases e;exact ⟨by simp,e0⟩
  ·rw [Z] at e;cases e;exact ⟨by simp,e1⟩
theorem xV {P:Program}{w:World}{K:Frag}{mg:Str->Option Value}{base:Heap}{k:Nat}{f c:Addr}{x:Str}{st:Stmt}{Z L J U I:Value}{W od:Option Addr}{aa:Array @Z}{N ps:List Str}{sp:Sp}
(z:K.lookup f=some ⟨I,od,.func (fnOf x x @dZ @df @cd .none Z L J W (.ref c) U),aa⟩)(F:codeIn K (.ref c) x=true)(S:ap N ps @cd)(Y:∀vs H Q E,sp vs H Q E->vs.length=ps.length)
(G:∀(A:Around) (outer:List Env) (s:Shared) (H:Hp) (vs:List V) (Q:VK) (E:XK),b8 k (A.deeper (envOfC x @cd s.heap.objs.size f (.ref c)))->sp vs H Q E->
   ∃t,tW (rQ bg P w K mg base N x @cd f (.ref c) A outer s H E).nox @df t/\t {nx:=λ_ H'=>Q .non H',rt:=Q} @cN H):az P w K mg base bg (k+1) f (fnOf x x @dZ @df @cd .none Z L J W (.ref c) U) ps sp:=by
 rwa[Gm z F S Y λA outer s H vs Q E j O=> ?_];obtain ⟨t,h,q⟩:=G A outer s H vs Q E j O;exact ⟨t,h.nox,q⟩
theorem Gn {CX:oU}{P:Program}{w:World}{K:Frag}{mg:Str->Option Value}{base:Heap}{f:Addr}{fd:FuncData}{ps:List Str}:az P w K mg base CX 1 f fd ps (λ_ _ _ _=>False):=⟨λ_ _ _ _ h=>h.elim,λ_ _ _ _ _ _ _ _ _ _ _ _ _ h=>h.elim⟩
theorem A6 {X:Cx}{s:Stmt}:PS X s @eP:=λ_ _ _ _ _ _ h=>h.elim
end L2
namespace HT
open PySem PyProof.Rows
open PySem.SeqAt
open PySem.MeetsSeq PySem.MeetsSeq2 PySem.MeetsSeq3
theorem getItem_tuple_whole {prog:Program}{w:World}{A:Around}{E:Value->Shared->Prop}{s:Shared}{t sl:Addr}{j:Array Value}{G F:Value}{lo hi:Option Int}{Q:Value->Shared->Prop}(J:IsTup s.heap t j)(hs:s.heap.IsSliceOf sl G F .none)(pl:IsPart G lo)(R:IsPart F hi)
(O:sIx j.size 0 lo=0/\sIx j.size j.size hi=j.size)(h:Q (.ref t) s):wpAny @m A (getItem (.ref t) (.ref sl)) Q E s:=by
 obtain ⟨os,z,I,S⟩:=id hs;have L:s.TypeIs (.ref sl) "slice":=⟨os,z,I⟩;unfold getItem
 try with_reducible refine wpAny_holding ?_
 first|refine wpAny_bind @bE|skip
 rwa[wpAny_bind (wpAny_sequenceKey J.typeIs @b ?_)]
 refine wpAny_bind (wpAny_callSpecial?_slot (name:=s!"__getitem__") J.typeIs PyProof.Rows.slot_tuple_getitem
  (wpAny_call_entry PyProof.Rows.slot_tuple_getitem J.typeIs entry_tuple_getitem ?_ (args_tuple_getitem _ _)))
 show wpAny _ _ (Builtin.Tuple.tupleItemsOf (.ref t)>>=_) _ _ s;rwa[wpAny_bind (tupleItemsOf_ J ?_)];rwa[wpAny_bind (wpAny_typeOf L ?_)];rw [if_pos @b];rwa[wpAny_bind (ij hs pl R ?_)];show wpAny _ _ (if (((sIx j.size 0 lo:Nat):Int)==0&&(1:Int)==1&&(sIx j.size j.size hi - sIx j.size 0 lo)==j.size)=true then _ else _) _ _ s;rw [O.1,O.2,if_pos @g];rwa[wpAny_bind ?_];unfold Builtin.Tuple.tupleIsExact;rwa[wpAny_bind (wpAny_typeOf J.typeIs @bE)];show wpAny _ _ (if ((Value.type "tuple"==Value.type "tuple")=true) then _ else _) _ _ s;rw [if_pos @b];rwa[wpAny_bind @fA]
 first|exact wpAny_pure ⟨_,rfl,wpAny_pure h⟩|exact wpAny_bind @fl|trace_state
end HT
namespace L2
open PySem PySem.Spec PyProof.Rows
section
variable {X:Cx}{K:Fg}
def Ip (K:Fg)(p:Addr)(lo hi:Option Int)(H:Hp)(Q:VK):Prop:=∃xs,aD K H p xs/\(HT.sIx xs.length 0 lo=0/\HT.sIx xs.length xs.length hi=xs.length->Q (.ref p) H)/\(¬(HT.sIx xs.length 0 lo=0/\HT.sIx xs.length xs.length hi=xs.length)->∀l,H l=none->Q (.ref l) @ej)
def QT (K:Fg):V->Option Int->Option Int->Hp->VK->Prop:=λx lo hi H Q=>match x with| .ref p=>Ip K p lo hi H Q|_=>False
theorem Oo (O:X.K=K):K6 X (QT K):=by
 subst O;intro pins s σ H x v R S lo hi sl Q I J hs pl G h
 cases x with
 |ref p=>
  obtain ⟨xs,j,h1,h2⟩:=h;by_cases F:HT.sIx xs.length 0 lo=0/\HT.sIx xs.length xs.length hi=xs.length
  ·cases J;obtain ⟨its,r,L,U⟩:=I.tuple j
   have z:its.toArray.size=xs.length:=by rw [size_toArray];exact r.length.symm
   exact ⟨"tuple",_,PyProof.Rows.slot_tuple_getitem.lookup,L.typeIs,HT.getItem_tuple_whole L hs pl G (by rw [z];exact F) ⟨.ref p,H,I,rfl,h1 F⟩⟩
  ·exact Ef pins s σ H _ v R S lo hi sl Q I J hs pl G ⟨p,xs,rfl,j,F,h2 F⟩
 |_=>exact False.elim h
theorem KL {p:Addr}{xs:List V}{lo hi:Option Int}{H:Hp}{Q:VK}(h:aD K H p xs)(Z:fB xs lo hi=xs->Q (.ref p) H)(j:∀l H',aq H H'->H' l=some (.tup @bo)->Q (.ref l) H'):Ip K p lo hi H Q:=by
 rwa[⟨xs,h,λF=>Z ?_,λ_ l n=>j l _ (.upd n) aj⟩];unfold fB;rw [F.1,F.2];simp
end
theorem Gk {K:Fg}{a:Addr}{xs:List V}{g:TG}{tb:TS}{D:pQ}{σ:St}{H:Hp}(j:Nat->St->Hp->Prop)(I:j 0 σ H)(G:∀i σ H,i<=xs.length->j i σ H->aN K H a xs)
(hs:∀(i:Nat) x σ H T H',xs[i]? =some x->j i σ H->aq H H'->H' T=some (.tup [.int i,x])->g (.ref T) σ H' λσ2 H2=>tb {D with nx:=j (i+1),ct:=j (i+1),bk:=D.nx} σ2 H2)(O:∀σ H,j xs.length σ H->D.nx σ H):Ap (QE K a) g tb D σ H:=by
 rwa[⟨λi m σ H=>m=xs.length - i/\i<=xs.length/\j i σ H,⟨xs.length,by simp,Nat.zero_le _,I⟩,?_⟩];rintro i m σ H ⟨rfl,hi,p⟩;by_cases F:i<xs.length
 ·rwa[.inr ⟨⟨xs,xs[i],G i σ H hi p,by simp [F]⟩,j (i+1),λR H' L=>⟨xs.length - (i+1),by lia,rfl,F,L⟩,λx H' y=> ?_⟩];obtain ⟨T,z,rfl,J,rfl,y⟩:=y;exact hs i z σ _ T _ (y xs (G i σ _ hi p)) p (.upd J) aj
 ·have e:i=xs.length:=by lia
  subst e;exact .inl ⟨⟨xs,G _ σ H @f p,Nat.le_refl _⟩,O σ H p⟩
section
variable {κ:Type}[DecidableEq κ]
noncomputable def eM (kvs:List (κ×V))(k:κ):Option V:=(kvs.find? λkv=>decide (kv.1=k)).map (·.2)
noncomputable def dq (kvs:List (κ×V))(k:κ)(v:V):List (κ×V):=
 if (kvs.any λkv=>decide (kv.1=k))=true then kvs.map (λkv=>if kv.1=k then (kv.1,v) else kv) else kvs++[(k,v)]
theorem b5 {p:κ×V}{r:List (κ×V)}{k:κ}(e:p.1=k):eM (p::r) k=some p.2:=by simp [eM,find?_cons,e]
theorem bC {p:κ×V}{r:List (κ×V)}{k:κ}(e: ¬p.1=k):eM (p::r) k=eM r k:=by simp [eM,find?_cons,e]
theorem ig (k:κ):∀kvs:List (κ×V),(kvs.any λkv=>decide (kv.1=k))=(eM kvs k).isSome
 |[]=>rfl
 |p::r=>by
  rw [any_cons];by_cases e:p.1=k
  ·simp only [b5 e,decide_eq_true e,Bool.true_or,Option.isSome_some]
  ·rw [bC e,decide_eq_false e,Bool.false_or];exact ig k r
theorem w5 (k j:κ)(y:V):∀kvs:List (κ×V),eM (kvs.map λkv=>if kv.1=k then (kv.1,y) else kv) j=(eM kvs j).map λx=>if j=k then y else x
 |[]=>rfl
 |p::r=>by
  have F:=w5 k j y r;rw [map_cons];by_cases h:p.1=k
  ·rw [if_pos h];by_cases e:p.1=j
   ·rw [b5 (p:=(p.1,y)) e,b5 e,Option.map_some,if_pos (e.symm.trans h)]
   ·rw [bC (p:=(p.1,y)) e,bC e,F]
  ·rw [if_neg h];by_cases e:p.1=j
   ·rw [b5 (p:=p) e,b5 e,Option.map_some,if_neg (λz=>h (e.trans z))]
   ·rw [bC (p:=p) e,bC e,F]
theorem ug (k j:κ)(y:V):∀kvs:List (κ×V),eM kvs k=none->eM (kvs++[(k,y)]) j=if j=k then some y else eM kvs j
 |[],_=>by
  by_cases e:k=j
  ·rw [if_pos e.symm];exact b5 (p:=(k,y)) e
  ·rw [if_neg (λz=>e z.symm)];exact bC (p:=(k,y)) e
 |p::r,hn=>by
  rw [cons_append]
  have R: ¬p.1=k:=λz=>by rw [b5 z] at hn;cases hn
  rw [bC R] at hn;have F:=ug k j y r hn;by_cases e:p.1=j
  ·rw [b5 e,b5 e,if_neg (λz=>R (e.trans z))]
  ·rw [bC e,bC e,F]
theorem DI (kvs:List (κ×V))(k j:κ)(y:V):eM @gq j=if j=k then some y else eM kvs j:=by
 unfold dq;by_cases a:(kvs.any λF=>decide (F.1=k))=true
 ·rw [if_pos a,w5];rw [ig] at a;by_cases e:j=k
  ·obtain ⟨x,z⟩:=Option.isSome_iff_exists.mp a;rw [if_pos e,e,z,Option.map_some,if_pos rfl]
  ·rw [if_neg e]
   cases eM kvs j with
   |none=>rfl
   |some x=>rw [Option.map_some,if_neg e]
 ·rw [if_neg a];rwa[ug k j y kvs ?_];rw [ig] at a
  cases q:eM kvs k with
  |none=>rfl
  |some x=>rw [q] at a;exact (a rfl).elim
theorem dh (kvs:List (κ×V))(k:κ)(v:V):(dq kvs k v).length<=kvs.length+1:=by
 unfold dq;split
 ·rw [length_map];lia
 ·rw [length_append,length_cons,length_nil];lia
theorem ko.isSome_eq {o:Option V}{u:Option Value}(r:ko o u):o.isSome=u.isSome:=by
 cases o with
 |none=>cases u with
  |none=>rfl
  |some _=>exact (show False from r).elim
 |some _=>cases u with
  |none=>exact (show False from r).elim
  |some _=>rfl
theorem KV.val {kvs:List (κ×V)}{vs:List (κ×Value)}(r:KV kvs vs)(k:κ):ko @gO (valueAt vs k):=by
 unfold KV at r
 induction r with
 |nil=>exact True.intro
 | @cons p q ps qs h t ih=>
   obtain ⟨h1,h2⟩:=h;by_cases e:p.1=k
   ·have j:q.1=k:=h1.symm.trans e
    have b:valueAt (q::qs) k=some q.2:=by simp [valueAt,find?_cons,j]
    rw [b5 e,b];exact h2
   ·have j: ¬q.1=k:=λz=>e @ff
    have b:valueAt (q::qs) k=valueAt qs k:=by simp [valueAt,find?_cons,j]
    rw [bC e,b];exact ih
theorem KV.any {kvs:List (κ×V)}{vs:List (κ×Value)}(r:KV kvs vs)(k:κ):(kvs.any λkv=>decide (kv.1=k))=vs.any λkv=>decide (kv.1=k):=by
 unfold KV at r
 induction r with
 |nil=>rfl
 |cons h t ih=>rw [any_cons,any_cons,ih,h.1]
theorem KV.repl {kvs:List (κ×V)}{vs:List (κ×Value)}(r:KV kvs vs)(k:κ){y:V}{u:Value}(j:aK y u):
 KV (kvs.map λkv=>if kv.1=k then (kv.1,y) else kv) (vs.map λkv=>if kv.1=k then (kv.1,u) else kv):=by
 unfold KV at r ⊢
 induction r with
 |nil=>exact .nil
 | @cons p q ps qs h t ih=>
   rw [map_cons,map_cons];rwa[.cons ?_ ih];obtain ⟨h1,h2⟩:=h;by_cases e:p.1=k
   ·rw [if_pos e,if_pos (h1.symm.trans e)];exact ⟨h1,j⟩
   ·rw [if_neg e,if_neg (λz=>e @ff)];exact ⟨h1,h2⟩
theorem KV.put {kvs:List (κ×V)}{vs:List (κ×Value)}(r:KV kvs vs)(k:κ){y:V}{u:Value}(z:aK y u):KV @gq (stored vs k u):=by
 unfold dq stored;rw [r.any k];by_cases e:(vs.any λF=>decide (F.1=k))=true
 ·rw [if_pos e,if_pos e];exact r.repl k z
 ·rw [if_neg e,if_neg e];exact Paired.snoc r ⟨rfl,z⟩
theorem KV.length {kvs:List (κ×V)}{vs:List (κ×Value)}(r:KV kvs vs):kvs.length=vs.length:=Paired.length r
end
theorem rD {P:Program}{w:World}{k:ce}{u:Value}(r:aK (kV k) u):(cr P w).is k u=true:=by
 cases k with
 |inl i=>obtain ⟨t,e⟩:=(show ∃t,u=Value.int i t from r);subst e;exact xL P w i t
 |inr x=>obtain ⟨t,e⟩:=(show ∃t,u=Value.str x t from r);subst e;exact xK P w x t
theorem uC {P:Program}{w:World}:∀ {ks:List ce} {us:List Value},aU @gD us->ItemsAre @cW ks us
 |[],_,r=>by rw [map_nil] at r;cases r;exact .nil
 |k::ks,_,r=>by
  rw [map_cons] at r
  cases r with
  |cons h t=>exact .cons (rD h) (uC t)
abbrev KT (H:Hp):List (List ce×V)->List (List ce×Addr×Value)->Prop:=Paired λp q=>p.1=q.1/\H q.2.1=some (.tup (p.1.map kV))/\aK p.2 q.2.2
theorem KT.val {H:Hp}{kvs:List (List ce×V)}{xs:List (List ce×Addr×Value)}(r:KT H kvs xs)(k:List ce):ko @gO ((atKey xs k).map (·.2)):=by
 induction r with
 |nil=>exact True.intro
 | @cons p q ps qs h t ih=>
   obtain ⟨h1,_,h2⟩:=h;by_cases e:p.1=k
   ·have j:q.1=k:=h1.symm.trans e
    have b:atKey (q::qs) k=some q.2:=by simp [atKey,find?_cons,j]
    rw [b5 e,b];exact h2
   ·have j: ¬q.1=k:=λz=>e @ff
    have b:atKey (q::qs) k=atKey qs k:=by simp [atKey,find?_cons,j]
    rw [bC e,b];exact ih
theorem KT.repl {H:Hp}{kvs:List (List ce×V)}{xs:List (List ce×Addr×Value)}(r:KT H kvs xs)(k:List ce){y:V}{u:Value}(j:aK y u):
 KT H (kvs.map λkv=>if kv.1=k then (kv.1,y) else kv) (xs.map (PySem.putAt k u)):=by
 induction r with
 |nil=>exact .nil
 | @cons p q ps qs h t ih=>
   rw [map_cons,map_cons];rwa[.cons ?_ ih];obtain ⟨h1,h2,L⟩:=h;unfold PySem.putAt;by_cases e:p.1=k
   ·rw [if_pos e,if_pos (h1.symm.trans e)];exact ⟨h1,h2,j⟩
   ·rw [if_neg e,if_neg (λz=>e @ff)];exact ⟨h1,h2,L⟩
theorem KT.put {H:Hp}{kvs:List (List ce×V)}{xs:List (List ce×Addr×Value)}(r:KT H kvs xs)(k:List ce){b:Addr}{y:V}{u:Value}(j:H b=some (.tup (k.map kV)))(z:aK y u):
 KT H @gq (storedH xs k b u):=by
 have e:(kvs.any λF=>decide (F.1=k))=(atKey xs k).isSome:=by
  rw [ig,(r.val k).isSome_eq,Option.isSome_map]
 unfold dq storedH;rw [e];by_cases q:(atKey xs k).isSome=true
 ·rw [if_pos q,if_pos q];exact r.repl k z
 ·rw [if_neg q,if_neg q];exact Paired.snoc r ⟨rfl,j,z⟩
theorem KT.keeps {H H':Hp}{kvs:List (List ce×V)}{xs:List (List ce×Addr×Value)}(r:KT H kvs xs)(J:∀b ys,H b=some (.tup ys)->H' b=some (.tup ys)):KT H' kvs xs:=
 Paired.mapP r λ_ _ z=>⟨z.1,J _ _ z.2.1,z.2.2⟩
section
variable {P:Program}{w:World}{H:Hp}{h:Heap}{a:Addr}
theorem KN {u:HO}(Y:gQ P w H h)(e:Rd H a u):bH P w H h a u:=e.ok Y
theorem x5 {kvs:List (ce×V)}(Y:gQ P w H h)(e:Rd H a (.dK kvs)):kvs.length<=sizeLine/\(a==sysModules)=false/\∃vs,KV kvs vs/\h.DictOf @cW a vs:=
 show bH P w H h a (.dK kvs) from KN Y e
theorem GH {kvs:List (ce×V)}(Y:gQ P w H h)(e:H a=some (.dK kvs)):kvs.length<=sizeLine/\(a==sysModules)=false/\∃vs,KV kvs vs/\h.DictOf @cW a vs:=x5 Y (.inl e)
theorem rC {ks:List ce}(Y:gQ P w H h)(e:H a=some (.tup @gD)):(tupleKind @cW).is h ks a:=by
 obtain ⟨_,its,r,o,h1,h2,n,L⟩:=(show bH P w H h a (.tup @gD) from Y a _ e);exact ⟨o,its.toArray,n,h1,h2,L,by simpa using uC r⟩
theorem xZ {kvs:List (List ce×V)}(Y:gQ P w H h)(e:Rd H a (.dT kvs)):kvs.length<=sizeLine/\(a==sysModules)=false/\
 ∃xs,KT H kvs xs/\h.DictOfH @fu a xs:=by
 obtain ⟨z,y,xs,r,o,es,I,h1,h2,L,G,S⟩:=(show bH P w H h a (.dT kvs) from KN Y e);rwa[⟨z,y,xs,r,o,es,I,h1,h2,L,G,λx j=> ?_,S⟩]
 have F:∀ {l:List (List ce×V)} {m:List (List ce×Addr×Value)},KT H l m->∀x∈m,(tupleKind @cW).is h x.1 x.2.1:=by
  intro l m q
  induction q with
  |nil=>intro x j;exact nomatch j
  | @cons p q ps qs hq t ih=>
    intro x j
    rcases mem_cons.mp j with e|j
    ·subst e;exact rC Y (by rw [<-hq.1];exact hq.2.1)
    ·exact ih x j
 exact F r x j
theorem P4 {kvs:List (List ce×V)}(Y:gQ P w H h)(e:H a=some (.dT kvs)):kvs.length<=sizeLine/\(a==sysModules)=false/\
 ∃xs,KT H kvs xs/\h.DictOfH @fu a xs:=xZ Y (.inl e)
end
def gz (H:Hp)(a:Addr)(y:V)(r:Option V):Prop:=
 (∃kvs k,Rd H a (.dK kvs)/\y=kV k/\r=eM kvs k)\/∃kvs k b,Rd H a (.dT kvs)/\y= .ref b/\H b=some (.tup (k.map kV))/\r=eM kvs k
def wQ (H:Hp)(a:Addr)(y v:V)(H':Hp):Prop:=
 (∃kvs k,H a=some (.dK kvs)/\y=kV k/\kvs.length<sizeLine/\H'=upd H a (.dK @gr))\/
 ∃kvs k b,H a=some (.dT kvs)/\y= .ref b/\H b=some (.tup (k.map kV))/\kvs.length<sizeLine/\H'=upd H a (.dT @gr)
theorem gz.k {H:Hp}{a:Addr}{kvs:List (ce×V)}{k:ce}(e:H a=some (.dK kvs)):gz H a (kV k) @gO:= .inl ⟨kvs,k,.inl e,rfl,rfl⟩
theorem wQ.k {H:Hp}{a:Addr}{kvs:List (ce×V)}{k:ce}{v:V}(e:H a=some (.dK kvs))(W:kvs.length<sizeLine):wQ H a (kV k) v (upd H a (.dK @gr)):= .inl ⟨kvs,k,e,rfl,W,rfl⟩
section
variable {X:Cx}{pins:List (Addr×Obj)}{σ:St}{H:Hp}{s:Shared}{a:Addr}{y v:V}{u r:Value}{o:Option V}{A:Around}{E:Value->Shared->Prop}
theorem aB.big (I:aB X pins σ H s):sysModules<s.heap.objs.size:=by
 have h:mainGlobals<s.heap.objs.size:=(I.mod.glob.keeps I.bk).lt;exact Nat.lt_trans @b h
theorem C6 {Q:Value->Shared->Prop}(O:A.units+1<cLine)(I:aB X pins σ H s)(g:gz H a y @bI)(L:aK y u)(h:∀w' s',aB X pins σ H s'->aK v w'->Q w' s'):
 wpAny @e A (getItem (.ref a) u) Q E s:=by
 rcases g with ⟨kvs,k,e,F,l⟩|⟨kvs,k,b,e,F,W,l⟩
 ·subst F;obtain ⟨z,Y,R,j,U⟩:=x5 I.hok e;obtain ⟨w',J,G⟩:=ko.some_of (v:=v) (o:=valueAt R k) (by rw [l];exact j.val k);exact wpAny_getItem_of (rD L) U.mapOf J (h w' _ @dC G)
 ·subst F;cases (show u=Value.ref b from L);obtain ⟨z,Y,xs,j,U⟩:=xZ I.hok e;obtain ⟨w',J,G⟩:=ko.some_of (v:=v) (o:=(atKey xs k).map (·.2)) (by rw [l];exact j.val k);obtain ⟨p,S,az⟩:=Option.map_eq_some_iff.mp J;rwa[wpAny_getItem_heap (tupleKind_room_in1 O) @gs U S ?_];rw [az];exact h w' _ @dC G
theorem RT {Q:Value->Shared->Prop}(L:A.units+1<cLine)(I:aB X pins σ H s)(g:gz H a y o)(G:aK y u)(h:∀s',aB X pins σ H s'->Q (.bool o.isSome) s'):
 wpAny @e A (compareOp .In u (.ref a)) Q E s:=by
 rcases g with ⟨kvs,k,e,F,l⟩|⟨kvs,k,b,e,F,W,l⟩
 ·subst F;obtain ⟨z,J,O,j,U⟩:=x5 I.hok e;rwa[wpAny_in_of (rD G) J U.mapOf ?_];rw [<-(j.val k).isSome_eq,<-l];exact h _ @dC
 ·subst F;cases (show u=Value.ref b from G);obtain ⟨z,J,xs,j,U⟩:=xZ I.hok e;rwa[wpAny_in_heap (tupleKind_room_in1 L) @gs J U ?_];have q:=(j.val k).isSome_eq;rw [Option.isSome_map] at q;rw [<-q,<-l];exact h _ @dC
theorem Kf {Q:Value->Shared->Prop}(L:A.units+1<cLine)(I:aB X pins σ H s)(g:gz H a y o)(G:aK y u)(h:∀s',aB X pins σ H s'->Q (.bool (!o.isSome)) s'):
 wpAny @e A (compareOp .NotIn u (.ref a)) Q E s:=by
 rcases g with ⟨kvs,k,e,F,l⟩|⟨kvs,k,b,e,F,W,l⟩
 ·subst F;obtain ⟨z,J,O,j,U⟩:=x5 I.hok e;rwa[wpAny_notIn_of (rD G) J U.mapOf ?_];rw [<-(j.val k).isSome_eq,<-l];exact h _ @dC
 ·subst F;cases (show u=Value.ref b from G);obtain ⟨z,J,xs,j,U⟩:=xZ I.hok e;rwa[wpAny_notIn_heap (tupleKind_room_in1 L) @gs J U ?_];have q:=(j.val k).isSome_eq;rw [Option.isSome_map] at q;rw [<-q,<-l];exact h _ @dC
theorem qd {h':Heap}{t':Nat}{j:HO}(I:aB X pins σ H s)(J:Qk (H a))(hs:Heap.SameBut a s.heap h')(S:∃q,h'.get? a=some q)(F:bH X.prog X.w (upd H a j) h' a j):
 aB X pins σ (upd H a j) {s with heap:=h',toks:=t'}:=
 I.write (x:=a) (e:=a) J (.inl rfl) (λb q G z=>(hs.2 b G).trans z) S F
theorem wq {P:Program}{w:World}{H':Hp}{h':Heap}{kvs:List (ce×V)}{vs:List (ce×Value)}(z:kvs.length<=sizeLine)(J:(a==sysModules)=false)(j:KV kvs vs)(dd:h'.DictOf @cW a vs):
 bH P w H' h' a (.dK kvs):=⟨z,J,vs,j,dd⟩
theorem C4 {H':Hp}{Q:Unit->Shared->Prop}(hu:A.units+1<cLine)(I:aB X pins σ H s)(g:wQ H a y v H')(ry:aK y u)(S:aK v r)(h:∀s',aB X pins σ H' s'->Q () s'):
 wpAny @e A (setItem (.ref a) u r) Q E s:=by
 rcases g with ⟨kvs,k,e,R,l,J⟩|⟨kvs,k,b,e,R,Y,l,J⟩
 ·subst R J;obtain ⟨z,O,vs,j,U⟩:=GH I.hok e
  have G:vs.length<=sizeLine:=by rw [<-j.length];exact z
  have W:(dq kvs k v).length<=sizeLine:=by have:=dh kvs k v;lia
  rwa[wpAny_setItem_pairs (hsz:=G) (rD ry) U λh' F hs=>h _ ?_];have he:∃q,h'.get? a=some q:=let ⟨q,_,_,L,_⟩:=F;⟨q,L⟩;exact qd I (by rw [e];exact True.intro) hs he (wq W O (j.put k S) F)
 ·subst R J;cases (show u=Value.ref b from ry);obtain ⟨z,O,xs,j,U⟩:=P4 I.hok e
  have G:xs.length<=sizeLine:=by rw [<-Paired.length j];exact z
  have W:(dq kvs k v).length<=sizeLine:=by have:=dh kvs k v;lia
  rwa[wpAny_setItem_heap (hsz:=G) (tupleKind_room_in1 hu) (rC I.hok Y) U λh' F hs=>h _ ?_];obtain ⟨q,es,ep,L,h2,h3,h4,_,h5⟩:=F;rwa[qd I (by rw [e];exact True.intro) hs ⟨q,L⟩ ⟨W,O,_,(j.put k Y S).keeps λc ys Z=> ?_,q,es,ep,L,h2,h3,h4,h5⟩];rw [ao (PM Z e (λz=>nomatch z))];exact Z
end
def Qj (i:Expr):Prop:=∀ov iv,subscripted i false ov iv=operate [ov,iv] (getItem ov iv)
theorem Ie {prog:Program}{w:World}{A:Around}{E:Value->Shared->Prop}{s:Shared}{env:Env}{value J:Expr}{pos:Pos}{T id:String}{Q:Value->Shared->Prop}
(W:typeLookup (.type T) "__getitem__"=pure (some (.builtin id)))(hs:Qj J)
(h:wpAny @m A (eval value env) (λo s₁=>wpAny @m A (eval J env) (λi s₂=>s₂.TypeIs o T/\wpAny @m A (getItem o i) Q E s₂) E s₁) E s):
 wpAny @m A (eval (.Subscript value J pos) env) Q E s:=by
 rwa[Subscript_ (wpAny_mono h (λo s₁ I=>wpAny_mono I (λi s₂ j=> ?_) λ_ _ x=>x) λ_ _ x=>x)];obtain ⟨O,j⟩:=j;unfold subscriptTail;rwa[wpAny_bind ?_];rw [getitemInPython_of_ne O.not_modules];rwa[wpAny_bind (wpAny_specialOf O W ?_)]
 have z:wpAny @m A (subscripted J false o i) (λr F=>wpAny @m A (letTemporaryGo value o r>>=λ_=>pure r) Q E F) E s₂:=by
  rw [hs o i];exact wpAny_operating (wpAny_mono j (λr F G=>wpAny_bind (wpAny_letTemporaryGo (wpAny_pure G))) λ_ _ x=>x)
 first
  |exact wpAny_pure (wpAny_bind z)
  |exact wpAny_bind (wpAny_pure (wpAny_bind z))
  |exact wpAny_bind z
theorem x8 {X:Cx}{pins:List (Addr×Obj)}{σ:St}{H:Hp}{s:Shared}{a:Addr}{y:V}{o:Option V}(I:aB X pins σ H s)(g:gz H a y o):s.TypeIs (.ref a) "dict":=by
 rcases g with ⟨kvs,k,e,_,_⟩|⟨kvs,k,b,e,_,_,_⟩
 ·obtain ⟨_,_,L,_,U⟩:=x5 I.hok e;exact U.typeIs
 ·obtain ⟨_,_,xs,_,U⟩:=xZ I.hok e;exact U.typeIs
def O6 (td ty:TE):TE:=λσ H Q=>td σ H λx H1=>ty σ H1 λy H2=>∃a v,x= .ref a/\gz H2 a y @bI/\Q v H2
def Rq (ty td:TE):TE:=λσ H Q=>ty σ H λy H1=>td σ H1 λx H2=>∃a o,x= .ref a/\gz H2 a y o/\Q (.bl o.isSome) H2
def Ib (ty td:TE):TE:=λσ H Q=>ty σ H λy H1=>td σ H1 λx H2=>∃a o,x= .ref a/\gz H2 a y o/\Q (.bl (!o.isSome)) H2
def O9 (td ty tv:TE):TS:=λD σ H=>tv σ H λv H1=>td σ H1 λx H2=>ty σ H2 λy H3=>∃a H4,x= .ref a/\wQ H3 a y v H4/\D.nx σ H4
section
variable {X:Cx}{o i e value:Expr}{pos pos' tpos:Pos}{td ty tv:TE}
theorem cB (J:X.A.units+1<cLine)(j:PE X o td)(hi:PE X i ty)(hs:Qj i):PE X (.Subscript o i pos) (O6 td ty):=by
 intro pins s σ H Q I h;rwa[Ie PySem.F.slot_dict_getitem.lookup hs (bP @L λu U ⟨x,H1,W,R,S⟩=>bP (hi pins U σ H1 _ W S) λZ s2 ⟨y,H2,O,z,a,v,ex,g,Y⟩=> ?_)];subst ex;obtain rfl:u=Value.ref a:=R;exact ⟨x8 O g,C6 J O g z λw' s3 L G=>⟨v,H2,L,G,Y⟩⟩
theorem MD (F:X.A.units+1<cLine)(hi:PE X i ty)(j:PE X o td):PC X .In i o (Rq ty td):=by
 intro pins s σ H Q I h;rwa[bP @cF λY S ⟨y,H1,U,z,L⟩=>bP (j pins S σ H1 _ U L) λu Z ⟨x,H2,O,J,a,R,ex,g,W⟩=> ?_];subst ex;obtain rfl:u=Value.ref a:=J;exact RT F O g z λs3 G=>⟨.bl R.isSome,H2,G,rfl,W⟩
theorem Cj (F:X.A.units+1<cLine)(hi:PE X i ty)(j:PE X o td):PC X .NotIn i o (Ib ty td):=by
 intro pins s σ H Q I h;rwa[bP @cF λY S ⟨y,H1,U,z,L⟩=>bP (j pins S σ H1 _ U L) λu Z ⟨x,H2,O,J,a,R,ex,g,W⟩=> ?_];subst ex;obtain rfl:u=Value.ref a:=J;exact Kf F O g z λs3 G=>⟨.bl (!R.isSome),H2,G,rfl,W⟩
theorem pZ (F:X.A.units+1<cLine)(j:PE X o td)(hi:PE X i ty)(W:PE X value tv)(hs:swapsWith value (some (.Subscript o i pos')) pos.line X.env=pure false):
 PS X (.Assign [.Subscript o i pos'] value pos) (O9 td ty tv):=by
 intro pins s σ H D I h;rwa[wpAny_Assign_Subscript (bP @ea λr G ⟨v,H1,J,z,q1⟩=>bP (j pins G σ H1 _ J q1) λu R ⟨x,H2,O,rx,q2⟩=>bP (hi pins R σ H2 _ O q2) λiv s3 ⟨y,H3,Z,L,a,Y,ex,g,S⟩=> ?_) hs];subst ex;obtain rfl:u=Value.ref a:=rx;exact C4 F Z g L z λs4 U=>⟨σ,Y,U,S⟩
end
theorem x6 {P:Program}{w:World}{H:Hp}(h:Heap)(F:sysModules<h.objs.size):bH P w H (h.push {cls:= .type "dict",data:= .dict #[]}) h.objs.size (.dK []):=
 ⟨Nat.zero_le _,beq_eq_false_iff_ne.mpr (Ne.symm (Nat.ne_of_lt F)),[],.nil,Heap.DictOf.new h⟩
def LS:TE:=λ_ H Q=>∀p,H p=none->Q (.ref p) (upd H p (.dK []))
section
variable {X:Cx}{pos:Pos}
theorem E5:PE X (.Dict [] [] pos) LS:=λpins s σ H Q I h=>
 wpAny_Dict_empty ⟨.ref s.heap.objs.size,_,I.laid (a:=s.heap.objs.size) (o:= .dK []) (t':=s.toks) (λ_ _ q=>Heap.get?_push_of_some _ q) @f (x6 s.heap I.big),rfl,h _ @bG⟩
end
def yZ:List (TE×TE)->St->Hp->(List (V×V)->Hp->Prop)->Prop
 |[],_,H,Q=>Q [] H
 |(tk,tv)::r,σ,H,Q=>tk σ H λx H1=>tv σ H1 λy H2=>yZ r σ H2 λps H3=>Q ((x,y)::ps) H3
abbrev VV:List (V×V)->List (Value×Value)->Prop:=Paired λp q=>aK p.1 q.1/\aK p.2 q.2
def QB (X:Cx)(pos:Pos)(keys:List @gf)(values:List Expr)(trs:List (TE×TE)):Prop:=
 ∀(pins:List (Addr×Obj)) (s:Shared) (σ:St) (H:Hp) (Q:List (V×V)->Hp->Prop),aB X pins σ H s->yZ trs σ H Q->
  wpAny @e X.A (evalPairs (pairTrees keys values X.env pos)) (λvs s'=>∃ps H',aB X pins σ H' s'/\VV ps vs/\Q ps H') X.xe s
theorem IQ {X:Cx}{pos:Pos}:QB X pos [] [] []:=λpins s σ H Q I h=>pairTrees_nil_walk ⟨[],H,I,.nil,h⟩
theorem qV {X:Cx}{pos:Pos}{k v:Expr}{ks:List @gf}{vs:List Expr}{tk tv:TE}{j:List (TE×TE)}(U:PE X k tk)(W:PE X v tv)(Y:QB X pos ks vs j):
 QB X pos (some k::ks) (v::vs) ((tk,tv)::j):=λpins s σ H Q I h=>
 pairTrees_cons_walk (bP (U pins s σ H _ I h) λu G ⟨x,H1,J,rx,q1⟩=>bP (W pins G σ H1 _ J q1) λw2 R ⟨y,H2,O,L,q2⟩=>
  bP (Y pins R σ H2 _ O q2) λws s3 ⟨ps,F,Z,z,S⟩=>⟨(x,y)::ps,F,Z,.cons ⟨rx,L⟩ z,S⟩)
noncomputable def oy (kvs more:List (ce×V)):List (ce×V):=more.foldl (λacc kv=>dq acc kv.1 kv.2) kvs
theorem KV.merge:∀ {more:List (ce×V)} {rs:List (ce×Value)} {kvs:List (ce×V)} {vs:List (ce×Value)},KV more rs->KV kvs vs->KV (oy kvs more) (merged vs rs):=by
 intro more rs kvs vs r;unfold KV at r
 induction r generalizing kvs vs with
 |nil=>intro q;exact q
 | @cons p q ps qs h t ih=>
   intro j
   have e:KV @fm (stored vs q.1 q.2):=by
    have:=j.put p.1 h.2;rw [<-h.1];exact this
   exact ih e
theorem kF:∀(more kvs:List (ce×V)),(oy kvs more).length<=kvs.length+more.length
 |[],kvs=>by show kvs.length<=kvs.length+0;lia
 |p::r,kvs=>by
  have h1:=kF r @fm;have h2:=dh kvs p.1 p.2;show (oy @fm r).length<=_;rw [length_cons];lia
theorem rX {P:Program}{w:World}:∀ {kvs:List (ce×V)} {ws:List (Value×Value)},VV (kvs.map λkv=>(kV kv.1,kv.2)) ws->∃rs,Carries @cW ws rs/\KV kvs rs
 |[],_,r=>by rw [map_nil] at r;cases r;exact ⟨[],True.intro,.nil⟩
 |p::kvs,_,r=>by
  rw [map_cons] at r
  cases r with
  | @cons a b as bs h t=>
    obtain ⟨rs,c,q⟩:=rX (P:=P) (w:=w) t;obtain ⟨z,j⟩:=b;exact ⟨(p.1,j)::rs,⟨rD h.1,rfl,c⟩,.cons ⟨rfl,h.2⟩ q⟩
def O5 (trs:List (TE×TE)):TE:=λσ H Q=>∀p,H p=none->yZ trs σ (upd H p (.dK [])) λps H2=>H2 p=some (.dK [])/\∃kvs:List (ce×V),ps=kvs.map (λkv=>(kV kv.1,kv.2))/\kvs.length<=15/\Q (.ref p) (upd H2 p (.dK (oy [] kvs)))
theorem IW {X:Cx}{pos:Pos}{j:List @gf}{F:List Expr}{J:List (TE×TE)}(h:QB X pos j F J)(L:j.all (·.isSome)=true)(hl:j.length=F.length)(Y:j≠[])
(O:j.length<=15):PE X (.Dict j F pos) (O5 J):=by
 intro pins s σ H Q I q;have hn:=I.hok.fresh (Nat.le_refl s.heap.objs.size);have I1:=I.laid (a:=s.heap.objs.size) (o:= .dK []) (h':=s.heap.push {cls:= .type "dict",data:= .dict #[]}) (t':=s.toks) (λ_ _ q=>Heap.get?_push_of_some _ q) @f (x6 s.heap I.big);rwa[wpAny_Dict_walk (knd:=cr X.prog X.w) L hl Y O (bP (h pins _ σ _ _ I1 (q _ hn)) λws s2 ⟨ps,H2,S,R,e,kvs,ep,lk,q2⟩=> ?_)];subst ep;obtain ⟨rs,c,U⟩:=rX (P:=X.prog) (w:=X.w) R;obtain ⟨z,hd,aa,Z,W⟩:=GH S.hok e;cases Z;rwa[⟨rs,c,W,λh' G hs=>⟨.ref s.heap.objs.size,_,?_,rfl,q2⟩⟩]
 have hz:(oy [] kvs).length<=sizeLine:=by
  have h1:=kF kvs [];rw [length_nil] at h1;rw [sizeLine_eq];lia
 have he:∃q,h'.get? s.heap.objs.size=some q:=let ⟨q,_,_,hq,_⟩:=G;⟨q,hq⟩;exact qd S (by rw [e];exact True.intro) hs he (wq hz hd (U.merge .nil) G)
structure M1 (X:Cx)(o:Expr)(m:Str)(apos:Pos)(e:Expr)(cpos:Pos):Prop where
 base:attributeBase o m X.env @fO=eval o X.env
 few:((backTo cpos (starEach [e] X.env)).all (λx=> !x.1)&&(backToKw cpos @dI).all @eA
  &&decide (([e]:List Expr).length+([]:List Keyword).length+(if ([]:List Keyword).isEmpty then 0 else 1)<30))=true
 line:(apos.endLine==cpos.line)=true
 trees:backTo cpos (starEach [e] X.env)=[(false,eval e X.env)]
structure M2 (X:Cx)(o:Expr)(m:Str)(apos:Pos)(e f:Expr)(cpos:Pos):Prop where
 base:attributeBase o m X.env @fO=eval o X.env
 few:((backTo cpos (starEach [e,f] X.env)).all (λx=> !x.1)&&(backToKw cpos @dI).all @eA
  &&decide (([e,f]:List Expr).length+([]:List Keyword).length+(if ([]:List Keyword).isEmpty then 0 else 1)<30))=true
 line:(apos.endLine==cpos.line)=true
 trees:backTo cpos (starEach [e,f] X.env)=[(false,eval e X.env),(false,eval f X.env)]
end L2
namespace PySem
namespace F
theorem lk_list_keys:typeLookup (.type "list") "keys"=pure none:=by rw [typeLookup_type,builtinLookup_eq_fast];kernel_rfl
theorem lk_list_hook:typeLookup (.type "list") "__getattr__"=pure none:=by rw [typeLookup_type,builtinLookup_eq_fast];kernel_rfl
theorem sub_attr_attr:isSubtype (.type "AttributeError") (.type "AttributeError")=pure true:=by rw [isSubtype_type];kernel_rfl
theorem attr_first:((Manifest.find? "AttributeError").elim false λt=>t.mro.contains "StopIteration"||t.mro.contains "SystemExit")=false:=by decide+kernel
end F
section
variable {α:Type}{prog:Program}{w:World}{A:Around}{E:Value->Shared->Prop}{s:Shared}
theorem CB {e:Addr}{o name:Value}{vs:Array Value}{z:Option Addr}{sl:Array @Z}{Q:Unit->Shared->Prop}(S:s.heap.get? e=some ⟨.type "AttributeError",z,.fields vs,sl⟩)(J:vs[6]? =some unsetMember)(R:vs[7]? =some unsetMember)
(L:Q () {s with heap:=s.heap.update e (Obj.mapFields λvs=>vs.extract 0 6++ #[name,o])}):wpAny @m A (noteAttr (.ref e) o name) Q E s:=by
 have O:s.TypeIs (.ref e) "AttributeError":=⟨_,S,rfl⟩;unfold noteAttr lacksNameAndObj;rwa[wpAny_bind ?_];rwa[wpAny_bind (wpAny_isInstance O F.sub_attr_attr ?_)];simp only [Bool.not_true,Bool.false_eq_true,if_false];rwa[wpAny_bind (wpAny_load S ?_)];simp only [J,R];have j:unsetMember=Value.int 0 0:=rfl;rw [j];simp only [Bool.or_self,Bool.false_eq_true,if_false];rw [if_neg @b];rwa[wpAny_pure ?_];simp only [if_true];rwa[wpAny_bind @fA];rwa[wpAny_bind (wpAny_typeOf O ?_)];exact wpAny_layMembers S rfl L
theorem zP {o:Value}{name j:Str}{Q:α->Shared->Prop}(I:A.handled=none)(R:j.length<=sizeLine)(L:∀e h' t',(∀b ob,s.heap.get? b=some ob->h'.get? b=some ob)->(∃ob,h'.get? e=some ob/\ob.cls= .type "AttributeError")->E (.ref e) {s with heap:=h',toks:=t'}):
 wpAny @m A (raiseAttrError o name j:Sem α) Q E s:=by
 unfold raiseAttrError;rwa[wpAny_bind (wpAny_mkStr ?_ R)];rwa[wpAny_bind ?_];unfold newExc newTuple;rwa[wpAny_bind (wpAny_newObj_type ?_ (by show (1:Nat)<=sizeLine;exact L2.bJ @b))];rwa[wpAny_bind (m:=firstArgMember _ _) (wpAny_of_eq (a:=Value.none) (by simp only [firstArgMember,F.attr_first];rfl) ?_)];rwa[wpAny_newObj_type ?_];rwa[wpAny_bind (wpAny_mkText ?_)];rwa[wpAny_bind ?_];generalize G:(s.heap.push {cls:= .type "tuple",data:= .seq #[Value.str j s.toks]})=h1
 have O:∀b ob,s.heap.get? b=some ob->h1.get? b=some ob:=λb ob z=>by rw [<-G];exact Heap.get?_push_of_some _ z
 show wpAny @m A (noteAttr (.ref h1.objs.size) o _) _ _ {s with heap:=h1.push {cls:= .type "AttributeError",data:= .fields #[Value.ref s.heap.objs.size,.none,.none,.none,.bool false,.none,unsetMember,unsetMember]},toks:=s.toks+1+1};rwa[CB (vs:= #[Value.ref s.heap.objs.size,.none,.none,.none,.bool false,.none,unsetMember,unsetMember]) (Heap.get?_push_size _ rfl) rfl rfl ?_];rwa[wpAny_raiseNew_none I ?_];have S:=Heap.SameBut.update (h1.push {cls:= .type "AttributeError",data:= .fields #[Value.ref s.heap.objs.size,.none,.none,.none,.bool false,.none,unsetMember,unsetMember]}) h1.objs.size (Obj.mapFields λJ=>J.extract 0 6++ #[Value.str name (s.toks+1),o]);rwa[L h1.objs.size _ _ (λb ob z=> ?_) ?_]
 ·rw [S.2 b (Nat.ne_of_lt (Heap.lt_size (O b ob z)))];exact Heap.get?_push_of_some _ (O b ob z)
 ·exact ⟨_,Heap.get?_update_self _ (Heap.get?_push_size _ rfl) rfl,rfl⟩
end
section
variable {prog:Program}{w:World}{A:Around}{E:Value->Shared->Prop}{h:Heap}{g:Array GenState}{d:Drawn}{t:Nat}{os:OsState}{a:Addr}{its:Array Value}{n:Nat}{sl:Array @Z}
theorem pN {tk:Tok}{Q:Fin->Shared->Prop}(L:A.handled=none)(z:h.get? a=some ⟨.type "list",none,.seq its n,sl⟩)(j:∀e h' t',(∀b ob,h.get? b=some ob->h'.get? b=some ob)->(∃ob,h'.get? e=some ob/\ob.cls= .type "AttributeError")->E (.ref e) ⟨h',g,d,t',os⟩):
 wpAny @m A (Builtin.«object.__getattribute__» ⟨[.ref a,.str "keys" tk],[]⟩) Q E ⟨h,g,d,t,os⟩:=by
 have O:(⟨h,g,d,t,os⟩:Shared).TypeIs (.ref a) "list":=⟨_,z,rfl⟩;have Y:=F.lk_list_keys
 repeat (any_goals (first|assumption|with_reducible refine zP L ?_ ?_|wp_step))
 all_goals first|exact L2.bJ @i|exact j
theorem rA {tk:Tok}{R:Result->Shared->Prop}(L:A.handled=none)(z:h.get? a=some ⟨.type "list",none,.seq its n,sl⟩)(j:∀e h' t',(∀b ob,h.get? b=some ob->h'.get? b=some ob)->(∃ob,h'.get? e=some ob/\ob.cls= .type "AttributeError")->R (.error (.ref e)) ⟨h',g,d,t',os⟩):
 codeAny @m A (.call (.builtin "list.__getattribute__") ⟨[.ref a,.str "keys" tk],[]⟩) R ⟨h,g,d,t,os⟩:=
 codeAny_call_builtin F.slot_list_getattribute.plain F.entry_list_ga (F.slot_list_getattribute.check _ _ _ _ _ _ _ _ (show (⟨h,g,d,t,os⟩:Shared).TypeIs (.ref a) "list" from ⟨_,z,rfl⟩) (F.args_list_getattribute_2 _ _) (pN L z j))
theorem rB {Q:Option Value->Shared->Prop}(I:A.handled=none)(j:h.get? a=some ⟨.type "list",none,.seq its n,sl⟩)(J:∀h' t',(∀b ob,h.get? b=some ob->h'.get? b=some ob)->Q none ⟨h',g,d,t',os⟩):wpAny @m A (getAttr? (.ref a) "keys") Q E ⟨h,g,d,t,os⟩:=by
 have S:(⟨h,g,d,t,os⟩:Shared).TypeIs (.ref a) "list":=⟨_,j,rfl⟩;have O:=F.slot_list_getattribute.lookup;have W:=F.slot_list_getattribute.bind (.ref a);have Z:=F.lk_list_hook;unfold getAttr? getAttrBy?
 repeat (any_goals (first|assumption|wp_step))
 rwa[rA I j (λe h' t' k x=> ?_)];have G:(⟨h',g,d,t',os⟩:Shared).TypeIs (.ref e) "AttributeError":=x;have L:=F.sub_attr_attr;have z:=J h' t' k;show wpAny _ _ (getattributeRaised _ _ _ _ _ _ _) _ _ _;unfold getattributeRaised;rwa[wpAny_bind (wpAny_isInstance G L ?_)];simp only [if_true]
 have R:hookBehind (.type "list") none=pure none:=by unfold hookBehind;rw [if_neg @b,Z]
 rwa[wpAny_bind ?_];show wpAny _ _ (hookBehind (.type "list") none) _ _ _;rw [R];rwa[wpAny_pure ?_];unfold hookOrError attributeErrorLeaves;simp only [Bool.not_false,if_true];rwa[wpAny_throw ?_];rwa[wpAny_bind (wpAny_isInstance G L ?_)];simp only [if_true];exact wpAny_pure z
end
end PySem
namespace PySem
namespace F
theorem entry_dul:entryFor table "dict.update.loop"=some Builtin.«dict.update.loop»:=entryFor_of_tree @o
theorem plain_dul:plainId "dict.update.loop"=true:=by decide+kernel
end F
end PySem
namespace L2
open PySem PySem.Spec PyProof.Rows
noncomputable def iz (kvs ps:List (ce×V)):List (ce×V):=ps.foldl (λa p=>dq a p.1 p.2) kvs
theorem Kb {X:Cx}{pins:List (Addr×Obj)}{σ:St}{l It dd:Addr}{xs:List V}{R:Result->Shared->Prop}{A:Around}(hh:A.handled=none)
(aC:X.s₀.heap.objs.size<=It)(ag:∀p∈X.pn++pins,p.1≠It):
 ∀(r j:Nat) (s:Shared) (H:Hp) (kvs ps:List (ce×V)) (t:Tok) (oI:Obj),xs.length - j=r->j<=xs.length->
  aB X ((It,oI)::pins) σ H s->H l=some (.lst xs)->s.heap.IsListIter It l j->H dd=some (.dK kvs)->Paired (λx (p:ce×V)=>∃b,x=V.ref b/\H b=some (.tup [kV p.1,p.2])) (xs.drop j) ps->kvs.length+ps.length<sizeLine->
  (∀s',aB X pins σ (upd H dd (.dK (iz kvs ps))) s'->R (.ok (.ret .none)) s')->
  codeAny @e A (.builtin "dict.update.loop" ⟨[.ref dd,.ref It,.int j t,.none],[]⟩) R s:=by
 intro r
 induction r with
 |zero=>
  intro j s H kvs ps t oI hr hj I L Z hd hp hz hR
  have ej:j=xs.length:=by lia
  subst ej;rw [drop_length] at hp;cases hp;obtain ⟨us,ad,ac⟩:=j4 I L
  have S:us.toArray.size=xs.length:=by rw [size_toArray,ad.length]
  have O:=I.pin (It,oI) @H
  have al:l≠It:=λz=>by have:=O.2.1;rw [<-z,L] at this;cases this
  have W:=Walks.list (prog:=X.prog) (w:=X.w) (A:=A.in1) hh It l al us.toArray;rwa[codeAny_builtin PySem.F.entry_dul ?_];rw [Around.under_plainId PySem.F.plain_dul _];show wpAny _ A.in1 (pyNext (.ref It)>>=_) _ _ _;rwa[wpAny_bind (W.done _ _ _ ⟨by rw [S];exact Z,ac⟩ λh1 ab U=> ?_)];have U:∀b u,b≠It->s.heap.get? b=some u->h1.get? b=some u:=λb u n e=>U b u (by simpa using n) e;have I0:aB X pins σ H s:=I.sub λp hp=> .tail _ hp
  have as:∀x c,X.env.cells.lookup x=some c->c≠It:=λx c e z=>by
   obtain ⟨v,oc,h1,h2⟩:=I.cell x c e;rw [z,O.1] at h1;cases h1;exact O.2.2.2.2 v h2
  have I1:aB X pins σ H {s with heap:=h1,toks:=ab}:=I0.turned (it:=It) U O.2.1 O.2.2.1 (.inr aC) as ag
  have eH:upd H dd (.dK (iz kvs []))=H:=by
   funext b
   unfold upd iz;split
   ·rename_i e;rw [e,hd];rfl
   ·rfl
  rw [eH] at hR;exact wpAny_bind (wpAny_pure (wpAny_pure (hR _ I1)))
 |succ r ih=>
  intro j s H kvs ps t oI hr hj I L Z hd hp hz hR
  have aa:j<xs.length:=by lia
  obtain ⟨us,ad,ac⟩:=j4 I L
  have S:us.toArray.size=xs.length:=by rw [size_toArray,ad.length]
  have O:=I.pin (It,oI) @H
  have al:l≠It:=λz=>by have:=O.2.1;rw [<-z,L] at this;cases this
  have W:=Walks.list (prog:=X.prog) (w:=X.w) (A:=A.in1) hh It l al us.toArray;rw [drop_eq_getElem_cons aa] at hp
  obtain ⟨G,J,rfl,⟨b,eb,hb⟩,ax⟩:∃G J,ps=G::J/\(∃b,xs[j]=V.ref b/\H b=some (.tup [kV G.1,G.2]))/\Paired (λx (p:ce×V)=>∃b,x=V.ref b/\H b=some (.tup [kV p.1,p.2])) (xs.drop (j+1)) J:=by
   cases hp with
   |cons a c=>exact ⟨_,_,rfl,a,c⟩
  rwa[codeAny_builtin PySem.F.entry_dul ?_];rw [Around.under_plainId PySem.F.plain_dul _];show wpAny _ A.in1 (pyNext (.ref It)>>=_) _ _ _;rwa[wpAny_bind (W.item j _ _ _ (by rw [S];exact aa) ⟨Z,ac⟩ λu h1 ab hP ai U=> ?_)]
  have hu:us[j]? =some u:=by simpa using hP
  have ru:aK (V.ref b) u:=by
   obtain ⟨u',au,ru⟩:=ad.get (show xs[j]? =some (V.ref b) by rw [getElem?_eq_getElem aa,eb]);rw [hu] at au;cases au;exact ru
  cases (show u=Value.ref b from ru);obtain ⟨Y,aG,aw,ah⟩:=id ai.1;have U:∀b u,b≠It->s.heap.get? b=some u->h1.get? b=some u:=λb u n e=>U b u (by simpa using n) e
  have I1:aB X ((It,Y)::pins) σ H {s with heap:=h1,toks:=ab}:=
   I.repin (t':=ab) aC ag U aG λv e=>by rw [ah] at e;cases e
  obtain ⟨its,an,ht,aH⟩:=I1.tuple (aD.of hb)
  obtain ⟨ku,vu,af,rk,rv⟩:∃ku vu,its=[ku,vu]/\aK (kV G.1) ku/\aK G.2 vu:=by
   cases an with|cons a t1=>cases t1 with|cons b t2=>cases t2;exact ⟨_,_,rfl,a,b⟩
  subst af;show wpAny _ A.in1 (holding [Value.ref b] _>>=_) _ _ _;rwa[wpAny_bind (wpAny_holding ?_)];rwa[wpAny_bind (wpAny_tryCatch ?_)];unfold Builtin.Dict.pairItems;rwa[wpAny_bind (wpAny_typeOf ht.typeIs ?_)];rw [if_pos @b];obtain ⟨ot,aA,aF,nt,ar⟩:=id ht;rwa[wpAny_bind (wpAny_seqItems aA ar @bE)];show wpAny _ A.in1 (holding [ku,vu] (dictSet dd ku vu)) _ _ _;rwa[wpAny_holding ?_];obtain ⟨zk,am,vs,ak,az⟩:=GH I1.hok hd
  have ap:vs.length<=sizeLine:=by rw [<-ak.length];exact zk
  have av:(dq kvs G.1 G.2).length<=sizeLine:=by have:=dh kvs G.1 G.2;rw [length_cons] at hz;lia
  rwa[wpAny_dictSet_pairs (hsz:=ap) (rD rk) az λh2 ae aq=> ?_];have he:∃q,h2.get? dd=some q:=let ⟨q,_,_,hq,_⟩:=ae;⟨q,hq⟩;have I2:=qd (t':=ab+1) I1 (by rw [hd];exact True.intro) aq he (wq av am (ak.put G.1 rv) ae);have aE:=I2.pin (It,Y) @H
  have ay:l≠dd:=λz=>by rw [z,hd] at L;cases L
  rwa[wpAny_pure ⟨plainId_quiet PySem.F.plain_dul _,?_⟩];rwa[ih (j+1) _ (upd H dd (.dK @gR)) @gR J _ Y @c @c I2 (by rw [ao ay];exact L) ⟨Y,aE.1,aw,ah⟩ aj (Paired.imp' (λx p ⟨c,ec,hc⟩=>⟨c,ec,by rw [ao (λz=>by rw [z,hd] at hc;cases hc)];exact hc⟩) ax) ?_ ?_]
  ·have:=dh kvs G.1 G.2;rw [length_cons] at hz;lia
  ·intro s' I';rw [AO] at I';exact hR s' I'
def K0 (l:Addr)(H:Hp)(Q:VK):Prop:=∃(xs:List V) (ps:List (ce×V)),H l=some (.lst xs)/\Paired (λx (p:ce×V)=>∃b,x=V.ref b/\H b=some (.tup [kV p.1,p.2])) xs ps/\ps.length<sizeLine/\∀d,H d=none->Q (.ref d) (upd H d (.dK (iz [] ps)))
theorem C5 {X:Cx}{pins:List (Addr×Obj)}{σ:St}{H:Hp}{s:Shared}{l:Addr}{Q:VK}(hh:X.A.handled=none)(I:aB X pins σ H s)(hP:K0 l H Q){E:Value->Shared->Prop}:
 wpAny @e X.A (call (.type "dict") [.ref l]) @A E s:=by
 obtain ⟨xs,ps,Y,Z,hz,q⟩:=hP;rwa[callType_codes (Q₁:=λJ s₁=>J= .ref s.heap.objs.size/\s₁= {s with heap:=s.heap.push {cls:= .type "dict",data:= .dict #[]}}) PySem.F.kt_called_dict (PySem.F.kt_typeCall_dict_1 _) PySem.F.entry_dict_init (kt_code_dict_new _ ⟨rfl,rfl⟩) ?_];rintro J s₁ ⟨rfl,rfl⟩;generalize hd:s.heap.objs.size=U
 have nd:H U=none:=by rw [<-hd];exact I.hok.fresh @f
 have j:(s.heap.push {cls:= .type "dict",data:= .dict #[]}).DictOf (cr X.prog X.w) U []:=by rw [<-hd];exact Heap.DictOf.new s.heap
 have I1:aB X pins σ @dk {s with heap:=s.heap.push {cls:= .type "dict",data:= .dict #[]}}:=by
  have z:=I.laid (a:=s.heap.objs.size) (o:= .dK []) (t':=s.toks) (h':=s.heap.push {cls:= .type "dict",data:= .dict #[]}) (λb q hq=>Heap.get?_push_of_some _ hq) @f (wq @ed (beq_eq_false_iff_ne.mpr (Ne.symm (Nat.ne_of_lt I.big))) .nil (Heap.DictOf.new s.heap));rw [hd] at z;exact z
 rwa[⟨j.typeIs,PySem.F.args_dict_init_2 _ _,?_⟩];unfold Builtin.«dict.__init__»;rwa[wpAny_bind ?_];unfold Builtin.Dict.selfAndRest;rwa[wpAny_bind (wpAny_notOrdered_dict j.typeIs ?_)];show wpAny _ _ (pure (U,[Value.ref l])) _ _ _;rwa[wpAny_pure ?_];show wpAny _ _ (Builtin.Dict.updateFrom "dict.__init__" U (.ref l) [] .none) _ _ _;unfold Builtin.Dict.updateFrom
 have ay:l≠U:=λz=>by rw [z,nd] at Y;cases Y
 have G:upd H U (.dK []) l=some (.lst xs):=by rw [ao ay];exact Y
 obtain ⟨_,us,n,ac,ad⟩:=(show bH X.prog X.w _ _ l (.lst xs) from I1.hok l _ G);have W:({s with heap:=s.heap.push {cls:= .type "dict",data:= .dict #[]}}:Shared).TypeIs (.ref l) "list":=⟨_,ad,rfl⟩;rwa[wpAny_bind (wpAny_typeOf W ?_)];rw [if_pos @b];rwa[wpAny_bind (rB (by exact hh) ad λh' R k=> ?_)];rw [if_pos (show (none:Option Value).isNone=true from rfl)];rwa[wpAny_bind @fA];have L:aB X pins σ @dk {s with heap:=h',toks:=R}:=I1.kept (t':=R) k;obtain ⟨ab,aa,O⟩:=j4 L G;rwa[wpAny_bind (wpAny_pyIter_list O ?_)]
 have I3:aB X ((h'.objs.size,{cls:= .type "list_iterator",data:= .fields #[.ref l,.int 0 0]})::pins) σ @dk {s with heap:=h'.push {cls:= .type "list_iterator",data:= .fields #[.ref l,.int 0 0]},toks:=R}:=
  L.pinNew (t':=R) (a:=h'.objs.size) @f (λb u e=>Heap.get?_push_of_some _ e) (Heap.get?_push_size _ rfl) λv e=>by cases e
 rwa[wpAny_pure ⟨plainId_quiet PySem.F.plain_dul _,?_⟩];rwa[Kb (A:=X.A.in1) (xs:=xs) (l:=l) (It:=h'.objs.size) (dd:=U) hh L.sz (λp Z=>Nat.ne_of_lt (Heap.lt_size (L.pin p Z).1)) _ 0 _ @dk [] ps _ _ rfl @ed I3 G ⟨_,Heap.get?_push_size _ rfl,rfl,rfl⟩ aj ?_ ?_ ?_]
 ·exact Paired.imp' (λx p ⟨c,ec,S⟩=>⟨c,ec,by rw [ao (λz=>by rw [z,nd] at S;cases S)];exact S⟩) Z
 ·rw [length_nil,Nat.zero_add];exact hz
 ·intro s' I';rw [AO] at I';exact ⟨rfl,V.ref U,_,I',rfl,q U nd⟩
def Lx:List V->Hp->VK->Prop:=λxs H Q=>match xs with|[.ref l]=>K0 l H Q|_=>False
theorem Hy {X:Cx}(j:X.calm=true):bR X (.type "dict") Lx:=by
 intro pins s σ H xs z Q I r h
 match xs,h,r with
 |[.ref l],h,r=>
  cases r with
  |cons a t=>
   cases t;cases (show _=Value.ref l from a);exact C5 @ez I h
open PySem.Calls PySem.W
def F7 (K:Fg)(a:Addr)(c:V)(H:Hp)(Q:VK):Prop:=oE K a c H Q\/∃xs cv b,aD K H a xs/\cV c=some cv/\W.kitOne K (.type "tuple") cv=some b/\Q (.bl b) H
def OL (K:Fg):List V->Hp->VK->Prop:=λxs H Q=>match xs with
 |[.ref a,c]=>F7 K a c H Q
 |xs=>DH K xs H Q
theorem lJ {K:Fg}{H:Hp}{a:Addr}{c:V}{xs:List V}{G:Value}{b:Bool}{Q:VK}(h:aD K H a xs)(h1:cV c=some G)(L:W.kitOne K (.type "tuple") G=some b)(g:Q (.bl b) H):F7 K a c H Q:= .inr ⟨xs,G,b,h,h1,L,g⟩
theorem F6 {K:Fg}{H:Hp}{a:Addr}{c:V}{G t:Value}{b:Bool}{Q:VK}(h1:cV c=some G)(h2:jp K H (.ref a) t)(L:W.kitOne K t G=some b)(g:Q (.bl b) H):F7 K a c H Q:= .inl (v9 h1 h2 L g)
theorem d7 {X:Cx}{K:Fg}(G:X.K=K):bR X (.builtin "isinstance") (OL K):=by
 intro pins s σ H xs j Q I r h;have F:DH K xs H Q->wpAny @e X.A (call (.builtin "isinstance") j) @A X.xe s:=λh=>yW G pins s σ H xs j Q I r h
 match xs,h with
 |[.ref a,c],h=>
  rcases h with h|⟨ys,U,b,e,J,R,q⟩
  ·exact F h
  ·subst G;obtain ⟨u,S,rfl,L,O⟩:=AN r;cases GX J O;obtain rfl:u=Value.ref a:=L;obtain ⟨its,_,p,_⟩:=I.tuple e;obtain ⟨o,h1,h2,_⟩:=p;exact W.kia_one W.kitx_tuple I.kIn ⟨o,h1,h2⟩ R (λz=>nomatch z) λtk=>⟨.bl b,H,I.tok _,rfl,q⟩
 |[],h=>exact F h
 |[.non],h=>exact F h
 |[.bl _],h=>exact F h
 |[.int _],h=>exact F h
 |[.str _],h=>exact F h
 |[.byt _],h=>exact F h
 |[.flt _],h=>exact F h
 |[.ty _],h=>exact F h
 |[.ref _],h=>exact F h
 |[.non,c],h=>exact F h
 |[.bl _,c],h=>exact F h
 |[.int _,c],h=>exact F h
 |[.str _,c],h=>exact F h
 |[.byt _,c],h=>exact F h
 |[.flt _,c],h=>exact F h
 |[.ty _,c],h=>exact F h
 |x::y::z::r,h=>exact F (by cases x<;>exact h)
theorem m8.imp {P:Program}{w:World}{K:Frag}{mg:Str->Option Value}{base:Heap}{n m:Nat}{f:Addr}{sp j:Sp}(c:m8 P w K mg base n f sp)(z:n<=m)(h:∀vs H Q E,j vs H Q E->sp vs H Q E):m8 P w K mg base m f j:=
 ⟨λA outer s H F vs Q E Y G r g=>c.run A outer s H F vs Q E (Y.mono z) G r (h _ _ _ _ g),λvs H Q E I g=>c.keep vs H Q E I (h _ _ _ _ g)⟩
theorem EX {X:Cx}(i:Nat){x:Str}{pos:Pos}(hi:X.N[i]? =some x:=by rfl)(z:X.N.Nodup:=by (conv=>arg 1;whnf);decide+kernel)(j:K9 X.env.scope x:=by first|exact Or.inl rfl|exact Or.inr rfl)(F:X.fn x=true\/X.env.scope.names.lookup x=some .local:=by first|exact .inl rfl|exact .inr rfl|assumption):PG X (.Name x pos) (mT i):=vY z hi j F
theorem ET {X:Cx}(i:Nat){x:Str}{e:Expr}{te:TE}{pos pos':Pos}(S:PE X e te)(hi:X.N[i]? =some x:=by rfl)(j:X.N.Nodup:=by (conv=>arg 1;whnf);decide+kernel)(z:K9 X.env.scope x:=by first|exact Or.inl rfl|exact Or.inr rfl)(hs:swapsWith e (some (.Name x pos')) pos.line X.env=pure false:=by rfl)(F:X.fn x=true\/X.env.scope.names.lookup x=some .local:=by first|exact .inl rfl|exact .inr rfl|assumption):PS X (.Assign [.Name x pos'] e pos) (DW te (mT i)):=bp j hi z S hs F
end L2
local macro_rules|`(tactic|walk_at "l3de")=>`(tactic|first|(show L2.PE _ (.Name _ _) _;first|exact L2.wv 0|exact L2.wv 1|exact L2.wv 2|exact L2.wv 3|exact L2.wv 4|exact L2.wv 5|exact L2.wv 6|exact L2.wv 7|exact L2.wv 8|exact L2.wv 9|exact L2.A7 rfl (by assumption) (by assumption)|exact L2.p9 rfl (by assumption))|(show L2.PE _ (.Subscript _ (.Slice _ _ _ _) _) _;exact L2.im (L2.wZ rfl) (by right) (by right) (by right))|(show L2.PE _ (.Subscript _ _ _) _;exact L2.av (L2.aI rfl) (by right) (by right) (fun _ _=>rfl))|(show L2.PE _ (.Constant _ _ _) _;first|exact L2.ag|exact L2.aS|exact L2.bW|exact L2.EZ)|(show L2.PE _ (.Call _ _ _ _) _;walk_at "l3dc")|(show L2.PE _ (.BinOp _ _ _ _) _;walk_at "l3db")|(show L2.PE _ (.Tuple _ _ _) _;exact L2.cW (by right))|(show L2.PE _ (.List _ _) _;exact L2.ng (by right))|(show L2.PE _ (.Attribute _ _ _) _;exact L2.uX rfl (by right))|(show L2.PE _ (.Compare _ _ _ _) _;walk_at "l3dm")|(show L2.PE _ (.IfExp _ _ _ _) _;exact L2.AK (by right) (by right) (by right))|(show L2.PE _ (.UnaryOp .Not _ _) _;exact L2.yV rfl (by right))|(show L2.PE _ (.UnaryOp .USub _ _) _;exact L2.KR L2.KC (by right))|(show L2.PE _ (.BoolOp _ [_] _) _;exact L2.lE (by right))|(show L2.PE _ (.BoolOp .And _ _) _;exact L2.iO (by right) (by right))|(show L2.PE _ (.BoolOp .Or _ _) _;exact L2.Kz (by right) (by right)))
local macro_rules|`(tactic|walk_at "l3dc")=>`(tactic|first|(show L2.PE _ (.Call (.Name "len" _) _ _ _) _;exact L2.aA (L2.d6 rfl) rfl (by assumption) PySem.boot_len (by right))|(show L2.PE _ (.Call (.Name _ _) _ _ _) _;exact L2.bV (by assumption) (by assumption) (by decide) rfl (by right))|(show L2.PE _ (.Call (.Attribute _ "append" _) _ _ _) _;exact L2.gD rfl PySem.F.plainAttrs_list PySem.F.slot_list_append PySem.F.type_list_append L2.jt (by right) (by right))|(show L2.PE _ (.Call (.Attribute _ "extend" _) _ _ _) _;exact L2.gD rfl PySem.F.plainAttrs_list PySem.F.slot_list_extend PySem.F.type_list_extend L2.lW (by right) (by right))|(show L2.PE _ (.Call (.Attribute _ "split" _) _ _ _) _;exact L2.gD rfl PySem.F.plainAttrs_str PySem.F.slot_str_split PySem.F.type_str_split L2.Hx (by right) (by right))|(show L2.PE _ (.Call (.Attribute _ "join" _) _ _ _) _;exact L2.gD rfl PySem.F.plainAttrs_str PySem.F.slot_str_join PySem.F.type_str_join (L2.DE rfl) (by right) (by right)))
local macro_rules|`(tactic|walk_at "l3db")=>`(tactic|first|(show L2.PE _ (.BinOp _ .Add _ _) _;exact L2.bT (L2.kP rfl) (by right) (by right))|(show L2.PE _ (.BinOp _ .Sub _ _) _;exact L2.bT L2.qg (by right) (by right))|(show L2.PE _ (.BinOp _ .Mult _ _) _;exact L2.bT L2.ub (by right) (by right))|(show L2.PE _ (.BinOp _ .Mod _ _) _;exact L2.bT L2.DD (by right) (by right))|(show L2.PE _ (.BinOp _ .FloorDiv _ _) _;exact L2.bT L2.Lr (by right) (by right))|(show L2.PE _ (.BinOp _ .Pow _ _) _;exact L2.bT L2.KA (by right) (by right))|(show L2.PE _ (.BinOp _ .LShift _ _) _;exact L2.bT L2.Op (by right) (by right))|(show L2.PE _ (.BinOp _ .BitAnd _ _) _;exact L2.bT L2.Ox (by right) (by right))|(show L2.PE _ (.BinOp _ .BitOr _ _) _;exact L2.bT L2.QQ (by right) (by right)))
local macro_rules|`(tactic|walk_at "l3dm")=>`(tactic|first|(show L2.PE _ (.Compare _ [.Eq] _ _) _;exact L2.b9 (L2.d9 rfl (by assumption)) (by right) (by right) (L2.aG _))|(show L2.PE _ (.Compare _ [.NotEq] _ _) _;exact L2.b9 (L2.fg rfl (by assumption)) (by right) (by right) (L2.aG _))|(show L2.PE _ (.Compare _ [.Lt] _ _) _;exact L2.b9 L2.w_lt (by right) (by right) (L2.aG _))|(show L2.PE _ (.Compare _ [.Gt] _ _) _;exact L2.b9 L2.sS (by right) (by right) (L2.aG _))|(show L2.PE _ (.Compare _ [.LtE] _ _) _;exact L2.b9 L2.jo (by right) (by right) (L2.aG _))|(show L2.PE _ (.Compare _ [.GtE] _ _) _;exact L2.b9 L2.Ov (by right) (by right) (L2.aG _))|(show L2.PE _ (.Compare _ [.In] _ _) _;exact L2.b9 (L2.Ou rfl) (by right) (by right) (by with_unfolding_all rfl))|(show L2.PE _ (.Compare _ [.LtE,.Lt] _ _) _;exact L2.qf L2.jo L2.w_lt (by right) (by right) (by right))|(show L2.PE _ (.Compare _ [.LtE,.LtE] _ _) _;exact L2.qf L2.jo L2.jo (by right) (by right) (by right)))
local macro_rules|`(tactic|walk_at "l3dt")=>`(tactic|first|(show L2.PT _ (.Compare _ _ _ _) _;walk_at "l3dn")|(show L2.PT _ (.BoolOp _ _ _) _;exact L2.PW.pt (by right))|(show L2.PT _ (.UnaryOp .Not _ _) _;exact L2.bw (by right))|(show L2.PT _ _ _;exact L2.cI rfl (by right)))
local macro_rules|`(tactic|walk_at "l3dn")=>`(tactic|first|(show L2.PT _ (.Compare _ [.Eq] _ _) _;exact L2.aP (L2.d9 rfl (by assumption)) (by right) (by right) (L2.aG _))|(show L2.PT _ (.Compare _ [.Lt] _ _) _;exact L2.aP L2.w_lt (by right) (by right) (L2.aG _))|(show L2.PT _ (.Compare _ [.Gt] _ _) _;exact L2.aP L2.sS (by right) (by right) (L2.aG _))|(show L2.PT _ (.Compare _ [.LtE] _ _) _;exact L2.aP L2.jo (by right) (by right) (L2.aG _))|(show L2.PT _ (.Compare _ [.GtE] _ _) _;exact L2.aP L2.Ov (by right) (by right) (L2.aG _))|(show L2.PT _ (.Compare _ [.NotEq] _ _) _;exact L2.aP (L2.fg rfl (by assumption)) (by right) (by right) (L2.aG _))|(show L2.PT _ (.Compare _ [.In] _ _) _;exact L2.aP (L2.Ou rfl) (by right) (by right) (by with_unfolding_all rfl))|(show L2.PT _ (.Compare _ [.Is] _ _) _;exact L2.aP L2.Ot (by right) (by right) (L2.aG _))|(show L2.PT _ (.Compare _ [.LtE,.Lt] _ _) _;exact L2.fR L2.jo L2.w_lt (by right) (by right) (by right))|(show L2.PT _ (.Compare _ [.LtE,.LtE] _ _) _;exact L2.fR L2.jo L2.jo (by right) (by right) (by right)))
local macro_rules|`(tactic|walk_at "l3dd")=>`(tactic|first|(show L2.PE _ _ _;walk_at "l3de")| (show L2.PA _ _ _;first|exact L2.am|exact L2.au (by right) (by right))| (show L2.PT _ _ _;walk_at "l3dt")| (show L2.PS _ (.Assign [.Name _ _] _ _) _;first|(refine' L2.ET 0 ?_;walk_at "l3dd")|(refine' L2.ET 1 ?_;walk_at "l3dd")|(refine' L2.ET 2 ?_;walk_at "l3dd")|(refine' L2.ET 3 ?_;walk_at "l3dd")|(refine' L2.ET 4 ?_;walk_at "l3dd")|(refine' L2.ET 5 ?_;walk_at "l3dd")|(refine' L2.ET 6 ?_;walk_at "l3dd")|(refine' L2.ET 7 ?_;walk_at "l3dd")|(refine' L2.ET 8 ?_;walk_at "l3dd")|(refine' L2.ET 9 ?_;walk_at "l3dd")|(refine' L2.ET 10 ?_;walk_at "l3dd"))| (show L2.PW _ (.BoolOp .And [_] _) _;exact L2.gH (by right))| (show L2.PW _ (.BoolOp .Or [_] _) _;exact L2.cY (by right))| (show L2.PW _ (.BoolOp .And _ _) _;exact L2.gU (by right) (by right))| (show L2.PW _ (.BoolOp .Or _ _) _;exact L2.cG (by right) (by right))| (show L2.PO _ none _;exact L2.mz)| (show L2.PO _ _ _;exact L2.iN (by right))| (show L2.PG _ (.Name _ _) _;first|exact L2.EX 0|exact L2.EX 1|exact L2.EX 2|exact L2.EX 3|exact L2.EX 4|exact L2.EX 5|exact L2.EX 6|exact L2.EX 7|exact L2.EX 8|exact L2.EX 9|exact L2.EX 10)| (show L2.PG _ (.Tuple _ _ _) _;exact L2.eJ rfl rfl (by right))| (show L2.Di _ [] _;exact L2.dm)| (show L2.Di _ _ _;exact L2.aF (by right) (by right))| (show L2.PI _ _ _ _;exact L2.dJ rfl (by right)))
namespace L2
open PySem PySem.Spec PyProof.Rows PySem.W
def NF (K:Frag)(x:Str)(st:Stmt)(f:Addr):Prop:=nsIn K mainGlobals x=some @bf/\∃fd,bB K x x st f fd
def MF (K:Frag)(C:Addr)(x q:Str)(st:Stmt)(f:Addr):Prop:=Ha K C x f/\∃fd,bB K x q st f fd
theorem PK {K:Frag}{x:Str}{st:Stmt}{f:Addr}{z:Value}{od W:Option Addr}{aa:Array @Z}{Z L J j U:Value}(a:nsIn K mainGlobals x=some @bf)(l:K.lookup f=some ⟨z,od,.func (fnOf x x @dZ @df @cd .none Z L J W j U),aa⟩)(c:codeIn K j x=true)(k:keepIn K (.ref f)=true):NF K x st f:=⟨a,_,wk l c k⟩
theorem PN {K:Frag}{C:Addr}{x q:Str}{st:Stmt}{f:Addr}{z:Value}{od W:Option Addr}{aa:Array @Z}{Z L J j U:Value}(a:findIn K (.ref C) x=some @bf)(l:K.lookup f=some ⟨z,od,.func (fnOf x q @dZ @df @cd .none Z L J W j U),aa⟩)(c:codeIn K j q=true)(k:keepIn K (.ref f)=true)(n:isFn K (.ref f)=true):MF K C x q st f:=⟨⟨a,n,k⟩,_,wk l c k⟩
structure tU (P:Program)(w:World)(K:Frag)(mg:Str->Option Value)(base:Heap)(h:Heap):Prop where
 X:K.In h
 G:h.Ns mainGlobals mg
def BA (x q:Str)(st:Stmt)(us:List Value)(ps:List Str):Prop:=∀(kV doc pm:Value) (an:Option Addr) (cdv ct:Value),bindArgs (fnOf x q @dZ @df @cd .none kV doc pm an cdv ct) ⟨us,[]⟩=pure @cH
def Oe (x q:Str)(st:Stmt)(ps0:List Str):List Str->List Value->Prop
 |[],us=>BA x q st us ps0
 |_::ps,us=>∀a,Oe x q st ps0 ps (us++[a])
def BN (x q:Str)(st:Stmt)(ps:List Str):Prop:=Oe x q st ps ps []
theorem Oe.all {x q:Str}{st:Stmt}{j:List Str}:∀ {ps:List Str} {us vs:List Value},Oe x q st j ps us->vs.length=ps.length->BA x q st (us++vs) j
 |[],us,[],h,_=>by rw [append_nil];exact h
 |_::ps,us,v::vs,h,hl=>by
  have z:=Oe.all (h v) (Nat.succ.inj hl);rw [append_assoc] at z;exact z
theorem BN.all {x q:Str}{st:Stmt}{ps:List Str}(h:BN x q st ps)(us:List Value)(W:us.length=ps.length):BA x q st us ps:=Oe.all (us:=[]) h W
section
variable {P:Program}{w:World}{K:Frag}{mg:Str->Option Value}{base h:Heap}{x q:Str}{st:Stmt}{f C:Addr}{fd:FuncData}{ps:List Str}{n:Nat}{sp:Sp}
theorem bB.bn (F:bB K x q st f fd)(b:BN x q st ps):fK K fd ps []:=F.binds λZ L J W j U z G=>b.all z G Z L J W j U
theorem tU.gl (T:tU P w K mg base h){v:Value}(a:nsIn K mainGlobals x=some @bI):mg x=some v:=mg_of T.X T.G a
theorem tU.no (T:tU P w K mg base h)(a:nsIn K mainGlobals x=some none):mg x=none:=mg_none_of T.X T.G a
theorem tU.ok {CX:oU}(T:tU P w K mg base h)(o:az P w K mg base CX n f fd ps sp):az P w K mg base CX n f fd ps sp:=o
theorem tU.cal (T:tU P w K mg base h)(a:nsIn K mainGlobals x=some @bf)(F:bB K x x st f fd)(o:az P w K mg base bg n f fd ps sp)(b:BN x x st ps:=by (repeat intro _);rfl):bf P w K mg base n x ps sp:=⟨_,_,o,F.bn b,F.kp,T.gl a⟩
theorem tU.calX (T:tU P w K mg base h)(a:nsIn K mainGlobals x=some @bf)(F:bB K x x st f fd)(o:az P w K mg base @cr n f fd ps sp)(b:BN x x st ps:=by (repeat intro _);rfl):Do P w K mg base n x ps sp:=⟨_,_,o,F.bn b,F.kp,T.gl a⟩
theorem RI {CX:oU}(F:bB K x q st f fd)(c:t6 K C)(m:Ha K C x f)(o:az P w K mg base CX n f fd ps sp)(b:BN x q st ps:=by (repeat intro _);rfl):jU P w K mg base CX n x C sp:=⟨_,_,_,c,m,o,F.bn b⟩
theorem tU.mkc {CX:oU}{y:Str}(T:tU P w K mg base h)(F:bB K x q st f fd)(m:Mk K C f)(g:mg y=some (.ref C))(o:az P w K mg base CX n f fd ps sp)(b:BN x q st ps:=by (repeat intro _);rfl):jm P w K mg base CX n y C sp:=⟨_,_,_,m,o,F.bn b,g⟩
theorem tU.cal' (T:tU P w K mg base h)(a:NF K x st f)(o:∀ {fd},bB K x x st f fd->az P w K mg base bg n f fd ps sp)(b:BN x x st ps:=by (repeat intro _);rfl):bf P w K mg base n x ps sp:=let ⟨a,_,F⟩:=a;T.cal a F (o F) b
theorem tU.calX' (T:tU P w K mg base h)(a:NF K x st f)(o:∀ {fd},bB K x x st f fd->az P w K mg base @cr n f fd ps sp)(b:BN x x st ps:=by (repeat intro _);rfl):Do P w K mg base n x ps sp:=let ⟨a,_,F⟩:=a;T.calX a F (o F) b
theorem tU.mcal' {D:Addr}{CX:oU}(T:tU P w K mg base h)(a:MF K D x q st f)(c:t6 K C)(m:Ha K C x f)(o:∀ {fd},bB K x q st f fd->az P w K mg base CX n f fd ps sp)(b:BN x q st ps:=by (repeat intro _);rfl):jU P w K mg base CX n x C sp:=let ⟨_,_,F⟩:=a;RI F c m (o F) b
theorem tU.mkc' {D:Addr}{CX:oU}{y:Str}(T:tU P w K mg base h)(a:MF K D x q st f)(m:Mk K C f)(g:mg y=some (.ref C))(o:∀ {fd},bB K x q st f fd->az P w K mg base CX n f fd ps sp)(b:BN x q st ps:=by (repeat intro _);rfl):jm P w K mg base CX n y C sp:=let ⟨_,_,F⟩:=a;T.mkc F m g (o F) b
theorem bB.law {y:Str}(F:bB K x q st f fd)(b:BN x q st [y]:=by (repeat intro _);rfl)(s:Shared)(v:Value):BindsTo s fd ⟨[v],[]⟩ [(y,v)]:=by
 obtain ⟨O,G,Z,L,J,W,j,U,aa,rfl,I,z⟩:=F.ex;exact .of_eq (b v Z L J W j U)
end
theorem Sy {p:Prop}(h:p):p:=h
end L2
namespace My
open PySem L2 PyProof.Rows
theorem Ko (a b:Nat):Builtin.bitAnd (a:Int) (b:Int)=((a&&&b:Nat):Int):=by
 unfold Builtin.bitAnd;simp
theorem ME (a b:Nat):Builtin.bitOr (a:Int) (b:Int)=((a|||b:Nat):Int):=by
 unfold Builtin.bitOr Builtin.bitAnd Builtin.bitNot
 have h1: ¬(0:Int)<= -(a:Int) - 1:=by lia
 have h2: ¬(0:Int)<= -(b:Int) - 1:=by lia
 simp only [h1,h2,decide_false]
 have S:(-(-(a:Int) - 1) - 1).toNat=a:=by lia
 have R:(-(-(b:Int) - 1) - 1).toNat=b:=by lia
 rw [S,R];lia
theorem testBit_and (M k:Nat):decide (M&&&2^k=0)= !M.testBit k:=by
 have e:(M&&&2^k).testBit k=M.testBit k:=by rw [Nat.testBit_and,Nat.testBit_two_pow_self,Bool.and_true]
 cases h:M.testBit k with
 |true=>
  rw [h] at e;rwa[decide_eq_false λz=> ?_];rw [z] at e;simp at e
 |false=>
  rwa[decide_eq_true (Nat.eq_of_testBit_eq λi=> ?_)];rw [Nat.testBit_and,Nat.zero_testBit];by_cases hi:k=i
  ·subst hi;rw [h];rfl
  ·rw [Nat.testBit_two_pow_of_ne hi,Bool.and_false]
def kK (M n:Nat):List Nat:=(List.range n).filter λi=>M.testBit i
theorem lR (M n:Nat):kK M (n+1)=kK M n++if M.testBit n then [n] else []:=by
 unfold kK;rw [range_succ,filter_append];congr 1;cases h:M.testBit n<;>simp [h]
theorem uz {M n i:Nat}:i∈kK M n↔i<n/\M.testBit i=true:=by
 unfold kK;rw [mem_filter,mem_range]
def L (M:Nat):Nat:=Builtin.Int.intBits (M:Int)
theorem Hd (M:Nat):L M=if M=0 then 0 else M.log2+1:=by
 unfold L Builtin.Int.intBits;by_cases h:M=0
 ·subst h;rfl
 ·have:((M:Int)==0)=false:=beq_eq_false_iff_ne.mpr @c;rw [this,if_neg h];simp
theorem Qm (M:Nat):M<2^L M:=by
 rw [Hd];split
 ·rename_i h;subst h;decide
 ·exact Nat.lt_log2_self
theorem Qn {M n:Nat}(h:M<2^n):L M<=n:=by
 rw [Hd];split
 ·lia
 ·rename_i F;have:=(Nat.log2_lt F).mpr h;lia
theorem AQ {M:Nat}(h:M≠0):M.testBit (L M - 1)=true:=by
 rw [Hd,if_neg h];have h1:=Nat.log2_self_le h;have h2:=Nat.lt_log2_self (n:=M);rw [Nat.add_sub_cancel,Nat.testBit_eq_decide_div_mod_eq];rwa[decide_eq_true ?_]
 have e:M / 2^M.log2=1:=by
  rwa[Nat.div_eq_of_lt_le @c ?_];rw [Nat.pow_succ] at h2;lia
 rw [e]
def km (M:Nat):List Nat:=kK M (L M)
theorem mG {M i:Nat}:i∈km M↔M.testBit i=true:=by
 unfold km;rw [uz];rwa[⟨λh=>h.2,λh=>⟨?_,h⟩⟩];rwa[Nat.lt_of_not_le λj=> ?_];have:=Nat.testBit_lt_two_pow (Nat.lt_of_lt_of_le (Qm M) (Nat.pow_le_pow_right @b j));rw [this] at h;cases h
theorem Bz {M n i:Nat}(h:M<2^n)(hi:i∈km M):i<n:=by
 have:=(uz.mp hi).1;have:=Qn h;lia
theorem Dh {M:Nat}(h:M≠0):∃l,km M=l++[L M - 1]:=by
 have G:L M=(L M - 1)+1:=by
  have:=Hd M;rw [if_neg h] at this;lia
 rwa[⟨kK M (L M - 1),?_⟩]
 have e:km M=kK M ((L M - 1)+1):=by rw [<-G];rfl
 rw [e,lR,AQ h];rfl
theorem GZ {M:Nat}:km M=[]↔M=0:=by
 constructor
 ·intro h;rwa[Classical.byContradiction λz=> ?_];obtain ⟨l,e⟩:=Dh z;rw [h] at e;simp at e
 ·rintro rfl;rfl
def pc (ks:List Nat):Nat:=ks.foldl (λacc k=>acc|||2^k) 0
theorem qZ:∀(ks:List Nat) (acc i:Nat),(ks.foldl (λacc k=>acc|||2^k) acc).testBit i=(acc.testBit i||decide (i∈ks))
 |[],acc,i=>by simp
 |k::ks,acc,i=>by
  rw [foldl_cons,qZ ks,Nat.testBit_or];by_cases h:k=i
  ·subst h;simp [Nat.testBit_two_pow_self]
  ·rw [Nat.testBit_two_pow_of_ne h];have h': ¬i=k:=λz=>h z.symm;simp [h']
end My
namespace My
open PySem L2 PyProof.Rows
def lk (fl:Nat):List Nat->Nat->Nat->Option Nat
 |[],_,lo=>some lo
 |k::ks,last,lo=>if last<k/\k<fl then lk fl ks k (lo+2^k) else none
structure Sh where
 start:Int
 room:Int
 turns:Int
 kind:Str
noncomputable def Sh.ok (fl:Int)(l:Sh):Bool:=decide (0<=l.start/\l.start<fl/\1<=l.room/\l.room<=6/\1<=l.turns/\l.turns<=4/\(l.kind=s!"plain"\/l.kind=s!"hasty"\/l.kind=s!"slow"))
end My
namespace My
open PySem L2 PyProof.Rows
def Hq (bs:List Bool)(first:Int):Nat->Nat->Int
 |_,0=> -1
 |k,r+1=>if bs.getD ((first+k)% bs.length).toNat false=true then (first+k)% bs.length else Hq bs first (k+1) r
def sf (bs:List Bool)(first:Int):Int:=Hq bs first 0 bs.length
structure lU where
 pl:Int
 li:Int
 dr:Int
 mr:Int
 ab:List (Int×Int)
def lU.d (c:lU):D:= .tup [.int c.pl,.int c.li,.int c.dr,.int c.mr,.tup (c.ab.map λq=> .tup [.int q.1,.int q.2])]
def lU.srv (c:lU):Bool:=decide (c.mr=0)
structure Rd where
 t:Int
 s:Int
 g:Int
 l:Int
def Rd.d (r:Rd):D:= .tup [.int r.t,.int r.s,.int r.g,.int r.l]
end My
namespace L2
open PySem PySem.Spec PyProof.Rows
def kh (bs:List Bool)(n:Nat):List Nat:=(List.range n).filter λi=>bs.getD i false
abbrev srv (bs:List Bool):List Nat:=kh bs bs.length
theorem BV {bs:List Bool}{n:Nat}:kh bs (n+1)=kh bs n++(if bs.getD n false=true then [n] else []):=by
 unfold kh;rw [range_succ,filter_append];congr 1;simp only [filter_cons,filter_nil]
theorem xk {bs:List Bool}{n:Nat}:(kh bs n).length<=n:=by
 unfold kh;rwa[Nat.le_trans @Y ?_];rw [length_range];exact Nat.le_refl _
theorem pS {bs:List Bool}{j:Nat}:j∈srv bs↔j<bs.length/\bs.getD j false=true:=by
 unfold srv kh;rw [mem_filter,mem_range]
theorem LX {bs:List Bool}{i F j I:Nat}(h:(srv bs)[i]? =some j)(h':(srv bs)[F]? =some I)(Z:j<I):i<F:=by
 have J:(srv bs).Pairwise (· < ·):=List.Pairwise.filter _ pairwise_lt_range;obtain ⟨l,e⟩:=List.getElem?_eq_some_iff.mp h;obtain ⟨L,G⟩:=List.getElem?_eq_some_iff.mp h';have:=pairwise_iff_getElem.mp J
 rcases Nat.lt_trichotomy i F with z|z|z
 ·exact z
 ·subst z;rw [e] at G;lia
 ·have:=this F i L l z;rw [e,G] at this;lia
def gS (bs:List Bool)(ws:Nat->Int)(n:Nat)(r:Int):Prop:=(r= -1/\∀j,j<n->bs.getD j false=false)\/∃i:Nat,r=i/\i<n/\bs.getD i false=true/\∀j,j<n->bs.getD j false=true->ws i<=ws j/\(j<i->ws i<ws j)
abbrev fe (bs:List Bool)(ws:Nat->Int)(r:Int):Prop:=gS bs ws bs.length r
theorem Kk {bs:List Bool}{ws:Nat->Int}:gS bs ws 0 (-1):= .inl ⟨rfl,λj Z=>absurd Z (Nat.not_lt_zero _)⟩
theorem gS.no {bs:List Bool}{ws:Nat->Int}{n:Nat}{r:Int}(h:gS bs ws n r)(G:bs.getD n false=false):gS bs ws (n+1) r:=by
 rcases h with ⟨rfl,h⟩|⟨i,rfl,hi,I,h⟩
 ·rwa[.inl ⟨rfl,λj Z=> ?_⟩];by_cases z:j=n
  ·rw [z];exact G
  ·exact h j @c
 ·rwa[.inr ⟨i,rfl,by lia,I,λj Z F=> ?_⟩];by_cases z:j=n
  ·rw [z,G] at F;cases F
  ·exact h j @c F
theorem gS.new {bs:List Bool}{ws:Nat->Int}{n:Nat}{r:Int}(h:gS bs ws n r)(I:bs.getD n false=true)(Y:r= -1\/∃i:Nat,r=i/\ws n<ws i):gS bs ws (n+1) (n:Nat):=by
 rwa[.inr ⟨n,rfl,by lia,I,λj Z F=> ?_⟩];by_cases z:j=n
 ·rw [z];exact ⟨by lia,λz=>by lia⟩
 ·rcases h with ⟨rfl,h⟩|⟨i,rfl,hi,J,h⟩
  ·rw [h j @c] at F;cases F
  ·rcases Y with Y|⟨G,Y,L⟩
   ·lia
   ·have:G=i:=by lia
    subst this;have:=(h j @c F).1;exact ⟨by lia,λ_=>by lia⟩
theorem gS.old {bs:List Bool}{ws:Nat->Int}{n i:Nat}(h:gS bs ws n (i:Int))(L: ¬ws n<ws i):gS bs ws (n+1) (i:Int):=by
 rcases h with ⟨J,h⟩|⟨F,e,hi,I,h⟩
 ·lia
 ·have:i=F:=by lia
  subst this;rwa[.inr ⟨i,rfl,by lia,I,λj Z G=> ?_⟩];by_cases z:j=n
  ·rw [z];exact ⟨by lia,λz=>by lia⟩
  ·exact h j @c G
theorem gS.range {bs:List Bool}{ws:Nat->Int}{n:Nat}{r:Int}(h:gS bs ws n r):r= -1\/∃i:Nat,r=i/\i<n:=by
 rcases h with ⟨h,_⟩|⟨i,e,hi,_⟩
 ·exact .inl h
 ·exact .inr ⟨i,e,hi⟩
theorem fe.uniq {bs:List Bool}{ws:Nat->Int}{r O:Int}(h:fe bs ws r)(h':fe bs ws O):r=O:=by
 rcases h with ⟨rfl,h⟩|⟨i,rfl,hi,I,h⟩<;>rcases h' with ⟨rfl,h'⟩|⟨F,rfl,aj,j,h'⟩
 ·rfl
 ·rw [h F aj] at j;cases j
 ·rw [h' i hi] at I;cases I
 ·have a:=h F aj j;have b:=h' i hi I
  rcases Nat.lt_trichotomy i F with z|z|z
  ·have:=b.2 z;lia
  ·rw [z]
  ·have:=a.2 z;lia
theorem wH {bs:List Bool}{ws:Nat->Int}(h:srv bs=[]):fe bs ws (-1):= .inl ⟨rfl,λj Z=>by
 cases z:bs.getD j false with
 |false=>rfl
 |true=>
  have:=pS.mpr ⟨Z,z⟩
  rw [h] at this;cases this⟩
theorem wG {bs:List Bool}{ws:Nat->Int}{i j:Nat}(hi:(srv bs)[i]? =some j)(L:∀i',i'<(srv bs).length->ws ((srv bs).getD i 0)<=ws ((srv bs).getD i' 0)/\(i'<i->ws ((srv bs).getD i 0)<ws ((srv bs).getD i' 0))):fe bs ws (j:Int):=by
 have I:(srv bs).getD i 0=j:=by rw [getD_eq_getElem?_getD,hi];rfl
 have G:=pS.mp (mem_of_getElem? hi);rwa[.inr ⟨j,rfl,G.1,G.2,λk R J=> ?_⟩];obtain ⟨i',aj⟩:=mem_iff_getElem?.mp (pS.mpr ⟨R,J⟩)
 have F:(srv bs).getD i' 0=k:=by rw [getD_eq_getElem?_getD,aj];rfl
 have:=L i' (List.getElem?_eq_some_iff.mp aj).1;rw [I,F] at this;exact ⟨this.1,λz=>this.2 (LX aj hi z)⟩
def Qf (i:Int):Int:=if i<0 then -i else i
end L2
namespace My
open PySem L2
def Mz (cs:List lU)(i:Nat):Int:=match cs[i]? with|some c=>c.pl|none=>0
def N0 (cs:List lU)(i:Nat):Nat:=match cs[i]? with|some c=>c.ab.length|none=>0
def uw (cs:List lU)(s:Int)(i:Nat):Int:=Qf (Mz cs i - 2*s)
def hV (cs:List lU)(ls:List Int)(i:Nat):Int:=(N0 cs i:Int)+(ls.count (i:Int):Nat)
end My
namespace My
open PySem L2 PyProof.Rows
abbrev d0:Str:=s!"0"
abbrev d1:Str:=s!"1"
abbrev d2:Str:=s!"2"
abbrev O1:Str:=s!"near"
abbrev LO:Str:=s!"least"
abbrev LH:Str:=s!"turns"
abbrev OY:Str:=s!"zone"
abbrev LR:Str:=s!"fixed"
inductive Kd where
 |near
 |least
 |turns
 |zone (is:List Int)
 |fixed (is:List Int)
def Kd.nm:Kd->Str
 | .near=>O1
 | .least=>LO
 | .turns=>LH
 | .zone _=>OY
 | .fixed _=>LR
def Kd.is:Kd->List Int
 | .zone is=>is
 | .fixed is=>is
 |_=>[]
def Kd.ok (fl:Int)(n:Nat):Kd->Prop
 | .zone is=>(is.length:Int)=fl/\∀i∈is,0<=i/\i<(n:Int)
 | .fixed is=>1<=is.length/\is.length<=9/\∀i∈is,0<=i/\i<(n:Int)
 |_=>True
def wt (ts:List Str):Nat:=(ts.map (·.length)).sum+2*ts.length
end My
namespace L2
open PySem PySem.Spec PyProof.Rows
def aQ (H H':Hp):Prop:=∀b o,(∀xs,o≠ .lst xs)->(∀C dx fs,o≠ .ins C dx fs)->H b=some o->H' b=some o
theorem aQ.refl (H:Hp):aQ H H:=λ_ _ _ _ e=>e
theorem aQ.trans {H H1 H2:Hp}(a:aQ H H1)(b:aQ H1 H2):aQ H H2:=λc o j Y e=>b c o j Y (a c o j Y e)
theorem aq.st {H H':Hp}(s:aq H H'):aQ H H':=λb o _ _ e=>s b o e
theorem aQ.updL {H:Hp}{a:Addr}{xs:List V}{o:HO}(h:H a=some (.lst xs)):aQ H @bD:=λb u j _ e=>by
 rw [ao (λz=>by rw [z,h] at e;cases e;exact j _ rfl)];exact e
theorem aQ.updI {H:Hp}{a C dx:Addr}{fs:List (Str×V)}{o:HO}(h:H a=some (.ins C dx fs)):aQ H @bD:=λb u _ Y e=>by
 rw [ao (λz=>by rw [z,h] at e;cases e;exact Y _ _ _ rfl)];exact e
theorem aQ.tup {H H':Hp}(s:aQ H H'){a:Addr}{xs:List V}(h:H a=some (.tup xs)):H' a=some (.tup xs):=s a _ (λ_ z=>by cases z) (λ_ _ _ z=>by cases z) h
theorem aQ.sqT {K:Fg}{H H':Hp}(s:aQ H H'){a:Addr}{xs:List V}(h:aD K H a xs):aD K H' a xs:=by
 rcases h with (h|⟨u,h⟩)|h
 ·exact .inl (.inl (s.tup h))
 ·exact .inl (.inr ⟨u,s _ _ (λ_ z=>by cases z) (λ_ _ _ z=>by cases z) h⟩)
 ·exact .inr h
theorem aQ.den {K:Fg}{H H':Hp}(s:aQ H H'){x:V}{d:D}(h:bM K H x d)(j:L2.noL d=true):bM K H' x d:=by
 induction h with
 |non=>exact .non
 |bl b=>exact .bl b
 |int i=>exact .int i
 |str z=>exact .str z
 |lst h hl hi ih=>rw [L2.noL] at j;cases j
 |tup h hl hi ih=>
  rw [L2.noL] at j;exact .tup (s.sqT h) hl λi x d h1 h2=>ih i x d h1 h2 @gp
theorem aQ.dens {K:Fg}{H H':Hp}(s:aQ H H'){xs:List V}{ds:List D}(h:aC K H xs ds)(z:noLs ds=true):aC K H' xs ds:=
 PySem.Paired.of h.len λi x d h1 h2=>by
  obtain ⟨e,L,r⟩:=h.get1 h1;rw [h2] at L;cases L;exact s.den r (fj z h2)
theorem none_of {H H':Hp}(s:aq H H'){a:Addr}(h:H' a=none):H a=none:=by
 cases y:H a with
 |none=>rfl
 |some o=>rw [s _ _ y] at h;cases h
theorem FM {a b:List D}(h1:noLs a=true)(h2:noLs b=true):noLs (a++b)=true:=by
 induction a with
 |nil=>exact h2
 |cons d a ih=>
  rw [noLs,Bool.and_eq_true] at h1;rw [cons_append,noLs,h1.1,ih h1.2];rfl
theorem qY {α β:Type}{R:α->β->Prop}{xs:List α}{ys:List β}{i:Nat}{x:α}{y:β}(h:Paired R xs ys)(r:R x y):Paired R (xs.set i x) (ys.set i y):=by
 have W:=h.len;rwa[PySem.Paired.of (by simp [W]) λj a b S F=> ?_];by_cases Z:i=j
 ·subst Z
  have hi:i<xs.length:=by
   have:=(List.getElem?_eq_some_iff.mp S).1;rwa [length_set] at this
  rw [getElem?_set_self hi] at S;rw [getElem?_set_self @c] at F;cases S;cases F;exact r
 ·rw [getElem?_set_ne Z] at S F;obtain ⟨L,h2,z⟩:=h.get1 S;rw [F] at h2;cases h2;exact z
theorem bu.sqT {K:Fg}{H H':Hp}(s:bu H H'){a:Addr}{xs:List V}(h:aD K H a xs):aD K H' a xs:=by
 rcases h with (h|⟨u,h⟩)|h
 ·exact .inl (.inl (s _ _ (λ_ z=>by cases z) h))
 ·exact .inl (.inr ⟨u,s _ _ (λ_ z=>by cases z) h⟩)
 ·exact .inr h
theorem bu.sqL {K:Fg}{H H':Hp}(s:bu H H'){a:Addr}{xs:List V}(h:aN K H a xs):aN K H' a xs:=by
 rcases h with (h|⟨u,h⟩)|h
 ·exact .inl (.inl (s _ _ (λ_ z=>by cases z) h))
 ·exact .inl (.inr ⟨u,s _ _ (λ_ z=>by cases z) h⟩)
 ·exact .inr h
theorem bu.den {K:Fg}{H H':Hp}(s:bu H H'){x:V}{d:D}(h:bM K H x d):bM K H' x d:=by
 induction h with
 |non=>exact .non
 |bl b=>exact .bl b
 |int i=>exact .int i
 |str z=>exact .str z
 |lst h hl hi ih=>exact .lst (s.sqL h) hl ih
 |tup h hl hi ih=>exact .tup (s.sqT h) hl ih
theorem bu.dens {K:Fg}{H H':Hp}(s:bu H H'){xs:List V}{ds:List D}(h:aC K H xs ds):aC K H' xs ds:=Paired.imp' (λ_ _ z=>s.den z) h
def eI (H H':Hp):Prop:=∀b o,(∀xs,o≠ .lst xs)->(∀C dx fs,o≠ .ins C dx fs)->(∀ps,o≠ .tbl ps)->H b=some o->H' b=some o
theorem eI.refl (H:Hp):eI H H:=λ_ _ _ _ _ e=>e
theorem eI.trans {H H1 H2:Hp}(a:eI H H1)(b:eI H1 H2):eI H H2:=λc o j Y z e=>b c o j Y z (a c o j Y z e)
theorem aQ.sx {H H':Hp}(s:aQ H H'):eI H H':=λb o j Y _ e=>s b o j Y e
theorem bu.sx {H H':Hp}(s:bu H H'):eI H H':=λb o _ _ z e=>s b o z e
theorem eI.sqT {K:Fg}{H H':Hp}(s:eI H H'){a:Addr}{xs:List V}(h:aD K H a xs):aD K H' a xs:=by
 rcases h with (h|⟨u,h⟩)|h
 ·exact .inl (.inl (s _ _ (λ_ z=>by cases z) (λ_ _ _ z=>by cases z) (λ_ z=>by cases z) h))
 ·exact .inl (.inr ⟨u,s _ _ (λ_ z=>by cases z) (λ_ _ _ z=>by cases z) (λ_ z=>by cases z) h⟩)
 ·exact .inr h
theorem eI.den {K:Fg}{H H':Hp}(s:eI H H'){x:V}{d:D}(h:bM K H x d)(j:L2.noL d=true):bM K H' x d:=by
 induction h with
 |non=>exact .non
 |bl b=>exact .bl b
 |int i=>exact .int i
 |str z=>exact .str z
 |lst h hl hi ih=>rw [L2.noL] at j;cases j
 |tup h hl hi ih=>
  rw [L2.noL] at j;exact .tup (s.sqT h) hl λi x d h1 h2=>ih i x d h1 h2 @gp
def GT (G:Hp->Prop):Prop:=∀H H',aQ H H'->G H->G H'
def NT (H:Hp):Prop:=∀b ps,H b≠some (.tbl ps)
def rb (H:Hp):Hp:=λb=>match H b with|some (.tbl _)=>none|o=>o
theorem Ab (H:Hp):NT (rb H):=λb ps h=>by
 unfold rb at h;split at h
 ·cases h
 ·rename_i x z;rw [h] at z;exact z _ rfl
theorem q9 (H:Hp):aq (rb H) H:=λb o h=>by
 unfold rb at h;split at h
 ·cases h
 ·exact h
theorem lF {H:Hp}{b:Addr}{o:HO}(h:H b=some o)(n:∀ps,o≠ .tbl ps):rb H b=some o:=by
 unfold rb;rw [h]
 cases o<;>first|rfl|exact absurd rfl (n _)
theorem FK (H:Hp):bu H (rb H):=λ_ _ n h=>lF h n
theorem Na {H H':Hp}(s:aq (rb H) H'):bu H H':=λb o n h=>s _ _ (lF h n)
theorem bu.onto {H0 H H':Hp}(j:NT H0)(s:aq H0 H)(s':bu H H'):aq H0 H':=λb o h=>s' b o (λps z=>j b ps (by rw [h,z])) (s b o h)
theorem mF {H:Hp}{b:Addr}(h:H b=none):rb H b=none:=by unfold rb;rw [h]
theorem dI.st {H H':Hp}{P:Addr}{q:Str}(s:aQ H H')(t:dI H P q):dI H' P q:=by
 obtain ⟨ps,h1,h2,L⟩:=t;rwa[⟨ps,s _ _ (λ_ z=>by cases z) (λ_ _ _ z=>by cases z) h1,h2,λpos G I=> ?_⟩];obtain ⟨j,e,h⟩:=L pos G I;exact ⟨j,e,s _ _ (λ_ z=>by cases z) (λ_ _ _ z=>by cases z) h⟩
end L2
namespace My
open PySem L2 PyProof.Rows
seal PE PT PS tW PA PI PG Di Hr PW PO dE Od bR Dt yF K6 G9
seal uD jC mw vp Ki ut lK qu oX Be Km Kr xN DN xQ setL BP Ap tR wR Dp AI oW Gs Ic xX
seal GR oE Ak L2.pz L2.putAt L2.v5 iq J3 NL JJ Qy Kj Kn qv DQ
def top (i:Nat):Stmt:=PySem.Challenge.pw_liftcourt_k39_turns_are_safe.main.body.getD i (.Pass ⟨0,0,0,0⟩)
abbrev Mi:Stmt:=top 1
theorem O8:ap ["k"] ["k"] (af Mi):=by ac_rfl
abbrev Mh:Stmt:=top 2
theorem O7:ap ["mask","k"] ["mask","k"] (af Mh):=by ac_rfl
abbrev qB:Stmt:=top 3
theorem BZ:ap ["mask","k"] ["mask","k"] (af qB):=by ac_rfl
abbrev qA:Stmt:=top 4
theorem BY:ap ["mask","k"] ["mask","k"] (af qA):=by ac_rfl
abbrev zL:Stmt:=top 5
theorem IE:ap ["mask","k"] ["mask","k"] (af zL):=by ac_rfl
abbrev zM:Stmt:=top 6
theorem IF:ap ["mask","k"] ["mask","k"] (af zM):=by ac_rfl
abbrev vC:Stmt:=top 7
theorem En:ap ["numbers","mask","k"] ["numbers"] (af vC):=by ac_rfl
abbrev vE:Stmt:=top 8
theorem Ep:ap ["mask"] ["mask"] (af vE):=by ac_rfl
abbrev vD:Stmt:=top 9
theorem Eo:ap ["mask","numbers"] ["mask"] (af vD):=by ac_rfl
abbrev qK:Stmt:=top 10
theorem B8:ap ["mask"] ["mask"] (af qK):=by ac_rfl
abbrev qP:Stmt:=top 12
theorem Cd:ap ["lift"] ["lift"] (af qP):=by ac_rfl
abbrev qM:Stmt:=top 13
theorem B9:ap ["cabin"] ["cabin"] (af qM):=by ac_rfl
abbrev iY:Stmt:=top 14
theorem tF:ap ["cabin"] ["cabin"] (af iY):=by ac_rfl
abbrev zD:Stmt:=top 15
theorem Ix:ap ["start","goal"] ["start","goal"] (af zD):=by ac_rfl
abbrev qD:Stmt:=top 16
theorem B2:ap ["room","cabin","riders","goals"] ["room","cabin","riders"] (af qD):=by ac_rfl
abbrev ly:Stmt:=top 17
theorem oZ:ap ["floor","light","riders","ways"] ["floor","light","riders"] (af ly):=by ac_rfl
abbrev vO:Stmt:=top 18
theorem Ex:ap ["sort","cabin","tasks","riders","floor","light"] ["sort","cabin","tasks","riders"] (af vO):=by ac_rfl
abbrev EF:Stmt:=top 19
theorem Mc:ap ["sort","room","cabin","riders","floor","tasks","next_up","next_down","up","down"] ["sort","room","cabin","riders"] (af EF):=by ac_rfl
abbrev vy:Stmt:=top 20
theorem Ek:ap ["sort","cabin","word","goals","light"] ["sort","cabin","word"] (af vy):=by ac_rfl
abbrev qR:Stmt:=top 21
theorem Cf:ap ["floors","cabin","word"] ["floors","cabin","word"] (af qR):=by ac_rfl
abbrev iT:Stmt:=top 22
theorem sV:ap ["cabin","place","light","door"] ["cabin","place","light","door"] (af iT):=by ac_rfl
abbrev qE:Stmt:=top 23
theorem B3:ap ["sort","floors","turns","cabin","word","place","light","door","done"] ["sort","floors","turns","cabin","word"] (af qE):=by ac_rfl
abbrev lu:Stmt:=top 24
theorem xw:ap ["sort","light","start","goal"] ["sort","light","start","goal"] (af lu):=by ac_rfl
abbrev lz:Stmt:=top 25
theorem dW:ap ["sort","room","cabin","riders","floor","light","outs","ins","aboard","tag","start","goal","lift"] ["sort","room","cabin","riders"] (af lz):=by ac_rfl
abbrev lv:Stmt:=top 42
theorem xy:ap ["cabin"] ["cabin"] (af lv):=by ac_rfl
abbrev qG:Stmt:=top 43
theorem B5:ap ["cabins"] ["cabins"] (af qG):=by ac_rfl
abbrev iW:Stmt:=top 44
theorem tD:ap ["cabins","first","many","step","lift"] ["cabins","first"] (af iW):=by ac_rfl
abbrev fF:Stmt:=top 45
theorem Md:ap ["cabins","waiting","rider","last","place"] ["cabins","waiting","rider","last"] @gU:=by ac_rfl
abbrev dN:Stmt:=top 46
theorem vt:ap ["cabins","waiting","rider","last","dealt","fewest"] ["cabins","waiting","rider","last"] @gV:=by ac_rfl
abbrev qQ:Stmt:=top 47
theorem Ce:ap ["cabins","waiting","rider","last","lift"] ["cabins","waiting","rider","last"] (af qQ):=by ac_rfl
abbrev AY:Stmt:=top 48
abbrev xB:Stmt:=top 49
abbrev qH:Stmt:=top 50
abbrev on:Stmt:=top 51
theorem zC:ap ["text","house","words","lifts"] ["text","house"] (af on):=by ac_rfl
abbrev lj:Stmt:=top 53
theorem xv:ap ["house","floor"] ["house","floor"] (af lj):=by ac_rfl
abbrev nO:Stmt:=top 54
theorem zu:ap ["house","lift"] ["house","lift"] (af nO):=by ac_rfl
abbrev nN:Stmt:=top 55
theorem zt:ap ["house","start","goal"] ["house","start","goal"] (af nN):=by ac_rfl
abbrev nQ:Stmt:=top 56
theorem zv:ap ["house","deed"] ["house","deed"] (af nQ):=by ac_rfl
abbrev vP:Stmt:=top 61
theorem Ey:ap ["kind","turns"] ["kind","turns"] (af vP):=by ac_rfl
abbrev vB:Stmt:=top 63
theorem Em:ap ["house","lift"] ["house","lift"] (af vB):=by ac_rfl
abbrev qC:Stmt:=top 64
theorem B1:ap ["house","lift"] ["house","lift"] (af qC):=by ac_rfl
abbrev vL:Stmt:=top 65
theorem Ev:ap ["house","lift"] ["house","lift"] (af vL):=by ac_rfl
abbrev qF:Stmt:=top 70
theorem B4:ap ["moment"] ["moment"] (af qF):=by ac_rfl
abbrev vz:Stmt:=top 71
theorem xq:ap ["state","tags","place","light","door","marks","aboard"] ["state"] (af vz):=by ac_rfl
abbrev lq:Stmt:=top 72
theorem oY:ap ["house","state","deeds","taken","deed"] ["house","state","deeds"] (af lq):=by ac_rfl
abbrev vS:Stmt:=top 73
theorem EB:ap ["moment","tag","start","goal","key"] ["moment","tag","start","goal","key"] (af vS):=by ac_rfl
abbrev qO:Stmt:=top 74
theorem Ca:ap ["rider","lift"] ["rider","lift"] (af qO):=by ac_rfl
abbrev kZ:Stmt:=top 75
theorem xp:ap ["cabin","marks"] ["cabin","marks"] (af kZ):=by ac_rfl
abbrev qI:Stmt:=top 76
theorem B6:ap ["moment","lift","mark","cabin"] ["moment","lift","mark"] (af qI):=by ac_rfl
abbrev nR:Stmt:=top 77
theorem zw:ap ["moment","lift","mark","cabin"] ["moment","lift","mark"] (af nR):=by ac_rfl
abbrev vQ:Stmt:=top 78
theorem Ez:ap ["moment"] ["moment"] (af vQ):=by ac_rfl
abbrev vM:Stmt:=top 79
theorem Ew:ap ["cabin"] ["cabin"] (af vM):=by ac_rfl
abbrev vT:Stmt:=top 80
theorem EC:ap ["moment"] ["moment"] (af vT):=by ac_rfl
abbrev vR:Stmt:=top 81
theorem EA:ap ["moment","deed","name"] ["moment","deed"] (af vR):=by ac_rfl
abbrev AZ:Stmt:=top 82
theorem ED:ap ["moment","dealer","place","rider","told"] ["moment","dealer","place","rider"] (af AZ):=by ac_rfl
abbrev my:Stmt:=top 83
theorem Cc:ap ["moment","dealer","place","rider"] ["moment","dealer"] (af my):=by ac_rfl
abbrev nU:Stmt:=top 84
theorem zx:ap ["moment","word","tags","lift","floor"] ["moment","word","tags","lift"] (af nU):=by ac_rfl
abbrev k9:Stmt:=top 85
theorem jD:ap ["moment","lift","cabin","outs"] ["moment","lift"] (af k9):=by ac_rfl
abbrev nZ:Stmt:=top 86
theorem zz:ap ["moment","lift","cabin","count"] ["moment","lift"] (af nZ):=by ac_rfl
abbrev oh:Stmt:=top 87
theorem qz:ap ["moment","lift","riders","house","told","cabin","outs","ins","door","count"] ["moment","lift","riders"] (af oh):=by ac_rfl
abbrev og:Stmt:=top 88
theorem qy:ap ["moment","rule","lift","riders","house","cabin","word"] ["moment","rule","lift","riders"] (af og):=by ac_rfl
abbrev fV:Stmt:=top 89
theorem jg:ap ["moment","rule","lift","cabin","riders"] ["moment","rule","lift"] (af fV):=by ac_rfl
abbrev Rx:Stmt:=top 90
theorem Rv:ap ["moment","rule","lift"] ["moment","rule","lift"] (af Rx):=by ac_rfl
abbrev zE:Stmt:=top 96
theorem Iy:ap ["light","here","up","down"] ["light","here","up","down"] (af zE):=by ac_rfl
abbrev qJ:Stmt:=top 97
theorem B7:ap ["here","up","down"] ["here","up","down"] (af qJ):=by ac_rfl
abbrev nL:Stmt:=top 98
theorem zq:ap ["top","floor","light","here","at_end"] ["top","floor","light","here"] (af nL):=by ac_rfl
abbrev g8:Stmt:=top 99
theorem qw:ap ["light","here","up","down"] ["light","here","up","down"] (af g8):=by ac_rfl
abbrev vA:Stmt:=top 105
theorem El:ap ["text","floors"] ["text","floors"] (af vA):=by ac_rfl
abbrev zK:Stmt:=top 107
theorem ID:ap ["_law_script","_law_k"] ["_law_script","_law_k"] (af zK):=by ac_rfl
abbrev zJ:Stmt:=top 108
theorem IC:ap ["_law_script","_law_k","_law_prime","_law_many"] ["_law_script","_law_k","_law_prime","_law_many"] (af zJ):=by ac_rfl
abbrev vJ:Stmt:=top 109
theorem xx:ap ["_law_script","_law_k","_law_most","_law_mixed"] ["_law_script","_law_k","_law_most"] (af vJ):=by ac_rfl
abbrev vF:Stmt:=top 110
theorem Er:ap ["_law_thing"] ["_law_thing"] (af vF):=by ac_rfl
abbrev EG:Stmt:=top 111
theorem Me:ap ["_law_script","_law_number","_law_far"] ["_law_script","_law_number"] (af EG):=by ac_rfl
abbrev zH:Stmt:=top 112
theorem IB:ap ["_law_script","_law_at","_law_floors","_law_kind","_law_start"] ["_law_script","_law_at","_law_floors"] (af zH):=by ac_rfl
abbrev vI:Stmt:=top 113
theorem Et:ap ["_law_script","_law_most","_law_floors","_law_many","_law_locked","_law_sort"] ["_law_script","_law_most"] (af vI):=by ac_rfl
abbrev vG:Stmt:=top 114
theorem Es:ap ["_law_script","_law_at","_law_house_here","_law_tag_here","_law_lifts","_law_start","_law_goal"] ["_law_script","_law_at","_law_house_here","_law_tag_here","_law_lifts"] (af vG):=by ac_rfl
abbrev nY:Stmt:=top 115
theorem zy:ap ["_law_script","_law_at"] ["_law_script","_law_at"] (af nY):=by ac_rfl
abbrev zG:Stmt:=top 116
theorem IA:ap ["_law_log","_law_row","_law_number"] ["_law_log"] (af zG):=by ac_rfl
abbrev zF:Stmt:=top 117
theorem Iz:ap ["_law_script","_law_house_here","_law_way"] ["_law_script","_law_house_here"] (af zF):=by ac_rfl
abbrev vK:Stmt:=top 118
theorem Eu:ap ["_law_script","_law_at","_law_house_here","_law_fire","_law_deeds_here","_law_prime","_law_one","_law_goal","_law_start","_law_way","_law_lift_here"] ["_law_script","_law_at","_law_house_here","_law_fire"] (af vK):=by ac_rfl
abbrev zI:Stmt:=top 119
theorem vw:ap ["_law_house_here","_law_state","_law_k","_law_cabin","_law_number","_law_lift_here"] ["_law_house_here","_law_state"] (af zI):=by ac_rfl
abbrev vH:Stmt:=top 120
theorem qx:ap ["_law_house_here","_law_before","_law_after","_law_deeds_here","_law_k","_law_old","_law_new","_law_pair"] ["_law_house_here","_law_before","_law_after","_law_deeds_here"] (af vH):=by ac_rfl
abbrev nV:Stmt:=top 121
theorem c8:ap ["_law_row","_law_kept","_law_before","_law_after","_law_tag_here","_law_one","_law_good","_law_cabin","_law_aboard"] ["_law_row","_law_kept","_law_before","_law_after"] (af nV):=by ac_rfl
abbrev jF:Stmt:=top 122
theorem vv:ap ["_law_kept","_law_before","_law_after","_law_deeds_here","_law_log","_law_deed","_law_row","_law_one"] ["_law_kept","_law_before","_law_after","_law_deeds_here","_law_log"] (af jF):=by ac_rfl
abbrev Mf:Stmt:=top 123
theorem kB:ap ["_law_script","_law_house_here","_law_word","_law_court","_law_state","_law_first","_law_kept","_law_k","_law_deeds_here","_law_told"] ["_law_script"] (af Mf):=by ac_rfl
abbrev om:Stmt:=gq (top 58) 0
theorem zB:ap ["self","turns"] ["self","turns"] (af om):=by ac_rfl
abbrev oj:Stmt:=gq (top 58) 1
theorem zA:ap ["self","count","blocked","stepped"] ["self","count","blocked","stepped"] (af oj):=by ac_rfl
abbrev lx:Stmt:=gq (top 59) 0
theorem xz:ap ["self","count","blocked","stepped"] ["self","count","blocked","stepped"] (af lx):=by ac_rfl
abbrev nK:Stmt:=gq (top 60) 0
theorem zp:ap ["self","count","blocked","stepped"] ["self","count","blocked","stepped"] (af nK):=by ac_rfl
abbrev jE:Stmt:=gq (top 69) 0
theorem vq:ap ["self","house","state"] ["self","house","state"] (af jE):=by ac_rfl
abbrev lD:Stmt:=gq (top 91) 0
theorem xA:ap ["self","house","rule","dealer"] ["self","house","rule","dealer"] (af lD):=by ac_rfl
abbrev jH:Stmt:=gq (top 91) 1
theorem mx:ap ["self","cabins"] ["self"] (af jH):=by ac_rfl
abbrev iZ:Stmt:=gq (top 91) 2
theorem o0:ap ["self","state","deeds","moment","deed","lift"] ["self","state","deeds"] (af iZ):=by ac_rfl
abbrev nM:Stmt:=gq (top 100) 0
theorem zr:ap ["self","seen"] ["self","seen"] (af nM):=by ac_rfl
abbrev jG:Stmt:=gq (top 101) 0
theorem vx:ap ["self","seen","told"] ["self","seen"] (af jG):=by ac_rfl
abbrev iX:Stmt:=gq (top 102) 0
theorem tE:ap ["self","seen"] ["self","seen"] (af iX):=by ac_rfl
abbrev iV:Stmt:=gq (top 103) 0
theorem tz:ap ["self","top"] ["self","top"] (af iV):=by ac_rfl
abbrev iU:Stmt:=gq (top 103) 1
theorem tm:ap ["self","seen"] ["self","seen"] (af iU):=by ac_rfl
abbrev k7:Stmt:=gq (top 104) 0
theorem xu:ap ["self","letters"] ["self","letters"] (af k7):=by ac_rfl
abbrev k6:Stmt:=gq (top 104) 1
theorem xt:ap ["self","seen"] ["self","seen"] (af k6):=by ac_rfl
section
variable {P:Program}{w:World}{K:Fg}{mg:Str->Option Value}{base:Heap}{f:Addr}{fd:FuncData}
theorem y3 {n:Nat}(h:n<1000000):n<sizeLine:=by rw [sizeLine_eq];lia
def yE (K:Fg)(H:Hp)(a:Addr)(ns:List Int):Prop:=R1 K H a ns/\∀i∈ns,Builtin.Int.intBits i<=2^20
theorem yE.same {H H':Hp}{a:Addr}{R:List Int}(h:yE K H a R)(s:aq H H'):yE K H' a R:=⟨⟨s.seq h.1.1,h.1.2⟩,h.2⟩
def ye (ns:List Int)(k:Int):Int:=if k<(ns.length:Int) then ns.getD k.toNat 0 else 0
def RS (ns:List Int)(k p m:Int):Int:=(ye ns k*48271+7919*k*k+11)% p% m
def Sd (ns:List Int)(k m:Int):Int:=(ye ns k*48271+7919*k*k+11)*(2305843009213693951^(4:Int).toNat)% (m+1)
inductive qr (K:Fg)(vs:List V)(H:Hp)(Q:VK)(_e:XK):Prop
 |mk (a ns k:_) (_:vs=[.ref a,.int k]) (_:yE K H a ns) (_:0<=k) (_:∀i:Int,i=ye ns k->Builtin.Int.intBits i<=2^20->Q (.int i) H)
abbrev Z0:=λK n s f fd=>bB K n n s f fd
theorem Jz (F:Z0 K "_law_cell" zK f fd)(I:mg "len"=none):az P w K mg base bg 1 f fd ["_law_script","_law_k"] (qr K):=by
 rwa[F.ok ID (by symm) @p];obtain ⟨a,R,k,rfl,⟨⟨O,G⟩,U⟩,z,q⟩:=h;rwa[⟨_,(aa @bJ @eZ),?_⟩];erw[j3 O ?_];rw [length_map];rwa[gw (λW=> ?_) (λW=> ?_)]
 ·ext;rwa[cP O (G1 z W) (q _ (by unfold ye;rw [if_pos W]) (U _ ?_))]
  first|exact getElem_mem _|exact List.get_mem _ _|(rw [getD_eq_getElem?_getD,getElem?_eq_getElem @c];exact getElem_mem _)
 ·exact q 0 (by unfold ye;rw [if_neg W]) @b
inductive pM (K:Fg)(vs:List V)(H:Hp)(Q:VK)(_e:XK):Prop
 |mk (a ns k p m:_) (_:vs=[.ref a,.int k,.int p,.int m]) (_:yE K H a ns) (_:0<=k) (_:k<1000) (_:0<p) (_:0<m) (_:∀i:Int,i=RS ns k p m->0<=i->i<m->Q (.int i) H)
theorem tQ {H:Hp}{a:Addr}{R:List Int}{k p m:Int}{Q:VK}{E:XK}(h1:yE K H a R)(h2:0<=k)(L:k<1000)(j:0<p)(S:0<m)(g:∀i:Int,0<=i->i<m->Q (.int i) H):pM K [.ref a,.int k,.int p,.int m] H Q E:=⟨a,R,k,p,m,rfl,h1,h2,L,j,S,λi _=>g i⟩
theorem PB (F:Z0 K "_law_draw" zJ f fd)(U:bf P w K mg base 1 "_law_cell" ["_law_script","_law_k"] (qr K)):az P w K mg base bg 2 f fd ["_law_script","_law_k","_law_prime","_law_many"] (pM K):=by
 rwa[F.ok IC (by symm) @p];obtain ⟨a,S,k,p,m,rfl,O,z,R,J,G,q⟩:=h;rwa[⟨_,@j,?_⟩];rwa[qr.mk _ _ _ rfl O z λi I hi=> ?_];rwa[⟨oH @b @b,eX @b @b,oH @c @c,by lia,by lia,?_⟩];exact q _ (by rw [I];rfl) (Int.emod_nonneg _ @c) (Int.emod_lt_of_pos _ G)
inductive LZ (K:Fg)(vs:List V)(H:Hp)(Q:VK)(_e:XK):Prop
 |mk (a ns k m:_) (_:vs=[.ref a,.int k,.int m]) (_:yE K H a ns) (_:0<=k) (_:k<1000) (_:0<=m) (_:∀i:Int,i=Sd ns k m->0<=i->i<=m->Q (.int i) H)
theorem Py (F:Z0 K "_law_great" vJ f fd)(U:bf P w K mg base 1 "_law_cell" ["_law_script","_law_k"] (qr K)):az P w K mg base bg 2 f fd ["_law_script","_law_k","_law_most"] (LZ K):=by
 rwa[F.ok xx (by symm) @I];obtain ⟨a,R,k,m,rfl,O,z,j,J,q⟩:=h;rwa[⟨_,(aa (bp (i:=3) xx.nd rfl @q (bT @fr (bT @fr (bT u1 (bV U Y @b rfl (au (wv 0) @be)) ag) (bT u1 (bT u1 ag (wv 1)) (wv 1))) ag)) (ac (ak (bT DD (bT u1 (wv 3) (bT KA ag ag)) (bT @fr (wv 2) ag))))),?_⟩];rwa[qr.mk _ _ _ rfl O z λi I hi=> ?_];rwa[⟨(oH @b @b).ok,(eX @b @b).ok,(oH @c @c).ok,?_⟩];rwa[⟨yc @b @b @b,Gb hi z j,?_⟩];rwa[⟨by lia,?_⟩];exact q _ (by rw [I];rfl) (Int.emod_nonneg _ @c) (Int.le_of_lt_add_one (Int.emod_lt_of_pos _ @c))
inductive iQ (vs:List V)(H:Hp)(Q:VK)(_e:XK):Prop
 |mk (i:Int) (_:vs=[.int i]) (_:Q (.bl true) H)
theorem Fa (F:Z0 K "_law_whole" vF f fd)(j:mg "isinstance"=none)(z:mg "int"=none)(I:mg "bool"=none):az P w K mg base bg 1 f fd ["_law_thing"] iQ:=by
 rwa[F.ok Er (by symm) @I];obtain ⟨i,rfl,q⟩:=h;rwa[⟨_,(ac (ak (iO (aA (yW rfl) rfl j boot_isinstance (au (wv 0) (au (dD (v:= .ty "int") rfl z boot_int rfl) am))) (lE (yV rfl (aA (yW rfl) rfl j boot_isinstance (au (wv 0) (au (dD (v:= .ty "bool") rfl I boot_bool rfl) am)))))))),?_⟩];rwa[⟨rfl,bG rfl ⟨rfl,q⟩⟩]
def P0 (ns:List Int):Int:=Sd ns 5 ((10:Int)^(57:Int).toNat)
def ft (ns:List Int)(n:Int):Int:=if RS ns 5 50021 3=0 then n else if RS ns 5 50021 3=1 then P0 ns*100+n else n*(10:Int)^(58:Int).toNat+P0 ns
theorem AR {R:List Int}{m n:Int}(h:ft R m=ft R n):m=n:=by
 unfold ft at h;split at h
 ·exact h
 ·split at h
  ·lia
  ·have e:(10:Int)^(58:Int).toNat=10000000000000000000000000000000000000000000000000000000000:=by decide
   rw [e] at h;lia
inductive D3 (K:Fg)(vs:List V)(H:Hp)(Q:VK)(_e:XK):Prop
 |mk (a ns k:_) (_:vs=[.ref a,.int k]) (_:yE K H a ns) (_:0<=k) (_:k<1000) (_:∀i:Int,i=ft ns k->Q (.int i) H)
abbrev Z00:=λP w K mg base=>bf P w K mg base 2 "_law_draw" ["_law_script","_law_k","_law_prime","_law_many"] (pM K)
theorem MT (F:Z0 K "_law_tag" EG f fd)(R:Z00 P w K mg base)(sq:bf P w K mg base 2 "_law_great" ["_law_script","_law_k","_law_most"] (LZ K)):az P w K mg base bg 3 f fd ["_law_script","_law_number"] (D3 K):=by
 rwa[F.ok Me (by symm) (λJ A outer s H S Q E Z h=> ?_)];obtain ⟨a,ns,k,rfl,O,k0,U,q⟩:=h;rwa[⟨_,(aa @a (aa (ax @a @fa ar) @gE)),?_⟩];rwa[⟨yc @b @b @b,?_⟩];rwa[LZ.mk _ _ _ _ rfl O @b @b @b λx ex x0 x1=> ?_];rwa[pM.mk _ _ _ _ _ rfl O @b @b @b @b λi I Y i1=> ?_];rwa[gw @k @k]
 ·have z:i=0:=z;exact q _ (by unfold ft;rw [if_pos (by rw [<-I];exact z)])
 have z: ¬i=0:=z;rwa[pM.mk _ _ _ _ _ rfl O @b @b @b @b λj G W L=> ?_];rwa[gw @gl @gl]
 ·have y:j=1:=y;exact ⟨oH @b @b,q _ (by unfold ft;rw [if_neg (by rw [<-I];exact z),if_pos (by rw [<-G];exact y),ex];rfl)⟩
 ·have y: ¬j=1:=y;rwa[⟨yc @b @b @b,?_⟩];exact ⟨eX @c @c,q _ (by unfold ft;rw [if_neg (by rw [<-I];exact z),if_neg (by rw [<-G];exact y),ex];rfl)⟩
def vN (ks:List Nat):List V:=ks.map λk:Nat=>V.int (k:Int)
def Pm:Option Nat->V
 |none=> .non
 |some n=> .int (n:Int)
theorem IR (n:Nat):(1:Int)*2^((n:Int)).toNat=((2^n:Nat):Int):=by rw [Int.toNat_natCast,Int.natCast_pow];simp
inductive mi (vs:List V)(H:Hp)(Q:VK)(_e:XK):Prop
 |mk (n:Nat) (_:vs=[.int (n:Int)]) (_:n<=1000) (_:Q (.int ((2^n:Nat):Int)) H)
theorem M9 (F:Z0 K "bit" Mi f fd):az P w K mg base bg 1 f fd ["k"] mi:=by
 rwa[F.ok O8 (by symm) @p];obtain ⟨n,rfl,z,q⟩:=h;rwa[⟨_,@j,?_⟩];rwa[⟨yc @c @c @b,?_⟩];rw [<-IR] at q;exact q
inductive fE (vs:List V)(H:Hp)(Q:VK)(_e:XK):Prop
 |mk (M n:Nat) (_:vs=[.int (M:Int),.int (n:Int)]) (_:n<=1000) (_:Q (.bl (M.testBit n)) H)
theorem M3 (F:Z0 K "has" Mh f fd)(G:bf P w K mg base 1 "bit" ["k"] mi):az P w K mg base bg 2 f fd ["mask","k"] fE:=by
 rwa[F.ok O7 (by symm) @p];obtain ⟨M,n,rfl,z,q⟩:=h;rwa[⟨_,@j,?_⟩];rwa[fz @c ?_];rwa[mi.mk _ rfl z ?_];show Q (.bl (!decide (Builtin.bitAnd (M:Int) ((2^n:Nat):Int)=0))) H;rw [Ko]
 have e:decide (((M&&&2^n:Nat):Int)=0)= !M.testBit n:=by
  rw [<-testBit_and];exact decide_eq_decide.mpr @c
 rw [e,Bool.not_not];exact q
inductive iP (vs:List V)(H:Hp)(Q:VK)(_e:XK):Prop
 |mk (M n:Nat) (_:vs=[.int (M:Int),.int (n:Int)]) (_:n<=1000) (_:Q (.int ((M|||2^n:Nat):Int)) H)
theorem E9 (F:Z0 K "with_bit" qB f fd)(G:bf P w K mg base 1 "bit" ["k"] mi):az P w K mg base bg 2 f fd ["mask","k"] iP:=by
 rwa[F.ok BZ (by symm) @p];obtain ⟨M,n,rfl,z,q⟩:=h;rwa[⟨_,@j,?_⟩];rwa[mi.mk _ rfl z ?_];rw [<-ME] at q;exact q
inductive mm (vs:List V)(H:Hp)(Q:VK)(_e:XK):Prop
 |mk (M n:Nat) (_:vs=[.int (M:Int),.int (n:Int)]) (_:n<=1000) (_:Q (.int ((M% 2^n:Nat):Int)) H)
theorem FG (F:Z0 K "below" zL f fd)(G:bf P w K mg base 1 "bit" ["k"] mi):az P w K mg base bg 2 f fd ["mask","k"] mm:=by
 rwa[F.ok IE (by symm) @p];obtain ⟨M,n,rfl,z,q⟩:=h;rwa[⟨_,(aa (ax @a @eZ ar) @j),?_⟩];rwa[bK @c ?_];rwa[mi.mk _ rfl z ⟨?_,?_⟩]
 ·have:=Nat.two_pow_pos n;lia
 ·rw [Int.natCast_emod] at q;exact q
inductive vm (vs:List V)(H:Hp)(Q:VK)(_e:XK):Prop
 |mk (M n:Nat) (_:vs=[.int (M:Int),.int (n:Int)]) (_:n<1000) (_:Q (.int ((M - M% 2^(n+1):Nat):Int)) H)
theorem FJ (F:Z0 K "above" zM f fd)(G:bf P w K mg base 2 "below" ["mask","k"] mm):az P w K mg base bg 3 f fd ["mask","k"] vm:=by
 rwa[F.ok IF (by symm) @p];obtain ⟨M,n,rfl,z,q⟩:=h;rwa[⟨_,@j,?_⟩];rwa[mm.mk _ (n+1) rfl z ?_]
 have e:((M - M% 2^(n+1):Nat):Int)=(M:Int) - ((M% 2^(n+1):Nat):Int):=by
  have:=Nat.mod_le M (2^(n+1));lia
 rw [e] at q;exact q
inductive me (K:Fg)(vs:List V)(H:Hp)(Q:VK)(_e:XK):Prop
 |mk (p:Addr) (ks:List Nat) (_:vs=[.ref p]) (_:aN K H p (vN ks)) (_:(∀k∈ks,k<=1000)) (_:Q (.int (pc ks:Int)) H)
theorem LA {ks:List Nat}{i:Nat}{x:V}(h:(vN ks)[i]? =some x):∃k,ks[i]? =some k/\x=V.int (k:Int):=by
 unfold vN at h;rw [getElem?_map] at h
 cases e:ks[i]? with
 |none=>rw [e] at h;cases h
 |some k=>rw [e] at h;exact ⟨k,rfl,(Option.some.inj h).symm⟩
theorem DJ (ks:List Nat):(vN ks).length=ks.length:=length_map _
theorem Cq (F:Z0 K "mask_of" vC f fd)(I:bf P w K mg base 2 "with_bit" ["mask","k"] iP):az P w K mg base bg 3 f fd ["numbers"] (me K):=by
 rwa[F.ok En (by symm) @p];obtain ⟨p,ks,rfl,O,R,q⟩:=h;rwa[⟨_,(aa @a (aa (cO PassesOwn.never rfl @a @a (ac @a)) @fa)),?_⟩];rwa[cz O ?_];rwa[dX (xs:=vN ks) (λi σ H'=>H'=H/\∃o,σ=[some (.ref p),some (.int (pc (ks.take i):Int)),o]) ⟨rfl,_,by rfl⟩ (λi σ H' _ h=>by rw [h.1];exact O) ?_ ?_]
 ·rintro i x σ H' G ⟨rfl,o,rfl⟩;obtain ⟨k,z,rfl⟩:=LA G;rwa[iP.mk _ _ rfl (R k (mem_of_getElem? z)) ⟨rfl,some (.int (k:Int)),?_⟩]
  have e:pc (ks.take (i+1))=pc (ks.take i)|||2^k:=by
   unfold pc;rw [take_add_one,z,foldl_append];rfl
  rw [e];rfl
 ·rintro σ H' ⟨rfl,o,rfl⟩;rw [DJ,take_of_length_le @f];exact q
inductive zc (vs:List V)(H:Hp)(Q:VK)(_e:XK):Prop
 |mk (M:Nat) (_:vs=[.int (M:Int)]) (_:M<2^200) (_:∀p,H p=none->Q (.ref p) (upd H p (.lst (vN (km M)))))
abbrev Z03:=λP w K mg base=>bf P w K mg base 2 "has" ["mask","k"] fE
theorem Ct (F:Z0 K "listed" vE f fd)(z:mg "range"=none)(S:Z03 P w K mg base):az P w K mg base bg 3 f fd ["mask"] zc:=by
 rwa[F.ok Ep (by symm) (λI A outer s H O Q E Y h=> ?_)];obtain ⟨M,rfl,J,q⟩:=h;have R:=Qn J;have j:=sizeLine_eq;rwa[⟨_,(ac (ak (bz rfl (aE (N':=["k","mask"]) (pk:=[none,some 0]) @o) (dU rfl z (au (Dz rfl PySem.F.plainAttrs_int PySem.F.slot_int_bit_length PySem.F.type_int_bit_length DF (wv 0)) am)) @l @bx @O))),?_⟩];rwa[⟨rfl,⟨by show -4611686018427387904<=((L M:Nat):Int);lia,by show ((L M:Nat):Int)<4611686018427387904;lia⟩,?_⟩];show tR (Kx 0 (L M)) _ _ _ _ _ _ _
 refine lM (λi ys H'=>H'=H/\ys=vN (kK M i)) @c (λi ys H' p=>by
  rw [p.2,DJ];unfold kK;exact Nat.le_trans @Y @g) ⟨rfl,rfl⟩ ?_ ?_
 ·rintro i ys H' hi ⟨rfl,rfl⟩;erw[⟨Rt,?_⟩];show fE [.int (M:Int),.int (0+(i:Int))] _ _ _;rw [Int.zero_add];rwa[fE.mk _ _ rfl @c ?_];show if M.testBit i=true then _ else _
  cases h:M.testBit i with
  |true=>
   rw [if_pos rfl];rwa[⟨rfl,?_⟩];rw [lR,h];unfold vN;rw [map_append];rfl
  |false=>
   rw [if_neg Bool.false_ne_true];rwa[⟨rfl,?_⟩];rw [lR,h];simp
 ·rintro ys H' ⟨rfl,rfl⟩ p G;exact q p G
inductive ql (vs:List V)(H:Hp)(Q:VK)(_e:XK):Prop
 |mk (M:Nat) (_:vs=[.int (M:Int)]) (_:M<2^200) (_:∀H',aq H H'->Q (Pm (km M)[0]?) H')
theorem EE {H:Hp}{p:Addr}(h:H p=none)(o:HO):aq H @fz:=λb u q=>by rw [ao (bL q h)];exact q
theorem Cs (F:Z0 K "lowest" vD f fd)(O:bf P w K mg base 3 "listed" ["mask"] zc):az P w K mg base bg 4 f fd ["mask"] ql:=by
 rwa[F.ok Eo (by symm) (λI A outer s H R Q E Y h=> ?_)];obtain ⟨M,rfl,J,q⟩:=h;rwa[⟨_,@ek,?_⟩];erw[zc.mk _ rfl J λp L=> ?_];have z:=q _ (EE L (.lst (vN (km M))));rwa[Iu @fV ?_]
 cases G:km M with
 |nil=>
  rw [G] at z;exact aL rfl z
 |cons k ks=>
  rw [G] at z;rwa[bG rfl ?_];exact cP @fV (c7 (j:=0) (v:=V.int (k:Int)) rfl) z
inductive nG (vs:List V)(H:Hp)(Q:VK)(_e:XK):Prop
 |mk (M:Nat) (_:vs=[.int (M:Int)]) (_:Q (Pm (if M=0 then none else some (L M - 1))) H)
theorem z9 (F:Z0 K "highest" qK f fd):az P w K mg base bg 1 f fd ["mask"] nG:=by
 rwa[F.ok B8 (by symm) (λz A outer s H G Q E Y h=> ?_)];obtain ⟨M,rfl,q⟩:=h;rwa[⟨_,(ac (ak (AK @a (bT qg (Dz rfl PySem.F.plainAttrs_int PySem.F.slot_int_bit_length PySem.F.type_int_bit_length DF (wv 0)) ag) EZ))),?_⟩];rwa[gw (λh=> ?_) (λh=> ?_)]
 ·rwa[⟨rfl,?_⟩]
  have j:M≠0:=by lia
  rw [if_neg j] at q
  have e:((L M - 1:Nat):Int)=((L M:Nat):Int) - 1:=by
   have:=Hd M;rw [if_neg j] at this;lia
  show Q (.int (((L M:Nat):Int) - 1)) H;rw [<-e];exact q
 ·have j:M=0:=by lia
  rw [if_pos j] at q;exact q
def bF (p:Int×Int):D:= .tup [.int p.1,.int p.2]
def K2 (pl li dr mk:Int)(ps:List (Int×Int)):List D:=[.int pl,.int li,.int dr,.int mk,.tup @di]
inductive bZ (K:Fg)(H:Hp)(t:Addr)(pl li dr mk:Int)(ps:List (Int×Int)):Prop
 |mk (b xs:_) (_:H t=some (.tup [.int pl,.int li,.int dr,.int mk,.ref b])) (_:H b=some (.tup xs)) (_:aC K H xs @di)
theorem bZ.same {H H':Hp}{t:Addr}{pl li dr j:Int}{ps:List (Int×Int)}(h:bZ K H t pl li dr j ps)(s:aq H H'):bZ K H' t pl li dr j ps:=by
 obtain ⟨b,xs,S,R,d⟩:=h;exact ⟨b,xs,s.get S,s.get R,aC.same d s⟩
theorem bZ.den {H:Hp}{t:Addr}{pl li dr j:Int}{ps:List (Int×Int)}(h:bZ K H t pl li dr j ps):bM K H (.ref t) (.tup (K2 pl li dr j ps)):=by
 obtain ⟨b,xs,S,R,d⟩:=h;exact d3 (aD.of S) (.cons (.int _) (.cons (.int _) (.cons (.int _) (.cons (.int _) (.cons (d3 (aD.of R) d) .nil)))))
theorem Rs:5<=sizeLine:=by rw [sizeLine_eq];lia
noncomputable def bN (so:Str)(pl li:Int)(ps:List (Int×Int))(wd:Str):Str:=
 if so=s!"free"\/ps=[] then wd else if ps.any (λp=>decide (2*p.2=pl))=true then s!"o" else if wd=s!"x" then s!"o" else
 if (wd=s!"u"/\li<0)\/(wd=s!"d"/\0<li) then s!"s" else wd
noncomputable def cy:List Str:=[s!"o",s!"x",s!"u",s!"d",s!"s"]
theorem NJ {x:Str}(h:x∈cy):x=s!"o"\/x=s!"x"\/x=s!"u"\/x=s!"d"\/x=s!"s":=by
 simpa [cy] using h
theorem jv {so:Str}{pl li:Int}{ps:List (Int×Int)}{j:Str}(h:j∈cy):bN so pl li ps j∈cy:=by
 unfold bN;split
 ·exact h
 split
 ·exact .head _
 split
 ·exact .head _
 split
 ·exact .tail _ (.tail _ (.tail _ (.tail _ (.head _))))
 ·exact h
noncomputable def fM (fl tu pl li dr:Int)(ps:List (Int×Int))(x:Str):Int×Int×Int:=
 if x=s!"o" then (pl,li,tu) else if x=s!"x" then (pl,0,tu) else if x=s!"u"/\pl / 2<fl - 1 then (pl+1,1,dr) else if x=s!"d"/\0<pl then (pl - 1,-1,dr) else (pl,if ps=[] then 0 else li,dr)
section
variable {fl tu pl li dr:Int}{ps:List (Int×Int)}
theorem GE:fM fl tu pl li dr ps "o"=(pl,li,tu):=if_pos rfl
theorem Gz:fM fl tu pl li dr ps "x"=(pl,0,tu):=by unfold fM;rw [if_neg @b,if_pos rfl]
theorem As (h:pl / 2<fl - 1):fM fl tu pl li dr ps "u"=(pl+1,1,dr):=by unfold fM;rw [if_neg @b,if_neg @b,if_pos ⟨rfl,h⟩]
theorem At (h: ¬pl / 2<fl - 1):fM fl tu pl li dr ps "u"=(pl,if ps=[] then 0 else li,dr):=by unfold fM;rw [if_neg @b,if_neg @b,if_neg @ev,if_neg @C]
theorem Au (h:0<pl):fM fl tu pl li dr ps "d"=(pl - 1,-1,dr):=by unfold fM;rw [if_neg @b,if_neg @b,if_neg @C,if_pos ⟨rfl,h⟩]
theorem Av (h: ¬0<pl):fM fl tu pl li dr ps "d"=(pl,if ps=[] then 0 else li,dr):=by unfold fM;rw [if_neg @b,if_neg @b,if_neg @C,if_neg @ev]
theorem GD:fM fl tu pl li dr ps "s"=(pl,if ps=[] then 0 else li,dr):=by unfold fM;rw [if_neg @b,if_neg @b,if_neg @C,if_neg @C]
end
def qe (ps:List (Int×Int)):Prop:=ps.length<=300/\∀p∈ps,0<=p.2/\p.2<100
theorem uI (ps:List (Int×Int)):deps @di<=1:=by
 induction ps with
 |nil=>decide
 |cons p ps ih=>show max (jq (bF p)) (deps @di)<=1;exact Nat.max_le.mpr ⟨(by show max 0 (max 0 0)+1<=1;lia),ih⟩
inductive c4 (K:Fg)(vs:List V)(H:Hp)(Q:VK)(_e:XK):Prop
 |mk (c pl li dr mk ps:_) (_:vs=[.ref c]) (_:bZ K H c pl li dr mk ps) (_:Q (.int (pl / 2)) H)
theorem Fz (F:Z0 K "floor_of" qM f fd):az P w K mg base bg 1 f fd ["cabin"] (c4 K):=by
 rwa[F.ok B9 (by symm) @p];obtain ⟨c,pl,li,dr,z,ps,rfl,I,q⟩:=h;obtain ⟨b,xs,Z,W,dx⟩:=id I;rwa[⟨_,@j,?_⟩];left;exact q
def eS (ps:List (Int×Int)):List V:=ps.map λp=>V.int p.2
inductive iR (K:Fg)(vs:List V)(H:Hp)(Q:VK)(_e:XK):Prop
 |mk (c pl li dr mk ps:_) (_:vs=[.ref c]) (_:bZ K H c pl li dr mk ps) (_:ps.length<=300) (_:∀p H',aq H H'->H p=none->H' p=some (.lst (eS ps))->Q (.ref p) H')
theorem Fy (F:Z0 K "goals_aboard" iY f fd):az P w K mg base bg 1 f fd ["cabin"] (iR K):=by
 rwa[F.ok tF (by symm) (λO A outer s H U Q E Z h=> ?_)];obtain ⟨c,pl,li,dr,mk,ps,rfl,I,hl,q⟩:=h;obtain ⟨b,xs,ec,W,dx⟩:=id I;have S:=aM dx;rwa[⟨_,(ac (ak (bz rfl @bP @a @w @x (λC s H ex=>(wv 1))))),?_⟩];left;rwa[cZ @cw ?_];rwa[cN (xs:=xs) (λi ys H'=>H'=H/\ys=(eS ps).take i) @bu (λi ys H' p=>by rw [p.2,length_take];exact Nat.min_le_left _ _) ⟨rfl,rfl⟩ (λi ys H' _ p=>by rw [p.1];exact aD.of W) (λi x ys H' z p=> ?_) (λys H' p J Y=> ?_)]
 ·obtain ⟨rfl,rfl⟩:=p;obtain ⟨pr,j,L⟩:=bE dx z;obtain ⟨u,us,rfl,R,G⟩:=L.outT
  cases G with|cons q0 t0=>cases t0 with|cons q1 t1=>
  cases t1;cases q0.isInt;cases q1.isInt;left;rwa[⟨ii,?_⟩];left;rwa[⟨rfl,?_⟩];rw [take_succ];congr 1;unfold eS;rw [getElem?_map,j];rfl
 ·obtain ⟨rfl,rfl⟩:=p;rwa[q J _ (.upd Y) Y ?_];rw [aj,take_of_length_le (by unfold eS;rw [length_map];lia)]
structure be where
 tag:Int
 start:Int
 goal:Int
 lift:Int
def be.d (r:be):D:= .tup [.int r.tag,.int r.start,.int r.goal,.int r.lift]
def N5 (rs:List be):Prop:=rs.length<=200/\∀r∈rs,r.start≠r.goal
theorem i6 (rs:List be):noLs @bz=true:=by
 induction rs with
 |nil=>rfl
 |cons r rs ih=>rw [map_cons,noLs,ih];rfl
theorem io (ps:List (Int×Int)):noLs @di=true:=by
 induction ps with
 |nil=>rfl
 |cons r rs ih=>rw [map_cons,noLs,ih];rfl
theorem aq.updF {H0 H1:Hp}{o:Addr}{x:HO}(s:aq H0 H1)(h:H0 o=none):aq H0 (upd H1 o x):=λb u z=>by
 rw [ao (λe=>by rw [e,h] at z;cases z)];exact s b u z
def uY (s g:Int):Int:=if s<g then 1 else -1
inductive qk (vs:List V)(H:Hp)(Q:VK)(_e:XK):Prop
 |mk (s g:Int) (_:vs=[.int s,.int g]) (_:Q (.int (uY s g)) H)
theorem MR (F:Z0 K "way_of" zD f fd):az P w K mg base bg 1 f fd ["start","goal"] qk:=by
 rwa[F.ok Ix (by symm) @p];obtain ⟨s,g,rfl,q⟩:=h;rwa[⟨_,@j,?_⟩];unfold uY at q;by_cases h:s<g
 ·rw [if_pos h] at q;left;exact q
 ·rw [if_neg h] at q;left;exact q
def tk (room:Int)(ps:List (Int×Int))(rs:List be)(f:Int):Bool:=ps.any (λp=>decide (p.2=f))||(decide ((ps.length:Int)<room)&&rs.any (λr=>decide (r.start=f)))
def Dj (t:Int->Bool)(f u:Int):Prop:=(u=0/\∀j:Int,1<=j->j<=7->t (f+j)=false)\/(1<=u/\u<=7/\t (f+u)=true/\∀j:Int,1<=j->j<u->t (f+j)=false)
def Dl (t:Int->Bool)(f d:Int):Prop:=(d=0/\∀j:Int,1<=j->j<=7->j<=f->t (f - j)=false)\/(1<=d/\d<=7/\d<=f/\t (f - d)=true/\∀j:Int,1<=j->j<d->t (f - j)=false)
def K5 (ps:List (Int×Int))(f:Int):Bool:=ps.any λp=>decide (p.2=f)
def Kt (rs:List be)(f li:Int):Bool:=rs.any λr=>decide (r.start=f)&&decide (uY r.start r.goal=li)
noncomputable def ji (so:Str)(li:Int)(t0 ab al:Bool):Int:=if t0=false then 0 else if so=s!"free"\/li=0 then 2 else if ab=true\/al=true then 2 else 1
def QD (ps:List (Int×Int))(rs:List be):Prop:=(∀p∈ps,0<=p.2/\p.2<8)/\(∀r∈rs,0<=r.start/\r.start<8)/\ps.length<=200/\rs.length<=200
theorem oq (ks:List Nat)(i:Nat):(pc ks).testBit i=decide (i∈ks):=by
 unfold pc;rw [qZ];simp
theorem xF {ks:List Nat}(h:∀k∈ks,k<8):pc ks<2^8:=Nat.lt_pow_two_of_testBit _ λi hi=>by
 rw [oq]
 exact decide_eq_false λz=>by have:=h i z;lia
theorem Gc {ps:List (Int×Int)}(h:∀p∈ps,0<=p.2/\p.2<8):eS ps=vN @dt:=by
 unfold eS vN;rw [map_map];rwa[map_congr_left λp G=> ?_];show V.int p.2=V.int ((p.2.toNat:Nat):Int);rw [Int.toNat_of_nonneg (h p G).1]
def eh (rs:List be):List V:=rs.map λr=>V.int r.start
theorem BS {rs:List be}(h:∀r∈rs,0<=r.start/\r.start<8):eh rs=vN (rs.map λr=>r.start.toNat):=by
 unfold eh vN;rw [map_map];rwa[map_congr_left λp G=> ?_];show V.int p.start=V.int ((p.start.toNat:Nat):Int);rw [Int.toNat_of_nonneg (h p G).1]
theorem uy {ps:List (Int×Int)}(h:∀p∈ps,0<=p.2/\p.2<8)(i:Nat):decide (i∈ps.map λp=>p.2.toNat)=ps.any λp=>decide (p.2=(i:Int)):=by
 rw [Bool.eq_iff_iff,decide_eq_true_eq,mem_map,any_eq_true];constructor
 ·rintro ⟨p,G,e⟩;exact ⟨p,G,decide_eq_true (by have:=h p G;lia)⟩
 ·rintro ⟨p,G,e⟩;exact ⟨p,G,by have:=of_decide_eq_true e;lia⟩
theorem Ad {rs:List be}(h:∀r∈rs,0<=r.start/\r.start<8)(i:Nat):decide (i∈rs.map λr=>r.start.toNat)=rs.any λr=>decide (r.start=(i:Int)):=by
 rw [Bool.eq_iff_iff,decide_eq_true_eq,mem_map,any_eq_true];constructor
 ·rintro ⟨p,G,e⟩;exact ⟨p,G,decide_eq_true (by have:=h p G;lia)⟩
 ·rintro ⟨p,G,e⟩;exact ⟨p,G,by have:=of_decide_eq_true e;lia⟩
theorem oF (ps:List (Int×Int)):(eS ps).length=ps.length:=by unfold eS;rw [length_map]
inductive u5 (K:Fg)(vs:List V)(H:Hp)(Q:VK)(_e:XK):Prop
 |mk (room c p pl li dr mk ps xs:_) (rs:List be) (_:vs=[.int room,.ref c,.ref p]) (_:bZ K H c pl li dr mk ps) (_:H p=some (.lst xs)) (_:aC K H xs @bz) (_:QD ps rs) (_:∀(M:Nat) H',aq H H'->(∀i:Nat,M.testBit i=tk room ps rs i)->M<2^8->Q (.int (M:Int)) H')
theorem Fe (F:Z0 K "tasks_of" qD f fd)(bo:mg "len"=none)(cU:bf P w K mg base 1 "goals_aboard" ["cabin"] (iR K))(se:bf P w K mg base 3 "mask_of" ["numbers"] (me K)):az P w K mg base bg 4 f fd ["room","cabin","riders"] (u5 K):=by
 rwa[F.ok B2 (by symm) @E];obtain ⟨I,c,p,pl,li,dr,mk,ps,xs,z,rfl,hc,ep,dp,j,q⟩:=h;have xl:=aM dp;have ae:=j.2.2.2;have ab:=j.2.2.1;rwa[⟨_,(aa @a (aa @bJ (ac (ak (bV se hr @b rfl (au (bT @fr (wv 3) (bz rfl @M @a @v @x (λC s H ex=>(wv 1)))) am)))))),?_⟩];left;rwa[iR.mk _ _ _ _ _ _ rfl hc @c λg H1 O n1 e1=> ?_];have ev:=Gc j.1;left;rw [oF];rwa[gw @cV @cV]
 ·left
  refine me.mk _ @dt rfl (aN.of (by rw [<-ev];exact e1)) (λk R=>by
   obtain ⟨p,G,rfl⟩:=mem_map.mp R
   have:=j.1 p G;lia) ?_
  refine q _ H1 O (λi=> ?_) (xF λk R=>by
   obtain ⟨p,G,rfl⟩:=mem_map.mp R
   have:=j.1 p G;lia)
  rw [oq,uy j.1];unfold tk;rw [decide_eq_false (show ¬(ps.length:Int)<I by lia),Bool.false_and,Bool.or_false]
 ·left;rwa[cz @cw ?_];rwa[b4 (xs:=xs) (λi ys H'=>H'=H1/\ys=(eh z).take i) @bu (λi ys H' p=>by rw [p.2,length_take];exact Nat.min_le_left _ _) ⟨rfl,rfl⟩ (λi ys H' _ p=>by rw [p.1];exact O.seq (aN.of ep)) (λi x ys H' S p=> ?_) (λys H' p J n2=> ?_)]
  ·obtain ⟨rfl,rfl⟩:=p;obtain ⟨r,Z,W⟩:=bE dp S;obtain ⟨u,us,rfl,hu,U⟩:=W.outT
   cases U with|cons q0 r0=>cases r0 with|cons q1 r1=>cases r1 with|cons q2 r2=>cases r2 with|cons q3 r3=>
   cases r3;cases q0.isInt;cases q1.isInt;cases q2.isInt;cases q3.isInt;left;rwa[⟨lY,?_⟩];left;rwa[⟨rfl,?_⟩];rw [take_succ];congr 1;unfold eh;rw [getElem?_map,Z];rfl
  ·obtain ⟨rfl,rfl⟩:=p
   have e2:upd H' J (.lst ((eh z).take xs.length)) J=some (.lst (eh z)):=by rw [aj,take_of_length_le (by unfold eh;rw [length_map];lia)]
   have Y:aq H' (upd H' J (.lst ((eh z).take xs.length))):= .upd n2;generalize upd H' J (.lst ((eh z).take xs.length))=H2 at e2 Y ⊢
   have sl:(eh z).length=z.length:=by unfold eh;rw [length_map]
   erw[K1 (Y.get e1) e2 (bJ (by rw [oF,sl];lia)) λl3 H3 s3 n3 e3=> ?_];have L:=BS j.2.1
   refine me.mk _ (@dt++z.map λr=>r.start.toNat) rfl (aN.of (by rw [e3,ev,L];unfold vN;rw [map_append])) (λk R=>by
    rcases mem_append.mp R with R|R
    ·obtain ⟨p,G,rfl⟩:=mem_map.mp R;have:=j.1 p G;lia
    ·obtain ⟨p,G,rfl⟩:=mem_map.mp R
     have:=j.2.1 p G;lia) ?_
   refine q _ H3 ((O.trans Y).trans s3) (λi=> ?_) (xF λk R=>by
    rcases mem_append.mp R with R|R
    ·obtain ⟨p,G,rfl⟩:=mem_map.mp R;have:=j.1 p G;lia
    ·obtain ⟨p,G,rfl⟩:=mem_map.mp R
     have:=j.2.1 p G;lia)
   rw [oq];unfold tk;rw [decide_eq_true (show (ps.length:Int)<I by lia),Bool.true_and,<-uy j.1,<-Ad j.2.1,<-Bool.decide_or];exact decide_eq_decide.mpr mem_append
inductive vk (K:Fg)(vs:List V)(H:Hp)(Q:VK)(_e:XK):Prop
 |mk (f li p xs:_) (rs:List be) (_:vs=[.int f,.int li,.ref p]) (_:H p=some (.lst xs)) (_:aC K H xs @bz) (_:rs.length<=200) (_:∀H',aq H H'->Q (.bl (Kt rs f li)) H')
def jr (rs:List be)(f:Int):List V:=(rs.filter λr=>decide (r.start=f)).map λr=>V.int (uY r.start r.goal)
theorem JT {rs:List be}{f li:Int}:xR (.int li) (jr rs f)=Kt rs f li:=by
 unfold xR jr Kt;rw [any_map,any_filter];rfl
theorem FI (F:Z0 K "goes_along" ly f fd)(jd:bf P w K mg base 1 "way_of" ["start","goal"] qk):az P w K mg base bg 2 f fd ["floor","light","riders"] (vk K):=by
 rwa[F.ok oZ (by symm) @y];obtain ⟨f,li,p,xs,R,rfl,U,S,ae,q⟩:=h;have xl:=aM S;rwa[⟨_,(aa (lV (i:=3) rfl oZ.nd rfl @q (aE (N':=["tag","start","goal","lift","floor"]) (pk:=[none,none,none,none,some 0]) @o) @a @v @bx @l) @j),?_⟩];rwa[cz (aN.of U) ?_]
 refine b4 (xs:=xs) (λi ys H'=>H'=H/\ys=jr (R.take i) f) @bu (λi ys H' p=>by
  rw [p.2];unfold jr;rw [length_map];have:=length_filter_le (λr:be=>decide (r.start=f)) (R.take i);rw [length_take] at this;lia) ⟨rfl,rfl⟩ (λi ys H' _ p=>by rw [p.1];exact aN.of U) (λi x ys H' j p=> ?_) (λys H' p J Z=> ?_)
 ·obtain ⟨rfl,rfl⟩:=p;obtain ⟨r,I,W⟩:=bE S j;obtain ⟨u,us,rfl,hu,G⟩:=W.outT
  cases G with|cons q0 r0=>cases r0 with|cons q1 r1=>cases r1 with|cons q2 r2=>cases r2 with|cons q3 r3=>
  cases r3;cases q0.isInt;cases q1.isInt;cases q2.isInt;cases q3.isInt;left;rwa[⟨lY,?_⟩];show if decide (r.start=f)=true then _ else _
  have e:jr (R.take (i+1)) f=jr (R.take i) f++if decide (r.start=f)=true then [V.int (uY r.start r.goal)] else []:=by
   unfold jr;rw [take_succ,I,filter_append,map_append];congr 1;cases z:decide (r.start=f)<;>simp [z]
  by_cases h1:r.start=f
  ·rw [if_pos @eC];rwa[qk.mk _ _ rfl ?_];rw [e,if_pos @eC];exact ⟨rfl,rfl⟩
  ·rw [if_neg (by rw [decide_eq_false h1];decide),e,if_neg (by rw [decide_eq_false h1];decide),append_nil];exact ⟨rfl,rfl⟩
 ·obtain ⟨rfl,rfl⟩:=p
  have O:upd H' J (.lst @dr) J=some (.lst (jr R f)):=by rw [aj,take_of_length_le @c]
  have L:aq H' (upd H' J (.lst @dr)):= .upd Z;generalize upd H' J (.lst @dr)=H2 at O L ⊢;rwa[zo (aN.of O) rfl ?_ ?_]
  ·rwa[all_eq_true.mpr λx Y=> ?_];obtain ⟨r,_,rfl⟩:=mem_map.mp Y;rfl
  ·rw [JT];exact q H2 L
inductive ze (K:Fg)(vs:List V)(H:Hp)(Q:VK)(_e:XK):Prop
 |mk (so c p pl li dr mk ps xs:_) (rs:List be) (M f0:Nat) (_:vs=[.str so,.ref c,.int (M:Int),.ref p]) (_:bZ K H c pl li dr mk ps) (_:H p=some (.lst xs)) (_:aC K H xs @bz) (_:QD ps rs) (_:pl=2*(f0:Int)) (_:f0<8) (_:∀H',aq H H'->Q (.int (ji so li (M.testBit f0) (K5 ps f0) (Kt rs f0 li))) H')
theorem F9 {f:Int}{ps:List (Int×Int)}:xR (.int f) (eS ps)=K5 ps f:=by
 unfold xR eS K5;rw [any_map];rfl
theorem rN (ps:List (Int×Int)):(eS ps).all dY=true:=by
 rwa[all_eq_true.mpr λx z=> ?_];obtain ⟨p,_,rfl⟩:=mem_map.mp z;rfl
abbrev Z02:=λP w K mg base=>bf P w K mg base 1 "floor_of" ["cabin"] (c4 K)
theorem Ju (F:Z0 K "here_of" vO f fd)(cj:Z02 P w K mg base)(m5:Z03 P w K mg base)(cU:bf P w K mg base 1 "goals_aboard" ["cabin"] (iR K))(pG:bf P w K mg base 2 "goes_along" ["floor","light","riders"] (vk K)):az P w K mg base bg 3 f fd ["sort","cabin","tasks","riders"] (ze K):=by
 rwa[F.ok Ex (by symm) @E];obtain ⟨so,c,p,pl,li,dr,mk,ps,xs,rs,M,G,rfl,I,ep,W,S,U,Y,q⟩:=h;obtain ⟨b,bs,ec,eb,db⟩:=id I;have ae:=S.2.2.2;have ab:=S.2.2.1;rwa[⟨_,(aa @a (aa @a (aa (ax (bw @a) @eZ ar) (aa (ax @a @eZ ar) @j)))),?_⟩]
 have e0:pl / 2=(G:Int):=by lia
 left;rwa[c4.mk _ _ _ _ _ _ rfl I ?_];rw [e0];left;rwa[fE.mk _ _ rfl @c ?_];unfold ji at q
 cases L:M.testBit G with
 |false=>rw [L,if_pos rfl] at q;left;exact q H (.refl _)
 |true=>
  rw [L,if_neg @b] at q;left;by_cases h1:so=s!"free"
  ·rw [if_pos (.inl h1)] at q;left;exact q H (.refl _)
  ·by_cases h2:li=0
   ·rw [if_pos (.inr h2)] at q;left;exact q H (.refl _)
   ·rw [if_neg (λz=>z.elim h1 h2)] at q;left;rwa[iR.mk _ _ _ _ _ _ rfl I @c λg H1 O n1 Z=> ?_];rwa[zo (aN.of Z) rfl (rN ps) ?_];rw [F9]
    cases R:K5 ps G with
    |true=>rw [R,if_pos (.inl rfl)] at q;left;exact q H1 O
    |false=>
     rw [R] at q;left;rwa[vk.mk _ _ _ _ _ rfl (O.get ep) (aC.same W O) @c λH2 J=> ?_]
     cases j:Kt rs G li with
     |true=>rw [j,if_pos (.inr rfl)] at q;left;exact q H2 (O.trans J)
     |false=>rw [j,if_neg @b] at q;left;exact q H2 (O.trans J)
theorem yB (M:Nat):(km M).Pairwise (· < ·):=List.Pairwise.filter _ pairwise_lt_range
theorem oR (M n i:Nat):(M - M% 2^(n+1)).testBit i=(M.testBit i&&decide (n<i)):=by
 have e:M - M% 2^(n+1)=2^(n+1)*(M / 2^(n+1)):=by have:=Nat.div_add_mod M (2^(n+1));lia
 rw [e,Nat.testBit_two_pow_mul,Nat.testBit_div_two_pow];by_cases h:n<i
 ·rw [decide_eq_true h,decide_eq_true (show i≥n+1 from h),Nat.sub_add_cancel h,Bool.true_and,Bool.and_true]
 ·rw [decide_eq_false h,decide_eq_false (show ¬i≥n+1 by lia),Bool.false_and,Bool.and_false]
theorem OV {M n:Nat}{t:Int->Bool}(J:∀i:Nat,M.testBit i=t i)(W:M<2^8):Dj t n (match ((km (M - M% 2^(n+1)))[(0:Nat)]? :Option Nat) with|none=>0|some k=>(k:Int) - n):=by
 cases I:km (M - M% 2^(n+1)) with
 |nil=>
  rwa[.inl ⟨rfl,λj O Z=> ?_⟩];have R:=GZ.mp I;have:=oR M n (n+j.toNat);rw [R,Nat.zero_testBit,decide_eq_true @c,Bool.and_true,J] at this;rw [<-this.symm];congr 1;lia
 |cons k ks=>
  have hs:=yB (M - M% 2^(n+1));rw [I] at hs
  have S:k∈km (M - M% 2^(n+1)):=by rw [I];exact .head _
  have F:=mG.mp S;rw [oR,Bool.and_eq_true] at F;have Y:=of_decide_eq_true F.2;have k8:k<8:=Bz (M:=M) W (mG.mpr F.1);rwa[.inr ⟨by show 1<=(k:Int) - n;lia,by show (k:Int) - n<=7;lia,?_,λj O L=> ?_⟩]
  ·show t ((n:Int)+((k:Int) - n))=true;rw [show (n:Int)+((k:Int) - n)=(k:Int) by lia,<-J];exact F.1
  ·have L:j<(k:Int) - n:=L
   cases z:t ((n:Int)+j) with
   |false=>rfl
   |true=>
    have U:M.testBit (n+j.toNat)=true:=by rw [J,<-z];congr 1;lia
    have G:n+j.toNat∈km (M - M% 2^(n+1)):=mG.mpr (by rw [oR,U,decide_eq_true @c];rfl);rw [I] at G
    rcases mem_cons.mp G with e|G
    ·lia
    ·have:=rel_of_pairwise_cons hs G;lia
theorem P5 {M n:Nat}{t:Int->Bool}(Z:n<8)(J:∀i:Nat,M.testBit i=t i)(S:M<2^8):Dl t n (match (if M% 2^n=0 then none else some (L (M% 2^n) - 1):Option Nat) with|none=>0|some k=>(n:Int) - k):=by
 by_cases F:M% 2^n=0
 ·rw [if_pos F];rwa[.inl ⟨rfl,λj I j7 U=> ?_⟩];have:=Nat.testBit_mod_two_pow M n (n - j.toNat);rw [F,Nat.zero_testBit,decide_eq_true @c,Bool.true_and,J] at this;rw [<-this.symm];congr 1;lia
 ·rw [if_neg F];have R:=AQ F;have W:=Qm (M% 2^n);rw [Nat.testBit_mod_two_pow,Bool.and_eq_true] at R;have Y:=of_decide_eq_true R.1;have k8:L (M% 2^n) - 1<8:=Bz (M:=M) S (mG.mpr R.2);rwa[.inr ⟨by show 1<=(n:Int) - ((L (M% 2^n) - 1:Nat):Int);lia,?_,by show (n:Int) - ((L (M% 2^n) - 1:Nat):Int)<=n;lia,?_,λj I G=> ?_⟩]
  ·show (n:Int) - ((L (M% 2^n) - 1:Nat):Int)<=7;lia
  ·show t ((n:Int) - ((n:Int) - ((L (M% 2^n) - 1:Nat):Int)))=true;rw [show (n:Int) - ((n:Int) - ((L (M% 2^n) - 1:Nat):Int))=((L (M% 2^n) - 1:Nat):Int) by lia,<-J];exact R.2
  ·have G:j<(n:Int) - ((L (M% 2^n) - 1:Nat):Int):=G
   cases z:t ((n:Int) - j) with
   |false=>rfl
   |true=>
    have O:(M% 2^n).testBit (n - j.toNat)=true:=by rw [Nat.testBit_mod_two_pow,decide_eq_true @c,J,Bool.true_and,<-z];congr 1;lia
    have:=Nat.testBit_lt_two_pow (Nat.lt_of_lt_of_le W (Nat.pow_le_pow_right @b (show L (M% 2^n)<=n - j.toNat by lia)));rw [O] at this;cases this
noncomputable def KH (room:Int)(so:Str)(li:Int)(ps:List (Int×Int))(rs:List be)(f0:Nat)(u d:Int):List V:=[.int (f0:Int),.int li,.int (ji so li (tk room ps rs f0) (K5 ps f0) (Kt rs f0 li)),.int u,.int d]
inductive y4 (K:Fg)(vs:List V)(H:Hp)(Q:VK)(_e:XK):Prop
 |mk (so room c p pl li dr mk ps xs:_) (rs:List be) (f0:Nat) (_:vs=[.str so,.int room,.ref c,.ref p]) (_:bZ K H c pl li dr mk ps) (_:H p=some (.lst xs)) (_:aC K H xs @bz) (_:QD ps rs) (_:pl=2*(f0:Int)) (_:f0<8) (_:∀r u d H',aq H H'->Dj (tk room ps rs) f0 u->Dl (tk room ps rs) f0 d->H' r=some (.tup (KH room so li ps rs f0 u d))->Q (.ref r) H')
theorem PP {M n:Nat}(h:M<2^8):M - n<2^200:=Nat.lt_of_le_of_lt (Nat.sub_le _ _) (Nat.lt_trans h @b)
theorem Jg (F:Z0 K "view" EF f fd)(cj:Z02 P w K mg base)(uJ:bf P w K mg base 4 "tasks_of" ["room","cabin","riders"] (u5 K))(GW:bf P w K mg base 3 "above" ["mask","k"] vm)(Bv:bf P w K mg base 4 "lowest" ["mask"] ql)(wF:bf P w K mg base 2 "below" ["mask","k"] mm)(yp:bf P w K mg base 1 "highest" ["mask"] nG)(yq:bf P w K mg base 3 "here_of" ["sort","cabin","tasks","riders"] (ze K)):az P w K mg base bg 5 f fd ["sort","room","cabin","riders"] (y4 K):=by
 rwa[F.ok Mc (by symm) (λah A outer s H vs Q E hr h=> ?_)];obtain ⟨so,I,c,p,pl,li,dr,mk,ps,xs,rs,R,rfl,z,ep,dp,hf,ab,Y,q⟩:=h;obtain ⟨b,bs,ec,eb,db⟩:=id z;rwa[⟨_,(aa @a (aa @a (aa @a (aa @a @gF)))),?_⟩]
 have e0:pl / 2=(R:Int):=by lia
 rwa[c4.mk _ _ _ _ _ _ rfl z ?_];rw [e0];rwa[u5.mk _ _ _ _ _ _ _ _ _ _ rfl z ep dp hf λM H1 s1 W S=> ?_];rwa[vm.mk _ _ rfl @c ?_];rwa[ql.mk _ rfl (PP S) λH2 s2=> ?_];have U:=OV (n:=R) W S;generalize ((km (M - M% 2^(R+1)))[(0:Nat)]? :Option Nat)=ou at U ⊢;rwa[mm.mk _ _ rfl @c ?_];rwa[nG.mk _ rfl ?_];have D:=P5 (n:=R) Y W S;generalize (if M% 2^R=0 then none else some (L (M% 2^R) - 1):Option Nat)=od at D ⊢;have J:=s1.trans s2;have G:=z.same J;have ad:∀u d:Int,Dj (tk I ps rs) R u->Dl (tk I ps rs) R d->∀r O j,aq H2 O->aq O j->j r=some (.tup (KH I so li ps rs R u d))->Q (.ref r) j:=λu d U D r O j s5 Z e6=>q r u d j ((J.trans s5).trans Z) U D e6;obtain ⟨b2,ag,af,_⟩:=id G;cases ou<;>cases od
 all_goals
  ext
  first|refine bG rfl ?_|refine aL rfl ?_
  ext
  first|refine bG rfl ?_|refine aL rfl ?_
  rwa[ae (aD.of af) rfl ?_];rwa[ze.mk _ _ _ _ _ _ _ _ _ _ _ _ rfl G (J.get ep) (aC.same dp J) hf ab Y λO s5=> ?_];rw [W];exact b3 Rs λr j Z _ e6=>ad _ _ U D r _ _ s5 Z e6
theorem CT {pl:Int}{f0:Int}{ps:List (Int×Int)}(h:pl=2*f0):xR (.int (pl / 2)) (eS ps)=ps.any (λp=>decide (2*p.2=pl)):=by
 unfold xR eS;rw [any_map];congr 1
 funext p
 show (p.2==pl / 2)=decide (2*p.2=pl);by_cases e:p.2=pl / 2
 ·rw [decide_eq_true @c,beq_iff_eq];exact e
 ·rw [decide_eq_false @c,beq_eq_false_iff_ne];exact e
inductive nz (K:Fg)(vs:List V)(H:Hp)(Q:VK)(_e:XK):Prop
 |mk (so c wd pl li dr mk ps f0:_) (_:vs=[.str so,.ref c,.str wd]) (_:bZ K H c pl li dr mk ps) (_:qe ps) (_:pl=2*f0) (_: -1<=li) (_:li<=1) (_:∀H',aq H H'->Q (.str @dj) H')
theorem z7 (F:Z0 K "turned" vy f fd)(bo:mg "len"=none)(cj:Z02 P w K mg base)(cU:bf P w K mg base 1 "goals_aboard" ["cabin"] (iR K)):az P w K mg base bg 2 f fd ["sort","cabin","word"] (nz K):=by
 rwa[F.ok Ek (by symm) @y];obtain ⟨so,c,G,pl,li,dr,mk,ps,f0,rfl,I,W,j,Y,Z,q⟩:=h;obtain ⟨b,xs,ec,eb,dx⟩:=id I;rwa[⟨_,(aa @a (aa @a (aa (ax @a @fb ar) (aa @J (aa @J @fb))))),?_⟩];unfold bN at q;left;rwa[iR.mk _ _ _ _ _ _ rfl I W.1 λp H1 O n1 e1=> ?_];left;rwa[gw @cV @cV]
 ·rw [if_pos (.inl h1)] at q;left;exact q H1 O
 left;rw [oF];rwa[gw @cf @cf]
 ·rw [if_pos (.inr (length_eq_zero_iff.mp @c))] at q;left;exact q H1 O
 rw [if_neg (λz=>z.elim h1 λz=>h2 (by rw [z];rfl))] at q;left;rwa[c4.mk _ _ _ _ _ _ rfl @dc ?_];left;rwa[zo @dE rfl (rN ps) ?_];rw [CT j];rwa[An (λL=> ?_) (λL=> ?_)]
 ·rw [if_pos L] at q;left;exact q H1 O
 rw [if_neg (by rw [L];decide)] at q;left;rwa[gw (λJ=> ?_) (λJ=> ?_)]
 ·rw [if_pos J] at q;left;exact q H1 O
 rw [if_neg J] at q;by_cases S:G=s!"u"
 ·have R: ¬G=s!"d":=by rw [S];decide
  by_cases h6:li= -1
  ·rw [if_pos (.inl ⟨S,by lia⟩)] at q;left;exact q H1 O
  ·rw [if_neg (λz=>z.elim (λz=>h6 @c) @dy)] at q;left;exact q H1 O
 ·by_cases R:G=s!"d"
  ·by_cases U:li=1
   ·rw [if_pos (.inr ⟨R,by lia⟩)] at q;left;exact q H1 O
   ·rw [if_neg (λz=>z.elim (λz=>S z.1) (λz=>U @c))] at q;left;exact q H1 O
  ·rw [if_neg (λz=>z.elim (λz=>S z.1) @dy)] at q;left;exact q H1 O
noncomputable def bt (fl pl:Int)(x:Str):Str:=if x=s!"u"/\pl / 2=fl - 1 then s!"s" else if x=s!"d"/\pl / 2=0 then s!"s" else x
inductive nJ (K:Fg)(vs:List V)(H:Hp)(Q:VK)(_e:XK):Prop
 |mk (fl c wd pl li dr mk ps:_) (_:vs=[.int fl,.ref c,.str wd]) (_:bZ K H c pl li dr mk ps) (_:Q (.str (bt fl pl wd)) H)
theorem Aa (F:Z0 K "bounded" qR f fd)(O:Z02 P w K mg base):az P w K mg base bg 2 f fd ["floors","cabin","word"] (nJ K):=by
 rwa[F.ok Cf (by symm) @I];obtain ⟨fl,c,j,pl,li,dr,J,ps,rfl,I,q⟩:=h;rwa[⟨_,(aa @J (aa @J @fb)),?_⟩];unfold bt at q;by_cases h1:j=s!"u"
 ·have R: ¬j=s!"d":=by rw [h1];decide
  left;rwa[c4.mk _ _ _ _ _ _ rfl I ?_];rwa[gw @cf @cf]
  ·rw [if_pos ⟨h1,h2⟩] at q;left;exact q
  ·rw [if_neg (λz=>h2 z.2),if_neg @dy] at q;left;exact q
 ·by_cases R:j=s!"d"
  ·left;rwa[c4.mk _ _ _ _ _ _ rfl I ?_];rwa[gw @cf @cf]
   ·rw [if_neg @ee,if_pos ⟨R,h2⟩] at q;left;exact q
   ·rw [if_neg @ee,if_neg (λz=>h2 z.2)] at q;left;exact q
  ·rw [if_neg @ee,if_neg @dy] at q;left;exact q
inductive dM (K:Fg)(vs:List V)(H:Hp)(Q:VK)(_e:XK):Prop
 |mk (c p l d pl li dr mk ps:_) (_:vs=[.ref c,.int p,.int l,.int d]) (_:bZ K H c pl li dr mk ps) (_:∀r H',aq H H'->bZ K H' r p l d mk ps->Q (.ref r) H')
theorem Jf (F:Z0 K "with_changes" iT f fd):az P w K mg base bg 1 f fd ["cabin","place","light","door"] (dM K):=by
 rwa[F.ok sV (by symm) @p];obtain ⟨c,p,l,d,pl,li,dr,z,ps,rfl,I,q⟩:=h;obtain ⟨b,xs,Z,W,dx⟩:=id I;rwa[⟨_,@j,?_⟩];left;exact b3 Rs λr H1 O _ S=>q r H1 O ⟨b,xs,S,O.get W,aC.same dx O⟩
theorem RX {fl pl:Int}:bt fl pl "o"=s!"o":=by unfold bt;rw [if_neg @C,if_neg @C]
theorem RV {fl pl:Int}:bt fl pl "x"=s!"x":=by unfold bt;rw [if_neg @C,if_neg @C]
theorem RW {fl pl:Int}:bt fl pl "s"=s!"s":=by unfold bt;rw [if_neg @C,if_neg @C]
theorem P9 {fl pl:Int}(h:pl / 2=fl - 1):bt fl pl "u"=s!"s":=by unfold bt;rw [if_pos ⟨rfl,h⟩]
theorem Qa {fl pl:Int}(h: ¬pl / 2=fl - 1):bt fl pl "u"=s!"u":=by unfold bt;rw [if_neg @ev,if_neg @C]
theorem Qb {fl pl:Int}(h:pl / 2=0):bt fl pl "d"=s!"s":=by unfold bt;rw [if_neg @C,if_pos ⟨rfl,h⟩]
theorem Qc {fl pl:Int}(h: ¬pl / 2=0):bt fl pl "d"=s!"d":=by unfold bt;rw [if_neg @C,if_neg @ev]
inductive nr (K:Fg)(vs:List V)(H:Hp)(Q:VK)(_e:XK):Prop
 |mk (so fl tu c wd pl li dr mk ps f0:_) (_:vs=[.str so,.int fl,.int tu,.ref c,.str wd]) (_:bZ K H c pl li dr mk ps) (_:wd∈cy) (_:qe ps) (_:pl=2*f0) (_:0<=f0) (_:f0<fl) (_: -1<=li) (_:li<=1) (_:∀r H',aq H H'->bZ K H' r (fM fl tu pl li dr ps @dj).1 (fM fl tu pl li dr ps @dj).2.1 (fM fl tu pl li dr ps @dj).2.2 mk ps->Q (.ref r) H')
theorem DY {H:Hp}{so:Str}{fl tu:Int}{c:Addr}{j:Str}{pl li dr z:Int}{ps:List (Int×Int)}{f0:Int}{Q:VK}{E:XK}(h1:bZ K H c pl li dr z ps)(h2:j∈cy)(F:qe ps)(G:pl=2*f0)(S:0<=f0)(J:f0<fl)(R: -1<=li)(L:li<=1)
(g:∀r H',aq H H'->bZ K H' r (fM fl tu pl li dr ps @eR).1 (fM fl tu pl li dr ps @eR).2.1 (fM fl tu pl li dr ps @eR).2.2 z ps->Q (.ref r) H'):nr K [.str so,.int fl,.int tu,.ref c,.str j] H Q E:=⟨so,fl,tu,c,j,pl,li,dr,z,ps,f0,rfl,h1,h2,F,G,S,J,R,L,g⟩
theorem NM {fl tu pl li dr:Int}{ps:List (Int×Int)}{F:Str}(z:0<=pl)(h1:pl / 2<fl)(h2:pl% 2=0)(j:F∈cy):fM fl tu pl li dr ps F=if bt fl pl F=s!"o" then (pl,li,tu) else if bt fl pl F=s!"x" then (pl,0,tu) else if bt fl pl F=s!"u" then (pl+1,1,dr) else if bt fl pl F=s!"d" then (pl - 1,-1,dr) else (pl,if ps=[] then 0 else li,dr):=by
 have O: ¬s!"s"=s!"o":=by decide+kernel
 have R: ¬s!"s"=s!"x":=by decide+kernel
 have L: ¬s!"s"=s!"u":=by decide+kernel
 have J: ¬s!"s"=s!"d":=by decide+kernel
 rcases NJ j with rfl|rfl|rfl|rfl|rfl
 ·rw [RX,GE,if_pos rfl]
 ·rw [RV,Gz,if_neg @i,if_pos rfl]
 ·by_cases h:pl / 2=fl - 1
  ·rw [P9 h,At @c,if_neg O,if_neg R,if_neg L,if_neg J]
  ·rw [Qa h,As @c,if_neg @i,if_neg @i,if_pos rfl]
 ·by_cases h:pl / 2=0
  ·rw [Qb h,Av @c,if_neg O,if_neg R,if_neg L,if_neg J]
  ·rw [Qc h,Au @c,if_neg @i,if_neg @i,if_neg @i,if_pos rfl]
 ·rw [RW,GD,if_neg O,if_neg R,if_neg L,if_neg J]
abbrev Z01:=λP w K mg base=>bf P w K mg base 1 "with_changes" ["cabin","place","light","door"] (dM K)
theorem z6 (F:Z0 K "steered" qE f fd)(bo:mg "len"=none)(Bu:bf P w K mg base 2 "turned" ["sort","cabin","word"] (nz K))(yw:bf P w K mg base 2 "bounded" ["floors","cabin","word"] (nJ K))(bY:Z01 P w K mg base):az P w K mg base bg 3 f fd ["sort","floors","turns","cabin","word"] (nr K):=by
 rwa[F.ok B3 (by symm) (λaf A outer s H vs Q E hr h=> ?_)];obtain ⟨so,fl,tu,c,wd,pl,li,dr,mk,ps,f0,rfl,I,hw,hg,Y,ab,ad,U,Z,q⟩:=h;obtain ⟨b,xs,ec,eb,dx⟩:=id I;have hx:=aM dx;rwa[⟨_,(aa @a (aa @a (aa @a (aa @a (aa @bJ (aa @bJ (aa @bJ @gE))))))),?_⟩];left;rwa[nz.mk _ _ _ _ _ _ _ _ _ rfl I hg Y U Z λH1 O=> ?_];rwa[nJ.mk _ _ _ _ _ _ _ _ rfl @dc ?_];have R:=jv (so:=so) (pl:=pl) (li:=li) (ps:=ps) hw;generalize bN so pl li ps wd=w' at R q ⊢;have j:=NM (fl:=fl) (tu:=tu) (li:=li) (dr:=dr) (ps:=ps) (pl:=pl) @c @c @c R
 have L:∀G J W,fM fl tu pl li dr ps w'=(G,J,W)->∀r H',aq H1 H'->bZ K H' r G J W mk ps->Q (.ref r) H':=λG J W e r H' s2 er=>by
  rwa[q r H' (O.trans s2) ?_];rw [e];exact er
 generalize bt fl pl w'=x at j ⊢;rwa[gw @k @ca]
 ·ext;exact dM.mk _ _ _ _ _ _ _ _ _ rfl @dc (L _ _ _ (by rw [j,if_pos z]))
 rwa[gw @k (λz2=> ?_)]
 ·ext;exact dM.mk _ _ _ _ _ _ _ _ _ rfl @dc (L _ _ _ (by rw [j,if_neg S,if_pos z]))
 rwa[gw @k (λz3=> ?_)]
 ·ext;exact dM.mk _ _ _ _ _ _ _ _ _ rfl @dc (L _ _ _ (by rw [j,if_neg S,if_neg z2,if_pos z]))
 rwa[gw @k (λz4=> ?_)]
 ·ext;exact dM.mk _ _ _ _ _ _ _ _ _ rfl @dc (L _ _ _ (by rw [j,if_neg S,if_neg z2,if_neg z3,if_pos z]))
 rw [if_neg S,if_neg z2,if_neg z3,if_neg z4] at j;rwa[ae (aD.of (O _ _ ec)) rfl ?_];rwa[bh (aD.of (O _ _ eb)) ?_];rwa[gw @k @k]
 ·ext;exact dM.mk _ _ _ _ _ _ _ _ _ rfl @dc (L _ _ _ (by rw [j,if_neg (λy=>by subst y;rw [hx] at z;exact absurd z @b)]))
 ·ext;exact dM.mk _ _ _ _ _ _ _ _ _ rfl @dc (L _ _ _ (by rw [j,if_pos (length_eq_zero_iff.mp @c)]))
def kg (r:be):Int:=if r.start<r.goal then 1 else -1
structure yR where
 light:Int
 kept:List (Int×Int)
 ins:List Int
noncomputable def ez (so:Str)(room pl:Int)(s:yR)(r:be):Bool:=decide (2*r.start=pl)&&decide ((s.kept.length:Int)<room)&&decide (so=s!"free"\/s.light=0\/s.light=kg r)
noncomputable def b6 (so:Str)(room pl:Int)(s:yR)(r:be):yR:=if ez so room pl s r=true then ⟨if so=s!"way" then kg r else s.light,s.kept++[(r.tag,r.goal)],s.ins++[r.tag]⟩ else s
noncomputable def aR (so:Str)(room pl:Int)(s:yR)(rs:List be):yR:=rs.foldl (b6 so room pl) s
theorem eg {so:Str}{room pl:Int}{s:yR}{rs:List be}{i:Nat}{r:be}(h:rs[i]? =some r):aR so room pl s (rs.take (i+1))=b6 so room pl (aR so room pl s @dM) r:=by
 rw [take_succ,h];unfold aR;rw [foldl_append];rfl
theorem DX {so:Str}{room pl:Int}(s:yR)(r:be):(b6 so room pl s r).kept.length<=s.kept.length+1/\(b6 so room pl s r).ins.length<=s.ins.length+1:=by
 unfold b6;split<;>simp
theorem nj {so:Str}{room pl:Int}:∀(rs:List be) (s:yR),(aR so room pl s rs).kept.length<=s.kept.length+rs.length/\(aR so room pl s rs).ins.length<=s.ins.length+rs.length
 |[],s=>⟨Nat.le_refl _,Nat.le_refl _⟩
 |r::rs,s=>by
  have h1:=nj (so:=so) (room:=room) (pl:=pl) rs @bm;have h2:=DX (so:=so) (room:=room) (pl:=pl) s r;show (aR so room pl @bm rs).kept.length<=_/\(aR so room pl @bm rs).ins.length<=_;rw [length_cons];lia
def b7 (pl:Int)(ps:List (Int×Int)):List (Int×Int):=ps.filter λp=> !decide (2*p.2=pl)
def c5 (pl:Int)(ps:List (Int×Int)):List Int:=(ps.filter λp=>decide (2*p.2=pl)).map (·.1)
noncomputable def wn (so:Str)(room pl li:Int)(ps:List (Int×Int))(rs:List be):yR:=aR so room pl ⟨li,b7 pl ps,[]⟩ rs
theorem eU {α:Type}(f:α->Bool){xs:List α}{i:Nat}{x:α}(h:xs[i]? =some x):(xs.take (i+1)).filter f=(xs.take i).filter f++if f x=true then [x] else []:=by
 rw [take_succ,h,filter_append];congr 1;cases e:f x<;>simp [e]
def tZ (K:Fg)(H0 H:Hp)(n k:Addr)(ins:List Int)(kept:List (Int×Int)):Prop:=aq H0 H/\H0 n=none/\H0 k=none/\n≠k/\H n=some (.lst (ins.map V.int))/\∃ks,H k=some (.lst ks)/\aC K H ks (kept.map bF)
theorem tZ.pushN {H0 H:Hp}{n k:Addr}{z:List Int}{j:List (Int×Int)}(g:tZ K H0 H n k z j)(t:Int):tZ K H0 (upd H n (.lst (z.map V.int++[.int t]))) n k (z++[t]) j:=by
 obtain ⟨s,F,R,O,J,ks,I,G⟩:=g;rwa[⟨aq.updF s F,F,R,O,by rw [aj,map_append];rfl,ks,by rw [ao (Ne.symm O)];exact I,ya G (io j) J⟩]
theorem tZ.same {H0 H H':Hp}{n k:Addr}{z:List Int}{j:List (Int×Int)}(g:tZ K H0 H n k z j)(s':aq H H'):tZ K H0 H' n k z j:=by
 obtain ⟨s,F,R,I,J,ks,O,G⟩:=g;exact ⟨s.trans s',F,R,I,s'.get J,ks,s'.get O,aC.same G s'⟩
theorem tZ.pushK {H0 H:Hp}{n k l:Addr}{z:List Int}{j:List (Int×Int)}{ks:List V}{t g:Int}(G:tZ K H0 H n k z j)(O:H k=some (.lst ks))(W:H l=some (.tup [.int t,.int g])):tZ K H0 (upd H k (.lst (ks++[.ref l]))) n k z (j++[(t,g)]):=by
 obtain ⟨s,S,R,I,U,J,F,L⟩:=G;rw [O] at F;cases F;rwa[⟨aq.updF s R,S,R,I,by rw [ao I];exact U,_,aj,?_⟩];rw [map_append];exact Paired.app (ya L (io j) O) (.cons (bM.noL (d:=bF (t,g)) (d3 (aD.of W) (.cons (.int _) (.cons (.int _) .nil))) rfl O) .nil)
def G6 (K:Fg)(H0 H:Hp)(r:Addr)(pl li dr mk:Int)(kept:List (Int×Int))(outs ins:List Int):Prop:=∃c o n,H r=some (.tup [.ref c,.ref o,.ref n])/\bZ K H c pl li dr mk kept/\H o=some (.lst (outs.map V.int))/\H n=some (.lst (ins.map V.int))/\H0 o=none/\H0 n=none/\o≠n
inductive D5 (vs:List V)(H:Hp)(Q:VK)(_e:XK):Prop
 |mk (so:_) (li s g:Int) (_:vs=[.str so,.int li,.int s,.int g]) (_:Q (.bl (decide (so=s!"free"\/li=0\/li=uY s g))) H)
theorem MW (F:Z0 K "may_step_in" lu f fd)(I:bf P w K mg base 1 "way_of" ["start","goal"] qk):az P w K mg base bg 2 f fd ["sort","light","start","goal"] D5:=by
 rwa[F.ok xw (by symm) @I];obtain ⟨j,li,s,g,rfl,q⟩:=h;rwa[⟨_,@j,?_⟩];by_cases h1:j=s!"free"
 ·rw [decide_eq_true (.inl h1)] at q;left;exact q
 ·by_cases h2:li=0
  ·rw [decide_eq_true (.inr (.inl h2))] at q;left;exact q
  ·left;rwa[qk.mk _ _ rfl ?_];have e:decide (j=s!"free"\/li=0\/li=uY s g)=decide (uY s g=li):=decide_eq_decide.mpr ⟨λz=>by rcases z with z|z|z;exact absurd z h1;exact absurd z h2;exact z.symm,λz=> .inr (.inr z.symm)⟩;rw [e] at q;exact q
inductive zg (K:Fg)(vs:List V)(H:Hp)(Q:VK)(_e:XK):Prop
 |mk (so room c p pl li dr mk ps xs:_) (rs:List be) (f0:Int) (_:vs=[.str so,.int room,.ref c,.ref p]) (_:bZ K H c pl li dr mk ps) (_:ps.length<=200) (_:H p=some (.lst xs)) (_:aC K H xs @bz) (_:N5 rs) (_:pl=2*f0) (_:∀r H',aq H H'->G6 K H H' r pl (wn so room pl li ps rs).light dr mk (wn so room pl li ps rs).kept (c5 pl ps) (wn so room pl li ps rs).ins->Q (.ref r) H')
theorem P1 {H:Hp}{so:Str}{room:Int}{c p:Addr}{pl li dr j:Int}{ps:List (Int×Int)}{xs:List V}{rs:List be}{f0:Int}{Q:VK}{E:XK}(h1:bZ K H c pl li dr j ps)(h2:ps.length<=200)(L:H p=some (.lst xs))(z:aC K H xs @bz)(S:N5 rs)(J:pl=2*f0)
(g:∀r H',aq H H'->G6 K H H' r pl (wn so room pl li ps rs).light dr j (wn so room pl li ps rs).kept (c5 pl ps) (wn so room pl li ps rs).ins->Q (.ref r) H'):zg K [.str so,.int room,.ref c,.ref p] H Q E:=⟨so,room,c,p,pl,li,dr,j,ps,xs,rs,f0,rfl,h1,h2,L,z,S,J,g⟩
theorem Jx (F:Z0 K "exchanged" lz f fd)(bo:mg "len"=none)(bc:mg "tuple"=none)(cj:Z02 P w K mg base)(jd:bf P w K mg base 1 "way_of" ["start","goal"] qk)(je:bf P w K mg base 2 "may_step_in" ["sort","light","start","goal"] D5):az P w K mg base bg 3 f fd ["sort","room","cabin","riders"] (zg K):=by
 rwa[F.ok dW (by symm) (λaJ A outer s H vs Q E hr h=> ?_)];obtain ⟨J,I,c,p,pl,li,dr,mk,ps,xs,rs,f0,rfl,hc,aI,ep,dp,aA,hf,q⟩:=h;obtain ⟨b,bs,ec,eb,db⟩:=id hc;have bl:=aM db;have xl:=aM dp;rwa[⟨_,(aa @a (aa @a (aa (lV (i:=6) rfl dW.nd rfl @q (aE (N':=["tag","goal","floor"]) (pk:=[none,none,some 4]) @o) @a @w @bx @O) (aa @a (aa (lV (i:=8) rfl dW.nd rfl @q (aE (N':=["tag","goal","floor"]) (pk:=[none,none,some 4]) @o) @a @w @bx @l) (aa (cO PassesOwn.never rfl @a (eJ (K:=K) (n:=4) rfl rfl (aF @a (aF @a (aF (vY (i:=11) dW.nd rfl @q) (aF (vY (i:=12) dW.nd rfl @q) dm))))) (ac (ax (PW.pt (gU (aP (d9 rfl hr) (wv 10) (wv 4) (aG _)) (gU @a (gH (cI rfl (bV je hr @b rfl (au (wv 0) (au (wv 5) (au (wv 10) @fo))))))))) (aa @fB (aa (aO (gD rfl PySem.F.plainAttrs_list PySem.F.slot_list_append PySem.F.type_list_append jt (wv 8) (au (cW (au (wv 9) @fo)) am))) (ac (bp (i:=5) dW.nd rfl @q (AK @a (bV jd hr @b rfl (au (wv 10) @fo)) (wv 5)))))) ar))) (ac (ak (cW (au (cW (au @a (au (wv 5) (au @a (au @a (au (bD @el rfl bc boot_tuple @fC) am)))))) (au (wv 6) (au (wv 7) am)))))))))))),?_⟩];left;rwa[c4.mk _ _ _ _ _ _ rfl hc ?_];left;rwa[cZ @cw ?_]
 refine cN (xs:=bs) (λi ys H'=>H'=H/\ys=(c5 pl @fD).map V.int) @bu (λi ys H' p=>by
  rw [p.2,length_map];unfold c5;rw [length_map];have:=length_filter_le (λp=>decide (2*p.2=pl)) @fD;rw [length_take] at this;lia) ⟨rfl,rfl⟩ (λi ys H' _ p=>by rw [p.1];exact aD.of eb) (λi x ys H' af p=> ?_) (λys H' p o n1=> ?_)
 ·obtain ⟨rfl,rfl⟩:=p;obtain ⟨Y,ae,ag⟩:=bE db af;obtain ⟨u,us,rfl,hu,O⟩:=ag.outT
  cases O with|cons q0 r0=>cases r0 with|cons q1 r1=>
  cases r1;cases q0.isInt;cases q1.isInt;left;rwa[⟨ii,?_⟩];show if decide (Y.2=pl / 2)=true then _ else _;unfold c5;rw [eU _ ae];by_cases h1:Y.2=pl / 2
  ·rw [if_pos @eC,if_pos (decide_eq_true (show 2*Y.2=pl by lia)),map_append,map_append];exact ⟨rfl,rfl⟩
  ·rw [if_neg (by rw [decide_eq_false h1];decide),if_neg (by rw [decide_eq_false (show ¬2*Y.2=pl by lia)];decide),append_nil];exact ⟨rfl,rfl⟩
 obtain ⟨rfl,rfl⟩:=p;rw [take_of_length_le (show ps.length<=bs.length by lia)];have e1:upd H' o (.lst ((c5 pl ps).map V.int)) o=some (.lst ((c5 pl ps).map V.int)):=aj;have s1:aq H' (upd H' o (.lst ((c5 pl ps).map V.int))):= .upd n1;generalize upd H' o (.lst ((c5 pl ps).map V.int))=H1 at e1 s1 ⊢;left;rwa[mJ (bJ (by first|decide|simp)) λn H2 s2 n2 e2=> ?_]
 have no:n≠o:=λz=>by rw [z,e1] at n2;cases n2
 have nH:H' n=none:=s1.free n2;left;rwa[cZ @cw ?_]
 refine cN (xs:=bs) (λi ys j=>aq H2 j/\aC K j ys ((b7 pl @fD).map bF)) @bu (λi ys j p=>by
  rw [aM p.2];unfold b7;have:=length_filter_le (λp=> !decide (2*p.2=pl)) @fD;rw [length_take] at this;lia) ⟨.refl _,.nil⟩ (λi ys j _ p=>p.1.seqT (s2.seqT (s1.seqT @fc))) (λi x ys j af p=> ?_) (λys j p k W=> ?_)
 ·obtain ⟨U,dy⟩:=p;obtain ⟨Y,ae,ag⟩:=bE db af;obtain ⟨u,us,rfl,hu,O⟩:=ag.outT
  cases O with|cons q0 r0=>cases r0 with|cons q1 r1=>
  cases r1;cases q0.isInt;cases q1.isInt;left;rwa[⟨ii,?_⟩];show if (!decide (Y.2=pl / 2))=true then _ else _;unfold b7;rw [eU _ ae];by_cases h1:Y.2=pl / 2
  ·rw [if_neg (by rw [decide_eq_true h1];decide),if_neg (by rw [decide_eq_true (show 2*Y.2=pl by lia)];decide),append_nil];exact ⟨U,dy⟩
  ·rw [if_pos (by rw [decide_eq_false h1];rfl),if_pos (by rw [decide_eq_false (show ¬2*Y.2=pl by lia)];rfl)];rwa[b3 (bJ (by first|decide|simp)) λl HY sy ny ey=> ?_];rwa[⟨U.trans sy,?_⟩];rw [map_append];exact Paired.app (aC.same dy sy) (.cons (d3 (aD.of ey) (.cons (.int _) (.cons (.int _) .nil))) .nil)
 obtain ⟨U,dy⟩:=p;rw [take_of_length_le (show ps.length<=bs.length by lia)] at dy
 have nk:n≠k:=λz=>by rw [<-z,U.get e2] at W;cases W
 have ok:o≠k:=λz=>by rw [<-z,U.get (s2.get e1)] at W;cases W
 have kH:H' k=none:=s1.free (s2.free (U.free W));have ad:aq H' (upd j k (.lst ys)):=((s1.trans s2).trans U).trans (.upd W);have e3:upd j k (.lst ys) n=some (.lst []):=(aq.upd W).get (U.get e2);have Z:upd j k (.lst ys) o=some (.lst ((c5 pl ps).map V.int)):=(aq.upd W).get (U.get (s2.get e1));have as:upd j k (.lst ys) k=some (.lst ys):=aj;have an:aC K (upd j k (.lst ys)) ys ((b7 pl ps).map bF):=aC.same dy (.upd W);generalize upd j k (.lst ys)=H3 at ad e3 Z as an ⊢;left;rwa[cz (ad.seq (aN.of ep)) ?_];rwa[dX (xs:=xs) (λi σ j=>tZ K H' j n k (aR J I pl ⟨li,b7 pl ps,[]⟩ @dM).ins (aR J I pl ⟨li,b7 pl ps,[]⟩ @dM).kept/\j o=some (.lst ((c5 pl ps).map V.int))/\∃t1 t2 t3 t4,σ=[some (.str J),some (.int I),some (.ref c),some (.ref p),some (.int (pl / 2)),some (.int (aR J I pl ⟨li,b7 pl ps,[]⟩ @dM).light),some (.ref o),some (.ref n),some (.ref k),t1,t2,t3,t4]) ⟨⟨ad,nH,kH,nk,e3,ys,as,an⟩,Z,_,_,_,_,rfl⟩ (λi σ j _ pv=>by obtain ⟨⟨sm,_⟩,_⟩:=pv;exact sm.seq (aN.of ep)) (λi x σ j hx pv=> ?_) (λσ j pv=> ?_)]
 ·obtain ⟨G,Z,t1,t2,t3,t4,rfl⟩:=pv;obtain ⟨r,L,ay⟩:=bE dp hx;obtain ⟨u,us,rfl,hu,O⟩:=ay.outT
  cases O with|cons q0 r0=>cases r0 with|cons q1 r1=>cases r1 with|cons q2 r2=>cases r2 with|cons q3 r3=>
  cases r3;cases q0.isInt;cases q1.isInt;cases q2.isInt;cases q3.isInt;have sm:=G.1
  have lp:i<rs.length:=by have:=(List.getElem?_eq_some_iff.mp L).1;lia
  have ll:=nj (so:=J) (room:=I) (pl:=pl) @dM ⟨li,b7 pl ps,[]⟩;rw [length_take] at ll;have aK:=aA.1;have kp:(b7 pl ps).length<=ps.length:=length_filter_le _ _;generalize hS:aR J I pl ⟨li,b7 pl ps,[]⟩ @dM=S at *;simp only [length_nil] at ll
  have R:ez J I pl S r=false->b6 J I pl S r=S:=λe=>by unfold b6;rw [e];rfl
  obtain ⟨ks,ek,dk⟩:=G.2.2.2.2.2;have kl:=aM dk;left;rwa[gw @cV @cV]
  ·have av:2*r.start=pl:=by lia
   left;rw [kl];rwa[gw @cf @cf]
   ·left;rwa[D5.mk _ _ _ _ rfl ?_]
    have ah:(J=s!"free"\/S.light=0\/S.light=uY r.start r.goal)->b6 J I pl S r=⟨if J=s!"way" then kg r else S.light,S.kept++[(r.tag,r.goal)],S.ins++[r.tag]⟩:=λz=>by
     unfold b6 ez;rw [if_pos (by rw [decide_eq_true av,decide_eq_true h2,decide_eq_true (show J=s!"free"\/S.light=0\/S.light=kg r from z)];rfl)]
    have aL:=G.2.2.2.2.1;rwa[gw (λh4=> ?_) (λh4=> ?_)]
    ·left;rwa[iK G.2.2.2.2.1 (AW (by rw [length_map];lia)) ?_];have GB:=G.pushN r.tag
     have ap:upd j n (.lst (S.ins.map V.int++[.int r.tag])) o=some (.lst ((c5 pl ps).map V.int)):=by rw [ao (Ne.symm no)];exact Z
     generalize upd j n (.lst (S.ins.map V.int++[.int r.tag]))=HB at GB ap ⊢;obtain ⟨aB,aQ,aH⟩:=GB.2.2.2.2.2;left;erw[b3 (bJ (by first|decide|simp)) λlA HA sA nA eA=> ?_];have GA:=GB.same sA;obtain ⟨al,ai,aw⟩:=GA.2.2.2.2.2;rwa[iK ai (AW (by rw [aM aw];lia)) ?_];have GC:=GA.pushK ai eA
     have ab:upd HA k (.lst (al++[.ref lA])) o=some (.lst ((c5 pl ps).map V.int)):=by rw [ao ok];exact sA.get ap
     generalize upd HA k (.lst (al++[.ref lA]))=HC at GC ab ⊢;ext;by_cases h5:J=s!"way"
     ·left;erw[qk.mk _ _ rfl ?_];rw [eg L,hS,ah h4,if_pos h5];exact ⟨GC,ab,_,_,_,_,rfl⟩
     ·left;rw [eg L,hS,ah h4,if_neg h5];exact ⟨GC,ab,_,_,_,_,rfl⟩
    ·left;rw [eg L,hS,R (by unfold ez;rw [decide_eq_false (show ¬(J=s!"free"\/S.light=0\/S.light=kg r) from h4),Bool.and_false])];exact ⟨G,Z,_,_,_,_,rfl⟩
   ·left;rw [eg L,hS,R (by unfold ez;rw [decide_eq_false h2,Bool.and_false];rfl)];exact ⟨G,Z,_,_,_,_,rfl⟩
  ·left;rw [eg L,hS,R (by unfold ez;rw [decide_eq_false (show ¬2*r.start=pl by lia)];rfl)];exact ⟨G,Z,_,_,_,_,rfl⟩
 ·obtain ⟨G,Z,t1,t2,t3,t4,rfl⟩:=pv;rw [take_of_length_le (show rs.length<=xs.length by lia)] at G ⊢;obtain ⟨ks,ek,dk⟩:=G.2.2.2.2.2;have sm:=G.1;left;rwa[jw (aN.of ek) λl HA sA nA eA=> ?_];left;rwa[b3 Rs λc' HB sB nB eB=> ?_];left;rwa[b3 (bJ (by first|decide|simp)) λr' HC sC nC eC=> ?_];exact q r' HC (((G.1.trans sA).trans sB).trans sC) ⟨c',o,n,eC,⟨l,ks,sC.get eB,sC.get (sB.get eA),by walk_at "l3sq"⟩,by walk_at "l3sq",sC.get (sB.get (sA.get G.2.2.2.2.1)),n1,nH,Ne.symm no⟩
abbrev KO:Str:=s!"plain"
abbrev hst:Str:=s!"hasty"
abbrev Ho:Str:=s!"slow"
def i8 (k:Str):Prop:=k=KO\/k=hst\/k=Ho
def kc (kD kH kS:Addr)(k:Str):Addr:=if k=hst then kH else if k=Ho then kS else kD
theorem Ny {j F z:Addr}:kc j F z KO=j:=by unfold kc;rw [if_neg @b,if_neg @b]
theorem Nz {j F z:Addr}:kc j F z hst=F:=by unfold kc;rw [if_pos rfl]
theorem Nx {j F z:Addr}:kc j F z Ho=z:=by unfold kc;rw [if_neg @b,if_pos rfl]
noncomputable def fN (k:Str)(t n:Int)(b s:Bool):Int:=if (k=KO/\b=true)\/(k=Ho/\(b=true\/s=true)) then t else if k=hst/\b=true then n else n - 1
abbrev Kc (C dx:Addr)(t:Int):HO:= .ins C dx [(s!"turns",.int t)]
inductive kY (K:Fg)(vs:List V)(H:Hp)(Q:VK)(_e:XK):Prop
 |mk (a t C dx:_) (_:vs=[.ref a,.int t]) (_:H a=some (.ins C dx [])) (_:t6 K C) (_:aV K C "turns") (_:Q .non (upd H a @gG))
theorem Jt (F:bB K "__init__" "Door.__init__" om f fd):az P w K mg base bg 1 f fd ["self","turns"] (kY K):=by
 rwa[F.ok zB (by symm) @bF];obtain ⟨a,t,C,dx,rfl,I,G,j,q⟩:=h;rwa[⟨_,(ac @bV),?_⟩];exact cK I G j @b q
inductive jB (K:Fg)(k:Str)(vs:List V)(H:Hp)(Q:VK)(_e:XK):Prop
 |mk (a n b s t C dx:_) (_:vs=[.ref a,.int n,.bl b,.bl s]) (_:H a=some @gG) (_:t6 K C) (_:aV K C "turns") (_:Q (.int (fN k t n b s)) H)
theorem Fu (F:bB K "left" "Door.left" oj f fd):az P w K mg base bg 1 f fd ["self","count","blocked","stepped"] (jB K KO):=by
 rwa[F.ok zA (by symm) @bF];obtain ⟨a,n,b,s,t,C,dx,rfl,I,G,j,q⟩:=h;rwa[⟨_,@j,?_⟩];cases b
 ·rw [show fN KO t n false s=n - 1 from by unfold fN;rw [if_neg (by cases s<;>decide),if_neg @b]] at q;left;exact q
 ·rw [show fN KO t n true s=t from by unfold fN;rw [if_pos (.inl ⟨rfl,rfl⟩)]] at q;left;exact fA I G j rfl q
theorem Ft (F:bB K "left" "Hasty.left" lx f fd):az P w K mg base bg 1 f fd ["self","count","blocked","stepped"] (jB K hst):=by
 rwa[F.ok xz (by symm) @p];obtain ⟨a,n,b,s,t,C,dx,rfl,I,G,z,q⟩:=h;rwa[⟨_,@j,?_⟩];cases b
 ·rw [show fN hst t n false s=n - 1 from by unfold fN;rw [if_neg (by cases s<;>decide),if_neg @b]] at q;left;exact q
 ·rw [show fN hst t n true s=n from by unfold fN;rw [if_neg (by cases s<;>decide),if_pos ⟨rfl,rfl⟩]] at q;left;exact q
theorem Fs (F:bB K "left" "Slow.left" nK f fd):az P w K mg base bg 1 f fd ["self","count","blocked","stepped"] (jB K Ho):=by
 rwa[F.ok zp (by symm) (λI A outer s H L Q E Y h=> ?_)];obtain ⟨a,n,b,s,t,C,dx,rfl,z,G,j,q⟩:=h;rwa[⟨_,@j,?_⟩];cases b
 ·cases s
  ·rw [show fN Ho t n false false=n - 1 from by unfold fN;rw [if_neg @b,if_neg @b]] at q;left;exact q
  ·rw [show fN Ho t n false true=t from by unfold fN;rw [if_pos (.inr ⟨rfl,.inr rfl⟩)]] at q;left;exact fA z G j rfl q
 ·rw [show fN Ho t n true s=t from by unfold fN;rw [if_pos (.inr ⟨rfl,.inl rfl⟩)]] at q;left;exact fA z G j rfl q
structure Lg (K:Fg)(C:Addr):Prop where
 i:iL K C
 n:aV K C "turns"
unseal iq in
theorem Nc {C:Addr}{E:XK}{t:Int}{H:Hp}{Q:VK}(c:Lg K C)(g:∀a dx H',aq H H'->H a=none->H' a=some @gG->Q (.ref a) H'):iq C (kY K) E [.int t] H Q:=by
 show ∀a dx,H a=none->H dx=none->dx≠a->kY K (.ref a::([.int t]++[])) @s (λv H2=>v= .non/\Q (.ref a) H2) E;intro a dx h1 h2 L;rwa[kY.mk _ _ _ _ rfl aj c.i.cl c.n ⟨rfl,g a dx _ ?_ h1 aj⟩];intro b u z;rw [ao (λe=>by rw [e,h1] at z;cases z)];exact eQ h1 h2 b u z
inductive qq (K:Fg)(kD kH kS:Addr)(vs:List V)(H:Hp)(Q:VK)(_e:XK):Prop
 |mk (k t:_) (_:vs=[.str k,.int t]) (_:i8 k) (_:∀a dx H',aq H H'->H a=none->H' a=some (Kc @gW dx t)->Q (.ref a) H')
theorem Cy (F:Z0 K "door_of" vP f fd)(J:Lg K tJ)(j:Lg K mP)(G:Lg K v7)(I:jm P w K mg base bg 1 "Door" tJ (kY K))(O:jm P w K mg base bg 1 "Hasty" mP (kY K))(z:jm P w K mg base bg 1 "Slow" v7 (kY K)):az P w K mg base bg 3 f fd ["kind","turns"] (qq K tJ mP v7):=by
 rwa[F.ok Ey (by symm) (λL A outer s H S Q E Y h=> ?_)];obtain ⟨k,t,rfl,R,q⟩:=h;rwa[⟨_,(aa (ax @a (ac (ak (gC O jI Y @b rfl @be))) ar) (aa (ax @a (ac (ak (gC z jI Y @b rfl @be))) ar) (ac (ak (gC I jI Y @b rfl @be))))),?_⟩]
 rcases R with rfl|rfl|rfl
 ·rw [Ny] at q;left;exact Nc J q
 ·rw [Nz] at q;left;exact Nc j q
 ·rw [Nx] at q;left;exact Nc G q
seal Ip
structure Lf where
 st:Int
 rm:Int
 tn:Int
 kd:Str
structure Hs where
 fl:Int
 ls:List Lf
 lo:Nat
 so:Str
structure Hs.ok (h:Hs):Prop where
 f2:2<=h.fl
 f8:h.fl<=8
 l1:1<=h.ls.length
 l3:h.ls.length<=3
 lf:∀l∈h.ls,1<=l.rm/\l.rm<=6/\1<=l.tn/\l.tn<=4/\i8 l.kd
 so:h.so=s!"free"\/h.so=s!"way"
def Kv (K:Fg)(H:Hp)(x:V)(l:Lf):Prop:=∃b,x= .ref b/\aD K H b [.int l.st,.int l.rm,.int l.tn,.str l.kd]
def lS (K:Fg)(H:Hp)(a:Addr)(h:Hs):Prop:=h.ok/\∃p xs,aD K H a [.int h.fl,.ref p,.int (h.lo:Int),.str h.so]/\aD K H p xs/\Paired (Kv K H) xs h.ls
theorem lS.keep {H H':Hp}{a:Addr}{h:Hs}(c:lS K H a h)(s:aQ H H'):lS K H' a h:=by
 obtain ⟨o,p,xs,h1,h2,L⟩:=c;exact ⟨o,p,xs,s.sqT h1,s.sqT h2,Paired.imp' (λx l ⟨b,e,z⟩=>⟨b,e,s.sqT z⟩) L⟩
theorem lS.same {H H':Hp}{a:Addr}{h:Hs}(c:lS K H a h)(s:aq H H'):lS K H' a h:=c.keep s.st
theorem lS.at {H:Hp}{a:Addr}{h:Hs}(c:lS K H a h){i:Int}{l:Lf}(I:0<=i)(W:h.ls[i.toNat]? =some l):∃p xs b,aD K H a [.int h.fl,.ref p,.int (h.lo:Int),.str h.so]/\aD K H p xs/\xs.length=h.ls.length/\oQ xs i=some (.ref b)/\aD K H b [.int l.st,.int l.rm,.int l.tn,.str l.kd]:=by
 obtain ⟨o,p,xs,h1,h2,L⟩:=c;obtain ⟨j,rfl⟩:=Int.eq_ofNat_of_zero_le I;rw [show ((j:Int)).toNat=j by lia] at W
 have Z:j<xs.length:=by rw [L.len];exact (List.getElem?_eq_some_iff.mp W).1
 obtain ⟨J,F,b,G,z⟩:=L.get1 (getElem?_eq_getElem Z);rw [W] at F;cases F;exact ⟨p,xs,b,h1,h2,L.len,by rw [c7 (getElem?_eq_getElem Z),G],z⟩
inductive kj (K:Fg)(g:Lf->V)(vs:List V)(H:Hp)(Q:VK)(_e:XK):Prop
 |mk (a h i l:_) (_:vs=[.ref a,.int i]) (_:lS K H a h) (_:0<=i) (_:h.ls[i.toNat]? =some l) (_:Q (g l) H)
theorem Jm (F:Z0 K "room_of" vB f fd):az P w K mg base bg 1 f fd ["house","lift"] @dz:=by
 rwa[F.ok Em (by symm) @cx];obtain ⟨a,h,i,l,rfl,z,Y,W,q⟩:=h;obtain ⟨p,xs,b,h1,h2,I,j,S⟩:=z.at Y W;rwa[⟨_,@j,?_⟩];rwa[ae h1 rfl ?_];rwa[ae h2 j ?_];exact ae S rfl q
theorem z5 (F:Z0 K "turns_of" qC f fd):az P w K mg base bg 1 f fd ["house","lift"] @cs:=by
 rwa[F.ok B1 (by symm) @cx];obtain ⟨a,h,i,l,rfl,z,Y,W,q⟩:=h;obtain ⟨p,xs,b,h1,h2,I,j,S⟩:=z.at Y W;rwa[⟨_,@j,?_⟩];rwa[ae h1 rfl ?_];rwa[ae h2 j ?_];exact ae S rfl q
theorem Cw (F:Z0 K "kind_of" vL f fd):az P w K mg base bg 1 f fd ["house","lift"] (kj K λl=> .str l.kd):=by
 rwa[F.ok Ev (by symm) @cx];obtain ⟨a,h,i,l,rfl,z,Y,W,q⟩:=h;obtain ⟨p,xs,b,h1,h2,I,j,S⟩:=z.at Y W;rwa[⟨_,@j,?_⟩];rwa[ae h1 rfl ?_];rwa[ae h2 j ?_];exact ae S rfl q
structure Cb where
 pl:Int
 li:Int
 dr:Int
 mr:Int
 ps:List (Int×Int)
def d5 (K:Fg)(H:Hp)(x:V)(c:Cb):Prop:=∃t,x= .ref t/\bZ K H t c.pl c.li c.dr c.mr c.ps
theorem bZ.keep {H H':Hp}{t:Addr}{pl li dr j:Int}{ps:List (Int×Int)}(h:bZ K H t pl li dr j ps)(s:aQ H H'):bZ K H' t pl li dr j ps:=by
 obtain ⟨b,xs,S,R,d⟩:=h;exact ⟨b,xs,s.tup S,s.tup R,s.dens d (io ps)⟩
theorem d5.keep {H H':Hp}{x:V}{c:Cb}(h:d5 K H x c)(s:aQ H H'):d5 K H' x c:=let ⟨t,e,z⟩:=h;⟨t,e,z.keep s⟩
structure MS where
 cs:List Cb
 ws:List be
 last:Int
 fire:Bool
 bl:Nat
 log:List D
abbrev ow (h lc lw:Addr)(last:Int)(fire:Bool)(bl:Nat)(ll:Addr):List (Str×V):=[(s!"house",.ref h),(s!"cabins",.ref lc),(s!"waiting",.ref lw),(s!"last",.int last),(s!"fire",.bl fire),(s!"blocked",.int (bl:Int)),(s!"log",.ref ll)]
structure sQ (K:Fg)(C:Addr):Prop where
 i:iL K C
 house:aV K C "house"
 cabins:aV K C "cabins"
 waiting:aV K C "waiting"
 last:aV K C "last"
 fire:aV K C "fire"
 blocked:aV K C "blocked"
 log:aV K C "log"
structure dS (K:Fg)(C:Addr)(H0 H:Hp)(m h dx lc lw ll:Addr)(xs ys zs:List V)(M:MS):Prop where
 s:aq H0 H
 nm:H0 m=none
 nc:H0 lc=none
 nw:H0 lw=none
 nl:H0 ll=none
 cw:lc≠lw
 cl:lc≠ll
 wl:lw≠ll
 em:H m=some (.ins C dx @cy)
 ec:H lc=some (.lst xs)
 ew:H lw=some (.lst ys)
 el:H ll=some (.lst zs)
 dc:Paired @gg xs M.cs
 dw:aC K H ys @ef
 dl:aC K H zs M.log
 ln:noLs M.log=true
inductive fD (K:Fg)(C:Addr)(H0 H:Hp)(m h:Addr)(M:MS):Prop
 |mk (dx lc lw ll xs ys zs:_) (_:dS K C H0 H m h dx lc lw ll xs ys zs M)
section
variable {C:Addr}{H0 H H':Hp}{m h dx lc lw ll:Addr}{xs ys zs:List V}{M:MS}
theorem dS.same (a:dS K C H0 H m h dx lc lw ll xs ys zs M)(s':aq H H'):dS K C H0 H' m h dx lc lw ll xs ys zs M:=
 ⟨a.s.trans s',a.nm,a.nc,a.nw,a.nl,a.cw,a.cl,a.wl,s' _ _ a.em,s' _ _ a.ec,s' _ _ a.ew,s' _ _ a.el,Paired.imp' (λx c z=>d5.keep z s'.st) a.dc,aC.same a.dw s',aC.same a.dl s',a.ln⟩
theorem fD.same (a:fD K C H0 H m h M)(s':aq H H'):fD K C H0 H' m h M:=let ⟨dx,lc,lw,ll,xs,ys,zs,z⟩:=a;⟨dx,lc,lw,ll,xs,ys,zs,z.same s'⟩
theorem d5.nt {H H':Hp}(s:bu H H'){v:V}{c:Cb}(h:d5 K H v c):d5 K H' v c:=by
 obtain ⟨t,e,b,j,h1,h2,L⟩:=h;exact ⟨t,e,b,j,s _ _ (λ_ z=>by cases z) h1,s _ _ (λ_ z=>by cases z) h2,s.dens L⟩
theorem dS.sameN (a:dS K C H0 H m h dx lc lw ll xs ys zs M)(j:NT H0)(s':bu H H'):dS K C H0 H' m h dx lc lw ll xs ys zs M:=
 ⟨bu.onto j a.s s',a.nm,a.nc,a.nw,a.nl,a.cw,a.cl,a.wl,s' _ _ (λ_ z=>by cases z) a.em,s' _ _ (λ_ z=>by cases z) a.ec,s' _ _ (λ_ z=>by cases z) a.ew,s' _ _ (λ_ z=>by cases z) a.el,Paired.imp' (λx c z=>d5.nt s' z) a.dc,s'.dens a.dw,s'.dens a.dl,a.ln⟩
theorem dS.setC (a:dS K C H0 H m h dx lc lw ll xs ys zs M){i:Nat}{v:V}{c:Cb}(W:d5 K H v c):dS K C H0 (upd H lc (.lst @gt)) m h dx lc lw ll @gt ys zs {M with cs:=M.cs.set i c}:=by
 have st:aQ H (upd H lc (.lst @gt)):= .updL a.ec;rwa[⟨λb u z=> ?_,a.nm,a.nc,a.nw,a.nl,a.cw,a.cl,a.wl,?_,aj,?_,?_,qY (Paired.imp' @bL a.dc) (W.keep st),st.dens a.dw (i6 _),st.dens a.dl a.ln,a.ln⟩]
 ·rw [ao (λe=>by rw [e,a.nc] at z;cases z)];exact a.s b u z
 ·rw [ao (λe=>by have:=a.em;rw [e,a.ec] at this;cases this)];exact a.em
 ·rw [ao a.cw.symm];exact a.ew
 ·rw [ao a.cl.symm];exact a.el
theorem dS.setL (a:dS K C H0 H m h dx lc lw ll xs ys zs M){vs:List V}{ds:List D}(W:aC K H vs ds)(j:noLs ds=true):dS K C H0 (upd H ll (.lst (zs++vs))) m h dx lc lw ll xs ys (zs++vs) {M with log:=M.log++ds}:=by
 have st:aQ H (upd H ll (.lst (zs++vs))):= .updL a.el;rwa[⟨λb u z=> ?_,a.nm,a.nc,a.nw,a.nl,a.cw,a.cl,a.wl,?_,?_,?_,aj,Paired.imp' @bL a.dc,st.dens a.dw (i6 _),Paired.app (st.dens a.dl a.ln) (st.dens W j),FM a.ln j⟩]
 ·rw [ao (λe=>by rw [e,a.nl] at z;cases z)];exact a.s b u z
 ·rw [ao (λe=>by have:=a.em;rw [e,a.el] at this;cases this)];exact a.em
 ·rw [ao a.cl];exact a.ec
 ·rw [ao a.wl];exact a.ew
theorem dS.setW (a:dS K C H0 H m h dx lc lw ll xs ys zs M){vs:List V}{rs:List be}(W:aC K H vs @bz):dS K C H0 (upd H lw (.lst vs)) m h dx lc lw ll xs vs zs {M with ws:=rs}:=by
 have st:aQ H (upd H lw (.lst vs)):= .updL a.ew;rwa[⟨λb u z=> ?_,a.nm,a.nc,a.nw,a.nl,a.cw,a.cl,a.wl,?_,?_,aj,?_,Paired.imp' @bL a.dc,st.dens W (i6 _),st.dens a.dl a.ln,a.ln⟩]
 ·rw [ao (λe=>by rw [e,a.nw] at z;cases z)];exact a.s b u z
 ·rw [ao (λe=>by have:=a.em;rw [e,a.ew] at this;cases this)];exact a.em
 ·rw [ao a.cw];exact a.ec
 ·rw [ao a.wl.symm];exact a.el
theorem dS.putW (a:dS K C H0 H m h dx lc lw ll xs ys zs M){l:Addr}{vs:List V}{rs:List be}(G:H0 l=none)(F:lc≠l)(j:l≠ll)(e:H l=some (.lst vs))(W:aC K H vs @bz):dS K C H0 (upd H m (.ins C dx (ow h lc l M.last M.fire M.bl ll))) m h dx lc l ll xs vs zs {M with ws:=rs}:=by
 have st:aQ H (upd H m (.ins C dx (ow h lc l M.last M.fire M.bl ll))):= .updI a.em
 have nm:∀ {p:Addr} {I:List V},H p=some (.lst I)->p≠m:=λ{p I} e z=>by rw [z,a.em] at e;cases e
 rwa[⟨λb u z=> ?_,a.nm,a.nc,G,a.nl,F,a.cl,j,aj,?_,?_,?_,Paired.imp' @bL a.dc,st.dens W (i6 _),st.dens a.dl a.ln,a.ln⟩]
 ·rw [ao (λe=>by rw [e,a.nm] at z;cases z)];exact a.s b u z
 ·rw [ao (nm a.ec)];exact a.ec
 ·rw [ao (nm e)];exact e
 ·rw [ao (nm a.el)];exact a.el
theorem dS.putF (a:dS K C H0 H m h dx lc lw ll xs ys zs M)(last:Int)(j:Bool)(F:Nat):dS K C H0 (upd H m (.ins C dx (ow h lc lw last j F ll))) m h dx lc lw ll xs ys zs {M with last:=last,fire:=j,bl:=F}:=by
 have st:aQ H (upd H m (.ins C dx (ow h lc lw last j F ll))):= .updI a.em
 have nm:∀ {p:Addr} {G:List V},H p=some (.lst G)->p≠m:=λ{p G} e z=>by rw [z,a.em] at e;cases e
 rwa[⟨λb u z=> ?_,a.nm,a.nc,a.nw,a.nl,a.cw,a.cl,a.wl,aj,?_,?_,?_,Paired.imp' @bL a.dc,st.dens a.dw (i6 _),st.dens a.dl a.ln,a.ln⟩]
 ·rw [ao (λe=>by rw [e,a.nm] at z;cases z)];exact a.s b u z
 ·rw [ao (nm a.ec)];exact a.ec
 ·rw [ao (nm a.ew)];exact a.ew
 ·rw [ao (nm a.el)];exact a.el
end
inductive Dd where
 |come (t s g:Int) (k:Bool)
 |lf (x:Str) (n:Int)
 |sg (x:Str)
abbrev uk:Str:=s!"come"
noncomputable def Dd.v:Dd->List V
 | .come t s g k=>[.str uk,.int t,.int s,.int g,.bl k]
 | .lf x n=>[.str x,.int n]
 | .sg x=>[.str x]
def Dd.ok:Dd->Prop
 | .come _ _ _ _=>True
 | .lf x _=>x=s!"block"\/x=s!"stick"\/x=s!"free"\/x=s!"goods"\/x=s!"back"
 | .sg x=>x=s!"fire"\/x=s!"calm"
def sO (H:Hp)(a:Addr)(d:Dd):Prop:=H a=some (.tup d.v)/\d.ok
theorem sO.keep {H H':Hp}{a:Addr}{d:Dd}(h:sO H a d)(s:aQ H H'):sO H' a d:=⟨s.tup h.1,h.2⟩
theorem sO.same {H H':Hp}{a:Addr}{d:Dd}(h:sO H a d)(s:aq H H'):sO H' a d:=⟨s _ _ h.1,h.2⟩
def Mp (t:Int):D:= .tup [.str "barred",.int t]
def vV (t:Int):D:= .tup [.str "sent",.int t]
noncomputable def fI (lo:Nat)(M:MS)(t s g:Int)(k:Bool):MS:=if lo.testBit g.toNat=true/\k=false then {M with log:=M.log++[Mp t]} else if M.fire=true then {M with log:=M.log++[vV t]} else {M with ws:=M.ws++[⟨t,s,g,-1⟩]}
theorem bS {C:Addr}{H0 H:Hp}{m h dx lc lw ll:Addr}{xs ys zs:List V}{M:MS}{j:Str}{v:V}{Q:VK}(a:dS K C H0 H m h dx lc lw ll xs ys zs M)(c:t6 K C)(n:aV K C j)(e:(ow h lc lw M.last M.fire M.bl ll).lookup j=some v)(g:Q v H):pz K j m H Q:=fA a.em c n e g
inductive zh (K:Fg)(C:Addr)(vs:List V)(H:Hp)(Q:VK)(_e:XK):Prop
 |mk (m t s g k h hs H0 M:_) (_:vs=[.ref m,.int t,.int s,.int g,.bl k]) (_:lS K H h hs) (_:fD K C H0 H m h M) (_:M.ws.length<=1000) (_:M.log.length<=1000) (_:0<=g) (_:g<1000) (_:∀H',aQ H H'->fD K C H0 H' m h (fI hs.lo M t s g k)->Q .non H')
theorem Jy {C:Addr}{U:Tok}(F:Z0 K "do_come" vS f fd)(j:sQ K C)(br:mg "NO_LIFT"=some (.int (-1) U))(m5:Z03 P w K mg base):az P w K mg base bg 3 f fd ["moment","tag","start","goal","key"] (zh K C):=by
 have fW:aK (.int (-1)) (.int (-1) U):=⟨_,rfl⟩;rwa[F.ok EB (by symm) @bv];obtain ⟨m,t,s,g,k,h,hs,H0,M,rfl,W,hM,wl,Y,Z,g1,q⟩:=h;obtain ⟨dx,lc,lw,ll,xs,ys,zs,a⟩:=hM;obtain ⟨o,p,ps,h1,h2,h3⟩:=W;obtain ⟨I,rfl⟩:=Int.eq_ofNat_of_zero_le Z;have yl:=aM a.dw;have zl:zs.length=M.log.length:=a.dl.len;have G:=j.i.cl;rwa[⟨_,(ac (ax @a @G @eF)),?_⟩];rwa[bS a G j.house rfl ?_];rwa[ae h1 rfl ?_];rwa[fE.mk _ _ rfl @c ?_];unfold fI at q;rw [show ((I:Int)).toNat=I by lia] at q;ext;by_cases R:hs.lo.testBit I=true
 ·rwa[bG R ?_]
  cases k with
  |false=>
   rw [if_pos ⟨R,rfl⟩] at q;rwa[bG rfl ?_];rwa[bS a G j.log (v:= .ref ll) rfl ?_];rwa[⟨.inl ⟨rfl,_,aN.of a.el⟩,?_⟩];rwa[b3 (bJ (by show 2<=1000000;decide)) λr H1 O L S=> ?_];rwa[iK @gu @dA ?_];exact q _ @cz ⟨dx,lc,lw,ll,xs,ys,_,(a.same O).setL (ds:=[Mp t]) (.cons @bp .nil) rfl⟩
  |true=>
   rw [if_neg (λz=>by cases z.2)] at q;rwa[aL rfl ?_];erw[bS a G j.fire (v:= .bl M.fire) rfl ?_]
   cases J:M.fire with
   |true=>
    rw [if_pos J] at q;rwa[bG rfl ?_];rwa[bS a G j.log (v:= .ref ll) rfl ?_];rwa[⟨.inl ⟨rfl,_,aN.of a.el⟩,?_⟩];rwa[b3 (bJ (by show 2<=1000000;decide)) λr H1 O L S=> ?_];rwa[iK @gu @dA ?_];exact q _ @cz ⟨dx,lc,lw,ll,xs,ys,_,(a.same O).setL (ds:=[vV t]) (.cons @bp .nil) rfl⟩
   |false=>
    rw [if_neg (by rw [J];decide)] at q;rwa[aL rfl ?_];rwa[bS a G j.waiting (v:= .ref lw) rfl ?_];rwa[⟨.inl ⟨rfl,_,aN.of a.ew⟩,?_⟩];rwa[b3 (bJ (by show 4<=1000000;decide)) λr H1 O L S=> ?_];rwa[iK @fg @dA ?_];rwa[q _ (O.st.trans (.updL @fg)) ⟨dx,lc,lw,ll,xs,_,zs,(a.same O).setW (rs:=M.ws++[⟨t,s,(I:Int),-1⟩]) ?_⟩];rw [map_append];exact Paired.app (aC.same a.dw O) (.cons (d3 (aD.of S) (.cons (.int _) (.cons (.int _) (.cons (.int _) (.cons (.int _) .nil))))) .nil)
 ·rwa[aL (by simpa using R) ?_];rwa[aL rfl ?_];rw [if_neg @dy] at q;erw[bS a G j.fire (v:= .bl M.fire) rfl ?_]
  cases J:M.fire with
  |true=>
   rw [if_pos J] at q;rwa[bG rfl ?_];rwa[bS a G j.log (v:= .ref ll) rfl ?_];rwa[⟨.inl ⟨rfl,_,aN.of a.el⟩,?_⟩];rwa[b3 (bJ (by show 2<=1000000;decide)) λr H1 O L S=> ?_];rwa[iK @gu @dA ?_];exact q _ @cz ⟨dx,lc,lw,ll,xs,ys,_,(a.same O).setL (ds:=[vV t]) (.cons @bp .nil) rfl⟩
  |false=>
   rw [if_neg (by rw [J];decide)] at q;rwa[aL rfl ?_];rwa[bS a G j.waiting (v:= .ref lw) rfl ?_];rwa[⟨.inl ⟨rfl,_,aN.of a.ew⟩,?_⟩];rwa[b3 (bJ (by show 4<=1000000;decide)) λr H1 O L S=> ?_];rwa[iK @fg @dA ?_];rwa[q _ (O.st.trans (.updL @fg)) ⟨dx,lc,lw,ll,xs,_,zs,(a.same O).setW (rs:=M.ws++[⟨t,s,(I:Int),-1⟩]) ?_⟩];rw [map_append];exact Paired.app (aC.same a.dw O) (.cons (d3 (aD.of S) (.cons (.int _) (.cons (.int _) (.cons (.int _) (.cons (.int _) .nil))))) .nil)
theorem dP {H:Hp}{x:V}{r:be}(h:bM K H x r.d):∃a,x= .ref a/\aD K H a [.int r.tag,.int r.start,.int r.goal,.int r.lift]:=by
 obtain ⟨a,xs,rfl,h1,h2⟩:=h.outT
 cases h2 with|cons q0 t0=>cases t0 with|cons q1 t1=>cases t1 with|cons q2 t2=>cases t2 with|cons q3 t3=>
 cases t3;cases q0.isInt;cases q1.isInt;cases q2.isInt;cases q3.isInt;exact ⟨a,rfl,h1⟩
inductive jZ (K:Fg)(vs:List V)(H:Hp)(Q:VK)(_e:XK):Prop
 |mk (x r i:_) (_:vs=[x,.int i]) (_:bM K H x (be.d r)) (_:∀v H',aq H H'->bM K H' v (be.d {r with lift:=i})->Q v H')
theorem FC (F:Z0 K "dealt_to" qO f fd):az P w K mg base bg 1 f fd ["rider","lift"] (jZ K):=by
 rwa[F.ok Ca (by symm) (λz A outer s H L Q E G h=> ?_)];obtain ⟨x,r,i,rfl,J,q⟩:=h;obtain ⟨a,rfl,O⟩:=dP J;rwa[⟨_,@j,?_⟩];rwa[ae O rfl ?_];rwa[ae O rfl ?_];rwa[ae O rfl ?_];exact b3 (bJ (by show 4<=1000000;decide)) λb H2 R Y j=>q _ H2 R (d3 (aD.of j) (.cons (.int _) (.cons (.int _) (.cons (.int _) (.cons (.int _) .nil)))))
inductive xm (K:Fg)(vs:List V)(H:Hp)(Q:VK)(_e:XK):Prop
 |mk (c i pl li dr mk ps:_) (_:vs=[.ref c,.int i]) (_:bZ K H c pl li dr mk ps) (_:∀r H',aq H H'->bZ K H' r pl li dr i ps->Q (.ref r) H')
theorem MQ (F:Z0 K "with_marks" kZ f fd):az P w K mg base bg 1 f fd ["cabin","marks"] (xm K):=by
 rwa[F.ok xp (by symm) (λz A outer s H L Q E G h=> ?_)];obtain ⟨c,i,pl,li,dr,I,ps,rfl,⟨b,xs,Z,W,dx⟩,q⟩:=h;rwa[⟨_,@j,?_⟩];have O:=aD.of (K:=K) Z;rwa[ae O rfl ?_];rwa[ae O rfl ?_];rwa[ae O rfl ?_];rwa[ae O rfl ?_];exact b3 (bJ (by show 5<=1000000;decide)) λr H2 R Y j=>q r H2 R ⟨b,xs,j,R _ _ W,aC.same dx R⟩
def rz (M n:Nat):Nat:=if M.testBit n=true then M - 2^n else M
theorem NX {M n:Nat}(h:M.testBit n=true):2^n<=M:=Nat.ge_two_pow_of_testBit h
inductive nq (vs:List V)(H:Hp)(Q:VK)(_e:XK):Prop
 |mk (M n:Nat) (_:vs=[.int (M:Int),.int (n:Int)]) (_:n<=1000) (_:Q (.int ((rz M n:Nat):Int)) H)
theorem zY (F:Z0 K "without" qA f fd)(I:bf P w K mg base 1 "bit" ["k"] mi)(S:Z03 P w K mg base):az P w K mg base bg 3 f fd ["mask","k"] nq:=by
 rwa[F.ok BY (by symm) @I];obtain ⟨M,n,rfl,z,q⟩:=h;rwa[⟨_,(aa @bJ (ac (ak (wv 0)))),?_⟩];erw[fE.mk _ _ rfl z ?_];unfold rz at q;by_cases j:M.testBit n=true
 ·rw [if_pos j] at q;rwa[bG j ?_];rwa[mi.mk _ rfl z ?_];have:=NX j;rw [show ((M - 2^n:Nat):Int)=(M:Int) - ((2^n:Nat):Int) by lia] at q;exact q
 ·rw [if_neg j] at q;rwa[aL (by simpa using j) ?_];exact q
def atC (M:MS)(i:Int)(c:Cb):Prop:=0<=i/\M.cs[i.toNat]? =some c
theorem dS.atC {C:Addr}{H0 H:Hp}{m h dx lc lw ll:Addr}{xs ys zs:List V}{M:MS}(a:dS K C H0 H m h dx lc lw ll xs ys zs M){i:Int}{c:Cb}(I:atC M i c):∃t,xs[i.toNat]? =some (.ref t)/\oQ xs i=some (.ref t)/\bZ K H t c.pl c.li c.dr c.mr c.ps/\i.toNat<xs.length:=by
 obtain ⟨Y,I⟩:=I;obtain ⟨j,rfl⟩:=Int.eq_ofNat_of_zero_le Y;rw [show ((j:Int)).toNat=j by lia] at I ⊢
 have Z:j<xs.length:=by rw [a.dc.len];exact (List.getElem?_eq_some_iff.mp I).1
 obtain ⟨F,ad,t,z,J⟩:=a.dc.get1 (getElem?_eq_getElem Z);rw [I] at ad;cases ad;exact ⟨t,by rw [getElem?_eq_getElem Z,z],by rw [c7 (getElem?_eq_getElem Z),z],J,Z⟩
theorem mQ {xs:List V}{i:Int}(F:0<=i)(h1:i.toNat<xs.length):CP xs.length i=some i.toNat:=by
 unfold CP;rw [if_pos @c,if_pos @c]
def fk (i:Int)(ws:List be):List be:=ws.map λr=>if r.lift=i then {r with lift:= -1} else r
def qT (i:Int)(k:Nat)(c:Cb)(M:MS):MS:= {M with cs:=M.cs.set i.toNat {c with mr:=((c.mr.toNat|||2^k:Nat):Int)},ws:=fk i M.ws}
def lG (i:Int)(k:Nat)(c:Cb)(M:MS):MS:= {M with cs:=M.cs.set i.toNat {c with mr:=((rz c.mr.toNat k:Nat):Int)}}
inductive u6 (K:Fg)(C:Addr)(vs:List V)(H:Hp)(Q:VK)(_e:XK):Prop
 |mk (m i h H0 M c:_) (k:Nat) (_:vs=[.ref m,.int i,.int (k:Int)]) (_:k<=1000) (_:fD K C H0 H m h M) (_:M.ws.length<=1000) (_:atC M i c) (_:0<=c.mr) (_:∀H',aQ H H'->fD K C H0 H' m h (qT i k c M)->Q .non H')
abbrev Z04:=λP w K mg base=>bf P w K mg base 1 "dealt_to" ["rider","lift"] (jZ K)
theorem Jn {C:Addr}{t1:Tok}(F:Z0 K "put_mark" qI f fd)(S:sQ K C)(br:mg "NO_LIFT"=some (.int (-1) t1))(fQ:bf P w K mg base 2 "with_bit" ["mask","k"] iP)(gM:bf P w K mg base 1 "with_marks" ["cabin","marks"] (xm K))(fc:Z04 P w K mg base):az P w K mg base bg 3 f fd ["moment","lift","mark"] (u6 K C):=by
 have fW:aK (.int (-1)) (.int (-1) t1):=⟨_,rfl⟩;rwa[F.ok B6 (by symm) (λak A outer s H vs Q E hr h=> ?_)];obtain ⟨m,i,h,H0,M,c,k,rfl,k1,⟨dx,lc,lw,ll,xs,ys,zs,a⟩,wl,hc,m0,q⟩:=h;obtain ⟨t,hx,hi,ht,ab⟩:=a.atC hc;obtain ⟨mn,W⟩:=Int.eq_ofNat_of_zero_le m0;have cl:=S.i.cl;rwa[⟨_,(aa @a (aa @bH (ac (cJ rfl (wv 0) (bz rfl (aE (N':=["rider","lift"]) (pk:=[none,some 1]) @o) @a @l @x @l))))),?_⟩];rwa[bS a cl S.cabins (v:= .ref lc) rfl ?_];erw[cP @bA hi ?_];obtain ⟨b,bs,et,eb,db⟩:=id ht;rwa[ae @fW rfl ?_];rw [W] at ht ⊢;rwa[iP.mk _ _ rfl k1 ?_];erw[xm.mk _ _ _ _ _ _ _ rfl ht λt2 H1 s1 ag=> ?_];have a1:=a.same s1;rwa[bS a1 cl S.cabins (v:= .ref lc) rfl ?_];rwa[kz (j:=i.toNat) a1.ec (mQ hc.1 ab) ?_];have R:=a1.setC (i:=i.toNat) (c:= {c with mr:=((mn|||2^k:Nat):Int)}) ⟨t2,rfl,ag⟩;generalize ai:upd H1 lc (.lst (xs.set i.toNat (.ref t2)))=H2 at R
 have ad:aQ H H2:=by rw [<-ai];exact s1.st.trans (.updL a1.ec)
 clear ai;rwa[bS R cl S.waiting (v:= .ref lw) rfl ?_];rwa[cz (aN.of R.ew) ?_];have yl:ys.length=M.ws.length:=aM a.dw;rwa[b4 (xs:=ys) (λj G I=>aq H2 I/\G.length=j/\aC K I G ((fk i @hb).map be.d)) @bu (λj G I h=>Nat.le_of_eq h.2.1) ⟨.refl _,rfl,.nil⟩ (λj G I _ h=>h.1.seq (aN.of R.ew)) @dB (λG I hP l n=> ?_)]
 ·obtain ⟨U,J,Y⟩:=hP;obtain ⟨r,O,dr⟩:=bE (f:=be.d) R.dw hy;have O:M.ws[j]? =some r:=O;obtain ⟨ra,rfl,hT⟩:=dP @ew
  have nx:fk i (M.ws.take (j+1))=fk i @hb++[if r.lift=i then {r with lift:= -1} else r]:=by
   unfold fk;rw [take_add_one,O,map_append];rfl
  rwa[⟨cq,?_⟩];rwa[ae hT rfl ?_];rwa[gw @k @k]
  ·ext;rwa[jZ.mk _ _ _ rfl @ew λv H3 L dv=>⟨U.trans L,by simp [J],?_⟩];rw [nx,if_pos z,map_append];exact Paired.app (aC.same Y L) (.cons dv .nil)
  ·ext;rwa[⟨U,by simp [J],?_⟩];rw [nx,if_neg z,map_append];exact Paired.app Y (.cons @ew .nil)
 obtain ⟨U,J,Y⟩:=hP;rw [yl,take_of_length_le @f] at Y;have aX:=R.same U;have L:aq I (upd I l (.lst G)):= .upd n;have Z:=aX.same L;have e3:upd I l (.lst G) l=some (.lst G):=aj;generalize al:upd I l (.lst G)=H3 at L Z e3 ⊢
 have af:lc≠l:=λz=>by rw [<-z,aX.ec] at n;cases n
 have ah:l≠ll:=λz=>by rw [z,aX.el] at n;cases n
 rwa[cK Z.em cl S.waiting (by show 7<1000;decide) ?_];have a4:=Z.putW (rs:=fk i M.ws) (none_of aX.s n) af ah e3 (aC.same Y L);rwa[q _ ((ad.trans (U.trans L).st).trans (.updI Z.em)) ⟨dx,lc,l,ll,xs.set i.toNat (.ref t2),G,zs,?_⟩]
 have ec:qT i k c M= {M with cs:=M.cs.set i.toNat {c with mr:=((mn|||2^k:Nat):Int)},ws:=fk i M.ws}:=by
  unfold qT;rw [W];rfl
 rw [ec];exact a4
inductive pV (K:Fg)(C:Addr)(vs:List V)(H:Hp)(Q:VK)(_e:XK):Prop
 |mk (m i h H0 M c:_) (k:Nat) (_:vs=[.ref m,.int i,.int (k:Int)]) (_:k<=1000) (_:fD K C H0 H m h M) (_:atC M i c) (_:0<=c.mr) (_:∀H',aQ H H'->fD K C H0 H' m h (lG i k c M)->Q .non H')
theorem Fp {C:Addr}(F:Z0 K "lose_mark" nR f fd)(I:sQ K C)(yh:bf P w K mg base 3 "without" ["mask","k"] nq)(gM:bf P w K mg base 1 "with_marks" ["cabin","marks"] (xm K)):az P w K mg base bg 4 f fd ["moment","lift","mark"] (pV K C):=by
 rwa[F.ok zw (by symm) @y];obtain ⟨m,i,h,H0,M,c,k,rfl,Y,⟨dx,lc,lw,ll,xs,ys,zs,a⟩,L,m0,q⟩:=h;obtain ⟨t,hx,hi,J,G⟩:=a.atC L;obtain ⟨U,W⟩:=Int.eq_ofNat_of_zero_le m0;have R:=I.i.cl;rwa[⟨_,(aa @a (ac @bH)),?_⟩];rwa[bS a R I.cabins (v:= .ref lc) rfl ?_];erw[cP @bA hi ?_];obtain ⟨b,bs,et,eb,db⟩:=id J;rwa[ae @fW rfl ?_];rw [W] at J ⊢;rwa[nq.mk _ _ rfl Y ?_];erw[xm.mk _ _ _ _ _ _ _ rfl J λS H1 O ag=> ?_];have z:=a.same O;rwa[bS z R I.cabins (v:= .ref lc) rfl ?_];rwa[kz (j:=i.toNat) z.ec (mQ L.1 G) ?_];have a2:=z.setC (i:=i.toNat) (c:= {c with mr:=((rz U k:Nat):Int)}) ⟨S,rfl,ag⟩;rwa[q _ (O.st.trans (.updL z.ec)) ⟨dx,lc,lw,ll,xs.set i.toNat (.ref S),ys,zs,?_⟩]
 have Z:lG i k c M= {M with cs:=M.cs.set i.toNat {c with mr:=((rz U k:Nat):Int)}}:=by
  unfold lG;rw [W];rfl
 rw [Z];exact a2
def Gr (M:MS):MS:= {M with fire:=true,log:=M.log++M.ws.map λr=>vV r.tag,ws:=[]}
theorem EJ (rs:List be):noLs (rs.map λr=>vV r.tag)=true:=by
 induction rs with
 |nil=>rfl
 |cons r rs ih=>rw [map_cons,noLs,ih];rfl
inductive zf (K:Fg)(C:Addr)(vs:List V)(H:Hp)(Q:VK)(_e:XK):Prop
 |mk (m h H0 M:_) (_:vs=[.ref m]) (_:fD K C H0 H m h M) (_:M.ws.length<=1000) (_:M.log.length<=1000) (_:∀H',aQ H H'->fD K C H0 H' m h (Gr M)->Q .non H')
theorem Jw {C:Addr}(F:Z0 K "do_fire" vQ f fd)(W:sQ K C):az P w K mg base bg 1 f fd ["moment"] (zf K C):=by
 rwa[F.ok Ez (by symm) (λae A outer s H vs Q E hr h=> ?_)];obtain ⟨m,h,H0,M,rfl,⟨dx,lc,lw,ll,xs,ys,zs,a⟩,wl,gl,q⟩:=h;have cl:=W.i.cl;have yl:ys.length=M.ws.length:=aM a.dw;have zl:zs.length=M.log.length:=a.dl.len;rwa[⟨_,(aa (cJ rfl (wv 0) bW) (aa (aO (gD rfl PySem.F.plainAttrs_list PySem.F.slot_list_extend PySem.F.type_list_extend lW @a (au (bz rfl @M @a @v @x @l) am))) (ac (cJ rfl (wv 0) (ng am))))),?_⟩];rwa[cK a.em cl W.fire (by show 7<1000;decide) ?_];have J:=a.putF M.last true M.bl;generalize O:upd H m (.ins C dx (ow h lc lw M.last true M.bl ll))=H1 at J
 have av:aQ H H1:=by rw [<-O];exact .updI a.em
 have e0:putF "fire" (.bl true) @cy=ow h lc lw M.last true M.bl ll:=rfl;rw [e0,O];clear O e0;rwa[bS J cl W.log (v:= .ref ll) rfl ?_];rwa[⟨.inl ⟨rfl,_,aN.of J.el⟩,?_⟩];rwa[bS J cl W.waiting (v:= .ref lw) rfl ?_];rwa[cz (aN.of J.ew) ?_];rwa[b4 (xs:=ys) (λj G I=>aq H1 I/\G.length=j/\aC K I G ((M.ws.take j).map λr=>vV r.tag)) @bu (λj G I h=>Nat.le_of_eq h.2.1) ⟨.refl _,rfl,.nil⟩ (λj G I _ h=>h.1.seq (aN.of J.ew)) @dB (λG I hP l n=> ?_)]
 ·obtain ⟨sx,Y,hd⟩:=hP;obtain ⟨r,L,dr⟩:=bE (f:=be.d) J.dw hy;have L:M.ws[j]? =some r:=L;obtain ⟨ra,rfl,hT⟩:=dP (bM.same dr sx);rwa[ju hT rfl ?_];rwa[⟨lY,?_⟩];rwa[b3 (bJ (by show 2<=1000000;decide)) λv H3 R n3 e3=>⟨sx.trans R,by simp [Y],?_⟩];rw [take_add_one,L,map_append];exact Paired.app (aC.same hd R) (.cons (d3 @em (.cons (.str _) (.cons (.int _) .nil))) .nil)
 obtain ⟨sx,Y,hd⟩:=hP;rw [yl,take_of_length_le @f] at hd;have aX:=J.same sx;have R:aq I (upd I l (.lst G)):= .upd n;have a3:=aX.same R;have e3:upd I l (.lst G) l=some (.lst G):=aj;generalize al:upd I l (.lst G)=H3 at R a3 e3 ⊢;rwa[Gv a3.el e3 @bu ?_];have U:=a3.setL (aC.same hd R) (EJ M.ws);generalize S:upd H3 ll (.lst (zs++G))=H4 at U
 have ad:aQ H H4:=by rw [<-S];exact av.trans ((sx.trans R).st.trans (.updL a3.el))
 clear S;rwa[mJ (bJ (by show 0<=1000000;decide)) λl5 H5 s5 Z e5=> ?_];have a5:=U.same s5
 have af:lc≠l5:=λz=>by rw [<-z,U.ec] at Z;cases Z
 have ab:l5≠ll:=λz=>by rw [z,U.el] at Z;cases Z
 rwa[cK a5.em cl W.waiting (by show 7<1000;decide) ?_];have a6:=a5.putW (rs:=[]) (none_of U.s Z) af ab e5 .nil;exact q _ ((ad.trans s5.st).trans (.updI a5.em)) ⟨dx,lc,l5,ll,xs,[],_,a6⟩
def jM (c:Cb):Bool:=decide (c.pl=0)&&decide (0<c.dr)&&decide (c.ps=[])
inductive ve (K:Fg)(vs:List V)(H:Hp)(Q:VK)(_e:XK):Prop
 |mk (t c:_) (_:vs=[.ref t]) (_:bZ K H t (Cb.pl c) (Cb.li c) (Cb.dr c) (Cb.mr c) (Cb.ps c)) (_:Q (.bl (jM c)) H)
theorem Fv (F:Z0 K "is_left" vM f fd)(U:mg "len"=none):az P w K mg base bg 1 f fd ["cabin"] (ve K):=by
 rwa[F.ok Ew (by symm) (λJ A outer s H R Q E Y h=> ?_)];obtain ⟨t,c,rfl,⟨b,j,G,W,I⟩,q⟩:=h;have O:=aD.of (K:=K) G;have L:=aM I;rwa[⟨_,@j,?_⟩];unfold jM at q;rwa[ae O rfl ?_];rwa[gw @k @k]
 ·rw [decide_eq_true z] at q;rwa[ae O rfl ?_];rwa[gw @ca @ca]
  ·rw [decide_eq_true (show 0<c.dr from S)] at q;rwa[ae O rfl ?_];erw[bh (aD.of W) ?_];have e:decide (((j.length:Nat):Int)=0)=decide (c.ps=[]):=decide_eq_decide.mpr ⟨λy=>length_eq_zero_iff.mp @c,λy=>by rw [L,y];rfl⟩;show Q (.bl (decide (((j.length:Nat):Int)=0))) H;rw [e];exact q
  ·rw [decide_eq_false (show ¬0<c.dr from S)] at q;exact q
 ·rw [decide_eq_false z] at q;exact q
def kI (M:MS):MS:=if M.cs.all jM=true then {M with fire:=false} else M
inductive zi (K:Fg)(C:Addr)(vs:List V)(H:Hp)(Q:VK)(_e:XK):Prop
 |mk (m h H0 M:_) (_:vs=[.ref m]) (_:fD K C H0 H m h M) (_:M.cs.length<=10) (_:∀H',aQ H H'->fD K C H0 H' m h (kI M)->Q .non H')
theorem JA {C:Addr}(F:Z0 K "do_calm" vT f fd)(O:sQ K C)(Nn:mg "all"=none)(yo:bf P w K mg base 1 "is_left" ["cabin"] (ve K)):az P w K mg base bg 2 f fd ["moment"] (zi K C):=by
 rwa[F.ok EC (by symm) @bv];obtain ⟨m,h,H0,M,rfl,⟨dx,lc,lw,ll,xs,ys,zs,a⟩,Y,q⟩:=h;have R:=O.i.cl;have W:xs.length=M.cs.length:=a.dc.len;rwa[⟨_,(ac (ax (cI rfl (aA (Oy rfl rfl) rfl Nn boot_all (au (bz rfl (aE (N':=["cabin"]) (pk:=[none]) @o) @a @l @x @l) am))) (ac (cJ rfl (wv 0) bW)) ar)),?_⟩];rwa[bS a R O.cabins (v:= .ref lc) rfl ?_];rwa[cz @bA ?_];rwa[b4 (xs:=xs) (λj I G=>G=H/\I=((M.cs.take j).map jM).map V.bl) @bu (λj I G h=>by rw [h.2,length_map,length_map,length_take];exact Nat.min_le_left _ _) ⟨rfl,rfl⟩ (λj I G _ h=>by rw [h.1];exact aN.of a.ec) (λj y I G hy J=> ?_) (λI G J l n=> ?_)]
 ·obtain ⟨rfl,rfl⟩:=J;obtain ⟨c,U,t,rfl,ht⟩:=a.dc.get1 hy;rwa[⟨cq,?_⟩];rwa[ve.mk _ _ rfl ht ⟨rfl,?_⟩];rw [take_add_one,U,map_append,map_append];rfl
 obtain ⟨rfl,rfl⟩:=J;rw [W,take_of_length_le @f];have L:aq G (upd G l (.lst ((M.cs.map jM).map V.bl))):= .upd n;have Z:=a.same L;have S:upd G l (.lst ((M.cs.map jM).map V.bl)) l=some (.lst ((M.cs.map jM).map V.bl)):=aj;generalize al:upd G l (.lst ((M.cs.map jM).map V.bl))=H3 at L Z S ⊢;clear al;rwa[Qe (bs:=M.cs.map jM) (aN.of S) ?_];rw [all_map];ext;unfold kI at q;by_cases z:M.cs.all jM=true
 ·rw [if_pos z] at q;rwa[bG z ?_];rwa[cK Z.em R O.fire (by show 7<1000;decide) ?_];exact q _ (L.st.trans (.updI Z.em)) ⟨dx,lc,lw,ll,xs,ys,zs,Z.putF M.last false M.bl⟩
 ·rw [if_neg z] at q;rwa[aL (by simpa using z) ?_];exact q _ L.st ⟨dx,lc,lw,ll,xs,ys,zs,Z⟩
def dR (M:MS)(i:Int):Cb:=M.cs.getD i.toNat ⟨0,0,0,0,[]⟩
noncomputable def bX (lo:Nat)(M:MS):Dd->MS
 | .come t s g k=>fI lo M t s g k
 | .lf x i=>if x=s!"block" then {M with bl:=M.bl|||2^i.toNat} else if x=s!"stick" then qT i 0 @dN M else if x=s!"goods" then qT i 1 @dN M else if x=s!"free" then lG i 0 @dN M else lG i 1 @dN M
 | .sg x=>if x=s!"fire" then Gr M else kI M
section
variable {lo:Nat}{M:MS}{i:Int}
theorem gk:bX lo M (.lf "block" i)= {M with bl:=M.bl|||2^i.toNat}:=by unfold bX;dsimp only;rw [if_pos rfl]
theorem ge:bX lo M (.lf "stick" i)=qT i 0 @dN M:=by unfold bX;dsimp only;rw [if_neg @i,if_pos rfl]
theorem gh:bX lo M (.lf "goods" i)=qT i 1 @dN M:=by unfold bX;dsimp only;rw [if_neg @i,if_neg @i,if_pos rfl]
theorem iB:bX lo M (.lf "free" i)=lG i 0 @dN M:=by unfold bX;dsimp only;rw [if_neg @i,if_neg @i,if_neg @i,if_pos rfl]
theorem iF:bX lo M (.lf "back" i)=lG i 1 @dN M:=by unfold bX;dsimp only;rw [if_neg @i,if_neg @i,if_neg @i,if_neg @i]
theorem iC:bX lo M (.sg "fire")=Gr M:=by unfold bX;dsimp only;rw [if_pos rfl]
theorem iE:bX lo M (.sg "calm")=kI M:=by unfold bX;dsimp only;rw [if_neg @i]
end
def Dd.fit (fl:Int)(n:Nat):Dd->Prop
 | .come _ s g _=>0<=s/\s<fl/\0<=g/\g<fl/\s≠g
 | .lf _ i=>0<=i/\i<(n:Int)
 | .sg _=>True
inductive Il (K:Fg)(C:Addr)(vs:List V)(H:Hp)(Q:VK)(_e:XK):Prop
 |mk (m a d h hs H0 M:_) (_:vs=[.ref m,.ref a]) (_:lS K H h hs) (_:sO H a d) (_:d.fit hs.fl hs.ls.length) (_:fD K C H0 H m h M) (_:M.ws.length<=1000) (_:M.log.length<=1000) (_:M.cs.length=hs.ls.length) (_:(∀c∈M.cs,0<=c.mr)) (_:∀H',aQ H H'->fD K C H0 H' m h (bX hs.lo M d)->Q .non H')
theorem PD {C:Addr}{t1 t2:Tok}(F:Z0 K "do_deed" vR f fd)(W:sQ K C)(we:mg "STUCK"=some (.int 0 t1))(Gg:mg "TAKEN"=some (.int 1 t2))(yu:bf P w K mg base 3 "do_come" ["moment","tag","start","goal","key"] (zh K C))(fQ:bf P w K mg base 2 "with_bit" ["mask","k"] iP)(uL:bf P w K mg base 3 "put_mark" ["moment","lift","mark"] (u6 K C))(si:bf P w K mg base 4 "lose_mark" ["moment","lift","mark"] (pV K C))(yt:bf P w K mg base 1 "do_fire" ["moment"] (zf K C))(yv:bf P w K mg base 2 "do_calm" ["moment"] (zi K C)):az P w K mg base bg 5 f fd ["moment","deed"] (Il K C):=by
 have Ms:aK (.int 0) (.int 0 t1):=⟨_,rfl⟩;have R:aK (.int 1) (.int 1 t2):=⟨_,rfl⟩;rwa[F.ok EA (by symm) @E];obtain ⟨m,da,d,h,hs,H0,M,rfl,Y,⟨hd,ok⟩,S,J,U,gl,cn,ab,q⟩:=h;have f8:=Y.1.f8;have l3:=Y.1.l3;rwa[⟨_,(aa @a (ac (ax @a @G (ac (ax @a (ac @dl) (ac (ax @a @G (ac (ax @a @G (ac (ax @a @G (ac (ax @a @G @eF))))))))))))),?_⟩]
 cases d with
 |come t s' g k=>
  have O:aD K H da [.str uk,.int t,.int s',.int g,.bl k]:=aD.of hd;have f8:=Y.1.f8;obtain ⟨_,_,g0,g1,_⟩:=S;rwa[ae O rfl ?_];rwa[bG rfl ?_];rwa[ae O rfl ?_];rwa[ae O rfl ?_];rwa[ae O rfl ?_];rwa[ae O rfl ?_];exact zh.mk _ _ _ _ _ _ _ _ _ rfl Y J U gl g0 @c λH' st I=>q H' st I
 |lf x i=>
  obtain ⟨i0,i1⟩:=S;obtain ⟨j,rfl⟩:=Int.eq_ofNat_of_zero_le i0;have O:aD K H da [.str x,.int (j:Int)]:=aD.of hd
  have hj:j<M.cs.length:=by lia
  have L:atC M (j:Int) (dR M (j:Int)):=⟨i0,by
   show M.cs[((j:Int)).toNat]? =some (M.cs.getD ((j:Int)).toNat _)
   rw [show ((j:Int)).toNat=j by lia,getD_eq_getElem?_getD,getElem?_eq_getElem hj];rfl⟩
  have Z:0<=(dR M (j:Int)).mr:=ab _ (mem_of_getElem? L.2);have ne:∀y z:Str,y≠z-> ¬y=z:=λ_ _ h=>h;rwa[ae O rfl ?_]
  rcases ok with G|G|G|G|G
  ·rw [G,gk,show ((j:Int)).toNat=j by lia] at q;rwa[bK (by rw [G];decide+kernel) ?_];rwa[fz G ?_];obtain ⟨dx,lc,lw,ll,xs,ys,zs,a⟩:=J;rwa[bS a W.i.cl W.blocked (v:= .int (M.bl:Int)) rfl ?_];rwa[ae O rfl ?_];rwa[iP.mk _ _ rfl @c ?_];rwa[cK a.em W.i.cl W.blocked (by show 7<1000;decide) ?_];exact q _ (.updI a.em) ⟨dx,lc,lw,ll,xs,ys,zs,a.putF M.last M.fire (M.bl|||2^j)⟩
  ·ext;rwa[bK (by rw [G];decide+kernel) ?_];rwa[bK (by rw [G];decide+kernel) ?_];rwa[fz G ?_];erw[ae O rfl ?_];rw [G,ge] at q;exact u6.mk _ _ _ _ _ _ 0 rfl @b J U L Z λH' st I=>q H' st I
  ·ext;rwa[bK (by rw [G];decide+kernel) ?_];rwa[bK (by rw [G];decide+kernel) ?_];rwa[bK (by rw [G];decide+kernel) ?_];rwa[bK (by rw [G];decide+kernel) ?_];rwa[fz G ?_];erw[ae O rfl ?_];rw [G,iB] at q;exact pV.mk _ _ _ _ _ _ 0 rfl @b J L Z λH' st I=>q H' st I
  ·ext;rwa[bK (by rw [G];decide+kernel) ?_];rwa[bK (by rw [G];decide+kernel) ?_];rwa[bK (by rw [G];decide+kernel) ?_];rwa[fz G ?_];erw[ae O rfl ?_];rw [G,gh] at q;exact u6.mk _ _ _ _ _ _ 1 rfl @b J U L Z λH' st I=>q H' st I
  ·ext;rwa[bK (by rw [G];decide+kernel) ?_];rwa[bK (by rw [G];decide+kernel) ?_];rwa[bK (by rw [G];decide+kernel) ?_];rwa[bK (by rw [G];decide+kernel) ?_];rwa[bK (by rw [G];decide+kernel) ?_];rwa[fz G ?_];erw[ae O rfl ?_];rw [G,iF] at q;exact pV.mk _ _ _ _ _ _ 1 rfl @b J L Z λH' st I=>q H' st I
 |sg x=>
  have O:aD K H da [.str x]:=aD.of hd;rwa[ae O rfl ?_]
  rcases ok with G|G
  ·ext;rwa[bK (by rw [G];decide+kernel) ?_];rwa[bK (by rw [G];decide+kernel) ?_];rwa[bK (by rw [G];decide+kernel) ?_];rwa[bK (by rw [G];decide+kernel) ?_];rwa[bK (by rw [G];decide+kernel) ?_];rwa[bK (by rw [G];decide+kernel) ?_];erw[fz G ?_];rw [G,iC] at q;exact zf.mk _ _ _ _ rfl J U gl λH' st I=>q H' st I
  ·ext;rwa[bK (by rw [G];decide+kernel) ?_];rwa[bK (by rw [G];decide+kernel) ?_];rwa[bK (by rw [G];decide+kernel) ?_];rwa[bK (by rw [G];decide+kernel) ?_];rwa[bK (by rw [G];decide+kernel) ?_];rwa[bK (by rw [G];decide+kernel) ?_];erw[bK (by rw [G];decide+kernel) ?_];rw [G,iE] at q;exact zi.mk _ _ _ _ rfl J @c λH' st I=>q H' st I
abbrev wP:=List Cb->List be->be->Int->Int×Int
inductive uq (K:Fg)(GG:Hp->Prop)(pre:List Cb->List be->be->Int->Prop)(dl:wP)(vs:List V)(H:Hp)(Q:VK)(_e:XK):Prop
 |mk (tc tw x cs ws r last xs ys:_) (_:vs=[.ref tc,.ref tw,x,.int last]) (_:H tc=some (.tup xs)) (_:Paired @gg xs cs) (_:H tw=some (.tup ys)) (_:aC K H ys @eS) (_:bM K H x (be.d r)) (_:GG H) (_:pre cs ws r last) (_:∀t H',bu H H'->GG H'->H' t=some (.tup [.int (dl cs ws r last).1,.int (dl cs ws r last).2])->Q (.ref t) H')
noncomputable def Mo (t i:Int):D:= .tup [.str "deal",.int t,.int i]
noncomputable def gK (dl:wP)(M:MS)(p:Nat)(r:be):MS:=if (dl M.cs M.ws r M.last).1= -1 then {M with last:=(dl M.cs M.ws r M.last).2} else {M with last:=(dl M.cs M.ws r M.last).2,ws:=M.ws.set p {r with lift:=(dl M.cs M.ws r M.last).1},log:=M.log++[Mo r.tag (dl M.cs M.ws r M.last).1]}
inductive vi (P:Program)(w:World)(K:Fg)(mg:Str->Option Value)(base:Heap)(C:Addr)(GG:Hp->Prop)(pre:List Cb->List be->be->Int->Prop)(dl:wP)(vs:List V)(H:Hp)(Q:VK)(_e:XK):Prop
 |mk (m df x h H0 M r:_) (p:Nat) (_:vs=[.ref m,.ref df,.int (p:Int),x]) (_:m8 P w K mg base 5 df @fp) (_:GG H) (_:NT H0) (_:fD K C H0 H m h M) (_:bM K H x (be.d r)) (_:p<M.ws.length) (_:M.ws.length<=1000) (_:M.log.length<=1000) (_:M.cs.length<=10) (_:pre M.cs M.ws r M.last) (_:∀H',eI H H'->GG H'->fD K C H0 H' m h @hc->Q .non H')
theorem A9 {C:Addr}{GG:Hp->Prop}{pre:List Cb->List be->be->Int->Prop}{dl:wP}{t1:Tok}(F:Z0 K "deal" AZ f fd)(gT:GT GG)(O:sQ K C)(bc:mg "tuple"=none)(br:mg "NO_LIFT"=some (.int (-1) t1))(fc:Z04 P w K mg base):az P w K mg base bg 6 f fd ["moment","dealer","place","rider"] (vi P w K mg base C GG pre dl):=by
 have fW:aK (.int (-1)) (.int (-1) t1):=⟨_,rfl⟩;rwa[F.ok ED (by symm) (λal A outer s H vs Q E hr h=> ?_)];obtain ⟨m,df,x,h,H0,M,r,p,rfl,W,hg,nt,⟨dx,lc,lw,ll,xs,ys,zs,a⟩,hx,pw,wl,gl,aj,ab,q⟩:=h;have U:=O.i.cl;have yl:ys.length=M.ws.length:=aM a.dw;have zl:zs.length=M.log.length:=a.dl.len;obtain ⟨ra,rfl,hT⟩:=dP hx;rwa[⟨_,(aa (bp (i:=4) ED.nd rfl @q (E7 1 hr rfl @q (au (bD @el rfl bc boot_tuple @bi) (au (bD @el rfl bc boot_tuple @bi) (au (wv 3) @bi))))) (aa @dl (ac (ax @a (aa @dm @G) ar)))),?_⟩];rwa[⟨df,5,_,rfl,by decide,W,?_⟩];rwa[bS a U O.cabins (v:= .ref lc) rfl ?_];rwa[jw @bA λtc H1 s1 n1 e1=> ?_];have a1:=a.same s1;rwa[bS a1 U O.waiting (v:= .ref lw) rfl ?_];rwa[jw (aN.of a1.ew) λtw H2 s2 n2 e2=> ?_];have a2:=a1.same s2;have J:=s1.trans s2;rwa[bS a2 U O.last (v:= .int M.last) rfl ?_];rwa[⟨tc,tw,.ref ra,M.cs,M.ws,r,M.last,xs,ys,rfl,s2 _ _ e1,a2.dc,e2,a2.dw,bM.same hx J,gT _ _ J.st hg,ab,λt H3 s3 g3 e3=> ?_⟩];have Z:=a2.sameN nt s3;have ah:eI H H3:=J.st.sx.trans s3.sx;unfold gK at q;generalize ak:(dl M.cs M.ws r M.last).1=d1 at *;generalize ai:(dl M.cs M.ws r M.last).2=R at *;rwa[ae @em rfl ?_];rwa[cK Z.em U O.last (by show 7<1000;decide) ?_];have a4:=Z.putF R M.fire M.bl;have e0:putF "last" (.int R) @cy=ow h lc lw R M.fire M.bl ll:=rfl;rw [e0];generalize S:upd H3 m (.ins C dx (ow h lc lw R M.fire M.bl ll))=H4 at a4 ⊢
 have ad:eI H H4:=by rw [<-S];exact ah.trans (aQ.updI Z.em).sx
 have g4:GG H4:=by rw [<-S];exact gT _ _ (aQ.updI Z.em) g3
 have L:aD K H4 t [.int d1,.int R]:=by rw [<-S];exact (aQ.updI Z.em).sqT @em
 clear S;erw[ae L rfl ?_];by_cases z:d1= -1
 ·rw [if_pos z] at q;rwa[aL (by simp [z]) ?_];exact q _ ad g4 ⟨dx,lc,lw,ll,xs,ys,zs,a4⟩
 ·rw [if_neg z] at q;rwa[bG (by simp [z]) ?_];rwa[ae L rfl ?_];rwa[jZ.mk _ _ _ rfl (ad.den hx rfl) λv H5 s5 dv=> ?_];have I:=a4.same s5;rwa[bS I U O.waiting (v:= .ref lw) rfl ?_];rwa[kz (j:=p) I.ew (by unfold CP;rw [if_pos @c,if_pos @c];congr 1) ?_]
  have ag:aC K H5 (ys.set p v) ((M.ws.set p {r with lift:=d1}).map be.d):=by
   rw [map_set];exact qY I.dw dv
  have a6:=I.setW ag;generalize G:upd H5 lw (.lst (ys.set p v))=H6 at a6 ⊢
  have Y:eI H H6:=by rw [<-G];exact (ad.trans s5.st.sx).trans (aQ.updL I.ew).sx
  have g6:GG H6:=by rw [<-G];exact gT _ _ (s5.st.trans (.updL I.ew)) g4
  have af:aD K H6 t [.int d1,.int R]:=by rw [<-G];exact (aQ.updL I.ew).sqT (s5.seqT L)
  clear G;rwa[bS a6 U O.log (v:= .ref ll) rfl ?_];rwa[⟨.inl ⟨rfl,_,aN.of a6.el⟩,?_⟩];rwa[ae (Y.sqT hT) rfl ?_];rwa[ae af rfl ?_];rwa[b3 (bJ (by show 3<=1000000;decide)) λg7 H7 s7 n7 e7=> ?_];have a7:=a6.same s7;rwa[iK a7.el @dA ?_];exact q _ ((Y.trans s7.st.sx).trans (aQ.updL a7.el).sx) (gT _ _ (s7.st.trans (.updL a7.el)) g6) ⟨dx,lc,lw,ll,xs,_,_,a7.setL (ds:=[Mo r.tag d1]) (.cons (d3 (aD.of e7) (.cons (.str _) (.cons (.int _) (.cons (.int _) .nil)))) .nil) rfl⟩
noncomputable def aZ (dl:wP)(W:List be):Nat->MS->MS
 |0,M=>M
 |i+1,M=>match W[i]? with
  |some r=>if r.lift= -1 then gK dl @gh i r else aZ dl W i M
  |none=>aZ dl W i M
inductive mh (P:Program)(w:World)(K:Fg)(mg:Str->Option Value)(base:Heap)(C:Addr)(GG:Hp->Prop)(pre:List Cb->List be->be->Int->Prop)(dl:wP)(vs:List V)(H:Hp)(Q:VK)(_e:XK):Prop
 |mk (m df h H0 M:_) (_:vs=[.ref m,.ref df]) (_:m8 P w K mg base 5 df @fp) (_:GG H) (_:NT H0) (_:fD K C H0 H m h M) (_:M.ws.length<=500) (_:M.log.length<=400) (_:M.cs.length<=10) (_:(∀i r,M.ws[i]? =some r->r.lift= -1->pre (aZ dl M.ws i M).cs (aZ dl M.ws i M).ws r (aZ dl M.ws i M).last)) (_:∀H',eI H H'->GG H'->fD K C H0 H' m h (aZ dl M.ws M.ws.length M)->Q .non H')
theorem C3 {dl:wP}{M:MS}{p:Nat}{r:be}:(gK dl M p r).ws.length=M.ws.length/\(gK dl M p r).cs=M.cs/\(gK dl M p r).log.length<=M.log.length+1:=by
 unfold gK;split
 ·exact ⟨rfl,rfl,Nat.le_succ _⟩
 ·exact ⟨length_set,rfl,by simp⟩
theorem eV {dl:wP}{W:List be}{M:MS}:∀i,(aZ dl W i M).ws.length=M.ws.length/\(aZ dl W i M).cs=M.cs/\(aZ dl W i M).log.length<=M.log.length+i
 |0=>⟨rfl,rfl,by simp [aZ]⟩
 |i+1=>by
  have h:=eV (dl:=dl) (W:=W) (M:=M) i;unfold aZ;split
  ·rename_i r _;split
   ·have g:=C3 (dl:=dl) (M:=aZ dl W i M) (p:=i) (r:=r);exact ⟨g.1.trans h.1,g.2.1.trans h.2.1,by have:=g.2.2;lia⟩
   ·exact ⟨h.1,h.2.1,by lia⟩
  ·exact ⟨h.1,h.2.1,by lia⟩
def iG (H:Hp)(m lc lw ll:Addr):Hp:=λb=>if b=m\/b=lc\/b=lw\/b=ll then none else H b
theorem C8 {H:Hp}{m lc lw ll:Addr}:aq @cI H:=λb u z=>by
 unfold iG at z;split at z
 ·cases z
 ·exact z
theorem gL {H:Hp}{m lc lw ll b:Addr}{u:HO}(h:H b=some u)(h1:b≠m)(h2:b≠lc)(L:b≠lw)(j:b≠ll):iG H m lc lw ll b=some u:=by
 unfold iG;rw [if_neg (λz=>by rcases z with z|z|z|z;exact h1 z;exact h2 z;exact L z;exact j z)];exact h
theorem dS.wide {C:Addr}{H0 H:Hp}{m h dx lc lw ll:Addr}{xs ys zs:List V}{M:MS}(a:dS K C H0 H m h dx lc lw ll xs ys zs M):dS K C @cI H m h dx lc lw ll xs ys zs M/\aq H0 @cI:=by
 rwa[⟨⟨C8,if_pos (.inl rfl),if_pos (.inr (.inl rfl)),if_pos (.inr (.inr (.inl rfl))),if_pos (.inr (.inr (.inr rfl))),a.cw,a.cl,a.wl,a.em,a.ec,a.ew,a.el,a.dc,a.dw,a.dl,a.ln⟩,λb u z=> ?_⟩];exact gL (a.s _ _ z) (λe=>by rw [e,a.nm] at z;cases z) (λe=>by rw [e,a.nc] at z;cases z) (λe=>by rw [e,a.nw] at z;cases z) (λe=>by rw [e,a.nl] at z;cases z)
theorem dS.wideN {C:Addr}{H0 H:Hp}{m h dx lc lw ll:Addr}{xs ys zs:List V}{M:MS}(j:NT H0)(a:dS K C H0 H m h dx lc lw ll xs ys zs M):dS K C (rb @cI) H m h dx lc lw ll xs ys zs M/\aq H0 (rb @cI):=by
 obtain ⟨b,s⟩:=a.wide;rwa[⟨⟨(q9 _).trans b.s,mF b.nm,mF b.nc,mF b.nw,mF b.nl,a.cw,a.cl,a.wl,a.em,a.ec,a.ew,a.el,a.dc,a.dw,a.dl,a.ln⟩,λx u z=> ?_⟩];exact lF (s _ _ z) (λps e=>j x ps (by rw [z,e]))
theorem fD.onto {C:Addr}{H0 j H:Hp}{m h:Addr}{M:MS}(s:aq H0 j)(z:fD K C j H m h M):fD K C H0 H m h M:=by
 obtain ⟨dx,lc,lw,ll,xs,ys,zs,a⟩:=z;exact ⟨dx,lc,lw,ll,xs,ys,zs,s.trans a.s,none_of s a.nm,none_of s a.nc,none_of s a.nw,none_of s a.nl,a.cw,a.cl,a.wl,a.em,a.ec,a.ew,a.el,a.dc,a.dw,a.dl,a.ln⟩
theorem fD.s {C:Addr}{H0 H:Hp}{m h:Addr}{M:MS}(z:fD K C H0 H m h M):aq H0 H:=let ⟨_,_,_,_,_,_,_,a⟩:=z;a.s
theorem FE {C:Addr}{GG:Hp->Prop}{pre:List Cb->List be->be->Int->Prop}{dl:wP}{t1:Tok}(F:Z0 K "deal_all" my f fd)(gT:GT GG)(cM:sQ K C)(eG:mg "list"=none)(dg:mg "enumerate"=none)(br:mg "NO_LIFT"=some (.int (-1) t1))(Bx:bf P w K mg base 6 "deal" ["moment","dealer","place","rider"] (vi P w K mg base C GG pre dl)):az P w K mg base bg 7 f fd ["moment","dealer"] (mh P w K mg base C GG pre dl):=by
 have fW:aK (.int (-1)) (.int (-1) t1):=⟨_,rfl⟩;rwa[F.ok Cc (by symm) (λah A outer s H vs Q E hr h=> ?_)];obtain ⟨m,df,h,H0,M,rfl,O,hg,nt,⟨dx,lc,lw,ll,xs,ys,zs,a⟩,wl,gl,af,Y,q⟩:=h;have cl:=cM.i.cl;have yl:ys.length=M.ws.length:=aM a.dw;rwa[⟨_,(ac (cO PassesOwn.never rfl (AJ rfl rfl dg @ct) @a (ac (ax @a @G ar)))),?_⟩];rwa[bS a cl cM.waiting (v:= .ref lw) rfl ?_];rwa[mK (.inl @gv) λlk H1 s1 n1 e1=> ?_];have a1:=a.same s1;have ag:H0 lk=none:=none_of a.s n1;erw[.inl ⟨ys,aN.of e1,?_⟩];obtain ⟨aw,sw⟩:=a1.wideN nt;have Z:NT (rb (iG H1 m lc lw ll)):=Ab _;generalize ad:rb (iG H1 m lc lw ll)=Hc at aw sw Z
 have kk:∀ {p:Addr} {us:List V},H1 p=some (.lst us)->p≠m:=λ{p us} e z=>by rw [z,a1.em] at e;cases e
 have I:∀ {p:Addr} {o:HO},H p=some o->lk≠p:=λ{p o} e z=>by rw [<-z,n1] at e;cases e
 have ek:Hc lk=some (.lst ys):=by rw [<-ad];exact lF (gL e1 (kk e1) (I a.ec) (I a.ew) (I a.el)) (λ_ z=>by cases z)
 have dy:∀ {i:Nat} {x:V},ys[i]? =some x->∃r b,M.ws[i]? =some r/\x= .ref b/\bM K H1 (.ref b) r.d:=λ{i x} j=>by
  obtain ⟨r,aj,dr⟩:=bE (f:=be.d) a1.dw j;obtain ⟨b,rfl,_⟩:=dP dr;exact ⟨r,b,aj,rfl,dr⟩
 rwa[Gk (xs:=ys) (λi σ L=>eI H1 L/\fD K C Hc L m h @gS/\GG L/\∃o2 o3,σ=[some (.ref m),some (.ref df),o2,o3]) ⟨.refl _,⟨dx,lc,lw,ll,xs,ys,zs,aw⟩,gT _ _ s1.st hg,_,_,rfl⟩ (λi σ L _ R=>aN.of (R.2.1.s _ _ ek)) (λi x σ L T HY j R sT eT=> ?_) (λσ L R=> ?_)]
 ·obtain ⟨st,hM,gX,o2,o3,rfl⟩:=R;have gY:=gT _ _ sT.st gX;obtain ⟨r,b,aj,rfl,dr⟩:=dy j;have hi:i<M.ws.length:=(List.getElem?_eq_some_iff.mp aj).1;have hl:=eV (dl:=dl) (W:=M.ws) (M:=M) i;have J:=st.trans sT.st.sx;have G:=hM.same sT;have U:bM K HY (.ref b) r.d:=J.den dr rfl;obtain ⟨b',ab,hT⟩:=dP U;cases ab
  have nx:aZ dl M.ws (i+1) M=if r.lift= -1 then gK dl @gS i r else aZ dl M.ws i M:=by
   show (match M.ws[i]? with|some r=>_|none=>_)=_;rw [aj]
  rwa[ju (aD.of eT) rfl ?_];erw[ae hT rfl ?_];by_cases z:r.lift= -1
  ·rw [if_pos z] at nx;rwa[bG @du ?_];rwa[vi.mk _ _ _ _ _ _ _ _ rfl O gY Z G U @c @c @c (by rw [hl.2.1];lia) (Y i r aj z) λHZ aa gZ S=> ?_];rw [<-nx] at S;exact ⟨J.trans aa,S,gZ,_,_,rfl⟩
  ·rw [if_neg z] at nx;rwa[aL (decide_eq_false z) ?_];rw [<-nx] at G;exact ⟨J,G,gY,_,_,rfl⟩
 ·obtain ⟨st,hM,gX,o2,o3,rfl⟩:=R;rw [yl] at hM;exact q _ (s1.st.sx.trans st) gX (hM.onto sw)
def IJ (wd:Str)(t i fl:Int):D:= .tup [.str wd,.int t,.int i,.int fl]
theorem EK (j:Str)(i fl:Int)(ts:List Int):noLs (ts.map λt=>IJ j t i fl)=true:=by
 induction ts with
 |nil=>rfl
 |cons r rs ih=>rw [map_cons,noLs,ih];rfl
def jL (M:MS)(wd:Str)(ts:List Int)(i:Int)(c:Cb):MS:= {M with log:=M.log++ts.map λt=>IJ wd t i (c.pl / 2)}
inductive vd (K:Fg)(C:Addr)(vs:List V)(H:Hp)(Q:VK)(_e:XK):Prop
 |mk (m wd tg i h H0 M c:_) (ts:List Int) (_:vs=[.ref m,.str wd,.ref tg,.int i]) (_:fD K C H0 H m h M) (_:atC M i c) (_:(∃us,aN K H0 tg us/\us=ts.map V.int)) (_:ts.length<=1000) (_:M.log.length<=3000) (_:∀H',aQ H H'->fD K C H0 H' m h (jL M wd ts i c)->Q .non H')
theorem Ba {C:Addr}{H H0:Hp}{m tg h:Addr}{j:Str}{i:Int}{M:MS}{c:Cb}{ts:List Int}{Q:VK}{E:XK}(h1:fD K C H0 H m h M)(h2:atC M i c)(L:aN K H0 tg (ts.map V.int))(z:ts.length<=1000)(S:M.log.length<=3000)(q:∀H',aQ H H'->fD K C H0 H' m h (jL M j ts i c)->Q .non H'):vd K C [.ref m,.str j,.ref tg,.int i] H Q E:=⟨m,j,tg,i,h,H0,M,c,ts,rfl,h1,h2,⟨_,L,rfl⟩,z,S,q⟩
theorem Jr {C:Addr}(F:Z0 K "log_steps" nU f fd)(Y:sQ K C)(cj:Z02 P w K mg base):az P w K mg base bg 2 f fd ["moment","word","tags","lift"] (vd K C):=by
 rwa[F.ok zx (by symm) @E];obtain ⟨m,wd,tg,i,h,H0,M,c,S,rfl,⟨dx,lc,lw,ll,xs,ys,zs,a⟩,hc,⟨z,W,rfl⟩,tl,gl,q⟩:=h;obtain ⟨t,hx,hi,ht,ab⟩:=a.atC hc;have cl:=Y.i.cl;have zl:zs.length=M.log.length:=a.dl.len;rwa[⟨_,(aa @a (ac (aO (gD rfl PySem.F.plainAttrs_list PySem.F.slot_list_extend PySem.F.type_list_extend lW @a (au (bz rfl (aE (N':=["tag","word","lift","floor"]) (pk:=[none,some 1,some 3,some 4]) @o) @a @l @x @l) am))))),?_⟩];rwa[bS a cl Y.cabins (v:= .ref lc) rfl ?_];rwa[cP @bA hi ?_];rwa[c4.mk _ _ _ _ _ _ rfl ht ?_];rwa[bS a cl Y.log (v:= .ref ll) rfl ?_];erw[⟨.inl ⟨rfl,_,aN.of a.el⟩,?_⟩];have hL:=a.s.seq W;rwa[cz hL ?_];rwa[b4 (xs:=S.map V.int) (λj z G=>aq H G/\z.length=j/\aC K G z ((S.take j).map λt=>IJ wd t i (c.pl / 2))) (bJ (by rw [length_map];lia)) (λj z G h=>Nat.le_of_eq h.2.1) ⟨.refl _,rfl,.nil⟩ (λj z G _ h=>h.1.seq hL) (λj y z G hy R=> ?_) (λz G R l n=> ?_)]
 ·obtain ⟨U,J,O⟩:=R;rw [getElem?_map] at hy;obtain ⟨v,hv,rfl⟩:=Option.map_eq_some_iff.mp hy;rwa[⟨cq,?_⟩];rwa[b3 (bJ (by show 4<=1000000;decide)) λb H3 L n3 I=>⟨U.trans L,by simp [J],?_⟩];rw [take_add_one,hv,map_append];exact Paired.app (aC.same O L) (.cons (d3 (aD.of I) (.cons (.str _) (.cons (.int _) (.cons (.int _) (.cons (.int _) .nil))))) .nil)
 obtain ⟨U,J,O⟩:=R;rw [length_map,take_of_length_le @f] at O;rw [length_map] at J;have aX:=a.same U;have L:aq G (upd G l (.lst z)):= .upd n;have Z:=aX.same L;have I:upd G l (.lst z) l=some (.lst z):=aj;generalize al:upd G l (.lst z)=H3 at L Z I ⊢;rwa[Gv Z.el I @bu ?_];exact q _ ((U.trans L).st.trans (.updL Z.el)) ⟨dx,lc,lw,ll,xs,ys,_,Z.setL (aC.same O L) (EK wd i _ S)⟩
noncomputable def cf (M:MS)(i:Int)(c:Cb):MS:= {M with cs:=M.cs.set i.toNat c}
def aT (c:Cb):List (Int×Int):=if 0<c.dr then c.ps else []
theorem mE (c:Cb):(aT c).length<=c.ps.length:=by
 unfold aT;split
 ·exact Nat.le_refl _
 ·exact Nat.zero_le _
noncomputable def pf (M:MS)(i:Int)(c:Cb)(l:Lf):MS:=cf (jL M "out" ((aT c).map (·.1)) i c) i ⟨0,0,l.tn,c.mr,c.ps.drop (aT c).length⟩
inductive za (K:Fg)(C:Addr)(vs:List V)(H:Hp)(Q:VK)(_e:XK):Prop
 |mk (m i h hs l H0 M c:_) (_:vs=[.ref m,.int i]) (_:lS K H0 h hs) (_:hs.ls[i.toNat]? =some l) (_:fD K C H0 H m h M) (_:atC M i c) (_:c.ps.length<=200) (_:M.log.length<=3000) (_:∀H',aQ H H'->fD K C H0 H' m h (pf M i c l)->Q .non H')
theorem qX {H:Hp}{bs:List V}{ps:List (Int×Int)}(d:aC K H bs @di){j:Nat}{y:V}(R:bs[j]? =some y):∃p t,ps[j]? =some p/\y= .ref t/\aD K H t [.int p.1,.int p.2]:=by
 obtain ⟨p,G,L⟩:=bE (f:=bF) d R;obtain ⟨t,xs,rfl,h1,h2⟩:=L.outT
 cases h2 with|cons q0 t0=>cases t0 with|cons q1 t1=>
 cases t1;cases q0.isInt;cases q1.isInt;exact ⟨p,t,G,rfl,h1⟩
theorem Paired.drop' {α β:Type}{R:α->β->Prop}:∀ {n:Nat} {xs:List α} {ys:List β},Paired R xs ys->Paired R (xs.drop n) (ys.drop n)
 |0,_,_,h=>h
 |n+1,[],_,h=>by cases h;exact .nil
 |n+1,x::xs,_,h=>by
  cases h with
  |cons _ t=>exact Paired.drop' (n:=n) t
theorem Jo {C:Addr}(F:Z0 K "open_below" k9 f fd)(cM:sQ K C)(bo:mg "len"=none)(gt:bf P w K mg base 2 "log_steps" ["moment","word","tags","lift"] (vd K C))(fb:bf P w K mg base 1 "turns_of" ["house","lift"] @cs):az P w K mg base bg 3 f fd ["moment","lift"] (za K C):=by
 rwa[F.ok jD (by symm) (λaK A outer s H vs Q E hr h=> ?_)];obtain ⟨m,i,h,hs,l,H0,M,c,rfl,hH,hl,hM,hc,ai,gl,q⟩:=h;have aJ:=hM;obtain ⟨dx,lc,lw,ll,xs,ys,zs,a⟩:=hM;obtain ⟨t,hx,hi,ht,aQ⟩:=a.atC hc;obtain ⟨b,R,et,eb,db⟩:=id ht;have hT:=aD.of (K:=K) et;have bl:R.length=c.ps.length:=aM db;have cl:=cM.i.cl;rwa[⟨_,(aa (bp (i:=2) jD.nd rfl @q (av @h @fs (wv 1) @d)) (aa (bp (i:=3) jD.nd rfl @q (AK (aP sS @F ag (aG _)) @F (cW am))) (aa (aO (bV gt hr @b rfl (au (wv 0) (au aS (au (bz rfl @bP (dJ rfl (wv 3)) @w @x @O) @be))))) (ac (g9 (cW (au ag (au ag (au (bV fb hr @b rfl (au @fs @be)) (au @F (au (im (Oo rfl) @F (iN (aA @ch rfl bo PySem.boot_len @en)) mz) am)))))) (hU @fs (wv 1) kq)))))),?_⟩];rwa[bS a cl cM.cabins (v:= .ref lc) rfl ?_];rwa[cP @bA hi ?_];erw[ae hT rfl ?_];by_cases hd:0<c.dr
 ·rwa[bG (decide_eq_true hd) ?_];rwa[ae hT rfl ?_];have eo:aT c=c.ps:=if_pos hd;obtain ⟨os,hO,dO⟩:∃os,aD K H b os/\aC K H os ((aT c).map bF):=⟨R,aD.of eb,by rw [eo];exact db⟩;have s1:aq H H:= .refl _;rwa[cZ hO ?_];have ol:os.length=(aT c).length:=aM dO;have aB:(aT c).length<=200:=Nat.le_trans (mE c) ai;rwa[cN (xs:=os) (λj us I=>aq H I/\us=((aT c).take j).map λp=>V.int p.1) @bu (λj us I h=>by rw [h.2,length_map,length_take];exact Nat.min_le_left _ _) ⟨.refl _,rfl⟩ (λj us I _ h=>h.1.seqT hO) (λj y us I hy hP=> ?_) (λus I hP S n2=> ?_)]
  ·obtain ⟨U,rfl⟩:=hP;obtain ⟨p,pt,hp,rfl,al⟩:=qX dO hy;rwa[ju @gH rfl ?_];rwa[⟨ii,?_⟩];rwa[⟨U,?_⟩];rw [take_add_one,hp,map_append];rfl
  obtain ⟨U,rfl⟩:=hP;rw [ol,take_of_length_le @f];have s2:aq I (upd I S (.lst ((aT c).map λp=>V.int p.1))):= .upd n2;have e2:upd I S (.lst ((aT c).map λp=>V.int p.1)) S=some (.lst ((aT c).map λp=>V.int p.1)):=aj;generalize ax:upd I S (.lst ((aT c).map λp=>V.int p.1))=H2 at s2 e2 ⊢;have W:=s1.trans @hh;have a2:=a.same W;obtain ⟨aw,sw⟩:=a2.wide
  have nk:∀ {p:Addr} {o:HO},I p=some o->S≠p:=λ{p o} e z=>by rw [<-z,n2] at e;cases e
  have L:=s1.trans U;have ek:iG H2 m lc lw ll S=some (.lst ((aT c).map λp=>V.int p.1)):=gL e2 (nk (L _ _ a.em)) (nk (L _ _ a.ec)) (nk (L _ _ a.ew)) (nk (L _ _ a.el));generalize aH:iG H2 m lc lw ll=Hc at aw sw ek;rwa[Ba (ts:=(aT c).map (·.1)) ⟨dx,lc,lw,ll,xs,ys,zs,aw⟩ hc (by rw [map_map];exact aN.of ek) (by rw [length_map];lia) gl λH3 ab ar=> ?_];obtain ⟨ap,af,an,as,ay,ao,ak,a3⟩:=ar;have G:=W.st.trans ab;rwa[bS a3 cl cM.house (v:= .ref h) rfl ?_];rwa[kj.mk (g:=λl=> .int l.tn) _ _ _ _ rfl ((hH.same @fE)) hc.1 hl ?_];rwa[ae @fX rfl ?_];rwa[ae @fX rfl ?_];rwa[bh ((U.trans s2).st.trans ab |>.sqT hO) ?_];rw [ol];ext;have ah:=G.dens db (io c.ps)
  have ad:∀(b':Addr) (J:List V) Y,aq H3 Y->Y b'=some (.tup J)->aC K Y J ((c.ps.drop (aT c).length).map bF)->JJ [.int 0,.int 0,.int l.tn,.int c.mr,.ref b'] Y λv H5=>pz K "cabins" m H5 λo H6=>HQ o (.int i) v H6 λH7=>Q .non H7:=by
   intro b' J Y s4 e4 d4;rwa[b3 (bJ (by show 5<=1000000;decide)) λr H5 s5 n5 e5=> ?_];have a5:=a3.same @hd;rwa[bS a5 cl cM.cabins (v:= .ref af) rfl ?_];obtain ⟨t3,_,_,_,Z⟩:=a3.atC (c:=c) hc;rwa[kz (j:=i.toNat) a5.ec (mQ hc.1 Z) ?_];have a6:=a5.setC (i:=i.toNat) (c:=⟨0,0,l.tn,c.mr,c.ps.drop (aT c).length⟩) ⟨r,rfl,b',J,e5,s5 _ _ e4,aC.same d4 s5⟩;exact q _ ((G.trans (s4.trans s5).st).trans (.updL a5.ec)) (fD.onto sw ⟨ap,af,an,as,_,ao,ak,a6⟩)
  have O:fB R (some ((aT c).length:Int)) none=R.drop (aT c).length:=by
   unfold fB;rw [show HT.sIx R.length 0 (some ((aT c).length:Int))=min (aT c).length R.length from HT.sIx_nat _ _ _]
   have:(aT c).length<=R.length:=by rw [bl];exact mE c
   rw [Nat.min_eq_left this,HT.sIx_none,take_of_length_le (by rw [length_drop];exact Nat.le_refl _)]
  rwa[KL (G.sqT @fc) (λe=> ?_) (λl4 Y s4 e4=> ?_)]
  ·rw [O] at e;exact ad b R H3 (.refl _) (G.tup eb) (by rw [List.map_drop,<-e];exact Paired.drop' ah)
  ·rw [O] at e4;exact ad l4 _ Y s4 e4 (by rw [List.map_drop];exact Paired.drop' (aC.same ah s4))
 ·rwa[aL (decide_eq_false hd) ?_];rwa[b3 (bJ (by show 0<=1000000;decide)) λob H1 s1 n1 e1=> ?_];have eo:aT c=[]:=if_neg hd;obtain ⟨os,hO,dO⟩:∃os,aD K H1 ob os/\aC K H1 os ((aT c).map bF):=⟨[],aD.of e1,by rw [eo];exact .nil⟩;rwa[cZ hO ?_];have ol:os.length=(aT c).length:=aM dO;have aB:(aT c).length<=200:=Nat.le_trans (mE c) ai;rwa[cN (xs:=os) (λj us I=>aq H1 I/\us=((aT c).take j).map λp=>V.int p.1) @bu (λj us I h=>by rw [h.2,length_map,length_take];exact Nat.min_le_left _ _) ⟨.refl _,rfl⟩ (λj us I _ h=>h.1.seqT hO) (λj y us I hy hP=> ?_) (λus I hP S n2=> ?_)]
  ·obtain ⟨U,rfl⟩:=hP;obtain ⟨p,pt,hp,rfl,al⟩:=qX dO hy;rwa[ju @gH rfl ?_];rwa[⟨ii,?_⟩];rwa[⟨U,?_⟩];rw [take_add_one,hp,map_append];rfl
  obtain ⟨U,rfl⟩:=hP;rw [ol,take_of_length_le @f];have s2:aq I (upd I S (.lst ((aT c).map λp=>V.int p.1))):= .upd n2;have e2:upd I S (.lst ((aT c).map λp=>V.int p.1)) S=some (.lst ((aT c).map λp=>V.int p.1)):=aj;generalize ax:upd I S (.lst ((aT c).map λp=>V.int p.1))=H2 at s2 e2 ⊢;have W:=s1.trans @hh;have a2:=a.same W;obtain ⟨aw,sw⟩:=a2.wide
  have nk:∀ {p:Addr} {o:HO},I p=some o->S≠p:=λ{p o} e z=>by rw [<-z,n2] at e;cases e
  have L:=s1.trans U;have ek:iG H2 m lc lw ll S=some (.lst ((aT c).map λp=>V.int p.1)):=gL e2 (nk (L _ _ a.em)) (nk (L _ _ a.ec)) (nk (L _ _ a.ew)) (nk (L _ _ a.el));generalize aH:iG H2 m lc lw ll=Hc at aw sw ek;rwa[Ba (ts:=(aT c).map (·.1)) ⟨dx,lc,lw,ll,xs,ys,zs,aw⟩ hc (by rw [map_map];exact aN.of ek) (by rw [length_map];lia) gl λH3 ab ar=> ?_];obtain ⟨ap,af,an,as,ay,ao,ak,a3⟩:=ar;have G:=W.st.trans ab;rwa[bS a3 cl cM.house (v:= .ref h) rfl ?_];rwa[kj.mk (g:=λl=> .int l.tn) _ _ _ _ rfl ((hH.same @fE)) hc.1 hl ?_];rwa[ae @fX rfl ?_];rwa[ae @fX rfl ?_];rwa[bh ((U.trans s2).st.trans ab |>.sqT hO) ?_];rw [ol];ext;have ah:=G.dens db (io c.ps)
  have ad:∀(b':Addr) (J:List V) Y,aq H3 Y->Y b'=some (.tup J)->aC K Y J ((c.ps.drop (aT c).length).map bF)->JJ [.int 0,.int 0,.int l.tn,.int c.mr,.ref b'] Y λv H5=>pz K "cabins" m H5 λo H6=>HQ o (.int i) v H6 λH7=>Q .non H7:=by
   intro b' J Y s4 e4 d4;rwa[b3 (bJ (by show 5<=1000000;decide)) λr H5 s5 n5 e5=> ?_];have a5:=a3.same @hd;rwa[bS a5 cl cM.cabins (v:= .ref af) rfl ?_];obtain ⟨t3,_,_,_,Z⟩:=a3.atC (c:=c) hc;rwa[kz (j:=i.toNat) a5.ec (mQ hc.1 Z) ?_];have a6:=a5.setC (i:=i.toNat) (c:=⟨0,0,l.tn,c.mr,c.ps.drop (aT c).length⟩) ⟨r,rfl,b',J,e5,s5 _ _ e4,aC.same d4 s5⟩;exact q _ ((G.trans (s4.trans s5).st).trans (.updL a5.ec)) (fD.onto sw ⟨ap,af,an,as,_,ao,ak,a6⟩)
  have O:fB R (some ((aT c).length:Int)) none=R.drop (aT c).length:=by
   unfold fB;rw [show HT.sIx R.length 0 (some ((aT c).length:Int))=min (aT c).length R.length from HT.sIx_nat _ _ _]
   have:(aT c).length<=R.length:=by rw [bl];exact mE c
   rw [Nat.min_eq_left this,HT.sIx_none,take_of_length_le (by rw [length_drop];exact Nat.le_refl _)]
  rwa[KL (G.sqT @fc) (λe=> ?_) (λl4 Y s4 e4=> ?_)]
  ·rw [O] at e;exact ad b R H3 (.refl _) (G.tup eb) (by rw [List.map_drop,<-e];exact Paired.drop' ah)
  ·rw [O] at e4;exact ad l4 _ Y s4 e4 (by rw [List.map_drop];exact Paired.drop' (aC.same ah s4))
noncomputable def iA (M:MS)(i:Int)(c:Cb)(l:Lf):MS:=if c.pl=0 then pf M i c l else if 0<c.dr then cf M i ⟨c.pl,c.li,if M.bl.testBit i.toNat=true then c.dr else 0,c.mr,c.ps⟩ else cf M i ⟨c.pl - 1,-1,0,c.mr,c.ps⟩
inductive D9 (K:Fg)(C:Addr)(vs:List V)(H:Hp)(Q:VK)(_e:XK):Prop
 |mk (m i h hs l H0 M c:_) (_:vs=[.ref m,.int i]) (_:lS K H0 h hs) (_:hs.ls[i.toNat]? =some l) (_:fD K C H0 H m h M) (_:atC M i c) (_:i<1000) (_:c.ps.length<=200) (_:M.log.length<=3000) (_:∀H',aQ H H'->fD K C H0 H' m h (iA M i c l)->Q .non H')
theorem M5 {C:Addr}(F:Z0 K "go_in_fire" nZ f fd)(W:sQ K C)(pE:bf P w K mg base 3 "open_below" ["moment","lift"] (za K C))(m5:Z03 P w K mg base)(bY:Z01 P w K mg base):az P w K mg base bg 4 f fd ["moment","lift"] (D9 K C):=by
 rwa[F.ok zz (by symm) @E];obtain ⟨m,i,h,hs,l,H0,M,c,rfl,hH,hl,hM,L,i1,ai,gl,q⟩:=h;have aJ:=hM;obtain ⟨dx,lc,lw,ll,xs,ys,zs,a⟩:=hM;obtain ⟨t,hx,hi,U,Z⟩:=a.atC L;obtain ⟨b,bs,et,eb,db⟩:=id U;have J:=aD.of (K:=K) et;have cl:=W.i.cl;obtain ⟨j,hj⟩:=Int.eq_ofNat_of_zero_le L.1;rwa[⟨_,(aa @a (ac (ax @a @G (ac (ax @a (aa @a (ac @bH)) (ac @bH)))))),?_⟩]
 have G:∀(r:Addr) (I:Cb) H1,aq H H1->bZ K H1 r I.pl I.li I.dr I.mr I.ps->iA M i c l=cf M i I->pz K "cabins" m H1 λo H6=>HQ o (.int i) (.ref r) H6 λH7=>Q .non H7:=by
  intro r I H1 O aj e;have R:=a.same O;rwa[bS R cl W.cabins (v:= .ref lc) rfl ?_];rwa[kz (j:=i.toNat) R.ec (mQ L.1 Z) ?_];rw [e] at q;exact q _ (O.st.trans (.updL R.ec)) ⟨dx,lc,lw,ll,_,ys,zs,R.setC (i:=i.toNat) (c:=I) ⟨r,rfl,aj⟩⟩
 rwa[bS a cl W.cabins (v:= .ref lc) rfl ?_];rwa[cP @bA hi ?_];rwa[ae J rfl ?_];rwa[gw @k @k]
 ·ext;have e:iA M i c l=pf M i c l:=if_pos z;rw [e] at q;exact za.mk _ _ _ _ _ _ _ _ rfl hH hl aJ L ai gl λH' st ab=>q H' st ab
 rwa[ae J rfl ?_];rwa[gw @ca @ca]
 ·have S:0<c.dr:=S
  have e:iA M i c l=cf M i ⟨c.pl,c.li,if M.bl.testBit i.toNat=true then c.dr else 0,c.mr,c.ps⟩:=by unfold iA;rw [if_neg z,if_pos S]
  erw[bS a cl W.blocked (v:= .int (M.bl:Int)) rfl ?_];rw [hj];rwa[fE.mk _ _ rfl @c ?_];rw [hj,show ((j:Int)).toNat=j by lia] at e;rw [hj] at G;ext;by_cases Y:M.bl.testBit j=true
  ·rw [if_pos Y] at e;rwa[bG Y ?_];rwa[ae J rfl ?_];rwa[ae J rfl ?_];rwa[ae J rfl ?_];rwa[dM.mk _ _ _ _ _ _ _ _ _ rfl U λr H1 O aj=> ?_];exact G r ⟨c.pl,c.li,c.dr,c.mr,c.ps⟩ H1 O aj e
  ·rw [if_neg Y] at e;rwa[aL (by simpa using Y) ?_];rwa[ae J rfl ?_];rwa[ae J rfl ?_];rwa[dM.mk _ _ _ _ _ _ _ _ _ rfl U λr H1 O aj=> ?_];exact G r ⟨c.pl,c.li,0,c.mr,c.ps⟩ H1 O aj e
 ·have S: ¬0<c.dr:=S
  have e:iA M i c l=cf M i ⟨c.pl - 1,-1,0,c.mr,c.ps⟩:=by unfold iA;rw [if_neg z,if_neg S]
  rwa[ae J rfl ?_];rwa[dM.mk _ _ _ _ _ _ _ _ _ rfl U λr H1 O aj=> ?_];exact G r ⟨c.pl - 1,-1,0,c.mr,c.ps⟩ H1 O aj e
theorem JU {a:Int}{bs:List Int}:xR (.int a) (bs.map V.int)=decide (a∈bs):=by
 unfold xR;rw [any_map,Bool.eq_iff_iff,any_eq_true,decide_eq_true_eq];constructor
 ·rintro ⟨x,j,z⟩;have z:(x==a)=true:=z;rw [<-eq_of_beq z];exact j
 ·intro h;exact ⟨a,h,beq_self_eq_true a⟩
theorem CZ (bs:List Int):(bs.map V.int).all dY=true:=by
 rw [all_map,all_eq_true];intro x _;rfl
noncomputable def c6 (hs:Hs)(c:Cb)(l:Lf)(rs:List be):yR:=wn hs.so l.rm c.pl c.li c.ps rs
noncomputable def jP (hs:Hs)(M:MS)(i:Int)(c:Cb)(l:Lf)(rs:List be):MS:=
 {cf (jL (jL M "out" (c5 c.pl c.ps) i c) (s!"in") (c6 hs c l rs).ins i c) i ⟨c.pl,(c6 hs c l rs).light,fN l.kd l.tn c.dr (M.bl.testBit i.toNat) (decide (((c5 c.pl c.ps).length:Int)+((c6 hs c l rs).ins.length:Int)>0)),c.mr,(c6 hs c l rs).kept⟩ with ws:=M.ws.filter λr=> !decide (r.tag∈(c6 hs c l rs).ins)}
structure Ld (P:Program)(w:World)(K:Fg)(mg:Str->Option Value)(base:Heap)(kD kH kS:Addr):Prop where
 c:∀k,i8 k->Lg K @gW
 m:∀k,i8 k->jU P w K mg base bg 1 "left" (kc kD kH kS k) (jB K k)
theorem xY {hs:Hs}{c:Cb}{l:Lf}{rs:List be}:(c6 hs c l rs).ins.length<=rs.length:=by
 have:=(nj (so:=hs.so) (room:=l.rm) (pl:=c.pl) rs ⟨c.li,b7 c.pl c.ps,[]⟩).2;simpa [c6,wn] using this
theorem xE {pl:Int}{ps:List (Int×Int)}:(c5 pl ps).length<=ps.length:=by
 unfold c5;rw [length_map];exact length_filter_le _ _
inductive Ea (K:Fg)(C:Addr)(vs:List V)(H:Hp)(Q:VK)(_e:XK):Prop
 |mk (m i rl h hs l H0 M c xr rs:_) (_:vs=[.ref m,.int i,.ref rl]) (_:lS K H0 h hs) (_:hs.ls[i.toNat]? =some l) (_:fD K C H0 H m h M) (_:atC M i c) (_:i<1000) (_:c.ps.length<=200) (_:M.log.length<=2000) (_:M.ws.length<=1000) (_:(∃f0,c.pl=2*f0)) (_:H0 rl=some (.lst xr)) (_:aC K H0 xr @bz) (_:N5 rs) (_:∀H',aQ H H'->fD K C H0 H' m h (jP hs M i c l rs)->Q .non H')
theorem M6 {C kD kH kS:Addr}(F:Z0 K "exchange" oh f fd)(cM:sQ K C)(D:Ld P w K mg base kD kH kS)(bo:mg "len"=none)(mZ:bf P w K mg base 1 "room_of" ["house","lift"] @dz)(fb:bf P w K mg base 1 "turns_of" ["house","lift"] @cs)(yn:bf P w K mg base 1 "kind_of" ["house","lift"] (kj K λl=> .str l.kd))(sr:bf P w K mg base 3 "exchanged" ["sort","room","cabin","riders"] (zg K))(gt:bf P w K mg base 2 "log_steps" ["moment","word","tags","lift"] (vd K C))(yr:bf P w K mg base 3 "door_of" ["kind","turns"] (qq K kD kH kS))(m5:Z03 P w K mg base)(bY:Z01 P w K mg base):az P w K mg base bg 4 f fd ["moment","lift","riders"] (Ea K C):=by
 rwa[F.ok qz (by symm) (λbk A outer s H vs Q E hr h=> ?_)];obtain ⟨m,i,rl,h,hs,l,H0,M,c,xr,rs,rfl,hH,hl,⟨dx,lc,lw,ll,xs,ys,zs,a⟩,L,i1,ai,gl,wl,⟨f0,aH⟩,er,dr,aA,q⟩:=h;obtain ⟨t,hx,hi,ht,bn⟩:=a.atC L;have cl:=cM.i.cl;obtain ⟨j,hj⟩:=Int.eq_ofNat_of_zero_le L.1;obtain ⟨ph,bm,pb,aY,a7,ba,bh,bc⟩:=(hH.same a.s).at L.1 hl;have R:i8 l.kd:=(hH.1.lf l (mem_of_getElem? hl)).2.2.2.2;rwa[⟨_,(aa @a (aa @a (aa @a (aa @a (aa @a (aa @fB (aa @fB (aa @a (aa (bp (i:=9) qz.nd rfl @q (uW (n:=1) jI hr @b (wv 8) (au @a @gI))) (aa @bH (ac (cJ rfl (wv 0) (bz rfl (aE (N':=["rider","ins"]) (pk:=[none,some 7]) @o) @a @l (λC s H ex=>(ff (aP (uZ rfl) @a (wv 1) @D))) @O))))))))))))),?_⟩];rwa[bS a cl cM.house (v:= .ref h) rfl ?_];rwa[ae aY rfl ?_];rwa[kj.mk (g:=λl=> .int l.rm) _ _ _ _ rfl @he L.1 hl ?_];rwa[bS a cl cM.cabins (v:= .ref lc) rfl ?_];rwa[cP @bA hi ?_];rwa[P1 ht ai (a.s _ _ er) (aC.same dr a.s) aA aH λr H1 s1 ap=> ?_];obtain ⟨cn,co,ci,aU,av,eo,ei,no,ni,bj⟩:=ap;have e1:wn hs.so l.rm c.pl c.li c.ps rs=c6 hs c l rs:=rfl;rw [e1] at av ei;generalize hE:c6 hs c l rs=U at *;generalize hO:c5 c.pl c.ps=O at *
 have el:U.ins.length<=rs.length:=by rw [<-hE];exact xY
 have ol:O.length<=200:=by rw [<-hO];exact Nat.le_trans xE ai
 have a2:rs.length<=200:=aA.1;have a1:=a.same s1;obtain ⟨aw,sw⟩:=a1.wide
 have Z:∀ {p q:Addr} {o:HO},H p=none->H q=some o->p≠q:=λ{p q o} h1 h2 z=>by rw [z,h2] at h1;cases h1
 have ad:iG H1 m lc lw ll co=some (.lst (O.map V.int)):=gL eo (Z no a.em) (Z no a.ec) (Z no a.ew) (Z no a.el);have S:iG H1 m lc lw ll ci=some (.lst (U.ins.map V.int)):=gL ei (Z ni a.em) (Z ni a.ec) (Z ni a.ew) (Z ni a.el);generalize br:iG H1 m lc lw ll=Hc at aw sw ad S;have G:=aD.of (K:=K) aU;rwa[ae G rfl ?_];rwa[ae G rfl ?_];erw[ae G rfl ?_];have aJ:fD K C Hc H1 m h M:=⟨dx,lc,lw,ll,xs,ys,zs,aw⟩;rwa[Ba (ts:=O) aJ L (aN.of ad) @c @c λH2 aK aR=> ?_];rwa[Ba (ts:=U.ins) (c:=c) aR L (aN.of S) @c (by show (M.log++_).length<=_;rw [length_append,length_map];lia) λH3 aI a0=> ?_];have ao:=aK.trans aI;obtain ⟨aV,af,aS,aB,ay,as,aG,a3⟩:=a0;have ax:=hH.same @fE;rwa[kj.mk (g:=λl=> .str l.kd) _ _ _ _ rfl ax L.1 hl ?_];rwa[kj.mk (g:=λl=> .int l.tn) _ _ _ _ rfl ax L.1 hl ?_];rwa[qq.mk _ _ rfl R λda bi H4 s4 n4 e4=> ?_];have a4:=a3.same s4;have W:=ao.trans s4.st;have ab:bZ K H4 cn c.pl U.light c.dr c.mr U.kept:=av.keep W;obtain ⟨nb,bb,aF,bq,bs⟩:=id ab;have ag:=aD.of (K:=K) aF;rwa[qa e4 rfl (D.m _ R) ?_];rwa[ae ag rfl ?_];erw[bS a4 cl cM.blocked (v:= .int (M.bl:Int)) rfl ?_];rw [hj];rwa[fE.mk _ _ rfl @c ?_];rwa[j3 (aN.of (a4.s _ _ ad)) ?_];rw [length_map];rwa[j3 (aN.of (a4.s _ _ S)) ?_];rw [length_map];rwa[jB.mk _ _ _ _ _ _ _ rfl e4 (D.c _ R).i.cl (D.c _ R).n ?_];rwa[ae ag rfl ?_];rwa[ae ag rfl ?_];rwa[dM.mk _ _ _ _ _ _ _ _ _ rfl ab λt5 H5 s5 aT=> ?_];have a5:=a4.same s5;obtain ⟨_,_,_,_,an⟩:=a3.atC (c:=c) L;erw[bS a5 cl cM.cabins (v:= .ref af) rfl ?_];rw [<-hj];rwa[kz (j:=i.toNat) a5.ec (mQ L.1 an) ?_];have a6:=a5.setC (i:=i.toNat) (c:=⟨c.pl,U.light,fN l.kd l.tn c.dr (M.bl.testBit j) (decide ((O.length:Int)+(U.ins.length:Int)>0)),c.mr,U.kept⟩) ⟨t5,rfl,aT⟩;generalize ar:upd H5 af (.lst (ay.set i.toNat (.ref t5)))=H6 at a6 ⊢
 have ak:aQ H1 H6:=by rw [<-ar];exact (W.trans s5.st).trans (.updL a5.ec)
 clear ar;have yl:as.length=M.ws.length:=aM a3.dw;rwa[bS a6 cl cM.waiting (v:= .ref aS) rfl ?_];rwa[cz (aN.of a6.ew) ?_];rwa[b4 (xs:=as) (λj I J=>aq H6 J/\I.length<=j/\aC K J I (((M.ws.take j).filter λr=> !decide (r.tag∈U.ins)).map be.d)) @bu (λj I J h=>h.2.1) ⟨.refl _,Nat.le_refl _,.nil⟩ (λj I J _ h=>h.1.seq (aN.of a6.ew)) (λj y I J hy hP=> ?_) (λI J hP l7 n7=> ?_)]
 ·obtain ⟨Y,aW,hd⟩:=hP;obtain ⟨r,ah,al⟩:=bE (f:=be.d) a6.dw hy;have ah:M.ws[j]? =some r:=ah;obtain ⟨ra,rfl,hT⟩:=dP (bM.same al Y);have nx:=eU (λr:be=> !decide (r.tag∈U.ins)) ah;rwa[⟨cq,?_⟩];rwa[ae hT rfl ?_];rwa[BW (aN.of (Y _ _ (a6.s _ _ S))) rfl (CZ _) ?_];rw [JU];show if (!decide (r.tag∈U.ins))=true then _ else _
  cases hb:(!decide (r.tag∈U.ins)) with
  |true=>
   rw [if_pos rfl];rwa[⟨Y,by rw [length_append];show _+1<=_;lia,?_⟩];rw [nx,hb,if_pos rfl,map_append];exact Paired.app hd (.cons (bM.same al Y) .nil)
  |false=>
   rw [if_neg @b];rwa[⟨Y,by lia,?_⟩];rw [nx,hb,if_neg @b,append_nil];exact hd
 obtain ⟨Y,aW,hd⟩:=hP;rw [yl,take_of_length_le @f] at hd;have aX:=a6.same Y;have s8:aq J (upd J l7 (.lst I)):= .upd n7;have a8:=aX.same s8;have e8:upd J l7 (.lst I) l7=some (.lst I):=aj;generalize bd:upd J l7 (.lst I)=H8 at s8 a8 e8 ⊢
 have aL:af≠l7:=λz=>by rw [<-z,aX.ec] at n7;cases n7
 have aZ:l7≠aB:=λz=>by rw [z,aX.el] at n7;cases n7
 rwa[cK a8.em cl cM.waiting (by show 7<1000;decide) ?_];have a9:=a8.putW (rs:=M.ws.filter λr=> !decide (r.tag∈U.ins)) (none_of aX.s n7) aL aZ e8 (aC.same hd s8);rwa[q _ ((s1.st.trans ak).trans (((Y.trans s8).st).trans (.updI a8.em))) (fD.onto sw ⟨aV,af,l7,aB,ay.set i.toNat (.ref t5),I,aG,?_⟩)]
 have ee:jP hs M i c l rs= {cf (jL (jL M "out" O i c) (s!"in") U.ins i c) i ⟨c.pl,U.light,fN l.kd l.tn c.dr (M.bl.testBit j) (decide ((O.length:Int)+(U.ins.length:Int)>0)),c.mr,U.kept⟩ with ws:=M.ws.filter λr=> !decide (r.tag∈U.ins)}:=by
  unfold jP;rw [hE,hO,hj,show ((j:Int)).toNat=j by lia]
 rw [ee];exact a9
structure ia (li he up dn:Int):Prop where
 l0: -1<=li
 l1:li<=1
 h0:0<=he
 h1:he<=2
 u0:0<=up
 d0:0<=dn
abbrev Wf:=Int->Int->Int->Int->Int->Str
inductive Ds (P:Program)(w:World)(K:Fg)(mg:Str->Option Value)(base:Heap)(H:Hp)(a:Addr)(wf:Wf):Prop
 |mk (C dx fs sp:_) (_:H a=some (.ins C dx fs)) (_:fs.lookup (s!"word")=none) (_:jU P w K mg base bg 2 "word" C sp) (_:(∀fl li he up dn,ia li he up dn->wf fl li he up dn∈cy)) (_:∀(H':Hp) (sa:Addr) (fl li he up dn:Int) (Q:VK) (E:XK),H' a=some (.ins C dx fs)->aD K H' sa [.int fl,.int li,.int he,.int up,.int dn]->ia li he up dn->Q (.str (wf fl li he up dn)) H'->sp [.ref a,.ref sa] H' Q E)
theorem Ds.same {H H':Hp}{a:Addr}{wf:Wf}(r:Ds P w K mg base H a wf)(s:aq H H'):Ds P w K mg base H' a wf:=by
 obtain ⟨C,dx,fs,sp,h1,h2,L,j,S⟩:=r;exact ⟨C,dx,fs,sp,s _ _ h1,h2,L,j,S⟩
noncomputable def qj (hs:Hs)(l:Lf)(c:Cb)(wd:Str):Cb:=⟨(fM hs.fl l.tn c.pl c.li c.dr c.ps @cZ).1,(fM hs.fl l.tn c.pl c.li c.dr c.ps @cZ).2.1,(fM hs.fl l.tn c.pl c.li c.dr c.ps @cZ).2.2,c.mr,c.ps⟩
def R9 (hs:Hs)(wf:Wf)(M:MS)(i:Int)(c:Cb)(l:Lf)(rs:List be)(M':MS):Prop:=∃(f0:Nat) (u d:Int),c.pl=2*(f0:Int)/\Dj (tk l.rm c.ps rs) f0 u/\Dl (tk l.rm c.ps rs) f0 d/\M'=cf M i (qj hs l c (wf f0 c.li (ji hs.so c.li (tk l.rm c.ps rs f0) (K5 c.ps f0) (Kt rs f0 c.li)) u d))
structure ie (fl:Int)(c:Cb):Prop where
 p0:0<=c.pl
 p1:c.pl<=2*(fl - 1)
 l0: -1<=c.li
 l1:c.li<=1
 m0:0<=c.mr
 ev:0<c.dr->c.pl% 2=0
 len:c.ps.length<=200
 gs:∀p∈c.ps,0<=p.2/\p.2<fl
structure fO (fl:Int)(r:be):Prop where
 s0:0<=r.start
 s1:r.start<fl
 g0:0<=r.goal
 g1:r.goal<fl
 ne:r.start≠r.goal
theorem Bj {so:Str}{li:Int}{a b c:Bool}:0<=ji so li a b c/\ji so li a b c<=2:=by
 unfold ji;split
 ·decide
 split
 ·decide
 split
 ·decide
 ·decide
theorem Dj.nn {t:Int->Bool}{f u:Int}(h:Dj t f u):0<=u:=by rcases h with ⟨h,_⟩|⟨h,_⟩<;>lia
theorem Dl.nn {t:Int->Bool}{f u:Int}(h:Dl t f u):0<=u:=by rcases h with ⟨h,_⟩|⟨h,_⟩<;>lia
inductive Ed (P:Program)(w:World)(K:Fg)(mg:Str->Option Value)(base:Heap)(C:Addr)(vs:List V)(H:Hp)(Q:VK)(_e:XK):Prop
 |mk (m ru i rl h hs l H0 M c xr rs wf:_) (_:vs=[.ref m,.ref ru,.int i,.ref rl]) (_:lS K H0 h hs) (_:hs.ls[i.toNat]? =some l) (_:Ds P w K mg base H0 ru wf) (_:fD K C H0 H m h M) (_:atC M i c) (_:ie hs.fl c) (_:c.pl% 2=0) (_:H0 rl=some (.lst xr)) (_:aC K H0 xr @bz) (_:(∀r∈rs,fO hs.fl r)) (_:rs.length<=200) (_:∀M' H',R9 hs wf M i c l rs M'->aQ H H'->fD K C H0 H' m h M'->Q .non H')
theorem M8 {C:Addr}(F:Z0 K "go_by_rule" og f fd)(cM:sQ K C)(mZ:bf P w K mg base 1 "room_of" ["house","lift"] @dz)(fb:bf P w K mg base 1 "turns_of" ["house","lift"] @cs)(K3:bf P w K mg base 5 "view" ["sort","room","cabin","riders"] (y4 K))(yj:bf P w K mg base 3 "steered" ["sort","floors","turns","cabin","word"] (nr K)):az P w K mg base bg 6 f fd ["moment","rule","lift","riders"] (Ed P w K mg base C):=by
 rwa[F.ok qy (by symm) (λap A outer s H vs Q E Z h=> ?_)];obtain ⟨m,ru,i,rl,h,hs,l,H0,M,c,xr,U,wf,rfl,hH,hl,ah,⟨dx,lc,lw,ll,xs,ys,zs,a⟩,L,Y,ev,er,dr,aA,S,q⟩:=h;obtain ⟨t,hx,hi,ht,af⟩:=a.atC L;have cl:=cM.i.cl;have f8:=hH.1.f8;obtain ⟨ph,bm,pb,G,a7,ba,bh,bc⟩:=(hH.same a.s).at L.1 hl;obtain ⟨kC,al,an,ao,kr,ai,kM,kw,ks⟩:=ah;obtain ⟨R,z⟩:∃R:Nat,c.pl=2*(R:Int):=⟨(c.pl / 2).toNat,by have:=Y.p0;lia⟩
 have aj:(R:Int)<hs.fl:=by have:=Y.p1;lia
 have ad:QD c.ps U:=⟨λp I=>⟨(Y.gs p I).1,by have:=(Y.gs p I).2;lia⟩,λr Z=>⟨(aA r Z).s0,by have:=(aA r Z).s1;lia⟩,Y.len,S⟩;have ag:qe c.ps:=⟨by have:=Y.len;lia,λp I=>⟨(Y.gs p I).1,by have:=(Y.gs p I).2;lia⟩⟩;rwa[⟨_,(aa @a (aa @a (aa (bp (i:=6) qy.nd rfl @q (uW (n:=2) jI Z @b (wv 1) @bi)) (ac @dm)))),?_⟩];rwa[bS a cl cM.house (v:= .ref h) rfl ?_];rwa[bS a cl cM.cabins (v:= .ref lc) rfl ?_];rwa[cP @bA hi ?_];rwa[qa (a.s _ _ kr) ai kM ?_];rwa[ae G rfl ?_];rwa[kj.mk (g:=λl=> .int l.rm) _ _ _ _ rfl @he L.1 hl ?_];rwa[y4.mk _ _ _ _ _ _ _ _ _ _ _ _ rfl ht (a.s _ _ er) (aC.same dr a.s) ad z @c λv u d H1 O hu hd ab=> ?_];have a1:=a.same O;have sn:ia c.li (ji hs.so c.li (tk l.rm c.ps U R) (K5 c.ps R) (Kt U R c.li)) u d:=⟨Y.l0,Y.l1,Bj.1,Bj.2,hu.nn,hd.nn⟩;rwa[ks H1 v R c.li _ u d _ _ (a1.s _ _ kr) (aD.of ab) sn ?_];have J:=kw R _ _ _ _ sn;generalize W:wf R c.li (ji hs.so c.li (tk l.rm c.ps U R) (K5 c.ps R) (Kt U R c.li)) u d=wd at J ⊢;rwa[ae (O.seqT G) rfl ?_];rwa[ae (O.seqT G) rfl ?_];rwa[kj.mk (g:=λl=> .int l.tn) _ _ _ _ rfl (hH.same a1.s) L.1 hl ?_];rwa[DY (f0:=(R:Int)) (ht.same O) J ag z @c aj Y.l0 Y.l1 λr H2 s2 ak=> ?_];have a2:=a1.same s2;rwa[bS a2 cl cM.cabins (v:= .ref lc) rfl ?_];rwa[kz (j:=i.toNat) a2.ec (mQ L.1 af) ?_];rwa[q (cf M i (qj hs l c wd)) _ ⟨R,u,d,z,hu,hd,by rw [W]⟩ ((O.trans s2).st.trans (.updL a2.ec)) ⟨dx,lc,lw,ll,_,ys,zs,a2.setC (i:=i.toNat) (c:=qj hs l c wd) ⟨r,rfl,ak⟩⟩]
def aW (i:Int)(M:MS):List be:=M.ws.filter λr=>decide (r.lift=i)
def Dm (hs:Hs)(wf:Wf)(M:MS)(i:Int)(c:Cb)(l:Lf)(M':MS):Prop:=if 0<c.dr then M'=jP hs M i c l @eo else if c.pl% 2=1 then M'=cf M i ⟨c.pl+c.li,c.li,0,c.mr,c.ps⟩ else R9 hs wf M i c l @eo M'
section
variable {hs:Hs}{wf:Wf}{M M':MS}{i:Int}{c:Cb}{l:Lf}
theorem SC (z:0<c.dr):Dm hs wf M i c l (jP hs M i c l @eo):=by unfold Dm;rw [if_pos z]
theorem SB (z: ¬0<c.dr)(S:c.pl% 2=1):Dm hs wf M i c l (cf M i ⟨c.pl+c.li,c.li,0,c.mr,c.ps⟩):=by unfold Dm;rw [if_neg z,if_pos S]
theorem SA (z: ¬0<c.dr)(S: ¬c.pl% 2=1)(h:R9 hs wf M i c l @eo M'):Dm hs wf M i c l M':=by unfold Dm;rw [if_neg z,if_neg S];exact h
end
inductive D8 (P:Program)(w:World)(K:Fg)(mg:Str->Option Value)(base:Heap)(C:Addr)(vs:List V)(H:Hp)(Q:VK)(_e:XK):Prop
 |mk (m ru i h hs l H0 M c wf:_) (_:vs=[.ref m,.ref ru,.int i]) (_:lS K H0 h hs) (_:hs.ls[i.toNat]? =some l) (_:Ds P w K mg base H0 ru wf) (_:fD K C H0 H m h M) (_:atC M i c) (_:ie hs.fl c) (_:i<1000) (_:(∀r∈M.ws,fO hs.fl r)) (_:M.ws.length<=200) (_:M.log.length<=2000) (_:∀M' H',Dm hs wf M i c l M'->aQ H H'->fD K C H0 H' m h M'->Q .non H')
theorem M4 {C:Addr}(F:Z0 K "go_without_fire" fV f fd)(cM:sQ K C)(uN:bf P w K mg base 4 "exchange" ["moment","lift","riders"] (Ea K C))(bY:Z01 P w K mg base)(pI:bf P w K mg base 6 "go_by_rule" ["moment","rule","lift","riders"] (Ed P w K mg base C)):az P w K mg base bg 7 f fd ["moment","rule","lift"] (D8 P w K mg base C):=by
 rwa[F.ok jg (by symm) (λan A outer s H vs Q E hr h=> ?_)];obtain ⟨m,ru,i,h,hs,l,H0,M,c,wf,rfl,hH,hl,ai,⟨dx,lc,lw,ll,xs,ys,zs,a⟩,hc,ok,i1,ak,wl,gl,q⟩:=h;obtain ⟨t,hx,hi,ht,ag⟩:=a.atC hc;obtain ⟨b,bs,et,eb,db⟩:=id ht;have hT:=aD.of (K:=K) et;have cl:=cM.i.cl;have yl:ys.length=M.ws.length:=aM a.dw;rwa[⟨_,(aa @a (aa (lV (i:=4) rfl jg.nd rfl @q (aE (N':=["rider","lift"]) (pk:=[none,some 2]) @o) @a @l @bx @O) (ac (ax @a @G (ac (ax @a (ac @dm) @G)))))),?_⟩];rwa[bS a cl cM.cabins (v:= .ref lc) rfl ?_];rwa[cP @bA hi ?_];rwa[bS a cl cM.waiting (v:= .ref lw) rfl ?_];rwa[cz @gv ?_];rwa[b4 (xs:=ys) (λj G I=>aq H I/\G.length<=j/\aC K I G (((M.ws.take j).filter λr=>decide (r.lift=i)).map be.d)) @bu (λj G I h=>h.2.1) ⟨.refl _,Nat.le_refl _,.nil⟩ (λj G I _ h=>h.1.seq @gv) @dB (λG I hP rl n1=> ?_)]
 ·obtain ⟨W,ah,hd⟩:=hP;obtain ⟨r,Y,ab⟩:=bE (f:=be.d) a.dw hy;obtain ⟨ra,rfl,ad⟩:=dP (bM.same ab W);have nx:=eU (λr:be=>decide (r.lift=i)) Y;rwa[⟨cq,?_⟩];rwa[ae ad rfl ?_];show if decide (r.lift=i)=true then _ else _
  cases hb:decide (r.lift=i) with
  |true=>
   rw [if_pos rfl];rwa[⟨W,by rw [length_append];show _+1<=_;lia,?_⟩];rw [nx,hb,if_pos rfl,map_append];exact Paired.app hd (.cons (bM.same ab W) .nil)
  |false=>
   rw [if_neg @b];rwa[⟨W,by lia,?_⟩];rw [nx,hb,if_neg @b,append_nil];exact hd
 obtain ⟨W,ah,hd⟩:=hP;rw [yl,take_of_length_le @f] at hd;have O:aq I (upd I rl (.lst G)):= .upd n1;have e2:upd I rl (.lst G) rl=some (.lst G):=aj;have d2:=aC.same hd O;generalize al:upd I rl (.lst G)=H2 at O e2 d2 ⊢;have R:=W.trans O;have a2:=a.same R;obtain ⟨aw,Z⟩:=a2.wide
 have nk:∀ {p:Addr} {o:HO},H p=some o->rl≠p:=λ{p o} e z=>by rw [<-z] at e;rw [W _ _ e] at n1;cases n1
 have L:iG H2 m lc lw ll rl=some (.lst G):=gL e2 (nk a.em) (nk a.ec) (nk a.ew) (nk a.el)
 have dC:aC K (iG H2 m lc lw ll) G ((aW i M).map be.d):=by
  rwa[aQ.dens (λb o z1 S e=> ?_) d2 (i6 _)];exact gL e (λz=>by rw [z,a2.em] at e;cases e;exact S _ _ _ rfl) (λz=>by rw [z,a2.ec] at e;cases e;exact z1 _ rfl) (λz=>by rw [z,a2.ew] at e;cases e;exact z1 _ rfl) (λz=>by rw [z,a2.el] at e;cases e;exact z1 _ rfl)
 generalize am:iG H2 m lc lw ll=Hc at aw Z L dC;have aR:fD K C Hc H2 m h M:=⟨dx,lc,lw,ll,xs,ys,zs,aw⟩;have aA:∀r∈aW i M,fO hs.fl r:=λr hr=>ak r ((mem_filter.mp hr).1);have J:(aW i M).length<=200:=Nat.le_trans @Y wl;rwa[ae @eD rfl ?_];rwa[gw @k @k]
 ·have z:0<c.dr:=z;exact Ea.mk _ _ _ _ _ _ _ _ _ _ _ rfl (hH.same Z) hl aR hc i1 ok.len gl @c ⟨c.pl / 2,by have:=ok.ev z;lia⟩ L dC ⟨J,λr hr=>(aA r hr).ne⟩ λH' st U=>q _ H' (SC z) (R.st.trans st) (U.onto Z)
 have z: ¬0<c.dr:=z;rwa[ae @eD rfl ?_];rwa[⟨by decide,?_⟩];rwa[gw @ca @ca]
 ·have S:c.pl% 2=1:=S;rwa[ae @eD rfl ?_];rwa[ae @eD rfl ?_];rwa[ae @eD rfl ?_];rwa[dM.mk _ _ _ _ _ _ _ _ _ rfl (ht.same R) λr H3 s3 Y=> ?_];have a3:=a2.same s3;rwa[bS a3 cl cM.cabins (v:= .ref lc) rfl ?_];rwa[kz (j:=i.toNat) a3.ec (mQ hc.1 ag) ?_];exact q _ _ (SB z S) ((R.trans s3).st.trans (.updL a3.ec)) ⟨dx,lc,lw,ll,_,ys,zs,a3.setC (i:=i.toNat) (c:=⟨c.pl+c.li,c.li,0,c.mr,c.ps⟩) ⟨r,rfl,Y⟩⟩
 ·have S: ¬c.pl% 2=1:=S;exact Ed.mk _ _ _ _ _ _ _ _ _ _ _ _ _ rfl (hH.same Z) hl (ai.same Z) aR hc ok @c L dC aA J λM' H' af st U=>q M' H' (SA z S af) (R.st.trans st) (U.onto Z)
def Hm (hs:Hs)(wf:Wf)(M:MS)(i:Int)(c:Cb)(l:Lf)(M':MS):Prop:=(c.mr.toNat.testBit 0=true/\M'=M)\/(c.mr.toNat.testBit 0=false/\M.fire=true/\M'=iA M i c l)\/(c.mr.toNat.testBit 0=false/\M.fire=false/\Dm hs wf M i c l M')
inductive Ik (P:Program)(w:World)(K:Fg)(mg:Str->Option Value)(base:Heap)(C:Addr)(vs:List V)(H:Hp)(Q:VK)(_e:XK):Prop
 |mk (m ru i h hs l H0 M c wf:_) (_:vs=[.ref m,.ref ru,.int i]) (_:lS K H0 h hs) (_:hs.ls[i.toNat]? =some l) (_:Ds P w K mg base H0 ru wf) (_:fD K C H0 H m h M) (_:atC M i c) (_:ie hs.fl c) (_:i<1000) (_:(∀r∈M.ws,fO hs.fl r)) (_:M.ws.length<=200) (_:M.log.length<=2000) (_:∀M' H',Hm hs wf M i c l M'->aQ H H'->fD K C H0 H' m h M'->Q .non H')
theorem Pz {C:Addr}{S:Tok}(F:Z0 K "go" Rx f fd)(z:sQ K C)(we:mg "STUCK"=some (.int 0 S))(m5:Z03 P w K mg base)(pH:bf P w K mg base 4 "go_in_fire" ["moment","lift"] (D9 K C))(iJ:bf P w K mg base 7 "go_without_fire" ["moment","rule","lift"] (D8 P w K mg base C)):az P w K mg base bg 8 f fd ["moment","rule","lift"] (Ik P w K mg base C):=by
 have Ms:aK (.int 0) (.int 0 S):=⟨_,rfl⟩;rwa[F.ok Rv (by symm) @E];obtain ⟨m,ru,i,h,hs,l,H0,M,c,wf,rfl,Z,L,ah,O,J,Y,i1,ak,wl,gl,q⟩:=h;have aJ:=O;obtain ⟨dx,lc,lw,ll,xs,ys,zs,a⟩:=O;obtain ⟨t,hx,hi,ht,ab⟩:=a.atC J;obtain ⟨b,bs,et,eb,db⟩:=id ht;have cl:=z.i.cl;obtain ⟨U,W⟩:=Int.eq_ofNat_of_zero_le Y.m0;rwa[⟨_,(aa (ax @a (ac IP) ar) @eF),?_⟩];rwa[bS a cl z.cabins (v:= .ref lc) rfl ?_];rwa[cP @bA hi ?_];rwa[ae @fW rfl ?_];rw [W]
 have j:c.mr.toNat=U:=by rw [W];rfl
 erw[fE.mk _ 0 rfl @b ?_];by_cases G:U.testBit 0=true
 ·rwa[bG G ?_];exact q M H (.inl ⟨by rw [j];exact G,rfl⟩) (.refl _) aJ
 ·have aq:U.testBit 0=false:=by simpa using G
  rwa[aL aq ?_];erw[bS a cl z.fire (v:= .bl M.fire) rfl ?_]
  cases R:M.fire with
  |true=>
   rwa[bG rfl ?_];exact D9.mk _ _ _ _ _ _ _ _ rfl Z L aJ J i1 Y.len @c λH' st I=>q _ H' (.inr (.inl ⟨by rw [j];exact aq,R,rfl⟩)) st I
  |false=>
   rwa[aL rfl ?_];exact D8.mk _ _ _ _ _ _ _ _ _ _ rfl Z L ah aJ J Y i1 ak wl gl λM' H' hg st I=>q M' H' (.inr (.inr ⟨by rw [j];exact aq,R,hg⟩)) st I
inductive cx (K:Fg)(H:Hp)(st:Addr)(cs:List Cb)(ws:List be)(last:Int)(fire:Bool):Prop
 |mk (tc tw xs ys:_) (_:aD K H st [.ref tc,.ref tw,.int last,.bl fire]) (_:aD K H tc xs) (_:aD K H tw ys) (_:Paired @gg xs cs) (_:aC K H ys @eS)
theorem cx.keep {H H':Hp}{st:Addr}{cs:List Cb}{ws:List be}{last:Int}{j:Bool}(h:cx K H st cs ws last j)(s:aQ H H'):cx K H' st cs ws last j:=by
 obtain ⟨tc,G,xs,ys,h1,h2,L,F,S⟩:=h;exact ⟨tc,G,xs,ys,s.sqT h1,s.sqT h2,s.sqT L,Paired.imp' (λx c z=>d5.keep z s) F,s.dens S (i6 _)⟩
inductive D6 (K:Fg)(vs:List V)(H:Hp)(Q:VK)(_e:XK):Prop
 |mk (a h st C dx tc tw xs ys last fire:_) (_:vs=[.ref a,.ref h,.ref st]) (_:H a=some (.ins C dx [])) (_:sQ K C) (_:aD K H st [.ref tc,.ref tw,.int last,.bl fire]) (_:aD K H tc xs) (_:aD K H tw ys) (_:∀lc lw ll H',gu a H H'->H lc=none->H lw=none->H ll=none->lc≠lw->lc≠ll->lw≠ll->H' a=some (.ins C dx (ow h lc lw last fire 0 ll))->H' lc=some (.lst xs)->H' lw=some (.lst ys)->H' ll=some (.lst [])->Q .non H')
theorem ik {a:Addr}{H H':Hp}{C dx:Addr}{fs:List (Str×V)}(s:gu a H H')(e:H a=some (.ins C dx fs)){p:Addr}{xs:List V}(h:aD K H p xs):aD K H' p xs:=by
 rcases h with (h|⟨u,h⟩)|h
 ·exact .inl (.inl (s _ _ (λz=>by rw [z,e] at h;cases h) h))
 ·exact .inl (.inr ⟨u,s _ _ (λz=>by rw [z,e] at h;cases h) h⟩)
 ·exact .inr h
theorem Fo (F:bB K "__init__" "Moment.__init__" jE f fd)(eG:mg "list"=none):az P w K mg base bg 1 f fd ["self","house","state"] (D6 K):=by
 rwa[F.ok vq (by symm) (λaF A outer s H vs Q E hr h=> ?_)];obtain ⟨a,h,st,C,dx,tc,tw,xs,ys,L,O,rfl,U,R,h1,h2,h3,q⟩:=h;have Y:=R.i.cl;rwa[⟨_,(aa @bV (aa (cJ rfl (wv 0) @ct) (aa (cJ rfl (wv 0) @ct) (aa @dl (aa @dl (aa (cJ rfl (wv 0) ag) (ac (cJ rfl (wv 0) (ng am))))))))),?_⟩];rwa[cK U Y R.house @b ?_];generalize W:upd H a _=H1
 have p1:gu a H H1:=by rw [<-W];exact λb o n e=>by rw [ao n];exact e
 have ad:H1 a=some (.ins C dx [(s!"house",.ref h)]):=by rw [<-W];exact aj
 clear W;rwa[ae (ik p1 U h1) rfl ?_];rwa[mK (.inr (ik p1 U h2)) λlc H2 s2 n2 e2=> ?_];have aD:=s2 _ _ ad;rwa[cK aD Y R.cabins (by show 1<1000;decide) ?_];generalize al:upd H2 a _=H3
 have p3:gu a H H3:=by rw [<-al];exact λb o n e=>by rw [ao n];exact s2 _ _ (p1 b o n e)
 have ah:H3 a=some (.ins C dx [(s!"house",.ref h),(s!"cabins",.ref lc)]):=by rw [<-al];exact aj
 have af:lc≠a:=λz=>by rw [z,ad] at n2;cases n2
 have e3:H3 lc=some (.lst xs):=by rw [<-al,ao af];exact e2
 have aq:H lc=none:=by
  cases y:H lc with
  |none=>rfl
  |some o=>rw [p1 _ _ af y] at n2;cases n2
 clear al;rwa[ae (ik p3 U h1) rfl ?_];rwa[mK (.inr (ik p3 U h3)) λlw H4 s4 Z e4=> ?_];have ap:=s4 _ _ ah;rwa[cK ap Y R.waiting (by show 2<1000;decide) ?_];generalize J:upd H4 a _=H5
 have p5:gu a H H5:=by rw [<-J];exact λb o n e=>by rw [ao n];exact s4 _ _ (p3 b o n e)
 have ar:H5 a=some (.ins C dx [(s!"house",.ref h),(s!"cabins",.ref lc),(s!"waiting",.ref lw)]):=by rw [<-J];exact aj
 have j:lw≠a:=λz=>by rw [z,ah] at Z;cases Z
 have aC:lc≠lw:=λz=>by rw [<-z,e3] at Z;cases Z
 have e5:H5 lw=some (.lst ys):=by rw [<-J,ao j];exact e4
 have aB:H5 lc=some (.lst xs):=by rw [<-J,ao af];exact s4 _ _ e3
 have an:H lw=none:=by
  cases y:H lw with
  |none=>rfl
  |some o=>rw [p3 _ _ j y] at Z;cases Z
 clear J;rwa[ae (ik p5 U h1) rfl ?_];rwa[cK ar Y R.last (by show 3<1000;decide) ?_];generalize G:upd H5 a _=H6
 have p6:gu a H H6:=by rw [<-G];exact λb o n e=>by rw [ao n];exact p5 b o n e
 have ax:H6 a=some (.ins C dx [(s!"house",.ref h),(s!"cabins",.ref lc),(s!"waiting",.ref lw),(s!"last",.int L)]):=by rw [<-G];exact aj
 have e6:H6 lw=some (.lst ys):=by rw [<-G,ao j];exact e5
 have aA:H6 lc=some (.lst xs):=by rw [<-G,ao af];exact aB
 clear G;rwa[ae (ik p6 U h1) rfl ?_];rwa[cK ax Y R.fire (by show 4<1000;decide) ?_];generalize I:upd H6 a _=H7
 have p7:gu a H H7:=by rw [<-I];exact λb o n e=>by rw [ao n];exact p6 b o n e
 have ay:H7 a=some (.ins C dx [(s!"house",.ref h),(s!"cabins",.ref lc),(s!"waiting",.ref lw),(s!"last",.int L),(s!"fire",.bl O)]):=by rw [<-I];exact aj
 have e7:H7 lw=some (.lst ys):=by rw [<-I,ao j];exact e6
 have as:H7 lc=some (.lst xs):=by rw [<-I,ao af];exact aA
 clear I;rwa[cK ay Y R.blocked (by show 5<1000;decide) ?_];generalize bd:upd H7 a _=H8
 have p8:gu a H H8:=by rw [<-bd];exact λb o n e=>by rw [ao n];exact p7 b o n e
 have ak:H8 a=some (.ins C dx [(s!"house",.ref h),(s!"cabins",.ref lc),(s!"waiting",.ref lw),(s!"last",.int L),(s!"fire",.bl O),(s!"blocked",.int 0)]):=by rw [<-bd];exact aj
 have e8:H8 lw=some (.lst ys):=by rw [<-bd,ao j];exact e7
 have ab:H8 lc=some (.lst xs):=by rw [<-bd,ao af];exact as
 clear bd;rwa[mJ (bJ (by show 0<=1000000;decide)) λll H9 s9 S e9=> ?_];have av:=s9 _ _ ak;rwa[cK av Y R.log (by show 6<1000;decide) ?_]
 have ai:ll≠a:=λz=>by rw [z,ak] at S;cases S
 have aE:lc≠ll:=λz=>by rw [<-z,ab] at S;cases S
 have aw:lw≠ll:=λz=>by rw [<-z,e8] at S;cases S
 rwa[q lc lw ll _ (λb o n e=> ?_) aq an ?_ aC aE aw aj ?_ ?_ ?_]
 ·rw [ao n];exact s9 _ _ (p8 b o n e)
 ·cases y:H ll with
  |none=>rfl
  |some o=>rw [p8 _ _ ai y] at S;cases S
 ·rw [ao af];exact s9 _ _ ab
 ·rw [ao j];exact s9 _ _ e8
 ·rw [ao ai];exact e9
unseal iq in
theorem RG {C:Addr}{E:XK}{H:Hp}{h st:Addr}{cs:List Cb}{ws:List be}{last:Int}{j:Bool}{Q:VK}(cM:sQ K C)(hs:cx K H st cs ws last j)(g:∀m H',fD K C H H' m h ⟨cs,ws,last,j,0,[]⟩->Q (.ref m) H'):iq C (D6 K) E [.ref h,.ref st] H Q:=by
 show ∀a dx,H a=none->H dx=none->dx≠a->D6 K (.ref a::([.ref h,.ref st]++[])) @s (λv H2=>v= .non/\Q (.ref a) H2) E;intro a dx h1 h2 h3;have F:aq H @s:=eQ h1 h2;obtain ⟨tc,tw,xs,ys,i1,i2,R,i4,O⟩:=hs;rwa[⟨a,h,st,C,dx,tc,tw,xs,ys,last,j,rfl,aj,cM,F.seqT i1,F.seqT i2,F.seqT R,λlc lw ll H' sp J W S cw G Y L Z U el=>⟨rfl,g a H' ?_⟩⟩];have I:aq H H':=λb o e=>sp b o (λz=>by rw [z,h1] at e;cases e) (F b o e);exact ⟨dx,lc,lw,ll,xs,ys,[],I,h1,none_of F J,none_of F W,none_of F S,cw,G,Y,L,Z,U,el,Paired.imp' (λx c z=>d5.keep z I.st) i4,aC.same O I,.nil,rfl⟩
inductive AT (K:Fg)(C:Addr)(vs:List V)(H:Hp)(Q:VK)(_e:XK):Prop
 |mk (m h H0 M:_) (_:vs=[.ref m]) (_:fD K C H0 H m h M) (_:∀st H',aq H H'->cx K H' st M.cs M.ws M.last M.fire->Q (.ref st) H')
theorem MU {C:Addr}(F:Z0 K "state_of" qF f fd)(j:sQ K C)(J:mg "tuple"=none):az P w K mg base bg 1 f fd ["moment"] (AT K C):=by
 rwa[F.ok B4 (by symm) @bv];obtain ⟨m,h,H0,M,rfl,⟨dx,lc,lw,ll,xs,ys,zs,a⟩,q⟩:=h;have G:=j.i.cl;rwa[⟨_,(ac (ak (cW (au (bD @el rfl J boot_tuple @bi) (au (bD @el rfl J boot_tuple @bi) @gI))))),?_⟩];rwa[bS a G j.cabins (v:= .ref lc) rfl ?_];rwa[jw @bA λtc H1 O n1 W=> ?_];have z:=a.same O;rwa[bS z G j.waiting (v:= .ref lw) rfl ?_];rwa[jw (aN.of z.ew) λtw H2 R n2 U=> ?_];have I:=z.same R;rwa[bS I G j.last (v:= .int M.last) rfl ?_];rwa[bS I G j.fire (v:= .bl M.fire) rfl ?_];rwa[b3 (bJ (by show 4<=1000000;decide)) λst S L n3 Y=> ?_];have Z:=I.same L;exact q st S (O.trans (R.trans L)) ⟨tc,tw,xs,ys,aD.of Y,aD.of (L _ _ (R _ _ W)),aD.of (L _ _ U),Z.dc,Z.dw⟩
structure pP (hs:Hs)(n:Nat)(M:MS):Prop where
 len:M.cs.length=hs.ls.length
 cs:∀c∈M.cs,ie hs.fl c
 ws:∀r∈M.ws,fO hs.fl r
 sum:M.log.length+M.ws.length<=n
theorem fL {α:Type}{l:List α}{i:Nat}{x y:α}(h:y∈l.set i x):y∈l\/y=x:=mem_or_eq_of_mem_set h
theorem ie.mk' {fl:Int}{c:Cb}(o:ie fl c){k:Int}(h:0<=k):ie fl {c with mr:=k}:=⟨o.p0,o.p1,o.l0,o.l1,h,o.ev,o.len,o.gs⟩
theorem Ge {M:MS}{i:Int}(h:i.toNat<M.cs.length):dR M i∈M.cs:=by
 unfold dR;rw [getD_eq_getElem?_getD,getElem?_eq_getElem h];exact getElem_mem h
theorem pP.setMk {hs:Hs}{n:Nat}{M:MS}(o:pP hs n M){i:Int}{k:Int}(hi:i.toNat<M.cs.length)(h:0<=k){ws:List be}(F:∀r∈ws,fO hs.fl r)(W:ws.length<=M.ws.length):pP hs n {M with cs:=M.cs.set i.toNat {dR M i with mr:=k},ws:=ws}:=by
 rwa[⟨by rw [length_set];exact o.len,λc I=> ?_,F,by have:=o.sum;show M.log.length+ws.length<=n;lia⟩]
 rcases fL I with z|z
 ·exact o.cs c z
 ·rw [z];exact (o.cs _ (Ge hi)).mk' h
theorem xU {hs:Hs}{i:Int}{ws:List be}(h:∀r∈ws,fO hs.fl r):∀r∈fk i ws,fO hs.fl r:=λr Y=>by
 obtain ⟨s,z,rfl⟩:=mem_map.mp Y;have o:=h s z;split
 ·exact ⟨o.s0,o.s1,o.g0,o.g1,o.ne⟩
 ·exact o
theorem pP.deed {hs:Hs}{n:Nat}{M:MS}(o:pP hs n M){d:Dd}(J:d.ok)(G:d.fit hs.fl hs.ls.length):pP hs (n+1) (bX hs.lo M d):=by
 have j:∀ {M':MS},pP hs n M'->pP hs (n+1) M':=λz=>⟨z.len,z.cs,z.ws,by have:=z.sum;lia⟩
 cases d with
 |come t s g k=>
  obtain ⟨W,O,L,Z,R⟩:=G;show pP hs (n+1) (fI hs.lo M t s g k);unfold fI;have I:=o.sum;split
  ·exact ⟨o.len,o.cs,o.ws,by show (M.log++_).length+M.ws.length<=_;rw [length_append];simp;lia⟩
  split
  ·exact ⟨o.len,o.cs,o.ws,by show (M.log++_).length+M.ws.length<=_;rw [length_append];simp;lia⟩
  ·rwa[⟨o.len,o.cs,λr Y=> ?_,by show M.log.length+(M.ws++_).length<=_;rw [length_append];simp;lia⟩]
   rcases mem_append.mp Y with z|z
   ·exact o.ws r z
   ·rw [mem_singleton.mp z];exact ⟨W,O,L,Z,R⟩
 |lf x i=>
  obtain ⟨S,U⟩:=G
  have hi:i.toNat<M.cs.length:=by rw [o.len];lia
  have F:(fk i M.ws).length<=M.ws.length:=by unfold fk;rw [length_map];exact Nat.le_refl _
  rcases J with rfl|rfl|rfl|rfl|rfl
  ·rw [gk];exact j ⟨o.len,o.cs,o.ws,o.sum⟩
  ·rw [ge];exact j (o.setMk hi @c (xU o.ws) F)
  ·rw [iB];exact j (o.setMk hi @c o.ws @f)
  ·rw [gh];exact j (o.setMk hi @c (xU o.ws) F)
  ·rw [iF];exact j (o.setMk hi @c o.ws @f)
 |sg x=>
  rcases J with rfl|rfl
  ·rw [iC];have I:=o.sum;exact j ⟨o.len,o.cs,λr Y=>(by have Y:r∈([]:List be):=Y;cases Y),by show (M.log++_).length+0<=_;rw [length_append,length_map];lia⟩
  ·rw [iE];unfold kI;split
   ·exact j ⟨o.len,o.cs,o.ws,o.sum⟩
   ·exact j o
theorem pP.dealt {hs:Hs}{n:Nat}{M:MS}(o:pP hs n M){dl:wP}{p:Nat}{r:be}(Y:fO hs.fl r):pP hs (n+1) @hc:=by
 unfold gK;have F:=o.sum;split
 ·exact ⟨o.len,o.cs,o.ws,by show M.log.length+M.ws.length<=_;lia⟩
 ·rwa[⟨o.len,o.cs,λs j=> ?_,by show (M.log++_).length+(M.ws.set _ _).length<=_;rw [length_append,length_set];simp;lia⟩]
  rcases fL j with z|z
  ·exact o.ws s z
  ·rw [z];exact ⟨Y.s0,Y.s1,Y.g0,Y.g1,Y.ne⟩
theorem pP.deals {hs:Hs}{n:Nat}{M:MS}(o:pP hs n M){dl:wP}{W:List be}(G:∀r∈W,fO hs.fl r):∀i,pP hs (n+i) @gh
 |0=>o
 |i+1=>by
  have h:=pP.deals (dl:=dl) o G i;unfold aZ;split
  ·rename_i r Y;split
   ·exact h.dealt (G r (mem_of_getElem? Y))
   ·exact ⟨h.len,h.cs,h.ws,by have:=h.sum;lia⟩
  ·exact ⟨h.len,h.cs,h.ws,by have:=h.sum;lia⟩
def uU (hs:Hs)(wf:Wf):Nat->MS->MS->Prop
 |0,M,M'=>M'=M
 |i+1,M,M''=>∃M' c l,uU hs wf i M M'/\atC M' (i:Int) c/\hs.ls[i]? =some l/\Hm hs wf M' (i:Int) c l M''
structure kO (hs:Hs)(M0:MS)(i:Nat)(M:MS):Prop where
 len:M.cs.length=M0.cs.length
 cs:∀j,i<=j->M.cs[j]? =M0.cs[j]?
 ws:∀r∈M.ws,r∈M0.ws
 wl:M.ws.length<=M0.ws.length
 log:M.log.length<=M0.log.length+400*i
theorem kO.set {hs:Hs}{z M:MS}{i:Nat}(o:kO hs z i M){c:Cb}{lg:List D}{ws:List be}(F:∀r∈ws,r∈M.ws)(W:ws.length<=M.ws.length)(G:lg.length<=M.log.length+400):kO hs z (i+1) {M with cs:=M.cs.set i c,ws:=ws,log:=lg}:=by
 rwa[⟨by rw [length_set];exact o.len,λj Z=> ?_,λr Y=>o.ws r (F r Y),Nat.le_trans W o.wl,by have:=o.log;show lg.length<=_;lia⟩];rw [getElem?_set_ne @c];exact o.cs j @c
theorem kO.go {hs:Hs}{wf:Wf}{F M M':MS}{i:Nat}{c:Cb}{l:Lf}(o:kO hs F i M)(J:c.ps.length<=200)(L:M.ws.length<=200)(h:Hm hs wf M (i:Int) c l M'):kO hs F (i+1) M':=by
 have z:kO hs F (i+1) M:=⟨o.len,λj Z=>o.cs j @c,o.ws,o.wl,by have:=o.log;lia⟩
 have e:((i:Int)).toNat=i:=by lia
 have G:∀I,kO hs F (i+1) (cf M (i:Int) I):=λI=>by
  have:=o.set (c:=I) (lg:=M.log) (ws:=M.ws) @fh @f @c;unfold cf;rw [e];exact this
 rcases h with ⟨_,rfl⟩|⟨_,_,rfl⟩|⟨_,_,h⟩
 ·exact z
 ·unfold iA;split
  ·unfold pf cf jL;rw [e];rwa[o.set @fh @f ?_];rw [length_append,length_map,length_map];have:=mE c;lia
  split
  ·exact G _
  ·exact G _
 ·unfold Dm at h;split at h
  ·rw [h];unfold jP cf jL;rw [e];rwa[o.set (λr h=>(mem_filter.mp h).1) @Y ?_];rw [length_append,length_append,length_map,length_map];have h1:=xE (pl:=c.pl) (ps:=c.ps);have h2:=xY (hs:=hs) (c:=c) (l:=l) (rs:=aW (i:Int) M);have O:(aW (i:Int) M).length<=M.ws.length:=length_filter_le _ _;lia
  split at h
  ·rw [h];exact G _
  ·obtain ⟨R,u,d,_,_,_,rfl⟩:=h;exact G _
noncomputable def eN:Dd->List Int
 | .come t _ _ _=>[t]
 |_=>[]
def tM (fl:Int)(n:Nat):List Int->List Dd->Prop
 |_,[]=>True
 |ts,d::ds=>d.fit fl n/\(∀t∈eN d,t∉ts)/\tM fl n (ts++eN d) ds
theorem rL {fl:Int}{n:Nat}:∀ {ds:List Dd} {ts:List Int},tM fl n ts ds->∀d∈ds,d.fit fl n
 |[],_,_,d,J=>by cases J
 |e::ds,ts,h,d,J=>by
  rcases mem_cons.mp J with rfl|J
  ·exact h.1
  ·exact rL h.2.2 d J
def fS (cs:List Cb)(ws:List be):List Int:=ws.map (·.tag)++cs.flatMap λc=>c.ps.map (·.1)
def yK (K:Fg)(H:Hp)(p:Addr)(ds:List Dd):Prop:=∃xs,aN K H p xs/\Paired (λx d=>∃a,x=V.ref a/\sO H a d) xs ds
inductive AU (K:Fg)(vs:List V)(H:Hp)(Q:VK)(_e:XK):Prop
 |mk (h st dl hs cs ws last fire ds:_) (_:vs=[.ref h,.ref st,.ref dl]) (_:lS K H h hs) (_:cx K H st cs ws last fire) (_:yK K H dl ds) (_:ws.length<=200) (_:(∀c∈cs,c.ps.length<=200)) (_:cs.length<=10) (_:ds.length<=200) (_:tM (Hs.fl hs) hs.ls.length (fS cs ws) ds) (_:∀H',aq H H'->Q .non H')
structure N9 (K:Fg)(C:Addr):Prop where
 i:iL K C
 house:aV K C "house"
 rule:aV K C "rule"
 dealer:aV K C "dealer"
abbrev rR (h ru df:Addr):List (Str×V):=[(s!"house",.ref h),(s!"rule",.ref ru),(s!"dealer",.ref df)]
noncomputable def ay (lo:Nat)(M:MS)(ds:List Dd):MS:=ds.foldl (bX lo) M
noncomputable def dZ (dl:wP)(M:MS):MS:=if M.fire=true then M else aZ dl M.ws M.ws.length M
inductive y6 (P:Program)(w:World)(K:Fg)(mg:Str->Option Value)(base:Heap)(GG:Hp->Prop)(pre:List Cb->List be->be->Int->Prop)(dl:wP)(vs:List V)(H:Hp)(Q:VK)(_e:XK):Prop
 |mk (a st dp C dx h ru df hs wf cs ws last fire ds:_) (_:vs=[.ref a,.ref st,.ref dp]) (_:H a=some (.ins C dx @fi)) (_:N9 K C) (_:lS K H h hs) (_:Ds P w K mg base H ru wf) (_:m8 P w K mg base 5 df @fp) (_:GG H) (_:cx K H st cs ws last fire) (_:yK K H dp ds) (_:pP hs ws.length ⟨cs,ws,last,fire,0,[]⟩) (_:ws.length+ds.length<=200) (_:tM (Hs.fl hs) hs.ls.length (fS cs ws) ds) (_:((ay hs.lo ⟨cs,ws,last,fire,0,[]⟩ ds).fire=false->∀i r,(ay hs.lo ⟨cs,ws,last,fire,0,[]⟩ ds).ws[i]? =some r->r.lift= -1->pre (aZ dl (ay hs.lo ⟨cs,ws,last,fire,0,[]⟩ ds).ws i @bk).cs (aZ dl (ay hs.lo ⟨cs,ws,last,fire,0,[]⟩ ds).ws i @bk).ws r (aZ dl (ay hs.lo ⟨cs,ws,last,fire,0,[]⟩ ds).ws i @bk).last)) (_:(∀r st' ll zs M' H',bu H H'->GG H'->H' r=some (.tup [.ref st',.ref ll])->cx K H' st' M'.cs M'.ws M'.last M'.fire->H' ll=some (.lst zs)->aC K H' zs M'.log->noLs M'.log=true->(∀b zs0,H b=some (.lst zs0)->b≠ll)->uU hs wf hs.ls.length (dZ dl @bk) M'->Q (.ref r) H'))
theorem rP {lo:Nat}{M:MS}{ds:List Dd}{i:Nat}{d:Dd}(h:ds[i]? =some d):ay lo M (ds.take (i+1))=bX lo (ay lo M @bh) d:=by
 unfold ay;rw [take_add_one,h,foldl_append];rfl
theorem pP.deeds {hs:Hs}{n:Nat}{M:MS}(o:pP hs n M):∀ {ds:List Dd},(∀d∈ds,d.ok/\d.fit hs.fl hs.ls.length)->∀i,pP hs (n+i) (ay hs.lo M @bh)
 |ds,h,0=>by
  rw [take_zero];exact o
 |ds,h,i+1=>by
  have z:=pP.deeds o h i
  cases e:ds[i]? with
  |none=>
   rw [take_add_one,e];simp only [Option.toList_none,append_nil];exact ⟨z.len,z.cs,z.ws,by have:=z.sum;lia⟩
  |some d=>
   rw [rP e];have:=h d (mem_of_getElem? e);exact z.deed this.1 this.2
theorem Bk {H H':Hp}(s:bu H H'){a:Addr}{h:Hs}(c:lS K H a h):lS K H' a h:=by
 obtain ⟨o,p,xs,h1,h2,L⟩:=c;exact ⟨o,p,xs,s.sqT h1,s.sqT h2,Paired.imp' (λx l ⟨b,e,z⟩=>⟨b,e,s.sqT z⟩) L⟩
theorem KM {H H':Hp}(s:bu H H'){a:Addr}{wf:Wf}(r:Ds P w K mg base H a wf):Ds P w K mg base H' a wf:=by
 obtain ⟨C,dx,fs,sp,h1,h2,L,j,S⟩:=r;exact ⟨C,dx,fs,sp,s _ _ (λ_ z=>by cases z) h1,h2,L,j,S⟩
theorem Jh {kM:Addr}{GG:Hp->Prop}{pre:List Cb->List be->be->Int->Prop}{dl:wP}(gT:GT GG)(F:bB K "turn" "Court.turn" iZ f fd)(cM:sQ K kM)(bo:mg "len"=none)(bQ:mg "range"=none)(gN:bf P w K mg base 7 "need_deeds" ["house","state","deeds"] (AU K))(mI:jm P w K mg base bg 1 "Moment" kM (D6 K))(m6:bf P w K mg base 5 "do_deed" ["moment","deed"] (Il K kM))(ke:bf P w K mg base 7 "deal_all" ["moment","dealer"] (mh P w K mg base kM GG pre dl))(bd:bf P w K mg base 8 "go" ["moment","rule","lift"] (Ik P w K mg base kM))(ka:bf P w K mg base 1 "state_of" ["moment"] (AT K kM)):az P w K mg base bg 9 f fd ["self","state","deeds"] (y6 P w K mg base GG pre dl):=by
 rwa[F.ok o0 (by symm) (λbr A outer s H vs Q E hr h=> ?_)];obtain ⟨a,st,dp,C,dx,h,ru,df,hs,wf,cs,ws,aS,aC,ds,rfl,ea,cC,hH,a1,aA,a2,aJ,aH,af,bj,al,S,q⟩:=h;have L:=cC.i.cl;have cl:=cM.i.cl;have l3:=hH.1.l3
 have aB:cs.length<=10:=by have:=af.len;have:cs.length=hs.ls.length:=this;lia
 have aI:∀c∈cs,c.ps.length<=200:=λc hc=>(af.cs c hc).len;rwa[⟨_,(aa @fB (aa (bp (i:=3) o0.nd rfl @q (gC mI jI hr @b rfl (au @a @be))) (aa (cO PassesOwn.never rfl @a @a @G) (gI (ax (bw @a) @G ar) (aa (cO PassesOwn.never rfl (dU rfl bQ @bi) @a @G) @j))))),?_⟩];rwa[fA ea L cC.house (v:= .ref h) rfl ?_];rwa[AU.mk _ _ _ _ _ _ _ _ _ rfl hH aJ aH @c aI aB @c al λH1 U=> ?_];have bb:=rL al;obtain ⟨xd,a3,pd⟩:=aH
 have aF:∀d∈ds,d.ok/\d.fit hs.fl hs.ls.length:=λd hd=>by
  obtain ⟨i,hi⟩:=mem_iff_getElem?.mp hd;obtain ⟨x,hx,ad,_,av⟩:=pd.get2 hi;exact ⟨av.2,bb d hd⟩
 have j:=U _ _ ea;rwa[fA j L cC.house (v:= .ref h) rfl ?_];rwa[RG cM (aJ.keep U.st) λm H2 aR=> ?_];have a5:=gT _ _ (U.trans aR.s).st a2;have bc:=aR.s.st;have aR:=aR.onto (q9 H1);have aK:=Ab H1;have s2:=aR.s;have j:=lF j (λ_ z=>by cases z);generalize a0:(⟨cs,ws,aS,aC,0,[]⟩:MS)=M0 at aR af S q
 have bn:M0.ws.length=ws.length:=by rw [<-a0]
 have ao:=(FK H1).sqL (U.seq a3);rwa[cz (s2.seq ao) ?_];have xl:xd.length=ds.length:=pd.len;have aq:=Bk (FK H1) (hH.same U);have ai:=KM (FK H1) (a1.same U);have a8:aQ (rb H1) H1:=(q9 H1).st;generalize aE:rb H1=Hb at aR aK s2 j ao aq ai a8;have aW:∀i,pP hs (ws.length+i) (ay hs.lo M0 @bh):=λi=>af.deeds aF i;rwa[dX (xs:=xd) (λi σ O=>fD K kM Hb O m h (ay hs.lo M0 @bh)/\aQ H1 O/\GG O/\∃W Y,σ=[some (.ref a),some (.ref st),some (.ref dp),some (.ref m),W,Y]) ⟨by rw [take_zero];exact aR,bc,a5,_,_,rfl⟩ (λi σ O _ Z=>Z.1.s.seq ao) (λi x σ O hx Z=> ?_) (λσ O Z=> ?_)]
 ·obtain ⟨hM,ag,gX,W,Y,rfl⟩:=Z;obtain ⟨d,hd,ad,rfl,av⟩:=pd.get1 hx;have il:i<ds.length:=(List.getElem?_eq_some_iff.mp hd).1;have J:=aW i;have sm:=J.sum;rwa[Il.mk _ _ _ _ _ _ _ rfl ((hH.same U).keep ag) ((av.same U).keep ag) (aF d (mem_of_getElem? hd)).2 hM @c @c J.len (λc hc=>(J.cs c hc).m0) λH' G I=> ?_];rw [<-rP hd] at I;exact ⟨I,ag.trans G,gT _ _ G gX,_,_,rfl⟩
 obtain ⟨hM,ag,gX,W,Y,rfl⟩:=Z;rw [xl,take_of_length_le @f] at hM;have J:=aW ds.length;rw [take_of_length_le @f] at J;generalize bm:ay hs.lo M0 ds=M1 at hM J S q;have bu:=J.sum;have an:=hM;obtain ⟨bt,bi,bx,bv,bD,bz,bC,ma⟩:=hM;rwa[yb (λσ H3=>fD K kM Hb H3 m h (dZ dl M1)/\GG H3/\∃W Y,σ=[some (.ref a),some (.ref st),some (.ref dp),some (.ref m),W,Y]) ?_ ?_]
 ·ext;erw[bS ma cl cM.fire (v:= .bl M1.fire) rfl ?_]
  cases hf:M1.fire with
  |true=>
   rwa[aL rfl ?_];rwa[⟨?_,gX,_,_,rfl⟩];unfold dZ;rw [if_pos hf];exact an
  |false=>
   rwa[bG rfl ?_];rwa[fA (an.s _ _ j) L cC.dealer (v:= .ref df) rfl ?_];rwa[mh.mk _ _ _ _ _ rfl aA gX aK an @c @c (by rw [J.len];lia) (S hf) λH' G gY I=>⟨?_,gY,_,_,rfl⟩];unfold dZ;rw [if_neg (by rw [hf];decide)];exact I
 rintro σ' H3 ⟨aw,g3,W,Y,rfl⟩
 have R:pP hs (ws.length+ds.length+M1.ws.length) (dZ dl M1):=by
  unfold dZ;split
  ·exact ⟨J.len,J.cs,J.ws,by have:=J.sum;lia⟩
  ·exact J.deals J.ws M1.ws.length
 generalize aU:dZ dl M1=M2 at aw R q
 have bq:M2.ws.length<=200:=by
  have h1:M2.ws.length=M1.ws.length:=by
   rw [<-aU];unfold dZ;split
   ·rfl
   ·exact (eV _).1
  lia
 have bA:=R.sum;have s3:=aw.s;rwa[fA (s3 _ _ j) L cC.house (v:= .ref h) rfl ?_];obtain ⟨_,ph,bs,a9,a7,ba⟩:=aq.same s3;rwa[ae a9 rfl ?_];rwa[bh a7 ?_];rw [ba.len];rwa[⟨⟨by lia,by lia⟩,?_⟩];rwa[fY (λi σ O=>∃M',fD K kM Hb O m h M'/\uU hs wf i M2 M'/\kO hs M2 i M'/\GG O/\∃W Y,σ=[some (.ref a),some (.ref st),some (.ref dp),some (.ref m),W,Y]) ⟨M2,aw,rfl,⟨rfl,λ_ _=>rfl,λ_ h=>h,Nat.le_refl _,by lia⟩,g3,_,_,rfl⟩ (λi σ O hi Z=> ?_) (λσ O Z=> ?_)]
 ·obtain ⟨M',I,hg,ah,ap,W,Y,rfl⟩:=Z
  have i0:(0:Int)+(i:Nat)=((i:Nat):Int):=by lia
  rw [i0]
  have il:i<hs.ls.length:=by lia
  have hl:hs.ls[i]? =some hs.ls[i]:=getElem?_eq_getElem il
  have ic:i<M2.cs.length:=by rw [R.len];exact il
  have hc:M'.cs[i]? =some M2.cs[i]:=by rw [ah.cs i @f];exact getElem?_eq_getElem ic
  have aj:ie hs.fl M2.cs[i]:=R.cs _ (getElem_mem ic);have aM:atC M' (i:Int) M2.cs[i]:=⟨by lia,by rw [show ((i:Int)).toNat=i by lia];exact hc⟩
  have aD:M'.ws.length<=200:=by have:=ah.wl;lia
  rwa[fA (I.s _ _ j) L cC.rule (v:= .ref ru) rfl ?_];rwa[Ik.mk _ _ _ _ _ _ _ _ _ _ rfl aq (by rw [show ((i:Int)).toNat=i by lia];exact hl) ai I aM aj @c (λr hr=>R.ws r (ah.ws r hr)) aD (by have:=ah.log;lia) λM'' H' aV G aN=> ?_];exact ⟨M'',aN,⟨M',_,_,hg,aM,hl,aV⟩,ah.go aj.len aD aV,gT _ _ G ap,_,_,rfl⟩
 obtain ⟨M',I,hg,ah,ap,W,Y,rfl⟩:=Z;rw [show ((hs.ls.length:Int)).toNat=hs.ls.length by lia] at hg;obtain ⟨aZ,a6,a4,as,aX,aY,aT,fa⟩:=I;rwa[AT.mk _ _ _ _ rfl ⟨aZ,a6,a4,as,aX,aY,aT,fa⟩ λG H4 s4 aP=> ?_];have aG:=fa.same s4;rwa[bS aG cl cM.log (v:= .ref as) rfl ?_];rwa[b3 (bJ (by show 2<=1000000;decide)) λr H5 s5 n5 e5=> ?_];have ab:=aG.same s5;exact q r G as aT M' H5 (U.nt.trans (Na (by rw [aE];exact ab.s))) (gT _ _ (s4.trans s5).st ap) e5 (aP.keep s5.st) ab.el ab.dl ab.ln (λb bk e z=>by subst z;have y:=fa.nl;rw [<-aE,lF (U _ _ e) (λ_ z=>by cases z)] at y;cases y) hg
def yJ (K:Fg)(H:Hp)(a:Addr)(fl:Int)(n:Nat):Prop:=∃p c0 so ls,aD K H a [.int fl,.ref p,c0,so]/\aD K H p ls/\ls.length=n/\2<=fl/\fl<=8/\1<=n/\n<=3
theorem yJ.same {H H':Hp}{a:Addr}{fl:Int}{n:Nat}(h:yJ K H a fl n)(s:aq H H'):yJ K H' a fl n:=by
 obtain ⟨p,O,j,z,h1,h2,r⟩:=h;exact ⟨p,O,j,z,s.seqT h1,s.seqT h2,r⟩
theorem lS.at' {H:Hp}{h:Addr}{hs:Hs}(c:lS K H h hs):yJ K H h hs.fl hs.ls.length:=by
 obtain ⟨o,p,xs,h1,h2,L⟩:=c;exact ⟨p,_,_,xs,h1,h2,L.len,o.f2,o.f8,o.l1,o.l3⟩
inductive md (K:Fg)(vs:List V)(H:Hp)(Q:VK)(_e:XK):Prop
 |mk (h fl n i:_) (_:vs=[.ref h,.int i]) (_:yJ K H h fl n) (_:0<=i) (_:i<fl) (_:Q .non H)
theorem Cp (F:Z0 K "need_floor" lj f fd):az P w K mg base bg 1 f fd ["house","floor"] (md K):=by
 rwa[F.ok xv (by symm) (λj A outer s H G Q E Y h=> ?_)];obtain ⟨h,fl,n,i,rfl,⟨p,O,I,z,L,J,W,U,f8,Z,n3⟩,R,S,q⟩:=h;rwa[⟨_,(ac (ax (bw @a) (ac A6) ar)),?_⟩];left;exact q
inductive va (K:Fg)(vs:List V)(H:Hp)(Q:VK)(_e:XK):Prop
 |mk (h fl:_) (n:Nat) (i:Int) (_:vs=[.ref h,.int i]) (_:yJ K H h fl n) (_:0<=i) (_:i<(n:Int)) (_:Q .non H)
theorem Fm (F:Z0 K "need_lift" nO f fd)(O:mg "len"=none):az P w K mg base bg 1 f fd ["house","lift"] (va K):=by
 rwa[F.ok zu (by symm) (λG A outer s H I Q E Y h=> ?_)];obtain ⟨h,fl,n,i,rfl,⟨p,U,so,z,L,R,W,f2,J,n1,n3⟩,Z,S,q⟩:=h
 have j:(z.length:Int)=n:=by rw [W]
 rwa[⟨_,(ac (ax (bw @a) (ac A6) ar)),?_⟩];left;exact q
inductive u9 (K:Fg)(vs:List V)(H:Hp)(Q:VK)(_e:XK):Prop
 |mk (h fl n st go:_) (_:vs=[.ref h,.int st,.int go]) (_:yJ K H h fl n) (_:0<=st) (_:st<fl) (_:0<=go) (_:go<fl) (_:st≠go) (_:Q .non H)
theorem Fk (F:Z0 K "need_ride" nN f fd)(J:bf P w K mg base 1 "need_floor" ["house","floor"] (md K)):az P w K mg base bg 2 f fd ["house","start","goal"] (u9 K):=by
 rwa[F.ok zt (by symm) (λj A outer s H G Q E I h=> ?_)];obtain ⟨h,fl,n,st,z,rfl,L,W,O,Y,Z,R,q⟩:=h;rwa[⟨_,(aa @fB (aa @fB (ac (ax @a (ac A6) ar)))),?_⟩];rwa[md.mk _ _ _ _ rfl L W O ?_];rwa[md.mk _ _ _ _ rfl L Y Z ?_];left;exact q
inductive zb (K:Fg)(vs:List V)(H:Hp)(Q:VK)(_e:XK):Prop
 |mk (h fl n a d:_) (_:vs=[.ref h,.ref a]) (_:yJ K H h fl n) (_:sO H a d) (_:Dd.fit fl n d) (_:∀H',aq H H'->Q .non H')
theorem Jp (F:Z0 K "need_deed" nQ f fd)(r6:bf P w K mg base 2 "need_ride" ["house","start","goal"] (u9 K))(r9:bf P w K mg base 1 "need_lift" ["house","lift"] (va K)):az P w K mg base bg 3 f fd ["house","deed"] (zb K):=by
 rwa[F.ok zv (by symm) @bv];obtain ⟨h,fl,n,a,d,rfl,L,⟨ea,Y⟩,S,q⟩:=h;have O:=aD.of (K:=K) ea;rwa[⟨_,(ac (ax @a @G (ac (ax (aP (uZ rfl) @a @a @D) @G ar)))),?_⟩]
 cases d with
 |come t s g k=>
  have O:aD K H a [.str uk,.int t,.int s,.int g,.bl k]:=O;obtain ⟨W,G,J,g1,U⟩:=S;rwa[ae O rfl ?_];rwa[bG rfl ?_];left;exact u9.mk _ _ _ _ _ rfl L W G J g1 U (q _ (.refl _))
 |lf x i=>
  obtain ⟨i0,Z⟩:=S;have j:x=s!"block"\/x=s!"stick"\/x=s!"free"\/x=s!"goods"\/x=s!"back":=Y;have O:aD K H a [.str x,.int i]:=O;rwa[ae O rfl ?_];rwa[bK (by rcases j with z|z|z|z|z<;>rw [z]<;>decide+kernel) ?_];rwa[ae O rfl ?_];rwa[b3 (bJ (by show 2<=1000000;decide)) λR H1 G n1 I=> ?_];rwa[ur (aD.of I) rfl rfl ?_];rw [show xR (.str x) [.str "fire",.str "calm"]=false by rcases j with z|z|z|z|z<;>rw [z]<;>rfl];rwa[bG rfl ?_];rwa[ae (G.seqT O) rfl ?_];exact va.mk _ _ _ _ rfl (L.same G) i0 Z (q _ G)
 |sg x=>
  have j:x=s!"fire"\/x=s!"calm":=Y;have O:aD K H a [.str x]:=O;rwa[ae O rfl ?_];rwa[bK (by rcases j with z|z<;>rw [z]<;>decide+kernel) ?_];rwa[ae O rfl ?_];rwa[b3 (bJ (by show 2<=1000000;decide)) λR H1 G n1 I=> ?_];rwa[ur (aD.of I) rfl rfl ?_];rw [show xR (.str x) [.str "fire",.str "calm"]=true by rcases j with z|z<;>rw [z]<;>rfl];rwa[aL rfl ?_];exact q _ G
inductive y7 (K:Fg)(vs:List V)(H:Hp)(Q:VK)(_e:XK):Prop
 |mk (st cs ws last fire:_) (_:vs=[.ref st]) (_:cx K H st cs ws last fire) (_:ws.length<=200) (_:(∀c∈cs,c.ps.length<=200)) (_:cs.length<=10) (_:∀l H',aq H H'->H' l=some (.lst ((fS cs ws).map V.int))->Q (.ref l) H')
theorem xW {cs:List Cb}(h:∀c∈cs,c.ps.length<=200):(cs.flatMap λc=>c.ps.map (·.1)).length<=200*cs.length:=by
 induction cs with
 |nil=>simp
 |cons c cs ih=>
  rw [flatMap_cons,length_append,length_map,length_cons];have:=h c (.head _);have:=ih λc I=>h c (.tail _ I);lia
theorem Ji (F:Z0 K "tags_in" vz f fd):az P w K mg base bg 1 f fd ["state"] (y7 K):=by
 rwa[F.ok xq (by symm) (λan A outer s H vs Q E hr h=> ?_)];obtain ⟨st,S,O,ag,af,rfl,⟨tc,tw,xs,ys,h1,h2,h3,h4,h5⟩,wl,Z,cl,q⟩:=h;have yl:ys.length=O.length:=aM h5;have xl:xs.length=S.length:=h4.len;rwa[⟨_,(aa (lV (i:=1) rfl xq.nd rfl @q @M @a @v @x @O) (aa (cO PassesOwn.never rfl @a @a (ac (aO (gD rfl PySem.F.plainAttrs_list PySem.F.slot_list_extend PySem.F.type_list_extend lW (wv 1) (au (bz rfl @bP @a @w @x @O) am))))) @fa)),?_⟩];rwa[ae h1 rfl ?_];rwa[cZ h3 ?_];rwa[cN (xs:=ys) (λj G z=>aq H z/\G=((O.take j).map (·.tag)).map V.int) @bu (λj G z h=>by rw [h.2,length_map,length_map,length_take];exact Nat.min_le_left _ _) ⟨.refl _,rfl⟩ (λj G z _ h=>h.1.seqT h3) (λj y G z hy J=> ?_) (λG z J l n=> ?_)]
 ·obtain ⟨U,rfl⟩:=J;obtain ⟨r,ad,dr⟩:=bE (f:=be.d) h5 hy;obtain ⟨ra,rfl,hT⟩:=dP @ew;rwa[ju hT rfl ?_];rwa[⟨lY,?_⟩];rwa[⟨U,?_⟩];rw [take_add_one,ad,map_append,map_append];rfl
 obtain ⟨U,rfl⟩:=J;rw [yl,take_of_length_le @f];have s2:aq z (upd z l (.lst ((O.map (·.tag)).map V.int))):= .upd n;have e2:upd z l (.lst ((O.map (·.tag)).map V.int)) l=some (.lst ((O.map (·.tag)).map V.int)):=aj;generalize ai:upd z l (.lst ((O.map (·.tag)).map V.int))=H2 at s2 e2 ⊢;have n0:H l=none:=none_of U n;have L:=U.trans s2;rwa[ae (L.seqT h1) rfl ?_];rwa[cZ (L.seqT h2) ?_];rwa[jN (xs:=xs) (λi σ I=>aq H I/\I l=some (.lst ((O.map (·.tag)++(S.take i).flatMap λc=>c.ps.map (·.1)).map V.int))/\∃o2 o3 o4 o5 o6,σ=[some (.ref st),some (.ref l),o2,o3,o4,o5,o6]) ⟨L,by rw [take_zero,flatMap_nil,append_nil];exact e2,_,_,_,_,_,rfl⟩ (λi σ I _ W=>W.1.seqT h2) (λi x σ I hx W=> ?_) (λσ I W=> ?_)]
 ·obtain ⟨sY,Y,o2,o3,o4,o5,o6,rfl⟩:=W;obtain ⟨c,hc,t,rfl,ab⟩:=h4.get1 hx;obtain ⟨b,bs,et,eb,db⟩:=ab.keep sY.st;have bl:bs.length=c.ps.length:=aM db;have ah:=Z c (mem_of_getElem? hc);rwa[ju @fW rfl ?_];rwa[⟨.inl ⟨rfl,_,aN.of Y⟩,?_⟩];rwa[cZ @fc ?_];rwa[cN (xs:=bs) (λj G z=>aq I z/\G=((c.ps.take j).map (·.1)).map V.int) @bu (λj G z h=>by rw [h.2,length_map,length_map,length_take];exact Nat.min_le_left _ _) ⟨.refl _,rfl⟩ (λj G z _ h=>h.1.seqT @fc) (λj y G z hy J=> ?_) (λG HZ J l3 n3=> ?_)]
  ·obtain ⟨U,rfl⟩:=J;obtain ⟨p,pt,hp,rfl,al⟩:=qX db hy;rwa[ju @gH rfl ?_];rwa[⟨ii,?_⟩];rwa[⟨U,?_⟩];rw [take_add_one,hp,map_append,map_append];rfl
  obtain ⟨U,rfl⟩:=J;rw [bl,take_of_length_le @f];have s3:aq HZ (upd HZ l3 (.lst ((c.ps.map (·.1)).map V.int))):= .upd n3;have e3:upd HZ l3 (.lst ((c.ps.map (·.1)).map V.int)) l3=some (.lst ((c.ps.map (·.1)).map V.int)):=aj;generalize ao:upd HZ l3 (.lst ((c.ps.map (·.1)).map V.int))=H3 at s3 e3 ⊢;have R:=U.trans s3;rwa[Gv (R _ _ Y) e3 (bJ ?_) ?_]
  ·have h1:((S.take i).flatMap λc=>c.ps.map (·.1)).length<=200*(S.take i).length:=xW λc hc=>Z c (mem_of_mem_take hc)
   have h2:(S.take i).length<=10:=by rw [length_take];lia
   simp only [length_map,length_append];lia
  ·rwa[⟨aq.updF (sY.trans R) n0,?_,_,_,_,_,_,rfl⟩];rw [aj,take_add_one,hc];simp only [Option.toList_some,flatMap_append,flatMap_cons,flatMap_nil,append_nil,map_append,append_assoc]
 obtain ⟨sY,Y,o2,o3,o4,o5,o6,rfl⟩:=W;rw [xl,take_of_length_le @f] at Y;exact q l I sY Y
def ky (ts:List Int)(kvs:List (ce×V)):Prop:=∀t:Int,(eM kvs @fF).isSome=decide (t∈ts)
theorem ky.nil:ky [] []:=λt=>by
 show (none:Option V).isSome=_;simp
theorem ky.put {ts:List Int}{kvs:List (ce×V)}(h:ky ts kvs)(t:Int)(v:V):ky (ts++[t]) (dq kvs @fF v):=λu=>by
 rw [DI];by_cases e:u=t
 ·subst e;rw [if_pos rfl];simp
 ·rw [if_neg (λz=>e (by cases z;rfl)),h u];simp [e]
theorem CY {ts:List Int}:∀ {us:List Int} {kvs:List (ce×V)},ky us kvs->ky (us++ts) (iz kvs (ts.map λt=>(Sum.inl t,V.bl true))):=by
 induction ts with
 |nil=>intro us kvs h;rw [append_nil];exact h
 |cons t ts ih=>
  intro us kvs h;have:=ih (h.put t (V.bl true));rw [append_assoc] at this;exact this
theorem MV (F:Z0 K "need_deeds" lq f fd)(FX:mg "dict"=none)(yi:bf P w K mg base 1 "tags_in" ["state"] (y7 K))(sd:bf P w K mg base 3 "need_deed" ["house","deed"] (zb K)):az P w K mg base bg 7 f fd ["house","state","deeds"] (AU K):=by
 rwa[F.ok oY (by symm) (λaF A outer s H vs Q E hr h=> ?_)];obtain ⟨h,st,dl,hs,cs,ws,ay,aw,ds,rfl,hH,an,⟨xd,a3,pd⟩,wl,ai,aB,ap,gd,q⟩:=h;have xl:xd.length=ds.length:=pd.len;rwa[⟨_,(aa (bp (i:=3) oY.nd rfl @q (bD (Hy rfl) rfl FX boot_dict (au (bz rfl (aE (N':=["tag"]) (pk:=[none]) @o) @a @l @x @l) am))) (ac (cO PassesOwn.never rfl @a @a (aa @fB (ac (ax @a (aa (ax (ES (MD (dG hr) @a (wv 3))) (ac A6) ar) (ac (pZ (dG hr) (wv 3) @a bW rfl))) ar)))))),?_⟩];rwa[y7.mk _ _ _ _ _ rfl an wl ai aB λl H1 s1 e1=> ?_]
 have tl:(fS cs ws).length<=3000:=by
  unfold fS;rw [length_append,length_map];have:=xW ai;lia
 generalize aC:fS cs ws=G at e1 gd tl;rwa[cz @dE ?_];rwa[b4 (xs:=G.map V.int) (λj O L=>aq H1 L/\Paired (λx (p:ce×V)=>∃b,x=V.ref b/\L b=some (.tup [kV p.1,p.2])) O ((G.take j).map λt=>(Sum.inl t,V.bl true))) (bJ (by rw [length_map];lia)) (λj O L h=>by have:=h.2.len;rw [length_map,length_take] at this;lia) ⟨.refl _,.nil⟩ (λj O L _ h=>h.1.seq @dE) (λj y O L hy hP=> ?_) (λO L hP l2 n2=> ?_)]
 ·obtain ⟨sx,hp⟩:=hP;rw [getElem?_map] at hy;obtain ⟨v,hv,rfl⟩:=Option.map_eq_some_iff.mp hy;rwa[⟨cq,?_⟩];rwa[b3 (bJ (by show 2<=1000000;decide)) λb H3 s3 n3 e3=>⟨sx.trans s3,?_⟩];rw [take_add_one,hv,map_append];exact Paired.app (Paired.imp' (λx p ⟨c,ec,hc⟩=>⟨c,ec,s3 _ _ hc⟩) hp) (.cons ⟨b,rfl,e3⟩ .nil)
 obtain ⟨sx,hp⟩:=hP;rw [length_map,take_of_length_le @f] at hp;have s2:aq L (upd L l2 (.lst O)):= .upd n2;have e2:upd L l2 (.lst O) l2=some (.lst O):=aj;generalize aA:upd L l2 (.lst O)=H2 at s2 e2 ⊢;have af:=s1.trans (sx.trans s2);rwa[⟨O,G.map λt=>(Sum.inl t,V.bl true),e2,Paired.imp' (λx p ⟨c,ec,hc⟩=>⟨c,ec,s2 _ _ hc⟩) hp,y3 (by rw [length_map];lia),λd nd=> ?_⟩];have s3:aq H2 (upd H2 d (.dK (iz [] (G.map λt=>(Sum.inl t,V.bl true))))):= .upd nd;have e3:upd H2 d (.dK (iz [] (G.map λt=>(Sum.inl t,V.bl true)))) d=some (.dK (iz [] (G.map λt=>(Sum.inl t,V.bl true)))):=aj;generalize aH:upd H2 d (.dK (iz [] (G.map λt=>(Sum.inl t,V.bl true))))=H3 at s3 e3 ⊢;have av:H d=none:=none_of af nd
 have k0:ky G (iz [] (G.map λt=>(Sum.inl t,V.bl true))):=by
  have:=CY (ts:=G) ky.nil;rw [nil_append] at this;exact this
 have al:∀(qs:List (ce×V)) (a:List (ce×V)),(iz a qs).length<=a.length+qs.length:=by
  intro qs
  induction qs with
  |nil=>intro a;exact Nat.le_refl _
  |cons p qs ih=>
   intro a;have h1:=ih (dq a p.1 p.2);have h2:=dh a p.1 p.2;show (iz (dq a p.1 p.2) qs).length<=_;rw [length_cons];lia
 have l0:=al (G.map λt=>(Sum.inl t,V.bl true)) [];rw [length_map,length_nil] at l0;have ah:=af.trans s3;generalize aG:iz [] (G.map λt=>((Sum.inl t:ce),V.bl true))=ao at e3 k0 l0;rwa[cz (ah.seq a3) ?_];rwa[dX (xs:=xd) (λi σ HY=>aq H HY/\∃z kvs o4,HY d=some (.dK kvs)/\ky z kvs/\kvs.length<=3000+i/\tM hs.fl hs.ls.length z (ds.drop i)/\σ=[some (.ref h),some (.ref st),some (.ref dl),some (.ref d),o4]) ⟨ah,G,ao,_,e3,k0,by lia,gd,rfl⟩ (λi σ HY _ pv=>pv.1.seq a3) (λi x σ HY J pv=> ?_) (λσ HY pv=> ?_)]
 ·obtain ⟨sY,z,kvs,o4,eY,kk,kl,I,rfl⟩:=pv;obtain ⟨dd,Z,ad,rfl,as⟩:=pd.get1 J;have il:i<ds.length:=(List.getElem?_eq_some_iff.mp Z).1;have S:=as.same sY
  have ak:ds.drop i=dd::ds.drop (i+1):=by
   rw [drop_eq_getElem_cons il];rw [getElem?_eq_getElem il] at Z;cases Z;rfl
  rw [ak] at I;obtain ⟨g1,g2,R⟩:=I;rwa[zb.mk _ _ _ _ _ rfl ((hH.same sY).at') S g1 λHZ sZ=> ?_];have W:=sY.trans sZ;have eZ:=sZ _ _ eY;obtain ⟨Y,ag⟩:=S.same sZ
  cases dd with
  |come t' s' g' k'=>
   have U:aD K HZ ad [.str uk,.int t',.int s',.int g',.bl k']:=aD.of Y;rwa[ae U rfl ?_];rwa[bG rfl ?_];rwa[ae U rfl ?_];rwa[⟨d,_,rfl,gz.k (k:=Sum.inl t') eZ,?_⟩];rwa[⟨_,rfl,?_⟩];rwa[aL (by rw [kk t'];exact decide_eq_false (g2 t' (.head _))) ?_];rwa[ae U rfl ?_];rwa[⟨d,_,rfl,wQ.k (k:=Sum.inl t') eZ @dA,?_⟩];exact ⟨aq.updF W av,z++[t'],_,_,aj,kk.put t' (.bl true),by have:=dh kvs (Sum.inl t') (V.bl true);lia,R,rfl⟩
  |lf x' i'=>
   have U:aD K HZ ad [.str x',.int i']:=aD.of Y;have R:tM hs.fl hs.ls.length (z++[]) (ds.drop (i+1)):=R;rw [append_nil] at R;erw[ae U rfl ?_];have ab:x'=s!"block"\/x'=s!"stick"\/x'=s!"free"\/x'=s!"goods"\/x'=s!"back":=ag;rwa[bK (by rcases ab with J|J|J|J|J<;>rw [J]<;>decide+kernel) ?_];exact ⟨W,z,kvs,_,eZ,kk,by lia,R,rfl⟩
  |sg x'=>
   have U:aD K HZ ad [.str x']:=aD.of Y;have ab:x'=s!"fire"\/x'=s!"calm":=ag;have R:tM hs.fl hs.ls.length (z++[]) (ds.drop (i+1)):=R;rw [append_nil] at R;rwa[ae U rfl ?_];rwa[bK (by rcases ab with J|J<;>rw [J]<;>decide+kernel) ?_];exact ⟨W,z,kvs,_,eZ,kk,by lia,R,rfl⟩
 ·obtain ⟨sY,z,kvs,o4,eY,kk,kl,I,rfl⟩:=pv;exact q HY sY
abbrev wo:Str:=s!"o"
abbrev wx:Str:=s!"x"
abbrev wu:Str:=s!"u"
abbrev wd:Str:=s!"d"
abbrev ws:Str:=s!"s"
noncomputable def jy (li he up dn:Int):Str:=if he=2 then wo else if he=1/\((li=1/\up=0)\/(li= -1/\dn=0)) then wx else if li= -1/\0<dn then wd else if 0<up then wu else if 0<dn then wd else ws
noncomputable def PH (he up dn:Int):Str:=if 0<he then (if he=2 then wo else wx) else if 0<up/\(dn=0\/up<=dn) then wu else if 0<dn then wd else ws
noncomputable def xo (top fl li he:Int):Str:=if he=2 then wo else if he=1/\((fl=top/\li=1)\/(fl=0/\li= -1)) then wx else if li= -1 then (if fl≠0 then wd else wu) else if fl≠top then wu else wd
noncomputable def xS (fl li he up dn:Int):Str:=if jy li he up dn=ws/\fl≠0 then wd else jy li he up dn
theorem ia.li {li S z j:Int}(s:ia li S z j):li= -1\/li=0\/li=1:=by have:=s.l0;have:=s.l1;lia
theorem ia.he {li S z j:Int}(s:ia li S z j):S=0\/S=1\/S=2:=by have:=s.h0;have:=s.h1;lia
inductive l9 (vs:List V)(H:Hp)(Q:VK)(_e:XK):Prop
 |mk (li he up dn:Int) (_:vs=[.int li,.int he,.int up,.int dn]) (_:ia li he up dn) (_:Q (.str (jy li he up dn)) H)
theorem LV {H:Hp}{Q:VK}{x y:Str}(q:Q (.str x) H)(e:x=y):Q (.str y) H:=e▸q
set_option maxHeartbeats 0 in
theorem Fh (F:Z0 K "swept" zE f fd):az P w K mg base bg 1 f fd ["light","here","up","down"] l9:=by
 rwa[F.ok Iy @ep (λJ A outer s H L Q E Y h=> ?_)]
 ·obtain ⟨li,S,G,O,rfl,_⟩:=h;rfl
 obtain ⟨li,S,G,O,rfl,j,q⟩:=h;rwa[⟨_,(aa @J (aa @J (aa @J (aa @J @j)))),?_⟩];have U:=j.u0;have W:=j.d0;have R:=j.li;have I:=j.he;clear j
 iterate 16 (all_goals (try ((ext);first|refine bG rfl ?_|refine aL rfl ?_|refine fz @c ?_|refine bK @c ?_|refine gw @k @k)))
 all_goals
  rwa[LV q ?_];unfold jy
  repeat (first|rw [if_pos @c]|rw [if_neg @c])
inductive nF (vs:List V)(H:Hp)(Q:VK)(_e:XK):Prop
 |mk (he up dn:Int) (_:vs=[.int he,.int up,.int dn]) (_:0<=he) (_:he<=2) (_:0<=up) (_:0<=dn) (_:Q (.str (PH he up dn)) H)
set_option maxHeartbeats 0 in
theorem z8 (F:Z0 K "nearest" qJ f fd):az P w K mg base bg 1 f fd ["here","up","down"] nF:=by
 rwa[F.ok B7 @ep @I]
 ·obtain ⟨S,j,I,rfl,_⟩:=h;rfl
 obtain ⟨S,j,I,rfl,J,h1,U,W,q⟩:=h;rwa[⟨_,(aa @bJ (aa @J @j)),?_⟩]
 iterate 16 (all_goals (try ((ext);first|refine bG rfl ?_|refine aL rfl ?_|refine fz @c ?_|refine bK @c ?_|refine gw @k @k)))
 all_goals
  rwa[LV q ?_];unfold PH
  repeat (first|rw [if_pos @c]|rw [if_neg @c])
inductive kU (vs:List V)(H:Hp)(Q:VK)(_e:XK):Prop
 |mk (top fl li he:Int) (_:vs=[.int top,.int fl,.int li,.int he]) (_: -1<=li) (_:li<=1) (_:0<=he) (_:he<=2) (_:0<top) (_:Q (.str (xo top fl li he)) H)
set_option maxHeartbeats 0 in
theorem xI (F:Z0 K "shuttled" nL f fd):az P w K mg base bg 1 f fd ["top","floor","light","here"] kU:=by
 rwa[F.ok zq @ep @I]
 ·obtain ⟨j,fl,li,S,rfl,_⟩:=h;rfl
 obtain ⟨j,fl,li,S,rfl,J,R,I,h1,O,q⟩:=h;rwa[⟨_,(aa @a (aa @J (aa @J @gE))),?_⟩]
 iterate 16 (all_goals (try ((ext);first|refine bG rfl ?_|refine aL rfl ?_|refine fz @c ?_|refine bK @c ?_|refine gw @k @k|refine PU @c ?_|refine rH @c ?_|refine Qz @k @k)))
 all_goals
  rwa[LV q ?_];unfold xo
  repeat (first|rw [if_pos @c]|rw [if_neg @c])
def mL:List Nat:=[111,120,117,100,115]
theorem CJ:(s!"oxuds").cps.toList=mL:=by decide+kernel
unseal oW Gs in
theorem BR (c:Nat):oW ⟨#[c]⟩ @gm=decide (c∈mL):=by
 unfold oW;rw [PySem.StrLaws.found_one,CJ]
def yQ (s:Str):Prop:=s.length=36/\∀c∈s.cps.toList,c∈mL
instance (s:Str):Decidable (yQ s):=by unfold yQ;infer_instance
inductive jY (K:Fg)(kX:Addr)(vs:List V)(H:Hp)(Q:VK)(E:XK):Prop
 |mk (a s C dx:_) (_:vs=[.ref a,.str s]) (_:H a=some (.ins C dx [])) (_:t6 K C) (_:aV K C "letters") (_:s.length<=1000) (_:Of s) (_:(yQ s->∀H',(∀b o,b≠a->H b=some o->H' b=some o)->H' a=some (.ins C dx [(s!"letters",.str s)])->Q .non H')) (_:(¬yQ s->∀H',aq H H'->E (.ref kX) none H'))
theorem LP {j:Addr}{H:Hp}{a:Addr}{s:Str}{C dx:Addr}{Q:VK}{E:XK}(h1:H a=some (.ins C dx []))(h2:t6 K C)(L:aV K C "letters")(z:s.length<=1000)(S:Of s)
(g:yQ s->∀H',(∀b o,b≠a->H b=some o->H' b=some o)->H' a=some (.ins C dx [(s!"letters",.str s)])->Q .non H')(b: ¬yQ s->∀H',aq H H'->E (.ref j) none H'):jY K j [.ref a,.str s] H Q E:=⟨a,s,C,dx,rfl,h1,h2,L,z,S,g,b⟩
theorem Ff {L:Addr}{t1 Z:Tok}(F:bB K "__init__" "Table.__init__" k7 f fd)(bo:mg "len"=none)(Nm:mg "any"=none)(pq:mg "TABLE_SIZE"=some (.int 36 t1))(Gf:mg "WORDS"=some (.str "oxuds" Z))(j6:mg "NoRule"=some (.ref L))
(j5:W.excIn K L [.type "ValueError",.type "Exception",.type "BaseException",.type "object"] "ValueError.__new__"=true):az P w K mg base @cr 1 f fd ["self","letters"] (jY K L):=by
 have j:aK (.int 36) (.int 36 t1):=⟨_,rfl⟩;have J:aK (.str "oxuds") (.str "oxuds" Z):=⟨_,rfl⟩;rwa[F.okX xu (by symm) @y];obtain ⟨a,z,C,dx,rfl,ea,cl,na,hz,hA,q,qb⟩:=h;rwa[⟨_,(aa (ax (PW.pt (cG @a (cY (cI rfl (aA (Ow rfl rfl) rfl Nm boot_any (au (bz rfl (aE (N':=["letter"]) (pk:=[none]) @o) @a @l @x (λC s H ex=>(b9 (uZ rfl) (wv 0) @a @D))) am)))))) (ac (qU j8 rfl j5 PySem.F.excBase_ValueError rfl j6 (au (nh (zS (wv 1) (zR zT))) am))) ar) (ac @bV)),?_⟩];have G:z.length<=sizeLine:=bJ @c;have rl:=xC hA
 have rj:∀H',aq H H'-> ¬yQ z->(reprText z).length<=sizeLine/\(Str.empty++reprText z).length<=sizeLine/\(Str.empty++reprText z++s!" is no table").length<=sizeLine/\(Str.empty++reprText z++s!" is no table").length<=sizeLine/\[V.str (Str.empty++reprText z++s!" is no table")].length<=sizeLine/\E (.ref L) none H':=λH' sm n=>by
  have e2:(s!" is no table").length<=100:=by decide
  rwa[⟨bJ @c,bJ ?_,bJ ?_,bJ ?_,bJ @g,qb n H' sm⟩]
  ·rw [strLen_append,show Str.empty.length=0 from rfl];lia
  ·rw [strLen_append,strLen_append,show Str.empty.length=0 from rfl];lia
  ·rw [strLen_append,strLen_append,show Str.empty.length=0 from rfl];lia
 rwa[⟨G,?_⟩];by_cases S:(z.length:Int)=36
 ·left;rwa[GJ (λi ys H'=>H'=H/\ys=(z.cps.toList.take i).map λc=>V.bl (!decide (c∈mL))) (by show z.length<=sizeLine;exact G) (λi ys H' p=>by rw [p.2,length_map,length_take];exact Nat.min_le_left _ _) ⟨rfl,rfl⟩ (λi c ys H' I p=> ?_) (λys H' p l n=> ?_)]
  ·obtain ⟨rfl,rfl⟩:=p;rwa[⟨cq,?_⟩]
   have ad:z.cps.toList[i]? =some c:=by rw [Array.getElem?_toList];exact I
   rwa[⟨rfl,?_⟩];show _++[V.bl (!oW ⟨#[c]⟩ @gm)]=_;rw [BR,take_add_one,ad,map_append];rfl
  ·obtain ⟨rfl,rfl⟩:=p
   have Y:upd H' l (.lst ((z.cps.toList.take z.cps.size).map λc=>V.bl (!decide (c∈mL)))) l=some (.lst (List.map V.bl (z.cps.toList.map λc=> !decide (c∈mL)))):=by
    rw [aj,take_of_length_le @g,map_map];rfl
   have O:aq H' (upd H' l (.lst ((z.cps.toList.take z.cps.size).map λc=>V.bl (!decide (c∈mL))))):= .upd n;generalize upd H' l (.lst ((z.cps.toList.take z.cps.size).map λc=>V.bl (!decide (c∈mL))))=H1 at Y O ⊢;rwa[Qd (aN.of Y) ?_];rw [any_map];rwa[An (λU=> ?_) (λU=> ?_)]
   ·left;rwa[rj H1 O λk=> ?_];obtain ⟨c,I,e⟩:=any_eq_true.mp U;have:=decide_eq_true (k.2 c I);simp only [Function.comp,id,this] at e;cases e
   ·have hk:yQ z:=⟨by lia,λc I=>by
     have:=any_eq_false.mp U c I
     simpa using this⟩
    left;rwa[cK (O.get ea) cl na @b ?_];rwa[q hk _ (λb o R e=> ?_) aj];rw [ao R];exact O b o e
 ·left;exact rj H (.refl _) λk=>S (by rw [k.1];rfl)
noncomputable def tI (li he up dn:Int):Int:=12*(li+1)+4*he+2*(if 0<up then 1 else 0)+(if 0<dn then 1 else 0)
theorem q8 {li S z j:Int}(s:ia li S z j):0<=tI li S z j/\tI li S z j<36:=by
 have:=s.l0;have:=s.l1;have:=s.h0;have:=s.h1;unfold tI;split<;>split<;>lia
inductive u7 (vs:List V)(H:Hp)(Q:VK)(_e:XK):Prop
 |mk (li he up dn:Int) (_:vs=[.int li,.int he,.int up,.int dn]) (_:Q (.int (tI li he up dn)) H)
theorem Fj (F:Z0 K "place_in_table" g8 f fd):az P w K mg base bg 1 f fd ["light","here","up","down"] u7:=by
 rwa[F.ok qw (by symm) @I];obtain ⟨li,S,j,I,rfl,q⟩:=h;rwa[⟨_,@j,?_⟩];unfold tI at q;by_cases z:0<j<;>by_cases J:0<I
 ·rw [if_pos z,if_pos J] at q;left;exact q
 ·rw [if_pos z,if_neg J] at q;left;exact q
 ·rw [if_neg z,if_pos J] at q;left;exact q
 ·rw [if_neg z,if_neg J] at q;left;exact q
inductive Rk where
 |sw|ho|ne
 |ba (top:Int)
 |ta (s:Str)
def Rk.ix:Rk->Nat
 | .sw=>0| .ho=>1| .ne=>2| .ba _=>3| .ta _=>4
def PQ (s:Str)(k:Int):Str:=⟨#[s.cps.toList.getD k.toNat 0]⟩
noncomputable def Rk.word (r:Rk)(fl li he up dn:Int):Str:=match r with
 | .sw=>jy li he up dn
 | .ho=>xS fl li he up dn
 | .ne=>PH he up dn
 | .ba top=>xo top fl li he
 | .ta s=>PQ s (tI li he up dn)
noncomputable def Rk.fs:Rk->List (Str×V)
 | .ba top=>[(s!"top",.int top)]
 | .ta s=>[(s!"letters",.str s)]
 |_=>[]
def Rk.ok:Rk->Prop
 | .ba top=>0<top
 | .ta s=>yQ s
 |_=>True
structure Ks where
 r:Addr
 h:Addr
 n:Addr
 s:Addr
 t:Addr
def Rk.cl (k:Ks):Rk->Addr
 | .sw=>k.r| .ho=>k.h| .ne=>k.n| .ba _=>k.s| .ta _=>k.t
structure N8 (K:Fg)(C:Addr):Prop where
 i:iL K C
 n:aV K C "top"
 l:aV K C "letters"
inductive eO (K:Fg)(i:Nat)(vs:List V)(H:Hp)(Q:VK)(_e:XK):Prop
 |mk (rk:Rk) (a s C dx:Addr) (fl li he up dn:Int) (_:vs=[.ref a,.ref s]) (_:rk.ix=i) (_:rk.ok) (_:H a=some (.ins C dx rk.fs)) (_:N8 K C) (_:aD K H s [.int fl,.int li,.int he,.int up,.int dn]) (_:ia li he up dn) (_:Q (.str (rk.word fl li he up dn)) H)
theorem Fb (F:bB K "word" "Rule.word" nM f fd)(S:bf P w K mg base 1 "swept" ["light","here","up","down"] l9):az P w K mg base bg 2 f fd ["self","seen"] (eO K 0):=by
 rwa[F.ok zr (by symm) (λG A outer s H O Q E Y h=> ?_)];obtain ⟨U,a,z,C,dx,fl,li,W,J,Z,rfl,I,ok,R,L,hs,j,q⟩:=h;cases U<;>cases I;rwa[⟨_,@j,?_⟩];left;exact l9.mk _ _ _ _ rfl j q
theorem zZ (F:bB K "word" "Homing.word" jG f fd)(Y:bf P w K mg base 1 "swept" ["light","here","up","down"] l9):az P w K mg base bg 2 f fd ["self","seen"] (eO K 1):=by
 rwa[F.ok vx (by symm) (λJ A outer s H R Q E Z h=> ?_)];obtain ⟨U,a,z,C,dx,fl,li,S,j,G,rfl,L,ok,W,O,hs,I,q⟩:=h;cases U<;>cases L;rwa[⟨_,@ek,?_⟩];have q:Q (.str (xS fl li S j G)) H:=q;unfold xS at q;left;rwa[l9.mk _ _ _ _ rfl I ?_];by_cases h1:jy li S j G=ws
 ·by_cases h2:fl=0
  ·rw [if_neg (λz=>z.2 h2)] at q;left;exact q
  ·rw [if_pos ⟨h1,h2⟩] at q;left;exact q
 ·rw [if_neg @ee] at q;left;exact q
theorem xH (F:bB K "word" "Nearest.word" iX f fd)(O:bf P w K mg base 1 "nearest" ["here","up","down"] nF):az P w K mg base bg 2 f fd ["self","seen"] (eO K 2):=by
 rwa[F.ok tE (by symm) (λG A outer s H R Q E Y h=> ?_)];obtain ⟨U,a,z,C,dx,fl,li,W,J,Z,rfl,I,ok,S,L,hs,j,q⟩:=h;cases U<;>cases I;rwa[⟨_,@j,?_⟩];left;exact nF.mk _ _ _ rfl j.h0 j.h1 j.u0 j.d0 q
theorem xG (F:bB K "word" "Shuttle.word" iU f fd)(S:bf P w K mg base 1 "shuttled" ["top","floor","light","here"] kU):az P w K mg base bg 2 f fd ["self","seen"] (eO K 3):=by
 rwa[F.ok tm (by symm) (λJ A outer s H R Q E Z h=> ?_)];obtain ⟨U,a,z,C,dx,fl,li,W,O,dn,rfl,L,Y,I,G,hs,j,q⟩:=h;cases U<;>cases L;rwa[⟨_,@j,?_⟩];left;rwa[fA I G.i.cl G.n rfl ?_];left;exact kU.mk _ _ _ _ rfl j.l0 j.l1 j.h0 j.h1 Y q
theorem Cn (F:bB K "word" "Table.word" k6 f fd)(jj:bf P w K mg base 1 "place_in_table" ["light","here","up","down"] u7):az P w K mg base bg 2 f fd ["self","seen"] (eO K 4):=by
 rwa[F.ok xt (by symm) (λO A outer s H vs Q E hr h=> ?_)];obtain ⟨U,a,z,C,dx,fl,li,S,j,I,rfl,Z,Y,L,G,hs,J,q⟩:=h;cases U<;>cases Z;rename_i t;rwa[⟨_,@j,?_⟩];have Y:yQ t:=Y;obtain ⟨n0,R⟩:=q8 J;left;rwa[fA L G.i.cl G.l rfl ?_];left;erw[u7.mk _ _ _ _ rfl ?_]
 have W:t.cps.toList.length=36:=by rw [cg];exact Y.1
 rwa[AX (bJ (by rw [Y.1];decide)) (c:=t.cps.toList.getD (tI li S j I).toNat 0) ?_ q];unfold oQ CP;rw [if_pos n0,if_pos (by rw [W];exact R)];show t.cps.toList[(tI li S j I).toNat]? =_;rw [getElem?_eq_getElem @c,getD_eq_getElem?_getD,getElem?_eq_getElem @c];rfl
theorem JZ (U:Rk):U.fs.lookup (s!"word")=none:=by cases U<;>rfl
structure R3 (K:Fg)(P:Program)(w:World)(mg:Str->Option Value)(base:Heap)(k:Ks):Prop where
 c:∀rk:Rk,N8 K @gw
 m:∀rk:Rk,jU P w K mg base bg 2 "word" (rk.cl k) (eO K rk.ix)
unseal iq in
theorem KS {C j:Addr}{E:XK}{s:Str}{H:Hp}{Q:VK}(c:N8 K C)(O:s.length<=1000)(S:Of s)(g:yQ s->∀a dx H',aq H H'->H a=none->H' a=some (.ins C dx [(s!"letters",.str s)])->Q (.ref a) H')(b: ¬yQ s->∀H',aq H H'->E (.ref j) none H'):iq C (jY K j) E [.str s] H Q:=by
 show ∀a dx,H a=none->H dx=none->dx≠a->jY K j (.ref a::([.str s]++[])) @s (λv H2=>v= .non/\Q (.ref a) H2) E;intro a dx h1 h2 R;rwa[LP aj c.i.cl c.l O S (λY H' I F=>⟨rfl,g Y a dx H' (λL o e=> ?_) h1 F⟩) (λG H' J=>b G H' ((eQ h1 h2).trans J))];exact I L o (λz=>by rw [z,h1] at e;cases e) (eQ h1 h2 L o e)
inductive D4 (K:Fg)(vs:List V)(H:Hp)(Q:VK)(_e:XK):Prop
 |mk (a t C dx:_) (_:vs=[.ref a,.int t]) (_:H a=some (.ins C dx [])) (_:t6 K C) (_:aV K C "top") (_:Q .non (upd H a (.ins C dx [(s!"top",.int t)])))
theorem Fi (F:bB K "__init__" "Shuttle.__init__" iV f fd):az P w K mg base bg 1 f fd ["self","top"] (D4 K):=by
 rwa[F.ok tz (by symm) @bF];obtain ⟨a,t,C,dx,rfl,I,G,j,q⟩:=h;rwa[⟨_,(ac @bV),?_⟩];exact cK I G j @b q
unseal iq in
theorem PL {C:Addr}{E:XK}{t:Int}{H:Hp}{Q:VK}(c:N8 K C)(g:∀a dx H',aq H H'->H a=none->H' a=some (.ins C dx [(s!"top",.int t)])->Q (.ref a) H'):iq C (D4 K) E [.int t] H Q:=by
 show ∀a dx,H a=none->H dx=none->dx≠a->D4 K (.ref a::([.int t]++[])) @s (λv H2=>v= .non/\Q (.ref a) H2) E;intro a dx h1 h2 L;rwa[D4.mk _ _ _ _ rfl aj c.i.cl c.n ⟨rfl,g a dx _ ?_ h1 aj⟩];intro b u z;rw [ao (λe=>by rw [e,h1] at z;cases z)];exact eQ h1 h2 b u z
theorem Mn {lI dQ cQ cE fH:Addr}(ac:jU P w K mg base bg 2 "word" lI (eO K 0))(W:jU P w K mg base bg 2 "word" dQ (eO K 1))(z:jU P w K mg base bg 2 "word" cQ (eO K 2))(J:jU P w K mg base bg 2 "word" cE (eO K 3))(Y:jU P w K mg base bg 2 "word" fH (eO K 4))(af:iL K lI)(ae:aV K lI "top")(ad:aV K lI "letters")(R:iL K dQ)(U:aV K dQ "top")(S:aV K dQ "letters")(F:iL K cQ)(L:aV K cQ "top")(G:aV K cQ "letters")(I:iL K cE)(j:aV K cE "top")(O:aV K cE "letters")(ab:iL K fH)(aa:aV K fH "top")(Z:aV K fH "letters"):R3 K P w mg base ⟨lI,dQ,cQ,cE,fH⟩ where
 c:=λrk=>by
  cases rk with
  |sw=>exact ⟨af,ae,ad⟩
  |ho=>exact ⟨R,U,S⟩
  |ne=>exact ⟨F,L,G⟩
  |ba top=>exact ⟨I,j,O⟩
  |ta s=>exact ⟨ab,aa,Z⟩
 m:=λrk=>by
  cases rk with
  |sw=>exact ac
  |ho=>exact W
  |ne=>exact z
  |ba top=>exact J
  |ta s=>exact Y
theorem JB {s:Str}(h:yQ s):Of s:=λc I=>by
 have:=h.2 c I;simp only [mL,mem_cons,not_mem_nil,or_false] at this;lia
abbrev LJ:Str:=s!"sweep"
abbrev LQ:Str:=s!"homing"
abbrev LN:Str:=s!"nearest"
abbrev LK:Str:=s!"shuttle"
abbrev HV:Str:=s!"table "
noncomputable def fG (s:Str)(fl:Int):Option Rk:=if s=LJ then some .sw else if s=LQ then some .ho else if s=LN then some .ne else if s=LK then some (.ba (fl - 1)) else
 if Txt.slice s none (some 6)=HV/\yQ (Txt.slice s (some 6) none) then some (.ta (Txt.slice s (some 6) none)) else none
theorem EI {s:Str}{fl:Int}(h:2<=fl){U:Rk}(e:fG s fl=some U):U.ok:=by
 unfold fG at e;split at e
 ·cases e;trivial
 split at e
 ·cases e;trivial
 split at e
 ·cases e;trivial
 split at e
 ·cases e;show 0<fl - 1;lia
 split at e
 ·rename_i h;cases e;exact h.2
 ·cases e
theorem BU {s:Str}:u4 s HV=decide (Txt.slice s none (some 6)=HV):=by
 have c:=Ee (x:=s) (n:=6) @b
 have W:HV.cps.toList.length=6:=by decide
 unfold u4 Builtin.Str.subAt
 have e:(decide (0+HV.length<=s.length)&&(s.cps.extract 0 (0+HV.length)==HV.cps))=decide (s.cps.toList.take 6=HV.cps.toList):=by
  rw [Bool.eq_iff_iff,Bool.and_eq_true,decide_eq_true_eq,decide_eq_true_eq,beq_iff_eq]
  have F:(s.cps.extract 0 (0+HV.length)).toList=s.cps.toList.take 6:=by
   show (s.cps.extract 0 6).toList=_;simp
  constructor
  ·rintro ⟨_,h⟩;rw [<-F,h]
  ·intro h;rwa[⟨?_,Array.toList_inj.mp (by rw [F,h])⟩];have:=congrArg List.length h;rw [length_take,W,cg] at this;show 0+6<=s.length;lia
 rw [e];rwa[decide_eq_decide.mpr ⟨λh=>Ih (by rw [c];exact h),λh=> ?_⟩];have:=congrArg (λz:Str=>z.cps.toList) h;rw [<-this];exact c.symm
def kL (s:Str):Prop:=s.length<=1000/\Of s
theorem kL.from {s:Str}(h:kL s){n:Int}(j:0<=n):kL (Txt.slice s (some n) none):=by
 have c:=zj (x:=s) j;rwa[⟨?_,λx z=> ?_⟩]
 ·rw [<-cg,c,length_drop,cg];have:=h.1;lia
 ·rw [c] at z;exact h.2 x (mem_of_mem_drop z)
def jz (K:Fg)(k:Ks)(kX:Addr):Sp:=λvs H Q E=>∃s fl,vs=[.str s,.int fl]/\kL s/\2<=fl/\(∀rk,fG s fl=some rk->∀a dx H',aq H H'->H a=none->H' a=some (.ins @gw dx rk.fs)->Q (.ref a) H')/\(fG s fl=none->∀H',aq H H'->E (.ref kX) none H')
theorem IH {k:Ks}{j:Addr}{H:Hp}{s:Str}{fl:Int}{Q:VK}{E:XK}(h1:kL s)(h2:2<=fl)(g:∀rk,fG s fl=some rk->∀a dx H',aq H H'->H a=none->H' a=some (.ins @gw dx rk.fs)->Q (.ref a) H')(b:fG s fl=none->∀H',aq H H'->E (.ref j) none H'):jz K k j [.str s,.int fl] H Q E:=⟨s,fl,rfl,h1,h2,g,b⟩
theorem Co {k:Ks}{L:Addr}{t1:Tok}(F:Z0 K "rule_of" vA f fd)(bo:mg "len"=none)(cS:N8 K k.s)(cT:N8 K k.t)(Gi:mg "Rule"=some (.ref k.r))(wj:mg "Homing"=some (.ref k.h))(rM:mg "Nearest"=some (.ref k.n))(FQ:K8 K k.r)(v4:K8 K k.h)(rf:K8 K k.n)(rn:jm P w K mg base bg 1 "Shuttle" k.s (D4 K))(oA:jm P w K mg base @cr 1 "Table" k.t (jY K L))(mR:mg "TABLE_START"=some (.str "table " t1))(j6:mg "NoRule"=some (.ref L))
(j5:W.excIn K L [.type "ValueError",.type "Exception",.type "BaseException",.type "object"] "ValueError.__new__"=true):az P w K mg base @cr 3 f fd ["text","floors"] (jz K k L):=by
 have j:aK (.str "table ") (.str "table " t1):=⟨_,rfl⟩;rwa[F.okX El @cK (λab A outer s H vs Q E Y h=> ?_)]
 ·obtain ⟨s,fl,rfl,_⟩:=h;rfl
 obtain ⟨z,fl,rfl,J,hf,q,G⟩:=h;rwa[⟨_,(aa (ax @a (ac (ak (zU FQ rfl Gi))) ar) (aa (ax @a (ac (ak (zU v4 rfl wj))) ar) (aa (ax @a (ac (ak (zU rf rfl rM))) ar) (aa (ax @a (ac (ak (gC rn jI Y @b rfl @bi))) ar) (aa (ax (cI rfl (gD rfl PySem.F.plainAttrs_str PySem.F.slot_str_startswith PySem.F.type_str_startswith DC (wv 0) @bi)) (ac (ak (gC oA j8.passes Y @b rfl @bi))) ar) (ac (qU j8 rfl j5 PySem.F.excBase_ValueError rfl j6 (au (nh (zS (wv 0) (zR zT))) am)))))))),?_⟩];have hz:z.length<=sizeLine:=bJ (by have:=J.1;lia);unfold fG at q G;by_cases h1:z=LJ
 ·rw [if_pos h1] at q;left;exact Ni @gx
 rw [if_neg h1] at q G;by_cases h2:z=LQ
 ·rw [if_pos h2] at q;left;exact Ni @gx
 rw [if_neg h2] at q G;by_cases R:z=LN
 ·rw [if_pos R] at q;left;exact Ni @gx
 rw [if_neg R] at q G;by_cases U:z=LK
 ·rw [if_pos U] at q;left;exact PL cS @gx
 rw [if_neg U] at q G;have O:=BU (s:=z);left;erw[⟨rfl,?_⟩];rw [O];rwa[gw @ca @ca]
 ·left;rwa[⟨bJ @b,?_⟩];erw[⟨hz,?_⟩];have Z:=J.from (n:=6) @b;rwa[KS cT Z.1 Z.2 (λok a dx H' I na ea=> ?_) (λno H' I=> ?_)]
  ·rw [if_pos ⟨S,ok⟩] at q;exact q _ rfl a dx H' I na ea
  ·rw [if_neg (λy=>no y.2)] at G;exact G rfl H' I
 ·rw [if_neg (λy=>S y.1)] at G;have rl:=xC J.2;have zl:=J.1
  have e2:(s!" is no rule").length<=100:=by decide
  left;rwa[⟨bJ @c,bJ ?_,bJ ?_,bJ ?_,bJ @g,G rfl H (.refl _)⟩]
  ·rw [strLen_append,show Str.empty.length=0 from rfl];lia
  ·rw [strLen_append,strLen_append,show Str.empty.length=0 from rfl];lia
  ·rw [strLen_append,strLen_append,show Str.empty.length=0 from rfl];lia
seal jz
def isL (x:Str):Prop:=x.length=1/\∀c∈x.cps.toList,c∈mL
theorem Bh {x:Str}(h:x=wo\/x=wx\/x=wu\/x=wd\/x=ws):isL x:=by
 rcases h with rfl|rfl|rfl|rfl|rfl<;>exact ⟨by decide,by decide⟩
theorem AS (li S z j:Int):isL (jy li S z j):=Bh (by unfold jy;repeat (first|split|simp))
theorem Nd (S z j:Int):isL (PH S z j):=Bh (by unfold PH;repeat (first|split|simp))
theorem L8 (j fl li S:Int):isL (xo j fl li S):=Bh (by unfold xo;repeat (first|split|simp))
theorem NE (fl li S z j:Int):isL (xS fl li S z j):=by
 unfold xS;split
 ·exact Bh (.inr (.inr (.inr (.inl rfl))))
 ·exact AS ..
theorem Rk.isL {U:Rk}(h:U.ok){fl li S j z:Int}(sn:ia li S j z):My.isL (U.word fl li S j z):=by
 cases U with
 |sw=>exact AS ..
 |ho=>exact NE ..
 |ne=>exact Nd ..
 |ba top=>exact L8 ..
 |ta s=>
  have h:yQ s:=h;obtain ⟨G,F⟩:=q8 sn
  have W:s.cps.toList.length=36:=by rw [cg];exact h.1
  rwa[⟨rfl,λc I=> ?_⟩];have I:c∈[s.cps.toList.getD (tI li S j z).toNat 0]:=I;rw [mem_singleton.mp I,getD_eq_getElem?_getD,getElem?_eq_getElem (show (tI li S j z).toNat<s.cps.toList.length by lia)];exact h.2 _ (getElem_mem _)
theorem RO {x:Str}(h:isL x):x∈cy:=by
 obtain ⟨h1,h2⟩:=h
 have W:x.cps.toList.length=1:=by rw [cg];exact h1
 obtain ⟨⟨l⟩⟩:=x
 match l,W with
 |[c],_=>
  have I:c∈mL:=h2 c @g;unfold mL at I;simp only [mem_cons,not_mem_nil,or_false] at I
  rcases I with rfl|rfl|rfl|rfl|rfl
  ·exact (show (⟨#[111]⟩:Str)=s!"o" by decide+kernel)▸ .head _
  ·exact (show (⟨#[120]⟩:Str)=s!"x" by decide+kernel)▸ .tail _ (.head _)
  ·exact (show (⟨#[117]⟩:Str)=s!"u" by decide+kernel)▸ .tail _ (.tail _ (.head _))
  ·exact (show (⟨#[100]⟩:Str)=s!"d" by decide+kernel)▸ .tail _ (.tail _ (.tail _ (.head _)))
  ·exact (show (⟨#[115]⟩:Str)=s!"s" by decide+kernel)▸ .tail _ (.tail _ (.tail _ (.tail _ (.head _))))
theorem Mm {k:Ks}(R:R3 K P w mg base k){H:Hp}{a dx:Addr}{U:Rk}(Y:U.ok)(e:H a=some (.ins (U.cl k) dx U.fs)):Ds P w K mg base H a U.word:=
 ⟨U.cl k,dx,U.fs,eO K U.ix,e,JZ U,R.m U,λfl li S z F s=>RO (Rk.isL Y s),λH' G fl li S z F Q E h1 h2 L j=>eO.mk _ _ _ _ _ _ _ _ _ _ rfl rfl Y h1 (R.c U) h2 L j⟩
inductive Im (K:Fg)(vs:List V)(H:Hp)(Q:VK)(_e:XK):Prop
 |mk (a h ru df C dx:_) (_:vs=[.ref a,.ref h,.ref ru,.ref df]) (_:H a=some (.ins C dx [])) (_:N9 K C) (_:∀H',gu a H H'->H' a=some (.ins C dx @fi)->Q .non H')
theorem FF (F:bB K "__init__" "Court.__init__" lD f fd):az P w K mg base bg 1 f fd ["self","house","rule","dealer"] (Im K):=by
 rwa[F.ok xA (by symm) @bF];obtain ⟨a,h,J,I,C,dx,rfl,G,j,q⟩:=h;rwa[⟨_,(aa @bV (aa (cJ rfl (wv 0) (wv 2)) (ac (cJ rfl (wv 0) (wv 3))))),?_⟩];rwa[cK G j.i.cl j.house @b ?_];rwa[cK aj j.i.cl j.rule (by show 1<1000;decide) ?_];rwa[cK aj j.i.cl j.dealer (by show 2<1000;decide) ?_];rwa[q _ (λb o n e=> ?_) aj];rw [ao n,ao n,ao n];exact e
unseal iq in
theorem RH {C:Addr}{E:XK}{H:Hp}{h j I:Addr}{Q:VK}(G:N9 K C)(g:∀a dx H',aq H H'->H a=none->H' a=some (.ins C dx (rR h j I))->Q (.ref a) H'):iq C (Im K) E [.ref h,.ref j,.ref I] H Q:=by
 show ∀a dx,H a=none->H dx=none->dx≠a->Im K (.ref a::([.ref h,.ref j,.ref I]++[])) @s (λv H2=>v= .non/\Q (.ref a) H2) E;intro a dx h1 h2 L;have F:aq H @s:=eQ h1 h2;exact ⟨a,h,j,I,C,dx,rfl,aj,G,λH' sp e=>⟨rfl,g a dx H' (λb o e=>sp b o (λz=>by rw [z,h1] at e;cases e) (F b o e)) h1 e⟩⟩
def Dr (l:Lf):Cb:=⟨2*l.st,0,0,0,[]⟩
inductive Ec (K:Fg)(vs:List V)(H:Hp)(Q:VK)(_e:XK):Prop
 |mk (x l:_) (_:vs=[x]) (_:Kv K H x l) (_:∀v H',aq H H'->d5 K H' v (Dr l)->Q v H')
theorem M7 (F:Z0 K "cabin_of" qP f fd):az P w K mg base bg 1 f fd ["lift"] (Ec K):=by
 rwa[F.ok Cd (by symm) (λz A outer s H L Q E I h=> ?_)];obtain ⟨x,l,rfl,⟨b,rfl,O⟩,q⟩:=h;rwa[⟨_,@j,?_⟩];rwa[ae O rfl ?_];rwa[⟨eX @b @b,?_⟩];rwa[b3 (bJ (by show 0<=1000000;decide)) λb H1 G J S=> ?_];exact b3 (bJ (by show 5<=1000000;decide)) λa H2 R Y j=>q _ H2 (G.trans R) ⟨a,rfl,b,[],j,R _ _ S,.nil⟩
def Sa (K:Fg)(H:Hp)(st:Addr)(hs:Hs):Prop:=∃tc tw ys,H st=some (.tup [.ref tc,.ref tw,.int ((hs.ls.length:Int) - 1),.bl false])/\H tc=some (.tup ys)/\H tw=some (.tup [])/\Paired @gg ys @gY
theorem Sa.st {H:Hp}{st:Addr}{hs:Hs}(h:Sa K H st hs):cx K H st @gY [] ((hs.ls.length:Int) - 1) false:=by
 obtain ⟨tc,G,ys,h1,h2,L,j⟩:=h;exact ⟨tc,G,ys,[],aD.of h1,aD.of h2,aD.of L,j,.nil⟩
inductive vj (K:Fg)(vs:List V)(H:Hp)(Q:VK)(_e:XK):Prop
 |mk (a C dx h ru df hs:_) (_:vs=[.ref a]) (_:H a=some (.ins C dx @fi)) (_:N9 K C) (_:lS K H h hs) (_:∀st H',aq H H'->Sa K H' st hs->Q (.ref st) H')
theorem FH (F:bB K "begin" "Court.begin" jH f fd)(bo:mg "len"=none)(bc:mg "tuple"=none)(uO:bf P w K mg base 1 "cabin_of" ["lift"] (Ec K)):az P w K mg base bg 2 f fd ["self"] (vj K):=by
 rwa[F.ok mx (by symm) @y];obtain ⟨a,C,dx,h,ru,df,hs,rfl,ea,W,⟨af,p,xs,h1,h2,Z⟩,q⟩:=h;have l3:=af.l3;have xl:=Z.len;rwa[⟨_,(aa (bp (i:=1) mx.nd rfl @q (bD @el rfl bc boot_tuple (au (bz rfl (aE (N':=["lift"]) (pk:=[none]) @o) @a @l @x @l) am))) @j),?_⟩];rwa[fA ea W.i.cl W.house (v:= .ref h) rfl ?_];rwa[ae h1 rfl ?_];rwa[cZ h2 ?_];rwa[cN (xs:=xs) (λi ys H'=>aq H H'/\Paired (d5 K H') ys ((hs.ls.take i).map Dr)) @bu (λi ys H' p=> ?_) ⟨.refl _,by rw [take_zero];exact .nil⟩ (λi ys H' _ p=>p.1.seqT h2) (λi x ys H' O p=> ?_) (λys H' p l nl=> ?_)]
 ·rw [p.2.len,length_map,length_take];lia
 ·obtain ⟨I,G⟩:=p;obtain ⟨lf,U,S⟩:=Z.get1 O;obtain ⟨b,rfl,hb⟩:=S;rwa[⟨cq,?_⟩];rwa[Ec.mk _ _ rfl ⟨b,rfl,I.seqT hb⟩ λv H2 R hv=>⟨I.trans R,?_⟩];rw [take_add_one,U,map_append];exact Paired.app (Paired.imp' (λx c z=>d5.keep z R.st) G) (.cons hv .nil)
 ·obtain ⟨I,G⟩:=p;have R:aq H' (upd H' l (.lst ys)):= .upd nl;rw [xl,take_of_length_le @f] at G
  have yl:ys.length=hs.ls.length:=by rw [G.len,length_map]
  rwa[jw @fV λtc H3 s3 n3 Y=> ?_];rwa[b3 (bJ (by show 0<=1000000;decide)) λtw H4 L n4 e4=> ?_];erw[bh (aD.of (L _ _ Y)) ?_];rw [yl];have j:=((R.trans s3).trans L);rwa[b3 (bJ (by show 4<=1000000;decide)) λst H5 J n5 e5=>q st H5 ((I.trans j).trans J) ⟨tc,tw,ys,e5,J _ _ (L _ _ Y),J _ _ e4,Paired.imp' (λx c z=>d5.keep z (j.trans J).st) G⟩]
theorem JO {i:Int}(F:0<=i)(h1:i<3):∃s:Str,oQ [V.str KO,.str hst,.str Ho] i=some (.str s)/\i8 s:=by
 rcases (show i=0\/i=1\/i=2 by lia) with rfl|rfl|rfl
 ·exact ⟨_,rfl,.inl rfl⟩
 ·exact ⟨_,rfl,.inr (.inl rfl)⟩
 ·exact ⟨_,rfl,.inr (.inr rfl)⟩
def N4 (hs:Hs):Prop:=∀l∈hs.ls,0<=l.st/\l.st<hs.fl
def Ql (fl:Int)(l:Lf):Prop:=0<=l.st/\l.st<fl/\1<=l.rm/\l.rm<=6/\1<=l.tn/\l.tn<=4/\i8 l.kd
inductive vf (K:Fg)(vs:List V)(H:Hp)(Q:VK)(_e:XK):Prop
 |mk (a ns k fl:_) (_:vs=[.ref a,.int k,.int fl]) (_:yE K H a ns) (_:0<=k) (_:k<1000) (_:0<fl) (_:∀v l H',aq H H'->Kv K H' v l->Ql fl l->Q v H')
theorem Fq (F:Z0 K "_law_lift" zH f fd)(bx:Z00 P w K mg base):az P w K mg base bg 3 f fd ["_law_script","_law_at","_law_floors"] (vf K):=by
 rwa[F.ok IB (by symm) @y];obtain ⟨a,ns,k,fl,rfl,L,z,O,I,q⟩:=h;rwa[⟨_,@gF,?_⟩];rwa[mJ (bJ (by show 3<=1000000;decide)) λl1 H1 G n1 e1=> ?_];have aH:=L.same G;erw[tQ aH z O @b @b λi i0 Z=> ?_];obtain ⟨Y,S,hk⟩:=JO i0 Z;rwa[cP @dE S ?_];rwa[tQ aH z O @b I λi2 c0 U=> ?_];rwa[tQ aH z O @b @b λR a0 a1=> ?_];rwa[tQ aH z O @b @b λj b0 b1=> ?_];exact b3 (bJ (by show 4<=1000000;decide)) λr H2 J n2 W=>q _ ⟨i2,1+R,1+j,Y⟩ H2 (G.trans J) ⟨r,rfl,aD.of W⟩ ⟨c0,U,by show 1<=1+R;lia,by show 1+R<=6;lia,by show 1<=1+j;lia,by show 1+j<=4;lia,hk⟩
inductive qo (K:Fg)(vs:List V)(H:Hp)(Q:VK)(_e:XK):Prop
 |mk (a ns:_) (_:vs=[.ref a,.int 3]) (_:yE K H a ns) (_:∀r hs H',aq H H'->lS K H' r hs->N4 hs->Q (.ref r) H')
theorem Cu (F:Z0 K "_law_house" vI f fd)(bc:mg "tuple"=none)(bQ:mg "range"=none)(bx:Z00 P w K mg base)(uM:bf P w K mg base 3 "_law_lift" ["_law_script","_law_at","_law_floors"] (vf K)):az P w K mg base bg 4 f fd ["_law_script","_law_most"] (qo K):=by
 rwa[F.ok Et (by symm) (λai A outer s H vs Q E hr h=> ?_)];obtain ⟨a,ns,rfl,O,q⟩:=h;rwa[⟨_,(aa @a (aa @a (aa @a (gI (ax @a (ac @a) ar) (aa @a (ac (ak (cW (au (wv 2) (au (bD @el rfl bc boot_tuple (au (bz rfl (aE (N':=["_law_k","_law_script","_law_floors"]) (pk:=[none,some 0,some 2]) @o) (dU rfl bQ @en) @l @x @l) am)) (au (wv 4) (au (wv 5) am)))))))))))),?_⟩];rwa[tQ O @b @b @b @b λi i0 i1=> ?_];rwa[tQ O @b @b @b @b λn n0 n1=> ?_];rwa[⟨yc @c @c @b,?_⟩];rwa[tQ O @b @b @b (by first|exact Int.pow_pos @b|exact Int.mul_pos @b (Int.pow_pos @b)|(show (0:Int)<1*2^_;rw [Int.one_mul];exact Int.pow_pos @b)) λlk ae _=> ?_];rwa[⟨GP @b @b,?_⟩];rwa[⟨oH @b @b,?_⟩];rwa[yb (λσ H'=>H'=H/\∃lo:Int,0<=lo/\σ=[some (.ref a),some (.int 3),some (.int (2+i)),some (.int (1+n)),some (.int lo),none]) ?_ ?_]
 ·ext;rwa[tQ O @b @b @b @b λj _ _=> ?_];rwa[gw @k @k]
  ·exact ⟨rfl,0,by decide,rfl⟩
  ·exact ⟨rfl,lk / 2*2,by lia,rfl⟩
 rintro σ' H' ⟨rfl,lo,Z,rfl⟩;obtain ⟨ab,rfl⟩:=Int.eq_ofNat_of_zero_le Z;rwa[mJ (bJ @g) λl1 H1 Y ah e1=> ?_];erw[tQ (O.same Y) @b @b @b @b λj j0 j1=> ?_]
 obtain ⟨so,S,ad⟩:∃s:Str,oQ [V.str "free",.str "way"] j=some (.str s)/\(s=s!"free"\/s=s!"way"):=by
  rcases (show j=0\/j=1 by lia) with rfl|rfl
  ·exact ⟨_,rfl,.inl rfl⟩
  ·exact ⟨_,rfl,.inr rfl⟩
 rwa[cP @dE S ?_];rwa[⟨⟨by lia,by lia⟩,?_⟩];rwa[lM (λj' ys H'=>aq H1 H'/\ys.length=j'/\∃G:List Lf,Paired (Kv K H') ys G/\∀l∈G,Ql (2+i) l) @bu (λi ys H' p=>Nat.le_of_eq p.2.1) ⟨.refl _,rfl,[],.nil,λy U=>nomatch U⟩ (λi ys H' hi p=> ?_) (λys H' p l nl=> ?_)]
 ·obtain ⟨L,rfl,G,J,af⟩:=p;erw[⟨cq,?_⟩]
  have ag:(ys.length:Int)<3:=by lia
  rwa[vf.mk _ _ _ _ rfl ((O.same Y).same L) @c @c @c λv l H2 R hv W=>⟨L.trans R,by simp,G++[l],?_,λy U=> ?_⟩]
  ·exact Paired.app (Paired.imp' (λx l ⟨b,e,z⟩=>⟨b,e,R.seqT z⟩) J) (.cons hv .nil)
  rcases mem_append.mp U with z|z
  ·exact af y z
  ·rw [mem_singleton.mp z];exact W
 obtain ⟨L,W,G,J,af⟩:=p;have R:aq H' (upd H' l (.lst ys)):= .upd nl;rwa[jw @fV λpt H3 s3 n3 e3=> ?_];rwa[b3 (bJ @g) λr H4 s4 n4 e4=> ?_]
 have ll:G.length=(1+n).toNat:=by have:=J.len;lia
 have I:=(R.trans s3).trans s4;rwa[q r ⟨2+i,G,ab,so⟩ H4 ((Y.trans L).trans I) ⟨⟨by show 2<=2+i;lia,by show 2+i<=8;lia,by show 1<=G.length;lia,by show G.length<=3;lia,λl W=>(af l W).2.2,ad⟩,pt,ys,aD.of e4,s4.seqT @em,Paired.imp' (λx l ⟨b,e,z⟩=>⟨b,e,I.seqT z⟩) J⟩ (λl W=>⟨(af l W).1,(af l W).2.1⟩)]
inductive qm (K:Fg)(vs:List V)(H:Hp)(Q:VK)(_e:XK):Prop
 |mk (a ns k h hs tg l ls:_) (_:vs=[.ref a,.int k,.ref h,.int tg,.ref l]) (_:yE K H a ns) (_:0<=k) (_:k<1000) (_:lS K H h hs) (_:aN K H l (List.map V.int ls)) (_:ls≠[]) (_:ls.length<=100) (_:∀v r H',aq H H'->bM K H' v (be.d r)->fO hs.fl r->r.tag=tg->r.lift∈ls->Q v H')
theorem Cr (F:Z0 K "_law_rider" vG f fd)(bo:mg "len"=none)(bx:Z00 P w K mg base):az P w K mg base bg 3 f fd ["_law_script","_law_at","_law_house_here","_law_tag_here","_law_lifts"] (qm K):=by
 rwa[F.ok Es (by symm) @E];obtain ⟨a,ns,k,h,hs,tg,l,G,rfl,O,J,I,⟨Z,p,ls,L,hp,hl⟩,Y,S,il,q⟩:=h;have f2:=Z.f2;generalize ab:hs.fl=fl at *;rwa[⟨_,@gF,?_⟩];rwa[ae L rfl ?_];rwa[tQ O J I @b @c λs s0 s1=> ?_];rwa[ae L rfl ?_];rwa[tQ O J I @b (by show (0:Int)<fl - 1;lia) λj j0 W=> ?_];rwa[ae L rfl ?_];rwa[⟨by lia,?_⟩];erw[j3 Y ?_];have ip:0<G.length:=length_pos_iff.mpr S;rwa[tQ O J I @b (by rw [length_map];lia) λi i0 R=> ?_];have R:i<((G.map V.int).length:Int):=R;rw [length_map] at R;obtain ⟨m,rfl⟩:=Int.eq_ofNat_of_zero_le i0
 have U:m<G.length:=by lia
 erw[cP Y (v:= .int G[m]) (c7 (by rw [getElem?_map,getElem?_eq_getElem U];rfl)) ?_];have W:j<fl - 1:=W;rwa[b3 (bJ (by show 4<=1000000;decide)) λr H2 s2 n2 e2=>q _ ⟨tg,s,(s+1+j)% fl,G[m]⟩ H2 s2 (d3 (aD.of e2) (.cons (.int _) (.cons (.int _) (.cons (.int _) (.cons (.int _) .nil))))) ⟨s0,s1,Int.emod_nonneg _ @c,Int.emod_lt_of_pos _ @c,λz=> ?_⟩ rfl (getElem_mem U)];have z:s=(s+1+j)% fl:=z;by_cases w:s+1+j<fl
 ·rw [Int.emod_eq_of_lt @c w] at z;lia
 ·have e:(s+1+j)% fl=s+1+j - fl:=by
   rw [show s+1+j=(s+1+j - fl)+fl by lia,Int.add_emod_right,Int.emod_eq_of_lt @c @c];lia
  lia
theorem Nq {i:Int}(F:0<=i)(h1:i<5):∃c,oQ (s!"oxuds").cps.toList i=some c/\c∈mL:=by
 rcases (show i=0\/i=1\/i=2\/i=3\/i=4 by lia) with rfl|rfl|rfl|rfl|rfl<;>exact ⟨_,rfl,by decide⟩
theorem xT:∀(ts:List Str),(Builtin.Str.glued "" ts).cps.toList=ts.flatMap λt=>t.cps.toList:=by
 have F:(s!"").cps= #[]:=by decide+kernel
 have z:∀(l:List Str) (j:Array Nat),(l.foldl (λj p=>j++(s!"").cps++p.cps) j).toList=j.toList++l.flatMap λt=>t.cps.toList:=by
  intro l
  induction l with
  |nil=>intro j;simp
  |cons p l ih=>
   intro j;rw [foldl_cons,ih,F,flatMap_cons];simp
 intro ts
 cases ts with
 |nil=>rfl
 |cons p l=>
  show (l.foldl (λj p=>j++(s!"").cps++p.cps) p.cps).toList=_;rw [z,flatMap_cons]
theorem uE:∀(cs:List Nat),((cs.map λc=>(⟨#[c]⟩:Str)).flatMap λt=>t.cps.toList)=cs
 |[]=>rfl
 |c::cs=>by rw [map_cons,flatMap_cons,uE cs];rfl
theorem xf:∀(cs:List Nat),((cs.map λc=>(⟨#[c]⟩:Str)).map (·.length)).sum=cs.length
 |[]=>rfl
 |c::cs=>by rw [map_cons,map_cons,sum_cons,xf cs,length_cons];show 1+_=_;lia
inductive zd (K:Fg)(vs:List V)(H:Hp)(Q:VK)(_e:XK):Prop
 |mk (a ns k:_) (_:vs=[.ref a,.int k]) (_:yE K H a ns) (_:0<=k) (_:k<1000) (_:∀t H',aq H H'->yQ t->Q (.str t) H')
theorem Js (F:Z0 K "_law_letters" nY f fd)(bQ:mg "range"=none)(bx:Z00 P w K mg base):az P w K mg base bg 3 f fd ["_law_script","_law_at"] (zd K):=by
 rwa[F.ok zy (by symm) @y];obtain ⟨a,ns,k,rfl,Y,k0,Z,q⟩:=h;rwa[⟨_,(ac (ak (gD rfl PySem.F.plainAttrs_str PySem.F.slot_str_join PySem.F.type_str_join (DE rfl) aS (au (bz rfl (aE (N':=["_law_k","_law_script","_law_at"]) (pk:=[none,some 0,some 1]) @o) (dU rfl bQ (au ag am)) @l @x @l) am)))),?_⟩];rwa[⟨rfl,?_⟩];rwa[⟨⟨by decide,by decide⟩,?_⟩];rwa[lM (λi ys H'=>H'=H/\∃z:List Nat,ys=(z.map λc=>(⟨#[c]⟩:Str)).map V.str/\z.length=i/\∀c∈z,c∈mL) (bJ @b) (λi ys H' p=>by obtain ⟨_,z,rfl,l,_⟩:=p;rw [length_map,length_map,l];exact Nat.le_refl _) ⟨rfl,[],rfl,rfl,λx G=>nomatch G⟩ (λi ys H' hi p=> ?_) (λys H' p l n=> ?_)]
 ·obtain ⟨rfl,z,rfl,I,J⟩:=p;have aa:i<36:=hi;rwa[⟨cq,?_⟩];rwa[⟨eX @b @b,?_⟩];erw[tQ Y k0 Z (by show (0:Int)<60013+16*(0+(i:Int));lia) @b λj j0 j1=> ?_];obtain ⟨c,ec,hL⟩:=Nq j0 j1;rwa[AX (bJ @b) ec ?_];rwa[⟨rfl,z++[c],by rw [map_append,map_append];rfl,by rw [length_append,I];rfl,λx G=> ?_⟩]
  rcases mem_append.mp G with G|G
  ·exact J x G
  ·rw [mem_singleton.mp G];exact hL
 obtain ⟨rfl,z,rfl,I,J⟩:=p;have I:z.length=36:=I;have U:upd H' l (.lst ((z.map λc=>(⟨#[c]⟩:Str)).map V.str)) l=some (.lst ((z.map λc=>(⟨#[c]⟩:Str)).map V.str)):=aj;have S:aq H' (upd H' l (.lst ((z.map λc=>(⟨#[c]⟩:Str)).map V.str))):= .upd n;generalize upd H' l (.lst ((z.map λc=>(⟨#[c]⟩:Str)).map V.str))=H1 at U S ⊢
 have L:(Builtin.Str.glued "" (z.map λc=>(⟨#[c]⟩:Str))).cps.toList=z:=by
  rw [xT,uE]
 have R:(Builtin.Str.glued "" (z.map λc=>(⟨#[c]⟩:Str))).length=36:=by rw [<-cg,L,I]
 have W:(z.map λc=>(⟨#[c]⟩:Str)).toArray.foldl (· + ·.length+(s!"").length) 0<=sizeLine:=bJ (by
  rw [PySem.StrLaws.joinTotal]
  have e2:(s!"").length=0:=by decide+kernel
  rw [xf,e2,I];lia)
 rwa[NA (ts:=z.map λc=>(⟨#[c]⟩:Str)) (aN.of U) W (bJ (by rw [R];decide)) ?_];exact q _ H1 S ⟨R,λc O=>J c (by rw [L] at O;exact O)⟩
def Hk (d:D):Prop:=∃(wd:Str) (i:Int) (is:List Int),d= .tup (.str wd:: .int i::is.map D.int)/\is.length<=10
inductive y8 (K:Fg)(vs:List V)(H:Hp)(Q:VK)(_e:XK):Prop
 |mk (l zs ds:_) (_:vs=[.ref l]) (_:H l=some (.lst zs)) (_:aC K H zs ds) (_:(∀d∈ds,Hk d)) (_:ds.length<=4000) (_:∀H',aq H H'->Q (.bl true) H')
theorem rO {H:Hp}{xs:List V}{d:D}{ds:List D}(h:aC K H xs (d::ds)):∃y ys,xs=y::ys/\bM K H y d/\aC K H ys ds:=by
 cases h with|cons a b=>exact ⟨_,_,rfl,a,b⟩
theorem C1 {H:Hp}:∀ {is:List Int} {ys:List V},aC K H ys @fP->ys=is.map V.int:=by
 intro is
 induction is with
 |nil=>intro ys h;cases h;rfl
 |cons j is ih=>
  intro ys h;obtain ⟨y,zs,rfl,a,b⟩:=rO h;rw [a.isInt,ih b];rfl
theorem II {H:Hp}{x:V}{d:D}(h:bM K H x d)(Y:Hk d):∃(a:Addr) (wd:Str) (i:Int) (is:List Int),x= .ref a/\aD K H a (.str wd:: .int i::is.map V.int)/\is.length<=10/\d= .tup (.str wd:: .int i::is.map D.int):=by
 obtain ⟨wd,i,is,rfl,W⟩:=Y;obtain ⟨a,xs,rfl,h1,h2⟩:=h.outT;obtain ⟨I,bk,rfl,z,O⟩:=rO h2;obtain ⟨J,j,rfl,G,F⟩:=rO O;rw [z.isStr,G.isInt,C1 F] at h1;exact ⟨a,wd,i,is,rfl,h1,W,rfl⟩
theorem Jk (F:Z0 K "_law_rows" zG f fd)(aH:mg "isinstance"=none)(eG:mg "list"=none)(bc:mg "tuple"=none)(Nj:mg "str"=none)(bo:mg "len"=none)(cR:bf P w K mg base 1 "_law_whole" ["_law_thing"] iQ):az P w K mg base bg 2 f fd ["_law_log"] (y8 K):=by
 rwa[F.ok IA (by symm) @E];obtain ⟨l,zs,ds,rfl,el,hd,I,dl,q⟩:=h;have zl:zs.length=ds.length:=hd.len;rwa[⟨_,(aa (ax (bw (cI rfl (aA @da rfl aH boot_isinstance (au (wv 0) (au (dD (v:= .ty "list") rfl eG boot_list rfl) am))))) @B ar) (aa (cO PassesOwn.never rfl (dJ rfl (wv 0)) @a (aa (ax (PW.pt (cG (bw (cI rfl (aA @da rfl aH boot_isinstance (au (wv 1) @bw)))) (cG (aP w_lt (aA @ch rfl bo PySem.boot_len @be) ag (aG _)) (cY (bw (cI rfl (aA @da rfl aH boot_isinstance (au @S (au (dD (v:= .ty "str") rfl Nj boot_str rfl) am))))))))) @B ar) (ac (cO PassesOwn.never rfl (dJ rfl (im (wZ rfl) (wv 1) @gJ mz)) @a (ac (ax (bw (cI rfl (bV cR hr @b rfl @fG))) @B ar)))))) @B)),?_⟩];rwa[F6 rfl (.lst el) rfl ?_];rwa[aL rfl ?_];rwa[cz (aN.of el) ?_];rwa[dX (xs:=zs) (λi σ J=>aq H J/\∃Y G,σ=[some (.ref l),Y,G]) ⟨.refl _,_,_,rfl⟩ (λi σ J _ R=>R.1.seq (aN.of el)) (λi x σ J Z R=> ?_) (λσ J R=> ?_)]
 ·obtain ⟨W,Y,G,rfl⟩:=R;obtain ⟨d,ab,dx⟩:=hd.get1 Z;obtain ⟨a,wd,j,U,rfl,S,il,_⟩:=II (bM.same dx W) (I d (mem_of_getElem? ab));rwa[lJ S rfl rfl ?_];rwa[aL rfl ?_];rwa[bh S ?_];rwa[bK (by show ¬(((V.str wd::V.int j::U.map V.int).length:Nat):Int)<2;rw [length_cons,length_cons];lia) ?_];rwa[ae S (v:= .str wd) (c7 (j:=0) rfl) ?_];rwa[⟨rfl,?_⟩];rwa[aL rfl ?_]
  refine vo S (by
   rintro ⟨z,_⟩;revert z;show ¬HT.sIx (U.map V.int).length.succ.succ 0 (some 1)=0
   simp [HT.sIx]) λsl H2 s2 n2 e2=> ?_
  rw [C7] at e2;rwa[cZ (aD.of e2) ?_]
  have L:∀y∈(V.int j::U.map V.int),∃i:Int,y=V.int i:=λy hy=>by
   rcases mem_cons.mp hy with rfl|hy
   ·exact ⟨_,rfl⟩
   ·obtain ⟨i,_,rfl⟩:=mem_map.mp hy;exact ⟨_,rfl⟩
  rwa[jN (xs:=V.int j::U.map V.int) (λi σ O=>O=H2/\∃G,σ=[some (.ref l),some (.ref a),G]) ⟨rfl,_,rfl⟩ (λi σ O _ R=>by rw [R.1];exact aD.of e2) (λi x σ O Z R=> ?_) (λσ O R=> ?_)]
  ·obtain ⟨rfl,G,rfl⟩:=R;obtain ⟨i,rfl⟩:=L x (mem_of_getElem? Z);rwa[iQ.mk _ rfl ?_];rwa[aL rfl ?_];exact ⟨rfl,_,rfl⟩
  ·obtain ⟨rfl,G,rfl⟩:=R;exact ⟨W.trans s2,_,_,rfl⟩
 ·obtain ⟨W,Y,G,rfl⟩:=R;exact q J W
def cA (K:Fg)(H:Hp)(p:Addr)(cs:List lU):Prop:=∃xs,(aN K H p xs\/aD K H p xs)/\aC K H xs (cs.map lU.d)
theorem cA.same {H H':Hp}{p:Addr}{cs:List lU}(h:cA K H p cs)(s:aq H H'):cA K H' p cs:=let ⟨xs,h1,h2⟩:=h;⟨xs,s.any h1,aC.same h2 s⟩
theorem Bt {H:Hp}{x:V}{c:lU}(h:bM K H x c.d):∃a b,x= .ref a/\aD K H a [.int c.pl,.int c.li,.int c.dr,.int c.mr,.ref b]:=by
 obtain ⟨a,xs,rfl,h1,h2⟩:=h.outT
 cases h2 with|cons q0 t0=>cases t0 with|cons q1 t1=>cases t1 with|cons q2 t2=>cases t2 with|cons q3 t3=>cases t3 with|cons q4 t4=>
 cases t4;cases q0.isInt;cases q1.isInt;cases q2.isInt;cases q3.isInt;obtain ⟨b,ys,rfl,_⟩:=q4.outT;exact ⟨a,b,rfl,h1⟩
theorem zO {H:Hp}{x:V}{r:Rd}(h:bM K H x r.d):∃a,x= .ref a/\aD K H a [.int r.t,.int r.s,.int r.g,.int r.l]:=by
 obtain ⟨a,xs,rfl,h1,h2⟩:=h.outT
 cases h2 with|cons q0 t0=>cases t0 with|cons q1 t1=>cases t1 with|cons q2 t2=>cases t2 with|cons q3 t3=>
 cases t3;cases q0.isInt;cases q1.isInt;cases q2.isInt;cases q3.isInt;exact ⟨a,rfl,h1⟩
theorem cA.at {H:Hp}{p:Addr}{cs:List lU}(h:cA K H p cs){i:Int}(F:0<=i)(h1:i<cs.length){Q:VK}(g:∀c a b,cs[i.toNat]? =some c->aD K H a [.int c.pl,.int c.li,.int c.dr,.int c.mr,.ref b]->Q (.ref a) H):mw K p i H Q:=by
 obtain ⟨xs,G,J⟩:=h;have W:=aM J;obtain ⟨j,rfl⟩:=Int.eq_ofNat_of_zero_le F
 have Z:j<xs.length:=by lia
 obtain ⟨c,I,z⟩:=bE J (getElem?_eq_getElem Z);obtain ⟨a,b,O,L⟩:=Bt z;rwa[Ej G (v:= .ref a) (c7 (by rw [getElem?_eq_getElem Z,O])) (g c a b ?_ L)];rw [show ((j:Int)).toNat=j by lia];exact I
theorem cA.len {H:Hp}{p:Addr}{cs:List lU}(h:cA K H p cs){Q:VK}(g:Q (.int cs.length) H):jC K p H Q:=by
 obtain ⟨xs,z,J⟩:=h;rwa[Iv z ?_];rw [aM J];exact g
inductive uo (K:Fg)(vs:List V)(H:Hp)(Q:VK)(_e:XK):Prop
 |mk (a x0 x1 x2 m x4:_) (_:vs=[.ref a]) (_:aD K H a [x0,x1,x2,.int m,x4]) (_:Q (.bl (decide (m=0))) H)
theorem MZ (F:Z0 K "is_serving" lv f fd):az P w K mg base bg 1 f fd ["cabin"] (uo K):=by
 rwa[F.ok xy (by symm) @p];obtain ⟨a,G,J,I,m,z,rfl,O,q⟩:=h;rwa[⟨_,@j,?_⟩];rwa[ae O rfl ?_];exact q
abbrev bI (cs:List lU):List Bool:=cs.map lU.srv
theorem D2 {cs:List lU}{i:Nat}{c:lU}(h:cs[i]? =some c):(bI cs).getD i false=decide (c.mr=0):=by
 rw [getD_eq_getElem?_getD,getElem?_map,h];rfl
inductive LY (K:Fg)(vs:List V)(H:Hp)(Q:VK)(_e:XK):Prop
 |mk (p cs first:_) (_:vs=[.ref p,.int first]) (_:cA K H p cs) (_:1<=cs.length) (_:cs.length<=3) (_:0<=first) (_:Q (.int (sf @eg first)) H)
theorem Pw (F:Z0 K "serving_from" iW f fd)(bo:mg "len"=none)(bQ:mg "range"=none){Y:Tok}(br:mg "NO_LIFT"=some (.int (-1) Y))(gO:bf P w K mg base 1 "is_serving" ["cabin"] (uo K)):az P w K mg base bg 2 f fd ["cabins","first"] (LY K):=by
 have fW:aK (.int (-1)) (.int (-1) Y):=⟨_,rfl⟩;rwa[F.ok tD (by symm) @y];obtain ⟨p,G,first,rfl,U,c1,c3,f0,q⟩:=h;have W:(bI G).length=G.length:=length_map _;rwa[⟨_,(aa @a (aa (cO PassesOwn.never rfl (dU rfl bQ @fG) @a (aa @a (ac (ax @a (ac (ak (wv 4))) ar)))) @j)),?_⟩];rwa[U.len ?_];rwa[⟨⟨by lia,by lia⟩,?_⟩];rwa[fY (λi σ L=>L=H/\sf (bI G) first=Hq (bI G) first i (G.length - i)/\∃I J,σ=[some (.ref p),some (.int first),some (.int G.length),I,J]) ⟨rfl,by unfold sf;rw [W];rfl,_,_,rfl⟩ (λi σ L hi R=> ?_) (λσ L R=> ?_)]
 ·obtain ⟨rfl,j,I,J,rfl⟩:=R
  have hi:i<G.length:=by lia
  have i0:(0:Int)+(i:Nat)=((i:Nat):Int):=by lia
  rw [i0];have S:0<=(first+(i:Int))% (G.length:Int):=Int.emod_nonneg _ @c;have O:(first+(i:Int))% (G.length:Int)<(G.length:Int):=Int.emod_lt_of_pos _ @c;rw [show G.length - i=(G.length - (i+1))+1 by lia] at j
  have j:sf (bI G) first=if (bI G).getD ((first+(i:Int))% (bI G).length).toNat false=true then (first+(i:Int))% (bI G).length else Hq (bI G) first (i+1) (G.length - (i+1)):=j
  rw [W] at j;rwa[⟨by lia,?_⟩];rwa[U.at S O λc a b Z hT=> ?_];rwa[uo.mk _ _ _ _ _ _ rfl hT ?_];rw [D2 Z] at j;rwa[gw @k @k]
  ·rw [if_pos @du] at j;rw [j] at q;exact q
  ·rw [if_neg (by rw [decide_eq_false z];decide)] at j;exact ⟨rfl,j,_,_,rfl⟩
 obtain ⟨rfl,j,I,J,rfl⟩:=R;rw [show ((G.length:Int)).toNat=G.length by lia,Nat.sub_self] at j
 have j:sf (bI G) first= -1:=j
 rw [j] at q;exact q
inductive pU (K:Fg)(vs:List V)(H:Hp)(Q:VK)(_e:XK):Prop
 |mk (p cs x1 x2 last:_) (_:vs=[.ref p,x1,x2,.int last]) (_:cA K H p cs) (_:1<=cs.length) (_:cs.length<=3) (_:0<=last) (_:∀r H',aq H H'->H' r=some (.tup [.int (sf @eg (last+1)),.int (if sf @eg (last+1)= -1 then last else sf @eg (last+1))])->Q (.ref r) H')
theorem Fc (F:Z0 K "by_turns" qQ f fd){G:Tok}(S:mg "NO_LIFT"=some (.int (-1) G))(Z:bf P w K mg base 2 "serving_from" ["cabins","first"] (LY K)):az P w K mg base bg 3 f fd ["cabins","waiting","rider","last"] (pU K):=by
 have fW:aK (.int (-1)) (.int (-1) G):=⟨_,rfl⟩;rwa[F.ok Ce (by symm) (λO A outer s H vs Q E hr h=> ?_)];obtain ⟨p,cs,x1,x2,L,rfl,J,U,I,W,q⟩:=h;rwa[⟨_,@ek,?_⟩];rwa[LY.mk _ _ _ rfl J U I @c ?_];rwa[gw @k @k]
 ·ext;rw [if_pos z] at q;exact b3 (bJ (by show 2<=1000000;decide)) λr H2 R Y j=>q r H2 R j
 ·ext;rw [if_neg z] at q;exact b3 (bJ (by show 2<=1000000;decide)) λr H2 R Y j=>q r H2 R j
theorem GY {cs:List lU}:(bI cs).length=cs.length:=length_map _
inductive nu (K:Fg)(vs:List V)(H:Hp)(Q:VK)(_e:XK):Prop
 |mk (p cs:_) (_:vs=[.ref p]) (_:cA K H p cs) (_:cs.length<=3) (_:∀l H',aq H H'->H l=none->H' l=some (.lst ((srv @eg).map λi:Nat=>V.int i))->Q (.ref l) H')
theorem Jj (F:Z0 K "serving" qG f fd)(dg:mg "enumerate"=none)(gO:bf P w K mg base 1 "is_serving" ["cabin"] (uo K)):az P w K mg base bg 2 f fd ["cabins"] (nu K):=by
 rwa[F.ok B5 (by symm) @y];obtain ⟨p,G,rfl,hC,c3,q⟩:=h;rwa[⟨_,(ac (ak (bz rfl (aE (N':=["lift","cabin"]) (pk:=[none,none]) @o) (AJ rfl rfl dg (wv 0)) @w @bx @O))),?_⟩];obtain ⟨xs,I,hd⟩:=hC;have hl:xs.length=G.length:=aM hd
 have Y:∀ys H',aq H H'/\ys=(kh (bI G) xs.length).map (λi:Nat=>V.int i)->∀p,H' p=none->Q (.ref p) (upd H' p (.lst ys)):=by
  rintro ys H' ⟨U,rfl⟩ p0 n0;rwa[q p0 _ (U.trans (.upd n0)) ?_ ?_]
  ·cases z:H p0 with
   |none=>rfl
   |some o=>rw [U _ _ z] at n0;cases n0
  ·rw [aj,hl,<-GY (cs:=G)]
 have aa:∀(i:Nat) x (ys:List V) H1 T H',xs[i]? =some x->(aq H H1/\ys=(kh (bI G) i).map (λi:Nat=>V.int i))->aq H1 H'->H' T=some (.tup [.int i,x])->∃c a b,x= .ref a/\G[i]? =some c/\aD K H' a [.int c.pl,.int c.li,.int c.dr,.int c.mr,.ref b]/\aD K H' T [.int i,.ref a]/\aq H H':=by
  rintro i x ys H1 T H' j ⟨U,_⟩ R L;obtain ⟨c,O,dc⟩:=bE hd j;obtain ⟨a,b,rfl,ha⟩:=Bt dc;exact ⟨c,a,b,rfl,O,(U.trans R).seqT ha,aD.of L,U.trans R⟩
 have S:∀(i:Nat) (c:lU),G[i]? =some c->kh (bI G) (i+1)=kh (bI G) i++(if decide (c.mr=0)=true then [i] else []):=λi c O=>by rw [BV,D2 O]
 have W:∀(i:Nat) x (ys:List V) H1 T H',xs[i]? =some x->(aq H H1/\ys=(kh (bI G) i).map (λi:Nat=>V.int i))->aq H1 H'->H' T=some (.tup [.int i,x])->BP K 2 T H' λxs=>
  yU (mT 0) (yU (mT 1) Ky) xs (c9 [none,none] (L2.start [s!"cabins"] [V.ref p])) H' λZ H2=>tV (c9 [none,none] (L2.start [s!"cabins"] [V.ref p])) Z/\
   OB K (xc (uo K) [] E0 (DU (HN 1) LM)) Z H2 λb H3=>if b=true then HN 0 Z H3 λv H4=>aq H H4/\ys++[v]=List.map (λi:Nat=>V.int i) (kh (bI G) (i+1)) else aq H H3/\ys=List.map (λi:Nat=>V.int i) (kh (bI G) (i+1)):=by
  intro i x ys H1 T H' j J R L;obtain ⟨c,a,b,rfl,O,ha,hT,s3⟩:=aa i x ys H1 T H' j J R L;rwa[ju hT rfl ?_];rwa[⟨⟨rfl,λi v h=>match i,h with|0,h=>(nomatch h)|1,h=>(nomatch h)|(i+2),h=>(nomatch h)⟩,?_⟩];rwa[uo.mk _ _ _ _ _ _ rfl ha ?_];show if decide (c.mr=0)=true then _ else _;by_cases z:c.mr=0
  ·rw [if_pos @du];rwa[⟨s3,?_⟩];rw [S i c O,if_pos @du,J.2,map_append];rfl
  ·rw [if_neg (by rw [decide_eq_false z];decide)];rwa[⟨s3,?_⟩];rw [S i c O,if_neg (by rw [decide_eq_false z];decide),J.2,append_nil]
 ext
 rcases I with I|I
 ·rwa[.inl ⟨xs,I,?_⟩];exact GN (xs:=xs) (λi ys H'=>aq H H'/\ys=(kh (bI G) i).map (λi:Nat=>V.int i)) @bu (λi ys H' h=>by rw [h.2,length_map];exact xk) ⟨.refl _,rfl⟩ (λi ys H' _ h=>h.1.seq I) (λi x ys H1 T H' j J R L=>W i x ys H1 T H' j J R L) (λys H' h=>Y ys H' h)
 ·rwa[.inr ⟨xs,I,?_⟩];exact GM (xs:=xs) (λi ys H'=>aq H H'/\ys=(kh (bI G) i).map (λi:Nat=>V.int i)) @bu (λi ys H' h=>by rw [h.2,length_map];exact xk) ⟨.refl _,rfl⟩ (λi ys H' _ h=>h.1.seqT I) (λi x ys H1 T H' j J R L=>W i x ys H1 T H' j J R L) (λys H' h=>Y ys H' h)
theorem aN.nt {H H':Hp}(s:bu H H'){a:Addr}{xs:List V}(h:aN K H a xs):aN K H' a xs:=by
 rcases h with (h|⟨o,h⟩)|h
 ·exact .inl (.inl (s _ _ (λps z=>by cases z) h))
 ·exact .inl (.inr ⟨o,s _ _ (λps z=>by cases z) h⟩)
 ·exact .inr h
theorem aD.nt {H H':Hp}(s:bu H H'){a:Addr}{xs:List V}(h:aD K H a xs):aD K H' a xs:=by
 rcases h with (h|⟨o,h⟩)|h
 ·exact .inl (.inl (s _ _ (λps z=>by cases z) h))
 ·exact .inl (.inr ⟨o,s _ _ (λps z=>by cases z) h⟩)
 ·exact .inr h
theorem bM.nt {H H':Hp}(s:bu H H'){x:V}{d:D}(h:bM K H x d):bM K H' x d:=by
 induction h with
 |non=>exact .non
 |bl a=>exact .bl a
 |int a=>exact .int a
 |str a=>exact .str a
 |lst h hl hi ih=>exact .lst (aN.nt s h) hl λi x d S R=>ih i x d S R
 |tup h hl hi ih=>exact .tup (aD.nt s h) hl λi x d S R=>ih i x d S R
theorem aC.nt {H H':Hp}(s:bu H H'){xs:List V}{ds:List D}(h:aC K H xs ds):aC K H' xs ds:=Paired.imp' (λ_ _ z=>bM.nt s z) h
theorem cA.nt {H H':Hp}(s:bu H H'){p:Addr}{cs:List lU}(h:cA K H p cs):cA K H' p cs:=let ⟨xs,h1,h2⟩:=h;⟨xs,h1.elim (λz=> .inl (aN.nt s z)) (λz=> .inr (aD.nt s z)),aC.nt s h2⟩
theorem IS {cs:List lU}{i:Nat}{c:lU}(h:cs[i]? =some c):Mz cs i=c.pl:=by unfold Mz;rw [h]
theorem BJ {cs:List lU}{i:Nat}{c:lU}(h:cs[i]? =some c):N0 cs i=c.ab.length:=by unfold N0;rw [h]
theorem jX {cs:List lU}{i:Nat}{v:V}(h:((srv @eg).map λi:Nat=>V.int i)[i]? =some v):∃j,(srv @eg)[i]? =some j/\v= .int (j:Nat)/\(srv @eg).getD i 0=j/\j<cs.length:=by
 rw [getElem?_map] at h;obtain ⟨j,Z,rfl⟩:=Option.map_eq_some_iff.mp h;rwa[⟨j,Z,rfl,by rw [getD_eq_getElem?_getD,Z];rfl,?_⟩];have:=(pS.mp (mem_of_getElem? Z)).1;rw [GY] at this;exact this
def FV:Expr->Expr
 | .Call _ _ (⟨_,l,_⟩::_) _=>l
 |e=>e
noncomputable def Bd:Expr:=match bO fF with
 |[_,.Return (some (.Tuple (e::_) _ _)) _]=>FV e
 |_=> .Constant .none 0 ⟨0,0,0,0⟩
noncomputable def xO:Expr:=match bO dN with
 |[_,.Assign _ e _,_]=>FV e
 |_=> .Constant .none 0 ⟨0,0,0,0⟩
def JL (st:Stmt):Expr->Scope
 | .Lambda _ _ sc _=>sc
 |_=>af st
theorem No:jV ["lift"] ["cabins","place"] (JL fF Bd):=⟨rfl,rfl,rfl,by decide+kernel,by decide+kernel,by decide+kernel,by decide+kernel,by decide+kernel⟩
theorem JM:jV ["lift"] ["cabins","dealt"] (JL dN xO):=⟨rfl,rfl,rfl,by decide+kernel,by decide+kernel,by decide+kernel,by decide+kernel,by decide+kernel⟩
abbrev qN:Str:="near"++".<locals>."++"<lambda>"
abbrev qL:Str:="least"++".<locals>."++"<lambda>"
inductive u8 (K:Fg)(Pn:Addr)(vs:List V)(H:Hp)(Q:VK)(_e:XK):Prop
 |mk (p cs x1 rv r last:_) (_:vs=[.ref p,x1,rv,.int last]) (_:cA K H p cs) (_:cs.length<=3) (_:bM K H rv (Rd.d r)) (_:dI H Pn qN) (_:∀m t H',fe @eg (uw cs r.s) m->gu Pn H H'->dI H' Pn qN->H' t=some (.tup [.int m,.int last])->Q (.ref t) H')
theorem Jq {c Pn:Addr}{kV Y pm ct oc:Value}{an od:Option Addr}{ao:Array @Z}{t1:Tok}(lk:K.lookup f=some ⟨oc,od,.func (W.fnOf "near" "near" (cF fF) (bO fF) @gU .none kV Y pm an (.ref c) ct),ao⟩)(ar:W.codeIn K (.ref c) "near"=true)
(S:PySem.W.CodeHd base c Pn)(Z:kN base mg)(CH:mg "min"=none)(xM:mg "abs"=none)(br:mg "NO_LIFT"=some (.int (-1) t1))(mY:bf P w K mg base 2 "serving" ["cabins"] (nu K)):
 az P w K mg base bg 5 f (W.fnOf "near" "near" (cF fF) (bO fF) @gU .none kV Y pm an (.ref c) ct) ["cabins","waiting","rider","last"] (u8 K Pn):=by
 have fW:aK (.int (-1)) (.int (-1) t1):=⟨_,rfl⟩;rwa[xV lk ar Md @cK (λA outer s H vs Q E hr h=> ?_)]
 ·obtain ⟨p,F,x1,rv,r,J,rfl,_⟩:=h;rfl
 obtain ⟨p,F,x1,rv,r,J,rfl,hC,c3,aj,I,q⟩:=h;have R:PySem.closureFor (JL fF Bd) (envOfC "near" (af fF) s.heap.objs.size f (.ref c))=(pure [("place",s.heap.objs.size+1+1),("cabins",s.heap.objs.size+1)]:Sem (List (Str×Addr))):=rfl;have ab:pK (rQ bg P w K mg base ["cabins","waiting","rider","last","place"] "near" (af fF) f (.ref c) A outer s H E).nox ["cabins","place"] [0,4] [("place",s.heap.objs.size+1+1),("cabins",s.heap.objs.size+1)]:=pK.two @b rfl rfl rfl rfl rfl rfl (.inr rfl);have U:=No;rwa[⟨_,(aa @a (ac (ak (cW (au (E1 rfl rfl CH hr @a (E2 rfl S Z rfl R) @a U ab rfl (λ_ _ _=>rfl) (λ_ _ s H hr=>(aA AL rfl xM boot_abs @bi))) @en))))),?_⟩];obtain ⟨ra,rfl,ag⟩:=zO aj;rwa[ae ag rfl ?_];rwa[⟨eX @b @b,?_⟩];rwa[nu.mk _ _ rfl hC c3 λl H1 s1 n1 e1=> ?_];rwa[⟨I.same s1,λf' c' ah H2 sP nf ef ec al=> ?_⟩];obtain ⟨ps,hP,_⟩:=I.same s1;have sN:=sP.nt hP;have e2:H2 l=some (.lst ((srv (bI F)).map λi:Nat=>V.int i)):=sN l _ (λps z=>by cases z) e1;have ai:cA K H2 p F:=(hC.same s1).nt sN
 have ad:∀m G,fe (bI F) (uw F r.s) m->aq H2 G->JJ [.int m,.int J] G Q:=λm G hb L=>
  b3 (bJ (by show 2<=1000000;decide)) λt H4 s4 n4 e4=>q m t H4 hb (λb o nb z=>s4 _ _ (L _ _ (sP b o nb (s1 b o z)))) ((al.same L).same s4) e4
 show ∃l f xs,_;rwa[⟨l,f',_,rfl,rfl,e2,λhx=> ?_,λhx=> ?_⟩]
 ·have hs:srv (bI F)=[]:=map_eq_nil_iff.mp hx;exact ad (-1) H2 (wH hs) (.refl _)
 ·rwa[⟨c',ah,[.ref p,.int (2*r.s)],λi=>uw F r.s ((srv (bI F)).getD i 0),λG=>aq H2 G,rfl,.refl _,λG L=>⟨L _ _ e2,L _ _ ef,L _ _ ec⟩,λi v G hv L=> ?_,λi v G hv hb L=> ?_⟩]
  ·obtain ⟨j,hj,rfl,gj,jl⟩:=jX hv;rwa[(ai.same L).at (by lia) @c λcb a b O as=> ?_];rwa[ae as rfl ?_];rwa[⟨?_,L⟩];have O:F[j]? =some cb:=O;show V.int _=V.int (uw F r.s ((srv (bI F)).getD i 0));rw [gj];unfold uw Qf;rw [IS O]
  ·obtain ⟨j,hj,rfl,gj,jl⟩:=jX hv;rwa[ad _ G (wG hj λi' ap=> ?_) L];exact hb i' (by rw [length_map];exact ap)
theorem GU {H:Hp}{x:V}{c:lU}(h:bM K H x c.d):∃a b ys,x= .ref a/\aD K H a [.int c.pl,.int c.li,.int c.dr,.int c.mr,.ref b]/\aD K H b ys/\ys.length=c.ab.length:=by
 obtain ⟨a,xs,rfl,h1,h2⟩:=h.outT
 cases h2 with|cons q0 t0=>cases t0 with|cons q1 t1=>cases t1 with|cons q2 t2=>cases t2 with|cons q3 t3=>cases t3 with|cons q4 t4=>
 cases t4;cases q0.isInt;cases q1.isInt;cases q2.isInt;cases q3.isInt;obtain ⟨b,ys,rfl,F,R⟩:=q4.outT;exact ⟨a,b,ys,rfl,h1,F,by have:=R.length;rw [length_map] at this;exact this⟩
theorem cA.at2 {H:Hp}{p:Addr}{cs:List lU}(h:cA K H p cs){i:Int}(F:0<=i)(h1:i<cs.length){Q:VK}(g:∀c a b ys,cs[i.toNat]? =some c->aD K H a [.int c.pl,.int c.li,.int c.dr,.int c.mr,.ref b]->aD K H b ys->ys.length=c.ab.length->Q (.ref a) H):mw K p i H Q:=by
 obtain ⟨xs,G,J⟩:=h;have W:=aM J;obtain ⟨j,rfl⟩:=Int.eq_ofNat_of_zero_le F
 have Z:j<xs.length:=by lia
 obtain ⟨c,I,z⟩:=bE J (getElem?_eq_getElem Z);obtain ⟨a,b,ys,O,L,S,R⟩:=GU z;rwa[Ej G (v:= .ref a) (c7 (by rw [getElem?_eq_getElem Z,O])) (g c a b ys ?_ L S R)];rw [show ((j:Int)).toNat=j by lia];exact I
def K7 (K:Fg)(H:Hp)(p:Addr)(rs:List Rd):Prop:=∃xs,(aN K H p xs\/aD K H p xs)/\aC K H xs (rs.map Rd.d)
abbrev gy (rs:List Rd):List Int:=rs.map λr=>r.l
inductive AV (K:Fg)(Pl:Addr)(vs:List V)(H:Hp)(Q:VK)(_e:XK):Prop
 |mk (p cs wp rs x2 last:_) (_:vs=[.ref p,.ref wp,x2,.int last]) (_:cA K H p cs) (_:cs.length<=3) (_:K7 K H wp rs) (_:rs.length<=200) (_:dI H Pl qL) (_:∀m t H',fe @eg (hV cs (gy rs)) m->gu Pl H H'->dI H' Pl qL->H' t=some (.tup [.int m,.int last])->Q (.ref t) H')
theorem Fw {c Pl:Addr}{kV ay pm ct oc:Value}{an od:Option Addr}{aC:Array @Z}{t1:Tok}(lk:K.lookup f=some ⟨oc,od,.func (W.fnOf "least" "least" (cF dN) (bO dN) @gV .none kV ay pm an (.ref c) ct),aC⟩)(aD:W.codeIn K (.ref c) "least"=true)
(ai:PySem.W.CodeHd base c Pl)(aB:kN base mg)(CH:mg "min"=none)(bo:mg "len"=none)(br:mg "NO_LIFT"=some (.int (-1) t1))(mY:bf P w K mg base 2 "serving" ["cabins"] (nu K)):
 az P w K mg base bg 5 f (W.fnOf "least" "least" (cF dN) (bO dN) @gV .none kV ay pm an (.ref c) ct) ["cabins","waiting","rider","last"] (AV K Pl):=by
 have fW:aK (.int (-1)) (.int (-1) t1):=⟨_,rfl⟩;rwa[xV lk aD vt @cK (λA outer s H vs Q E hr h=> ?_)]
 ·obtain ⟨p,G,wp,R,x2,ad,rfl,_⟩:=h;rfl
 obtain ⟨p,G,wp,R,x2,ad,rfl,hC,c3,hR,aG,S,q⟩:=h;have as:PySem.closureFor (JL dN xO) (envOfC "least" (af dN) s.heap.objs.size f (.ref c))=(pure [("dealt",s.heap.objs.size+1+1),("cabins",s.heap.objs.size+1)]:Sem (List (Str×Addr))):=rfl;have aA:pK (rQ bg P w K mg base ["cabins","waiting","rider","last","dealt","fewest"] "least" (af dN) f (.ref c) A outer s H E).nox ["cabins","dealt"] [0,4] [("dealt",s.heap.objs.size+1+1),("cabins",s.heap.objs.size+1)]:=pK.two @b rfl rfl rfl rfl rfl rfl (.inr rfl);have ax:=JM;rwa[⟨_,(aa (bp (i:=4) vt.nd rfl @gn (bz rfl @M @a @v @x (λC s H ex=>(wv 3)))) (aa (bp (i:=5) vt.nd rfl @q (E1 rfl rfl CH hr @a (E2 rfl ai aB rfl as) @a ax aA rfl (λ_ _ _=>rfl) (λ_ _ s H hr=>(bT @fr @a (gD rfl PySem.F.plainAttrs_list PySem.F.slot_list_count PySem.F.type_list_count (Hz rfl) (wv 2) @fH))))) @j)),?_⟩];obtain ⟨xs,Y,hd⟩:=hR;have hl:xs.length=R.length:=aM hd;ext
 rcases Y with Y|Y
 ·rwa[cz Y ?_];rwa[b4 (xs:=xs) (λi ys H'=>aq H H'/\ys=((gy R).take i).map V.int) @bu (λi ys H' h=>by rw [h.2,length_map];exact length_take_le _ _) ⟨.refl _,rfl⟩ (λi ys H' _ h=>h.1.seq Y) (λi x ys H' ap U=> ?st) (λys H1 U d n0=> ?rs)]
  case st=>
   obtain ⟨r,ao,dr⟩:=bE hd ap;obtain ⟨a,rfl,hT⟩:=zO (bM.same dr U.1);rwa[ju hT rfl ?_];rwa[⟨⟨rfl,λi v h=>match i,h with|0,h=>(nomatch h)|1,h=>(nomatch h)|2,h=>(nomatch h)|3,h=>(nomatch h)|(i+4),h=>(nomatch h)⟩,?_⟩];rwa[⟨U.1,?_⟩];rw [U.2,take_add_one,getElem?_map,ao,map_append];rfl
  have e1:upd H1 d (.lst (((gy R).take xs.length).map V.int)) d=some (.lst ((gy R).map V.int)):=by rw [aj,take_of_length_le (by rw [length_map];lia)]
  have s1:aq H (upd H1 d (.lst (((gy R).take xs.length).map V.int))):=U.1.trans (.upd n0);rw [U.2];generalize upd H1 d (.lst (((gy R).take xs.length).map V.int))=H2 at e1 s1;rwa[nu.mk _ _ rfl @hi c3 λl H3 s3 n3 e3=> ?_];have I:=s1.trans s3;rwa[⟨S.same I,λf' c' ag Z sP nf ef ec av=> ?_⟩];obtain ⟨ps,ah,_⟩:=S.same I;have sN:=sP.nt ah;have e4:Z l=some (.lst ((srv (bI G)).map λi:Nat=>V.int i)):=sN l _ (λps z=>by cases z) e3;have ed:Z d=some (.lst ((gy R).map V.int)):=sN d _ (λps z=>by cases z) (s3 _ _ e1);have ar:cA K Z p G:=(hC.same I).nt sN
  have ab:∀m O,fe (bI G) (hV G (gy R)) m->aq Z O->JJ [.int m,.int ad] O Q:=λm O hb J=>
   b3 (bJ (by show 2<=1000000;decide)) λt H6 s6 n6 e6=>q m t H6 hb (λb o nb z=>s6 _ _ (J _ _ (sP b o nb (I b o z)))) ((av.same J).same s6) e6
  show ∃l f xs,_;rwa[⟨l,f',_,rfl,rfl,e4,λY=> ?_,λY=> ?_⟩]
  ·have hs:srv (bI G)=[]:=map_eq_nil_iff.mp Y;exact ab (-1) Z (wH hs) (.refl _)
  ·rwa[⟨c',ag,[.ref p,.ref d],λi=>hV G (gy R) ((srv (bI G)).getD i 0),λO=>aq Z O,rfl,.refl _,λO J=>⟨J _ _ e4,J _ _ ef,J _ _ ec⟩,λi v O hv J=> ?_,λi v O hv hb J=> ?_⟩]
   ·obtain ⟨j,hj,rfl,gj,jl⟩:=jX hv;rwa[(ar.same J).at2 @c @c λcb a b ys L al hb hy=> ?_];rwa[ae al rfl ?_];rwa[bh hb ?_];rwa[⟨.inl ⟨rfl,_,aN.of @fY⟩,?_⟩];rwa[⟨gy R,aN.of @fY,?_⟩];rwa[⟨?_,J⟩];have L:G[j]? =some cb:=L;show V.int _=V.int (hV G (gy R) ((srv (bI G)).getD i 0));rw [gj];unfold hV;rw [BJ L,hy]
   ·obtain ⟨j,hj,rfl,gj,jl⟩:=jX hv;rwa[ab _ O (wG hj λi' aw=> ?_) J];exact hb i' (by rw [length_map];exact aw)
 ·rwa[cZ Y ?_];rwa[cN (xs:=xs) (λi ys H'=>aq H H'/\ys=((gy R).take i).map V.int) @bu (λi ys H' h=>by rw [h.2,length_map];exact length_take_le _ _) ⟨.refl _,rfl⟩ (λi ys H' _ h=>h.1.seqT Y) (λi x ys H' ap U=> ?stT) (λys H1 U d n0=> ?rsT)]
  case stT=>
   obtain ⟨r,ao,dr⟩:=bE hd ap;obtain ⟨a,rfl,hT⟩:=zO (bM.same dr U.1);rwa[ju hT rfl ?_];rwa[⟨⟨rfl,λi v h=>match i,h with|0,h=>(nomatch h)|1,h=>(nomatch h)|2,h=>(nomatch h)|3,h=>(nomatch h)|(i+4),h=>(nomatch h)⟩,?_⟩];rwa[⟨U.1,?_⟩];rw [U.2,take_add_one,getElem?_map,ao,map_append];rfl
  have e1:upd H1 d (.lst (((gy R).take xs.length).map V.int)) d=some (.lst ((gy R).map V.int)):=by rw [aj,take_of_length_le (by rw [length_map];lia)]
  have s1:aq H (upd H1 d (.lst (((gy R).take xs.length).map V.int))):=U.1.trans (.upd n0);rw [U.2];generalize upd H1 d (.lst (((gy R).take xs.length).map V.int))=H2 at e1 s1;rwa[nu.mk _ _ rfl @hi c3 λl H3 s3 n3 e3=> ?_];have I:=s1.trans s3;rwa[⟨S.same I,λf' c' ag Z sP nf ef ec av=> ?_⟩];obtain ⟨ps,ah,_⟩:=S.same I;have sN:=sP.nt ah;have e4:Z l=some (.lst ((srv (bI G)).map λi:Nat=>V.int i)):=sN l _ (λps z=>by cases z) e3;have ed:Z d=some (.lst ((gy R).map V.int)):=sN d _ (λps z=>by cases z) (s3 _ _ e1);have ar:cA K Z p G:=(hC.same I).nt sN
  have ab:∀m O,fe (bI G) (hV G (gy R)) m->aq Z O->JJ [.int m,.int ad] O Q:=λm O hb J=>
   b3 (bJ (by show 2<=1000000;decide)) λt H6 s6 n6 e6=>q m t H6 hb (λb o nb z=>s6 _ _ (J _ _ (sP b o nb (I b o z)))) ((av.same J).same s6) e6
  show ∃l f xs,_;rwa[⟨l,f',_,rfl,rfl,e4,λY=> ?_,λY=> ?_⟩]
  ·have hs:srv (bI G)=[]:=map_eq_nil_iff.mp Y;exact ab (-1) Z (wH hs) (.refl _)
  ·rwa[⟨c',ag,[.ref p,.ref d],λi=>hV G (gy R) ((srv (bI G)).getD i 0),λO=>aq Z O,rfl,.refl _,λO J=>⟨J _ _ e4,J _ _ ef,J _ _ ec⟩,λi v O hv J=> ?_,λi v O hv hb J=> ?_⟩]
   ·obtain ⟨j,hj,rfl,gj,jl⟩:=jX hv;rwa[(ar.same J).at2 @c @c λcb a b ys L al hb hy=> ?_];rwa[ae al rfl ?_];rwa[bh hb ?_];rwa[⟨.inl ⟨rfl,_,aN.of @fY⟩,?_⟩];rwa[⟨gy R,aN.of @fY,?_⟩];rwa[⟨?_,J⟩];have L:G[j]? =some cb:=L;show V.int _=V.int (hV G (gy R) ((srv (bI G)).getD i 0));rw [gj];unfold hV;rw [BJ L,hy]
   ·obtain ⟨j,hj,rfl,gj,jl⟩:=jX hv;rwa[ab _ O (wG hj λi' aw=> ?_) J];exact hb i' (by rw [length_map];exact aw)
inductive Dk where
 |near|least|turns
def fJ (c:Cb):lU:=⟨c.pl,c.li,c.dr,c.mr,c.ps⟩
def Ry (r:be):Rd:=⟨r.tag,r.start,r.goal,r.lift⟩
noncomputable def yD (bs:List Bool)(ws:Nat->Int):Int:=Classical.epsilon (fe bs ws)
theorem BC {bs:List Bool}{ws:Nat->Int}{m:Int}(h:fe bs ws m):m=yD bs ws:=h.uniq (Classical.epsilon_spec ⟨m,h⟩)
def ui (cs:List Cb)(last:Int):Int:=sf @ft (last+1)
noncomputable def gJ:Dk->wP
 | .near=>λcs ws r last=>(yD @ft (uw @bn r.start),last)
 | .least=>λcs ws r last=>(yD @ft (hV @bn (gy (ws.map Ry))),last)
 | .turns=>λcs ws r last=>(ui cs last,if ui cs last= -1 then last else ui cs last)
def tG:List Cb->List be->be->Int->Prop:=λcs ws r last=>1<=cs.length/\cs.length<=3/\ws.length<=200/\0<=last
def BM (Pn Pl:Addr)(H:Hp):Prop:=dI H Pn qN/\dI H Pl qL
theorem rJ {Pn Pl:Addr}:GT @cJ:=λH H' s h=>⟨h.1.st s,h.2.st s⟩
theorem wD {H:Hp}{tc:Addr}{xs:List V}{cs:List Cb}(h1:H tc=some (.tup xs))(h2:Paired @gg xs cs):cA K H tc @bn:=by
 rwa[⟨xs,.inr (aD.of h1),?_⟩];rw [map_map];rwa[PySem.Paired.of (by rw [length_map];exact h2.len) λi x d S R=> ?_];rw [getElem?_map] at R;obtain ⟨c,I,t,rfl,z⟩:=h2.get1 S;rw [I] at R;cases R;exact z.den
theorem Mr {H:Hp}{G:Addr}{ys:List V}{ws:List be}(h1:H G=some (.tup ys))(h2:aC K H ys @eS):K7 K H G (ws.map Ry):=by
 rwa[⟨ys,.inr (aD.of h1),?_⟩];rw [map_map];exact h2
def Dk.ad (kn kl kT:Addr):Dk->Addr
 | .near=>kn| .least=>kl| .turns=>kT
theorem NO {Pn Pl kn kl kT:Addr}(F:Pn≠Pl)(cn:m8 P w K mg base 5 kn (u8 K Pn))(cl:m8 P w K mg base 5 kl (AV K Pl))(ct:m8 P w K mg base 3 kT (pU K))(k:Dk):m8 P w K mg base 5 (k.ad kn kl kT) (uq K @cJ tG (gJ k)):=by
 cases k with
 |near=>
  rwa[cn.imp @f λvs H Q E h=> ?_];obtain ⟨tc,tw,x,cs,ws,r,L,xs,ys,rfl,h1,h2,R,Y,S,W,⟨U,I,j,G⟩,q⟩:=h;rwa[u8.mk _ _ _ _ (Ry r) _ rfl (wD h1 h2) (by rw [length_map];exact I) S W.1 λm t H' Z z O e=> ?_];obtain ⟨ps,J,_⟩:=id W.1;rwa[q t H' (z.nt J) ⟨O,W.2.sameP z J F.symm⟩ ?_];rw [BC Z] at e;exact e
 |least=>
  rwa[cl.imp @f λvs H Q E h=> ?_];obtain ⟨tc,tw,x,cs,ws,r,L,xs,ys,rfl,h1,h2,R,Y,S,W,⟨U,I,j,G⟩,q⟩:=h;rwa[AV.mk _ _ _ _ _ _ rfl (wD h1 h2) (by rw [length_map];exact I) (Mr R Y) (by rw [length_map];exact j) W.2 λm t H' Z z O e=> ?_];obtain ⟨ps,J,_⟩:=id W.2;rwa[q t H' (z.nt J) ⟨W.1.sameP z J F,O⟩ ?_];rw [BC Z] at e;exact e
 |turns=>
  rwa[ct.imp @b λvs H Q E h=> ?_];obtain ⟨tc,tw,x,cs,ws,r,L,xs,ys,rfl,h1,h2,R,Y,S,W,⟨U,I,j,G⟩,q⟩:=h;rwa[pU.mk _ _ _ _ _ rfl (wD h1 h2) (by rw [length_map];exact U) (by rw [length_map];exact I) G λt H' s e=> ?_];exact q t H' s.nt (rJ _ _ s.st W) e
def jA:Sp:=λ_ _ _ _=>False
theorem Px (F:Z0 K "read_lifts" qH f fd):az P w K mg base @cr 1 f fd ["words","house"] jA:=Gn
theorem Je (F:Z0 K "zone_of" AY f fd):az P w K mg base bg 1 f fd ["lifts"] jA:=Gn
theorem FA (F:Z0 K "fixed_of" xB f fd):az P w K mg base bg 1 f fd ["lifts"] jA:=Gn
def Dk.tx:Dk->Str
 | .near=>s!"near"| .least=>s!"least"| .turns=>s!"turns"
def Eb (kn kl kT:Addr):Sp:=λvs H Q _=>∃(k:Dk) (h:Addr),vs=[.str k.tx,.ref h]/\Q (.ref (k.ad kn kl kT)) H
theorem SD {Y z j h:Addr}{k:Dk}{H:Hp}{Q:VK}{E:XK}(g:Q (.ref (k.ad Y z j)) H):Eb Y z j [.str k.tx,.ref h] H Q E:=⟨k,h,rfl,g⟩
theorem PF {O I G j:Addr}{S:Tok}(F:Z0 K "dealer_of" on f fd)(bo:mg "len"=none)(py:mg "MOST_FIXED"=some (.int 9 S))(wg:mg "NoDeal"=some (.ref O))(wb:W.excIn K O [.type "ValueError",.type "Exception",.type "BaseException",.type "object"] "ValueError.__new__"=true)(uF:mg "near"=some (.ref I))(Z:mg "least"=some (.ref G))(fP:mg "by_turns"=some (.ref j))(U:Do P w K mg base 1 "read_lifts" ["words","house"] jA)(rY:bf P w K mg base 1 "zone_of" ["lifts"] jA)(oO:bf P w K mg base 1 "fixed_of" ["lifts"] jA):az P w K mg base @cr 2 f fd ["text","house"] (Eb I G j):=by
 have J:aK (.int 9) (.int 9 S):=⟨_,rfl⟩;rwa[F.okX zC @cK (λab A outer s H vs Q E Y h=> ?_)]
 ·obtain ⟨k,h,rfl,_⟩:=h;rfl
 obtain ⟨k,h,rfl,q⟩:=h;rwa[⟨_,(aa (ax @a (ac (ak (p9 rfl uF))) ar) (aa (ax @a (ac (ak (p9 rfl Z))) ar) (aa (ax @a (ac (ak (p9 rfl fP))) ar) (aa @a (aa @a (aa (ax @a (ac (ak (bV rY Y @b rfl (au (E4 j8 U Y @b rfl (au (wv 3) @be)) am)))) ar) (aa (ax @a (ac (ak (bV oO Y @b rfl (au (E4 j8 U Y @b rfl (au (wv 3) @be)) am)))) ar) (ac (qU j8 rfl wb PySem.F.excBase_ValueError rfl wg (au (nh (zS (wv 0) (zR zT))) am)))))))))),?_⟩];obtain ⟨x,L⟩:∃x,x=k.tx:=⟨_,rfl⟩;rw [<-L];rwa[gw @k (λR=> ?_)]
 ·obtain rfl:k= .near:=by
   cases k with
   |near=>rfl
   |least=>rw [L] at z;exact absurd z @i
   |turns=>rw [L] at z;exact absurd z @i
  exact q
 rwa[gw @k (λz2=> ?_)]
 ·obtain rfl:k= .least:=by
   cases k with
   |near=>exact absurd L R
   |least=>rfl
   |turns=>rw [L] at z;exact absurd z @i
  exact q
 ext
 obtain rfl:k= .turns:=by
  cases k with
  |near=>exact absurd L R
  |least=>exact absurd L z2
  |turns=>rfl
 rwa[fz L ?_];exact q
seal Eb jA
theorem L9 {bs:List Bool}{first:Int}(h:0<=first): -1<=sf bs first:=by
 have j:∀(n k:Nat),-1<=Hq bs first k n:=by
  intro n
  induction n with
  |zero=>intro k;simp [Hq]
  |succ n ih=>
   intro k;unfold Hq;split
   ·by_cases z:(bs.length:Int)=0
    ·rw [z,Int.emod_zero];lia
    ·have:=Int.emod_nonneg (first+(k:Int)) z;lia
   ·exact ih _
 exact j _ _
theorem mU {k:Dk}{cs:List Cb}{ws:List be}{r:be}{last:Int}(h:0<=last):0<=(gJ k cs ws r last).2:=by
 cases k with
 |near=>exact h
 |least=>exact h
 |turns=>
  show 0<=(if ui cs last= -1 then last else ui cs last);split
  ·exact h
  ·have:=L9 (bs:=bI @bn) (first:=last+1) @c;rename_i z;unfold ui at z ⊢;lia
theorem gp {dl:wP}(J:∀cs ws r last,0<=last->0<=(dl cs ws r last).2){W:List be}{M:MS}(h:0<=M.last):∀i,0<=(aZ dl W i M).last/\(aZ dl W i M).fire=M.fire
 |0=>⟨h,rfl⟩
 |i+1=>by
  have j:=gp J (W:=W) h i;unfold aZ;split
  ·split
   ·unfold gK;split
    ·exact ⟨J _ _ _ _ j.1,j.2⟩
    ·exact ⟨J _ _ _ _ j.1,j.2⟩
   ·exact j
  ·exact j
inductive Rw where
 |deal (t i:Int)
 |note (b:Bool) (t:Int)
 |step (b:Bool) (t i fl:Int)
abbrev DS:Str:=s!"deal"
noncomputable def sW (b:Bool):Str:=if b=true then s!"in" else s!"out"
def nW (b:Bool):Str:=if b=true then s!"barred" else s!"sent"
noncomputable def Rw.d:Rw->D
 | .deal t i=>Mo t i
 | .note b t=> .tup [.str (nW b),.int t]
 | .step b t i fl=>IJ (sW b) t i fl
noncomputable def Rw.v:Rw->List V
 | .deal t i=>[.str DS,.int t,.int i]
 | .note b t=>[.str (nW b),.int t]
 | .step b t i fl=>[.str (sW b),.int t,.int i,.int fl]
def Rw.tag:Rw->Int
 | .deal t _=>t
 | .note _ t=>t
 | .step _ t _ _=>t
theorem Mj {H:Hp}{x:V}{r:Rw}(h:bM K H x r.d):∃a,x= .ref a/\aD K H a r.v:=by
 cases r with
 |deal t i=>
  obtain ⟨a,xs,rfl,h1,h2⟩:=(show bM K H x (.tup [.str DS,.int t,.int i]) from h).outT
  cases h2 with|cons q0 t0=>cases t0 with|cons q1 t1=>cases t1 with|cons q2 t2=>
  cases t2;cases q0;cases q1.isInt;cases q2.isInt;exact ⟨a,rfl,h1⟩
 |note b t=>
  obtain ⟨a,xs,rfl,h1,h2⟩:=(show bM K H x (.tup [.str (nW b),.int t]) from h).outT
  cases h2 with|cons q0 t0=>cases t0 with|cons q1 t1=>
  cases t1;cases q0;cases q1.isInt;exact ⟨a,rfl,h1⟩
 |step b t i fl=>
  obtain ⟨a,xs,rfl,h1,h2⟩:=(show bM K H x (.tup [.str (sW b),.int t,.int i,.int fl]) from h).outT
  cases h2 with|cons q0 t0=>cases t0 with|cons q1 t1=>cases t1 with|cons q2 t2=>cases t2 with|cons q3 t3=>
  cases t3;cases q0;cases q1.isInt;cases q2.isInt;cases q3.isInt;exact ⟨a,rfl,h1⟩
structure In (T:List Int)(M:MS):Prop where
 w:∀r∈M.ws,r.tag∈T
 c:∀c∈M.cs,∀p∈c.ps,p.1∈T
 l:∀d∈M.log,∃r:Rw,d=r.d/\r.tag∈T
theorem JW {M:MS}{i:Int}{p:Int×Int}(h:p∈(dR M i).ps):∃c∈M.cs,p∈c.ps:=by
 unfold dR at h;rw [getD_eq_getElem?_getD] at h
 cases e:M.cs[i.toNat]? with
 |none=>rw [e] at h;cases h
 |some c=>rw [e] at h;exact ⟨c,mem_of_getElem? e,h⟩
theorem In.setC {T:List Int}{M:MS}(h:In T M){i:Nat}{c:Cb}{lg:List D}{ws:List be}{la:Int}{fi:Bool}{F:Nat}(I:∀p∈c.ps,p.1∈T)(W:∀d∈lg,d∈M.log\/∃r:Rw,d=r.d/\r.tag∈T)(j:∀r∈ws,r∈M.ws):In T ⟨M.cs.set i c,ws,la,fi,F,lg⟩:=
 ⟨λr Y=>h.w r (j r Y),λd J p G=>by
   rcases fL J with z|z
   ·exact h.c d z p G
   ·rw [z] at G;exact I p G,λd J=>(W d J).elim (λz=>h.l d z) id⟩
theorem In.deed {T:List Int}{lo:Nat}{M:MS}{d:Dd}(h:In T M)(I:∀t∈eN d,t∈T):In T @fI:=by
 have Z:∀(r:Rw),r.tag∈T->∀e∈M.log++[r.d],∃r:Rw,e=r.d/\r.tag∈T:=λr Y e S=>by
  rcases mem_append.mp S with z|z
  ·exact h.l e z
  ·exact ⟨r,mem_singleton.mp z,Y⟩
 cases d with
 |come t s g k=>
  have J:=I t (.head _);show In T @gP;unfold fI;split
  ·exact ⟨h.w,h.c,Z (.note true t) J⟩
  split
  ·exact ⟨h.w,h.c,Z (.note false t) J⟩
  ·rwa[⟨λr Y=> ?_,h.c,h.l⟩]
   rcases mem_append.mp Y with z|z
   ·exact h.w r z
   ·rw [mem_singleton.mp z];exact J
 |lf x i=>
  have ps:∀p∈(dR M i).ps,p.1∈T:=λp j=>let ⟨c,hc,z⟩:=JW j;h.c c hc p z
  have F:∀r∈fk i M.ws,r.tag∈T:=λr Y=>by
   obtain ⟨q,L,rfl⟩:=mem_map.mp Y;have:=h.w q L;split<;>exact this
  have G:∀m,In T {M with cs:=M.cs.set i.toNat {dR M i with mr:=m}}:=λm=>h.setC ps (λd z=> .inl z) λr z=>z;unfold bX;dsimp only;split
  ·exact ⟨h.w,h.c,h.l⟩
  split
  ·exact ⟨F,(G _).c,h.l⟩
  split
  ·exact ⟨F,(G _).c,h.l⟩
  split
  ·exact G _
  ·exact G _
 |sg x=>
  unfold bX;dsimp only;split
  ·rwa[⟨(λr Y=>nomatch Y),h.c,λe S=> ?_⟩]
   rcases mem_append.mp S with z|z
   ·exact h.l e z
   ·obtain ⟨r,Y,rfl⟩:=mem_map.mp z;exact ⟨.note false r.tag,rfl,h.w r Y⟩
  ·unfold kI;split
   ·exact ⟨h.w,h.c,h.l⟩
   ·exact h
theorem In.deeds {T:List Int}{lo:Nat}:∀ {ds:List Dd} {M:MS},In T M->(∀d∈ds,∀t∈eN d,t∈T)->In T @gy
 |[],_,h,_=>h
 |d::ds,M,h,hd=>In.deeds (ds:=ds) (M:=bX lo M d) (h.deed @dO) λe S=>hd e (.tail _ S)
theorem In.deals {T:List Int}{dl:wP}{W:List be}(G:∀r∈W,r.tag∈T){M:MS}(h:In T M):∀i,In T @gh
 |0=>h
 |i+1=>by
  have j:=In.deals (dl:=dl) G h i;unfold aZ;split
  ·rename_i r Y;have J:=G r (mem_of_getElem? Y);split
   ·unfold gK;split
    ·exact ⟨j.w,j.c,j.l⟩
    ·rwa[⟨λq L=> ?_,j.c,λe S=> ?_⟩]
     ·rcases fL L with z|z
      ·exact j.w q z
      ·rw [z];exact J
     ·rcases mem_append.mp S with z|z
      ·exact j.l e z
      ·exact ⟨.deal r.tag _,mem_singleton.mp z,J⟩
   ·exact j
  ·exact j
theorem xj {so:Str}{room pl:Int}:∀(rs:List be) (s:yR),∃js:List be,js.Sublist rs/\(aR so room pl s rs).ins=s.ins++js.map (·.tag)/\(aR so room pl s rs).kept=s.kept++js.map λr=>(r.tag,r.goal)
 |[],s=>⟨[],.slnil,(append_nil _).symm,(append_nil _).symm⟩
 |r::rs,s=>by
  obtain ⟨js,h1,h2,L⟩:=xj (so:=so) (room:=room) (pl:=pl) rs @bm;show ∃js:List be,js.Sublist (r::rs)/\(aR so room pl @bm rs).ins=s.ins++js.map (·.tag)/\(aR so room pl @bm rs).kept=s.kept++js.map λr=>(r.tag,r.goal);rw [h2,L];unfold b6;split
  ·exact ⟨r::js,h1.cons₂ r,by simp,by simp⟩
  ·exact ⟨js,h1.cons r,rfl,rfl⟩
theorem In.go {T:List Int}{hs:Hs}{wf:Wf}{M M':MS}{i:Int}{c:Cb}{l:Lf}(h:In T M)(S:atC M i c)(g:Hm hs wf M i c l M'):In T M':=by
 have ps:∀p∈c.ps,p.1∈T:=h.c c (mem_of_getElem? S.2);have j:∀L:Cb,(∀p∈L.ps,p∈c.ps)->In T (cf M i L):=λL e=>h.setC (λp G=>ps p (e p G)) (λd z=> .inl z) λr z=>z
 rcases g with ⟨_,rfl⟩|⟨_,_,rfl⟩|⟨_,_,g⟩
 ·exact h
 ·unfold iA;split
  ·unfold pf cf jL;rwa[h.setC (λp G=>ps p (mem_of_mem_drop G)) (λd I=> ?_) λr z=>z]
   rcases mem_append.mp I with z|z
   ·exact .inl z
   ·obtain ⟨t,J,rfl⟩:=mem_map.mp z;obtain ⟨p,G,rfl⟩:=mem_map.mp J;rwa[.inr ⟨.step false p.1 i (c.pl / 2),rfl,ps p ?_⟩];unfold aT at G;split at G
    ·exact G
    ·cases G
  split
  ·exact j _ λp G=>G
  ·exact j _ λp G=>G
 ·unfold Dm at g;split at g
  ·rw [g];obtain ⟨F,U,Z,O⟩:=xj (so:=hs.so) (room:=l.rm) (pl:=c.pl) @eo ⟨c.li,b7 c.pl c.ps,[]⟩;have Z:(c6 hs c l @eo).ins=F.map (·.tag):=Z;have O:(c6 hs c l @eo).kept=b7 c.pl c.ps++F.map λr=>(r.tag,r.goal):=O;have R:∀r∈F,r.tag∈T:=λr Y=>h.w r (mem_filter.mp (U.subset Y)).1;unfold jP cf jL;rwa[h.setC (λp G=> ?_) (λd I=> ?_) λr z=>(mem_filter.mp z).1]
   ·rw [O] at G
    rcases mem_append.mp G with z|z
    ·exact ps p (mem_filter.mp z).1
    ·obtain ⟨r,Y,rfl⟩:=mem_map.mp z;exact R r Y
   ·rcases mem_append.mp I with z|z
    ·rcases mem_append.mp z with z|z
     ·exact .inl z
     ·obtain ⟨t,J,rfl⟩:=mem_map.mp z;unfold c5 at J;obtain ⟨p,G,rfl⟩:=mem_map.mp J;exact .inr ⟨.step false p.1 i (c.pl / 2),rfl,ps p (mem_filter.mp G).1⟩
    ·obtain ⟨t,J,rfl⟩:=mem_map.mp z;rw [Z] at J;obtain ⟨r,Y,rfl⟩:=mem_map.mp J;exact .inr ⟨.step true r.tag i (c.pl / 2),rfl,R r Y⟩
  split at g
  ·rw [g];exact j _ λp G=>G
  ·obtain ⟨W,u,d,_,_,_,rfl⟩:=g;exact j _ λp G=>G
theorem In.goN {T:List Int}{hs:Hs}{wf:Wf}{M:MS}(h:In T M):∀ {n:Nat} {M':MS},uU hs wf n M M'->In T M'
 |0,M',g=>by
  obtain rfl:M'=M:=g;exact h
 |n+1,M',⟨M1,c,l,g1,g2,_,g4⟩=>(In.goN h g1).go g2 g4
theorem In.turn {hs:Hs}{wf:Wf}{dl:wP}{cs:List Cb}{ws:List be}{last:Int}{j:Bool}{ds:List Dd}{M':MS}{T:List Int}(O:∀t∈fS cs ws,t∈T)(J:∀d∈ds,∀t∈eN d,t∈T)(g:uU hs wf hs.ls.length (dZ dl (ay hs.lo ⟨cs,ws,last,j,0,[]⟩ ds)) M'):In T M':=by
 have F:In T ⟨cs,ws,last,j,0,[]⟩:=⟨λr Y=>O _ (mem_append_left _ (mem_map_of_mem Y)),λc I p G=>O _ (mem_append_right _ (mem_flatMap.mpr ⟨c,I,mem_map_of_mem G⟩)),(λd J=>nomatch J)⟩;have h1:=F.deeds (lo:=hs.lo) J;rwa[In.goN (n:=hs.ls.length) ?_ g];unfold dZ;split
 ·exact h1
 ·exact h1.deals h1.w _
theorem In.rows {T:List Int}:∀ {lg:List D},(∀d∈lg,∃r:Rw,d=r.d/\r.tag∈T)->∃L:List Rw,lg=L.map Rw.d/\∀r∈L,r.tag∈T
 |[],_=>⟨[],rfl,(λr Y=>nomatch Y)⟩
 |d::lg,h=>by
  obtain ⟨r,rfl,Y⟩:=h d (.head _);obtain ⟨L,rfl,G⟩:=In.rows λe S=>h e (.tail _ S)
  exact ⟨r::L,rfl,λq j=>by
   rcases mem_cons.mp j with z|z
   ·rw [z];exact Y
   ·exact G q z⟩
theorem Ij {so:Str}{room pl fl:Int}{s:yR}{r:be}(J:room<=200)(W: -1<=s.light/\s.light<=1)(R:s.kept.length<=200)(j:∀p∈s.kept,0<=p.2/\p.2<fl)(Y:fO fl r):(-1<=(b6 so room pl s r).light/\(b6 so room pl s r).light<=1)/\(b6 so room pl s r).kept.length<=200/\∀p∈(b6 so room pl s r).kept,0<=p.2/\p.2<fl:=by
 unfold b6;split
 ·rename_i e;unfold ez at e
  have F:(s.kept.length:Int)<room:=by
   rw [Bool.and_eq_true,Bool.and_eq_true] at e;exact of_decide_eq_true e.1.2
  rwa[⟨?_,by show (s.kept++_).length<=200;rw [length_append];simp;lia,λp G=> ?_⟩]
  ·show -1<=(if so=s!"way" then kg r else s.light)/\(if so=s!"way" then kg r else s.light)<=1;split
   ·unfold kg;split<;>lia
   ·exact W
  ·rcases mem_append.mp G with z|z
   ·exact j p z
   ·rw [mem_singleton.mp z];exact ⟨Y.g0,Y.g1⟩
 ·exact ⟨W,R,j⟩
theorem qi {so:Str}{room pl fl:Int}(J:room<=200):∀(rs:List be) (s:yR),(-1<=s.light/\s.light<=1)->s.kept.length<=200->(∀p∈s.kept,0<=p.2/\p.2<fl)->(∀r∈rs,fO fl r)->(-1<=(aR so room pl s rs).light/\(aR so room pl s rs).light<=1)/\(aR so room pl s rs).kept.length<=200/\∀p∈(aR so room pl s rs).kept,0<=p.2/\p.2<fl
 |[],s,hl,hk,hg,_=>⟨hl,hk,hg⟩
 |r::rs,s,hl,hk,hg,hr=>by
  have h:=Ij (so:=so) (room:=room) (pl:=pl) (fl:=fl) J hl hk hg (hr r (.head _));exact qi J rs @bm h.1 h.2.1 h.2.2 λq L=>hr q (.tail _ L)
theorem fU {α:Type}{xs:List α}{i:Nat}{x:α}(h:xs[i]? =some x):xs.set i x=xs:=by
 obtain ⟨h1,h2⟩:=List.getElem?_eq_some_iff.mp h;rw [<-h2];exact set_getElem_self h1
theorem DZ {hs:Hs}{l:Lf}{c:Cb}{j:Str}{f0:Nat}(Y:ie hs.fl c)(e:c.pl=2*(f0:Int))(J: ¬0<c.dr)(F:j∈cy):ie hs.fl (qj hs l c j):=by
 have S:=NJ (jv (so:=hs.so) (pl:=c.pl) (li:=c.li) (ps:=c.ps) F);have G:=Y.p0;have U:=Y.p1;have L:=Y.l0;have R:=Y.l1
 have I: -1<=(if c.ps=[] then (0:Int) else c.li)/\(if c.ps=[] then (0:Int) else c.li)<=1:=by split<;>lia
 unfold qj;generalize bN hs.so c.pl c.li c.ps j=x at S
 rcases S with rfl|rfl|rfl|rfl|rfl
 ·rw [GE];exact ⟨G,U,L,R,Y.m0,λ_=>by show c.pl% 2=0;lia,Y.len,Y.gs⟩
 ·rw [Gz];exact ⟨G,U,by show (-1:Int)<=0;decide,by show (0:Int)<=1;decide,Y.m0,λ_=>by show c.pl% 2=0;lia,Y.len,Y.gs⟩
 ·by_cases z:c.pl / 2<hs.fl - 1
  ·rw [As z];exact ⟨by show 0<=c.pl+1;lia,by show c.pl+1<=_;lia,by show (-1:Int)<=1;decide,by show (1:Int)<=1;decide,Y.m0,λy=>absurd y J,Y.len,Y.gs⟩
  ·rw [At z];exact ⟨G,U,I.1,I.2,Y.m0,λy=>absurd y J,Y.len,Y.gs⟩
 ·by_cases z:0<c.pl
  ·rw [Au z];exact ⟨by show 0<=c.pl - 1;lia,by show c.pl - 1<=_;lia,by show (-1:Int)<= -1;decide,by show (-1:Int)<=1;decide,Y.m0,λy=>absurd y J,Y.len,Y.gs⟩
  ·rw [Av z];exact ⟨G,U,I.1,I.2,Y.m0,λy=>absurd y J,Y.len,Y.gs⟩
 ·rw [GD];exact ⟨G,U,I.1,I.2,Y.m0,λy=>absurd y J,Y.len,Y.gs⟩
theorem wc {so:Str}{li:Int}{a b c:Bool}:0<=ji so li a b c/\ji so li a b c<=2:=by
 unfold ji;split
 ·lia
 ·split
  ·lia
  ·split<;>lia
theorem Hm.ok {hs:Hs}{wf:Wf}{M M':MS}{i:Int}{c:Cb}{l:Lf}(h:Hm hs wf M i c l M')(Y:ie hs.fl c)(I:atC M i c)(l6:l.rm<=6)(j:M.fire=false)(G:∀fl li he up dn,ia li he up dn->wf fl li he up dn∈cy)(R:∀r∈M.ws,fO hs.fl r):M'.fire=false/\M'.last=M.last/\∃c',ie hs.fl c'/\M'.cs=M.cs.set i.toNat c':=by
 rcases h with ⟨_,rfl⟩|⟨_,h2,_⟩|⟨_,_,L⟩
 ·exact ⟨j,rfl,c,Y,(fU I.2).symm⟩
 ·rw [j] at h2;cases h2
 ·unfold Dm at L;split at L
  ·rename_i z;subst L;rwa[⟨j,rfl,_,?_,rfl⟩];have aA:∀r∈aW i M,fO hs.fl r:=λr aj=>R r (by unfold aW at aj;exact (mem_filter.mp aj).1);have kp:∀p∈b7 c.pl c.ps,0<=p.2/\p.2<hs.fl:=λp O=>Y.gs p (mem_filter.mp O).1;have st:=qi (so:=hs.so) (pl:=c.pl) (fl:=hs.fl) (show l.rm<=200 by lia) @eo ⟨c.li,b7 c.pl c.ps,[]⟩ ⟨Y.l0,Y.l1⟩ (Nat.le_trans @Y Y.len) kp aA;exact ⟨Y.p0,Y.p1,st.1.1,st.1.2,Y.m0,λ_=>Y.ev z,st.2.1,st.2.2⟩
  ·rename_i z;split at L
   ·rename_i y;subst L;have p0:=Y.p0;have Z:=Y.p1;have J:=Y.l0;have U:=Y.l1;exact ⟨j,rfl,⟨c.pl+c.li,c.li,0,c.mr,c.ps⟩,⟨by show 0<=c.pl+c.li;lia,by show c.pl+c.li<=_;lia,J,U,Y.m0,λy=>absurd y (by show ¬(0:Int)<0;decide),Y.len,Y.gs⟩,rfl⟩
   ·obtain ⟨W,u,d,e,F,S,rfl⟩:=L;rwa[⟨j,rfl,_,DZ Y e z (G _ _ _ _ _ ?_),rfl⟩];exact ⟨Y.l0,Y.l1,wc.1,wc.2,by rcases F with ⟨h,_⟩|⟨h,_⟩<;>lia,by rcases S with ⟨h,_⟩|⟨h,_⟩<;>lia⟩
theorem Hm.okF {hs:Hs}{wf:Wf}{M M':MS}{i:Int}{c:Cb}{l:Lf}(h:Hm hs wf M i c l M')(W:2<=hs.fl)(Y:ie hs.fl c)(I:atC M i c)(L:l.rm<=6)(O:∀fl li he up dn,ia li he up dn->wf fl li he up dn∈cy)(J:∀r∈M.ws,fO hs.fl r):M'.fire=M.fire/\M'.last=M.last/\∃c',ie hs.fl c'/\M'.cs=M.cs.set i.toNat c':=by
 cases j:M.fire with
 |false=>exact h.ok Y I L j O J
 |true=>
  rcases h with ⟨_,rfl⟩|⟨_,_,rfl⟩|⟨_,z,_⟩
  ·exact ⟨j,rfl,c,Y,(fU I.2).symm⟩
  ·have G:=Y.p0;have U:=Y.p1;unfold iA;split
   ·unfold pf cf jL;exact ⟨j,rfl,⟨0,0,l.tn,c.mr,c.ps.drop (aT c).length⟩,⟨by show (0:Int)<=0;lia,by show (0:Int)<=_;lia,by show (-1:Int)<=0;decide,by show (0:Int)<=1;decide,Y.m0,(λ_=>rfl),by have:=Y.len;show (c.ps.drop _).length<=_;rw [length_drop];lia,λp F=>Y.gs p (mem_of_mem_drop F)⟩,rfl⟩
   split
   ·rename_i S;exact ⟨j,rfl,⟨c.pl,c.li,if M.bl.testBit i.toNat=true then c.dr else 0,c.mr,c.ps⟩,⟨G,U,Y.l0,Y.l1,Y.m0,(λ_=>Y.ev S),Y.len,Y.gs⟩,rfl⟩
   ·rename_i R S;exact ⟨j,rfl,⟨c.pl - 1,-1,0,c.mr,c.ps⟩,⟨by show 0<=c.pl - 1;lia,by show c.pl - 1<=_;lia,by show (-1:Int)<= -1;decide,by show (-1:Int)<=1;decide,Y.m0,(λz=>absurd z (by show ¬(0:Int)<0;decide)),Y.len,Y.gs⟩,rfl⟩
  ·rw [j] at z;cases z
theorem uU.okF {hs:Hs}{wf:Wf}{M:MS}(R:hs.ok)(J:∀fl li he up dn,ia li he up dn->wf fl li he up dn∈cy)(I:∀c∈M.cs,ie hs.fl c)(Y:∀r∈M.ws,fO hs.fl r)(L:M.ws.length<=200):∀ {n:Nat} {M':MS},uU hs wf n M M'->M'.fire=M.fire/\M'.last=M.last/\(∀c∈M'.cs,ie hs.fl c)/\kO hs M n M'
 |0,M',h=>by
  obtain rfl:M'=M:=h;exact ⟨rfl,rfl,I,⟨rfl,λ_ _=>rfl,λ_ h=>h,Nat.le_refl _,by lia⟩⟩
 |n+1,M',⟨M1,c,l,h1,h2,h3,h4⟩=>by
  obtain ⟨W,l1,U,F⟩:=uU.okF R J I Y L h1;have j:c∈M1.cs:=mem_of_getElem? h2.2;have O:M1.ws.length<=200:=Nat.le_trans F.wl L;obtain ⟨g1,g2,c',S,Z⟩:=h4.okF R.f2 (U c j) h2 (R.lf l (mem_of_getElem? h3)).2.1 J λr aj=>Y r (F.ws r aj);rwa[⟨g1.trans W,g2.trans l1,λx G=> ?_,F.go (U c j).len O h4⟩];rw [Z] at G
  rcases fL G with z|z
  ·exact U x z
  ·rw [z];exact S
theorem Ke {lo:Nat}{M:MS}{d:Dd}:(bX lo M d).ws.length<=M.ws.length+(eN d).length/\(bX lo M d).last=M.last:=by
 have F:∀i,(fk i M.ws).length=M.ws.length:=λi=>length_map _
 cases d with
 |come t s g k=>
  show (fI lo M t s g k).ws.length<=_+1/\(fI lo M t s g k).last=_;unfold fI;split
  ·exact ⟨Nat.le_succ _,rfl⟩
  split
  ·exact ⟨Nat.le_succ _,rfl⟩
  ·exact ⟨by show (M.ws++[_]).length<=_;simp,rfl⟩
 |lf x i=>
  unfold bX;dsimp only;split
  ·exact ⟨Nat.le_refl _,rfl⟩
  split
  ·exact ⟨by show (fk i M.ws).length<=_;rw [F];exact Nat.le_refl _,rfl⟩
  split
  ·exact ⟨by show (fk i M.ws).length<=_;rw [F];exact Nat.le_refl _,rfl⟩
  split
  ·exact ⟨Nat.le_refl _,rfl⟩
  ·exact ⟨Nat.le_refl _,rfl⟩
 |sg x=>
  unfold bX;dsimp only;split
  ·exact ⟨Nat.zero_le _,rfl⟩
  ·unfold kI;split<;>exact ⟨Nat.le_refl _,rfl⟩
theorem mV {lo:Nat}:∀ {ds:List Dd} {M:MS},(ay lo M ds).ws.length<=M.ws.length+(ds.flatMap eN).length/\(ay lo M ds).last=M.last
 |[],_=>⟨Nat.le_refl _,rfl⟩
 |d::ds,M=>by
  obtain ⟨z,R⟩:=Ke (lo:=lo) (M:=M) (d:=d);obtain ⟨F,j⟩:=mV (lo:=lo) (ds:=ds) (M:=bX lo M d);rw [flatMap_cons,length_append];exact ⟨by show (ay lo @fI ds).ws.length<=_;lia,j.trans R⟩
def MS.st (M:MS):MS:=⟨M.cs,M.ws,M.last,M.fire,0,[]⟩
structure Sr (hs:Hs)(T:List Int)(n:Nat)(S:MS):Prop where
 len:S.cs.length=hs.ls.length
 ck:∀c∈S.cs,ie hs.fl c
 rk:∀r∈S.ws,fO hs.fl r
 l0:0<=S.last
 w:S.ws.length<=n
 tg:∀t∈fS S.cs S.ws,t∈T
structure yL (hs:Hs)(T:List Int)(ds:List Dd):Prop where
 len:ds.length<=8
 two:(ds.flatMap eN).length<=2
 gd:∀ts,(∀t∈ts,t∈T)->tM hs.fl hs.ls.length ts ds
 ok:∀d∈ds,d.ok
abbrev G4 (hs:Hs)(wf:Wf)(k:Dk)(S:MS)(ds:List Dd)(M':MS):Prop:=uU hs wf hs.ls.length @fJ M'
theorem Sr.mok {hs:Hs}{T:List Int}{n:Nat}{S:MS}(R:Sr hs T n S):pP hs S.ws.length S.st:=⟨R.len,R.ck,R.rk,by show 0+S.ws.length<=_;lia⟩
theorem Sr.turn {hs:Hs}{T:List Int}{n:Nat}{S:MS}{ds:List Dd}{wf:Wf}{k:Dk}{M':MS}(R:Sr hs T n S)(hk:hs.ok)(D:yL hs T ds)(ab:n<=150)(hw:∀fl li he up dn,ia li he up dn->wf fl li he up dn∈cy)(G:G4 hs wf k S ds M'):Sr hs (T++ds.flatMap eN) (n+2) M'/\∃L:List Rw,M'.log=L.map Rw.d/\L.length<=4000/\∀r∈L,r.tag∈T++ds.flatMap eN:=by
 have aa:=rL (D.gd @fQ R.tg);have ad:=R.w;have ac:=D.len;have ae:=D.two;have l3:=hk.l3;have J:=R.mok.deeds (ds:=ds) (λd U=>⟨D.ok d U,aa d U⟩) ds.length;rw [take_of_length_le @f] at J;obtain ⟨w1,F⟩:=mV (lo:=hs.lo) (ds:=ds) (M:=S.st);have w1:(ay hs.lo S.st ds).ws.length<=S.ws.length+(ds.flatMap eN).length:=w1;have F:(ay hs.lo S.st ds).last=S.last:=F;have I:In (T++ds.flatMap eN) M':=In.turn (λt O=>mem_append_left _ (R.tg t O)) (λd U t O=>mem_append_right _ (mem_flatMap.mpr ⟨d,U,O⟩)) G;have Y:=gp (dl:=gJ k) @cQ (W:=(ay hs.lo S.st ds).ws) (M:=ay hs.lo S.st ds) (by rw [F];exact R.l0) (ay hs.lo S.st ds).ws.length;have dl:=eV (dl:=gJ k) (W:=(ay hs.lo S.st ds).ws) (M:=ay hs.lo S.st ds) (ay hs.lo S.st ds).ws.length;have bu:=J.sum
 have aW:pP hs (S.ws.length+ds.length+(ay hs.lo S.st ds).ws.length) @fJ/\(dZ (gJ k) @t).ws.length=(ay hs.lo S.st ds).ws.length/\0<=(dZ (gJ k) @t).last:=by
  unfold dZ;split
  ·exact ⟨⟨J.len,J.cs,J.ws,by lia⟩,rfl,by rw [F];exact R.l0⟩
  ·exact ⟨J.deals J.ws _,dl.1,Y.1⟩
 have G':uU hs wf hs.ls.length @fJ M':=G;generalize dZ (gJ k) @t=M2 at G' aW;obtain ⟨j,m2,m3⟩:=aW;obtain ⟨g1,g2,g3,Z⟩:=uU.okF hk hw j.cs j.ws @c G';have wl:=Z.wl;rwa[⟨⟨by rw [Z.len];exact j.len,g3,λr hr=>j.ws r (Z.ws r hr),by rw [g2];exact m3,by lia,λt O=> ?_⟩,?_⟩]
 ·rcases mem_append.mp O with z|z
  ·obtain ⟨r,hr,rfl⟩:=mem_map.mp z;exact I.w r hr
  ·obtain ⟨c,hc,z⟩:=mem_flatMap.mp z;obtain ⟨p,hp,rfl⟩:=mem_map.mp z;exact I.c c hc p hp
 ·obtain ⟨L,e,hL⟩:=In.rows I.l;rwa[⟨L,e,?_,hL⟩];have e1:=congrArg List.length e;rw [length_map] at e1;have:=Z.log;have:=j.sum;lia
theorem Go {α:Type}{CX:oU}{k:Nat}{ps:List Str}{sp:α->Sp}(F:∀a,az P w K mg base CX k f fd ps (sp a))(I:∀vs H Q E,(∃a,sp a vs H Q E)->vs.length=ps.length):az P w K mg base CX k f fd ps (λvs H Q E=>∃a,sp a vs H Q E):=
 ⟨λvs H Q E ⟨a,q⟩=>(F a).len vs H Q E q,λA outer s H z j vs Q E Y S G W ⟨a,hs⟩=>(F a).run A outer s H z j vs Q E Y S G W hs⟩
theorem Bs {n:Nat}{x:Str}{ps:List Str}{sp j:Sp}(c:bf P w K mg base n x ps sp)(h:∀vs H Q E,j vs H Q E->sp vs H Q E):bf P w K mg base n x ps j:=by
 obtain ⟨f,fd,F,b⟩:=c.ex;exact ⟨f,fd,F.imp h,b⟩
def pX (P:Program)(w:World)(K:Fg)(mg:Str->Option Value)(base:Heap)(C Pn Pl:Addr):Sp:=λvs H Q E=>∃k:Dk,vi P w K mg base C @cJ tG (gJ k) vs H Q E
def mf (P:Program)(w:World)(K:Fg)(mg:Str->Option Value)(base:Heap)(C Pn Pl:Addr):Sp:=λvs H Q E=>∃k:Dk,mh P w K mg base C @cJ tG (gJ k) vs H Q E
def lZ (P:Program)(w:World)(K:Fg)(mg:Str->Option Value)(base:Heap)(Pn Pl:Addr):Sp:=λvs H Q E=>∃k:Dk,y6 P w K mg base @cJ tG (gJ k) vs H Q E
theorem FD {C Pn Pl:Addr}{G:Tok}(F:Z0 K "deal" AZ f fd)(z:sQ K C)(J:mg "tuple"=none)(S:mg "NO_LIFT"=some (.int (-1) G))(j:Z04 P w K mg base):az P w K mg base bg 6 f fd ["moment","dealer","place","rider"] (pX P w K mg base C Pn Pl):=
 Go (λk=>A9 (dl:=gJ k) (pre:=tG) F rJ z J S j) λL H Q E ⟨k,h⟩=>(A9 (P:=P) (w:=w) (base:=base) (dl:=gJ k) (pre:=tG) F rJ z J S j).len L H Q E h
theorem Cz {C Pn Pl:Addr}{z:Tok}(F:Z0 K "deal_all" my f fd)(I:sQ K C)(O:mg "list"=none)(j:mg "enumerate"=none)(S:mg "NO_LIFT"=some (.int (-1) z))(J:bf P w K mg base 6 "deal" ["moment","dealer","place","rider"] (pX P w K mg base C Pn Pl)):az P w K mg base bg 7 f fd ["moment","dealer"] (mf P w K mg base C Pn Pl):=by
 have G:∀k,az P w K mg base bg 7 f fd ["moment","dealer"] (mh P w K mg base C @cJ tG (gJ k)):=λk=>FE F rJ I O j S (Bs J λL H Q E h=>⟨k,h⟩);exact Go G λL H Q E ⟨k,h⟩=>(G k).len L H Q E h
theorem Fd {j Pn Pl:Addr}(F:bB K "turn" "Court.turn" iZ f fd)(U:sQ K j)(W:mg "len"=none)(z:mg "range"=none)(J:bf P w K mg base 7 "need_deeds" ["house","state","deeds"] (AU K))(I:jm P w K mg base bg 1 "Moment" j (D6 K))(O:bf P w K mg base 5 "do_deed" ["moment","deed"] (Il K j))(S:bf P w K mg base 7 "deal_all" ["moment","dealer"] (mf P w K mg base j Pn Pl))(bd:bf P w K mg base 8 "go" ["moment","rule","lift"] (Ik P w K mg base j))(R:bf P w K mg base 1 "state_of" ["moment"] (AT K j)):az P w K mg base bg 9 f fd ["self","state","deeds"] (lZ P w K mg base Pn Pl):=by
 have G:∀k,az P w K mg base bg 9 f fd ["self","state","deeds"] (y6 P w K mg base @cJ tG (gJ k)):=λk=>Jh rJ F U W z J I O (Bs S λL H Q E h=>⟨k,h⟩) bd R;exact Go G λL H Q E ⟨k,h⟩=>(G k).len L H Q E h
seal pX mf
structure Le (P:Program)(w:World)(K:Fg)(mg:Str->Option Value)(base:Heap)(C Pn Pl:Addr)(H:Hp)(a:Addr)(hs:Hs)(wf:Wf)(k:Dk):Prop where
 ex:∃dx h ru df,H a=some (.ins C dx @fi)/\lS K H h hs/\Ds P w K mg base H ru wf/\m8 P w K mg base 5 df (uq K @cJ tG (gJ k))
 gg:BM Pn Pl H
theorem Le.nt {C Pn Pl:Addr}{H H':Hp}{a:Addr}{hs:Hs}{wf:Wf}{k:Dk}(c:Le P w K mg base C Pn Pl H a hs wf k)(s:bu H H')(g:BM Pn Pl H'):Le P w K mg base C Pn Pl H' a hs wf k:=by
 obtain ⟨dx,h,F,I,h1,h2,L,j⟩:=c.ex;exact ⟨⟨dx,h,F,I,s _ _ (λ_ z=>by cases z) h1,Bk s h2,KM s L,j⟩,g⟩
theorem Le.same {C Pn Pl:Addr}{H H':Hp}{a:Addr}{hs:Hs}{wf:Wf}{k:Dk}(c:Le P w K mg base C Pn Pl H a hs wf k)(s:aq H H'):Le P w K mg base C Pn Pl H' a hs wf k:=c.nt s.nt (rJ _ _ s.st c.gg)
theorem cx.nt {H H':Hp}(s:bu H H'){st:Addr}{cs:List Cb}{ws:List be}{last:Int}{fi:Bool}(h:cx K H st cs ws last fi):cx K H' st cs ws last fi:=by
 obtain ⟨tc,G,xs,ys,h1,h2,L,j,S⟩:=h;exact ⟨tc,G,xs,ys,s.sqT h1,s.sqT h2,s.sqT L,Paired.imp' (λx c z=>d5.nt s z) j,s.dens S⟩
theorem OW {Pn Pl C:Addr}{H:Hp}{a st O:Addr}{hs:Hs}{wf:Wf}{S:MS}{ds:List Dd}{k:Dk}{T:List Int}{n:Nat}{Q:VK}{E:XK}(c:Le P w K mg base C Pn Pl H a hs wf k)(cC:N9 K C)(ad:cx K H st S.cs S.ws S.last S.fire)(R:Sr hs T n S)(ab:n<=150)(U:yK K H O ds)(D:yL hs T ds)
(g:∀r st' ll zs M' H' (L:List Rw),bu H H'->BM Pn Pl H'->H' r=some (.tup [.ref st',.ref ll])->cx K H' st' (MS.cs M') M'.ws M'.last M'.fire->H' ll=some (.lst zs)->aC K H' zs M'.log->M'.log=L.map Rw.d->L.length<=4000->(∀r∈L,r.tag∈T++ds.flatMap eN)->(∀b zs0,H b=some (.lst zs0)->b≠ll)->G4 hs wf k S ds M'->Sr hs (T++ds.flatMap eN) (n+2) M'->Q (.ref r) H'):lZ P w K mg base Pn Pl [.ref a,.ref st,.ref O] H Q E:=by
 obtain ⟨dx,h,ru,df,h1,hH,ah,j⟩:=c.ex;have J:=hH.1;have al:=D.gd @fQ R.tg
 have ae:∀fl li he up dn,ia li he up dn->wf fl li he up dn∈cy:=by
  obtain ⟨_,_,_,_,_,_,_,z,_⟩:=ah;exact z
 have hw:=R.w;have dl:=D.len;have ag:=D.two;have l1:=J.l1;have l3:=J.l3;have cl:=R.len;obtain ⟨w1,F⟩:=mV (lo:=hs.lo) (ds:=ds) (M:=S.st);have w1:(ay hs.lo S.st ds).ws.length<=S.ws.length+(ds.flatMap eN).length:=w1;have F:(ay hs.lo S.st ds).last=S.last:=F;have Z:=rL al;have mo:=R.mok.deeds (ds:=ds) (λd hd=>⟨D.ok d hd,Z d hd⟩) ds.length;rw [take_of_length_le @f] at mo;have ml:=mo.len;rwa[⟨k,a,st,O,C,dx,h,ru,df,hs,wf,S.cs,S.ws,S.last,S.fire,ds,rfl,h1,cC,hH,ah,j,c.gg,ad,U,R.mok,by lia,al,λ_ i r _ _=> ?_,λr st' ll zs M' H' sN aa er aP I G af Y aV=> ?_⟩]
 ·have ac:=eV (dl:=gJ k) (W:=(ay hs.lo S.st ds).ws) (M:=ay hs.lo S.st ds) i;have lst:=gp (dl:=gJ k) @cQ (W:=(ay hs.lo S.st ds).ws) (M:=ay hs.lo S.st ds) (by rw [F];exact R.l0) i;rwa[⟨?_,?_,?_,lst.1⟩]
  ·show 1<=(aZ (gJ k) (ay hs.lo S.st ds).ws i @t).cs.length;rw [ac.2.1];lia
  ·show (aZ (gJ k) (ay hs.lo S.st ds).ws i @t).cs.length<=3;rw [ac.2.1];lia
  ·show (aZ (gJ k) (ay hs.lo S.st ds).ws i @t).ws.length<=200;rw [ac.1];lia
 ·obtain ⟨R',L,e1,e2,e3⟩:=R.turn J D ab ae aV;exact g r st' ll zs M' H' L sN aa er aP I G e1 e2 e3 Y aV R'
seal lZ
theorem BD (bs:List Bool)(ws:Nat->Int):∀n,∃m,gS bs ws n m
 |0=>⟨-1,Kk⟩
 |n+1=>by
  obtain ⟨r,h⟩:=BD bs ws n
  cases b:bs.getD n false with
  |false=>exact ⟨r,h.no b⟩
  |true=>
   rcases h.range with e|⟨i,e,hi⟩
   ·exact ⟨_,h.new b (.inl e)⟩
   ·by_cases z:ws n<ws i
    ·exact ⟨_,h.new b (.inr ⟨i,e,z⟩)⟩
    ·subst e;exact ⟨_,h.old z⟩
theorem G0 (bs:List Bool)(ws:Nat->Int):fe bs ws (yD bs ws):=Classical.epsilon_spec (BD bs ws bs.length)
def QA (cs:List Cb)(l:Int):Prop:=(l= -1/\∀c∈cs,c.mr≠0)\/∃(j:Nat) (c:Cb),l=(j:Int)/\cs[j]? =some c/\c.mr=0
theorem K4 {cs:List Cb}{j:Nat}:(bI @bn).getD j false=true↔∃c,cs[j]? =some c/\c.mr=0:=by
 rw [getD_eq_getElem?_getD,getElem?_map,getElem?_map]
 cases e:cs[j]? with
 |none=>simp
 |some c=>simp [lU.srv,fJ]
theorem w9 {cs:List Cb}{l:Int}(h:(l= -1/\∀j,j<cs.length->(bI @bn).getD j false=false)\/∃j:Nat,l=(j:Int)/\(bI @bn).getD j false=true):QA cs l:=by
 rcases h with ⟨e,h⟩|⟨j,e,h⟩
 ·rwa[.inl ⟨e,λc I z=> ?_⟩];obtain ⟨j,Z,G⟩:=List.getElem_of_mem I;have:=K4.mpr ⟨c,by rw [getElem?_eq_getElem Z,G],z⟩;rw [h j Z] at this;cases this
 ·obtain ⟨c,I,z⟩:=K4.mp h;exact .inr ⟨j,c,e,I,z⟩
theorem su {cs:List Cb}{ws:Nat->Int}:QA cs (yD @ft ws):=by
 rwa[w9 ?_]
 rcases G0 @ft ws with ⟨e,h⟩|⟨i,e,_,b,_⟩
 ·exact .inl ⟨e,λj Z=>h j (by rw [length_map,length_map];exact Z)⟩
 ·exact .inr ⟨i,e,b⟩
theorem Eg {cs:List Cb}{first:Int}(R:0<=first):QA cs (sf @ft first):=by
 rwa[w9 ?_]
 have W:(bI @bn).length=cs.length:=by rw [length_map,length_map]
 generalize Y:bI @bn=F at W ⊢
 have I:∀(r k:Nat),(Hq F first k r= -1/\∀i,k<=i->i<k+r->F.getD ((first+(i:Int))% F.length).toNat false=false)\/∃j:Nat,Hq F first k r=(j:Int)/\F.getD j false=true:=by
  intro r
  induction r with
  |zero=>intro k;exact .inl ⟨rfl,λi h1 h2=>by lia⟩
  |succ r ih=>
   intro k;unfold Hq;split
   ·rename_i z;by_cases O:(F.length:Int)=0
    ·have L:F=[]:=List.eq_nil_of_length_eq_zero @c;rw [L] at z;simp at z
    ·have G:=Int.emod_nonneg (first+(k:Int)) O;exact .inr ⟨((first+(k:Int))% F.length).toNat,by lia,z⟩
   ·rename_i z
    rcases ih (k+1) with ⟨e,h⟩|h
    ·rwa[.inl ⟨e,λi h1 h2=> ?_⟩];by_cases y:i=k
     ·subst y;simpa using z
     ·exact h i @c @c
    ·exact .inr h
 unfold sf
 rcases I F.length 0 with ⟨e,h⟩|h
 ·rwa[.inl ⟨e,λj Z=> ?_⟩]
  have G:(0:Int)<F.length:=by lia
  have hi:∃i:Nat,i<F.length/\(first+(i:Int))% F.length=(j:Int):=by
   have U:=Int.emod_nonneg ((j:Int) - first) (show (F.length:Int)≠0 by lia);have S:=Int.emod_lt_of_pos ((j:Int) - first) G;rwa[⟨(((j:Int) - first)% F.length).toNat,by lia,?_⟩];rw [show (((((j:Int) - first)% F.length).toNat:Nat):Int)=((j:Int) - first)% F.length by lia,Int.add_emod,Int.emod_emod_of_dvd _ (Int.dvd_refl _),<-Int.add_emod,show first+((j:Int) - first)=(j:Int) by lia];exact Int.emod_eq_of_lt @c @c
  obtain ⟨i,hi,J⟩:=hi;have:=h i @ed @c;rw [J] at this;simpa using this
 ·exact .inr h
theorem C0 {k:Dk}{cs:List Cb}{ws:List be}{r:be}{last:Int}(h:0<=last):QA cs (gJ k cs ws r last).1:=by
 cases k with
 |near=>exact su
 |least=>exact su
 |turns=>exact Eg @c
structure Kp where
 rd:List (Int×Int×Int)
 wt:List Int
 ab:List (List (Int×Int))
def G7 (cs0:List Cb)(fi:Bool)(k:Kp):Rw->Kp->Prop
 | .deal t i,k'=>(∃s g,(t,s,g)∈k.rd)/\t∈k.wt/\0<=i/\i<(cs0.length:Int)/\k'=k
 | .note _ t,k'=>(∃s g,(t,s,g)∈k.rd)/\t∈k.wt/\k'= {k with wt:=k.wt.filter λx=> !decide (x=t)}
 | .step b t i fl,k'=>∃s g c A,(t,s,g)∈k.rd/\0<=i/\cs0[i.toNat]? =some c/\ ¬c.dr=0/\c.pl=2*fl/\k.ab[i.toNat]? =some A/\if b=true then t∈k.wt/\s=fl/\fi=false/\k'= {k with wt:=k.wt.filter (λx=> !decide (x=t)),ab:=k.ab.set i.toNat (A++[(t,g)])} else (t,g)∈A/\(g=fl\/fi=true/\fl=0)/\k'= {k with ab:=k.ab.set i.toNat (A.filter λx=> !decide (x.1=t))}
def gP (cs0:List Cb)(fi:Bool):Kp->List Rw->Kp->Prop
 |k,[],k'=>k'=k
 |k,r::L,k'=>∃k1,G7 cs0 fi k r k1/\gP cs0 fi k1 L k'
theorem gP.app {cs0:List Cb}{fi:Bool}:∀ {L L':List Rw} {k k1 k2:Kp},gP cs0 fi k L k1->gP cs0 fi k1 L' k2->gP cs0 fi k (L++L') k2
 |[],_,_,_,_,h,g=>by obtain rfl:=(show _=_ from h);exact g
 |r::L,_,_,_,_,⟨k',h1,h2⟩,g=>⟨k',h1,h2.app g⟩
structure Mt (k:Kp)(M:MS)(q:List (Int×Int×Int)):Prop where
 wt:k.wt=M.ws.map (·.tag)++q.map (·.1)
 ab:k.ab=M.cs.map (·.ps)
 rw:∀r∈M.ws,(r.tag,r.start,r.goal)∈k.rd
 rq:∀x∈q,x∈k.rd
 rp:∀c∈M.cs,∀p∈c.ps,∃s,(p.1,s,p.2)∈k.rd
 nd:(k.rd.map (·.1)).Nodup
 nw:k.wt.Nodup
 np:∀c∈M.cs,(c.ps.map (·.1)).Nodup
 dj:∀t∈k.wt,∀c∈M.cs,t∉c.ps.map (·.1)
def dH:Dd->List (Int×Int×Int)
 | .come t s g _=>[(t,s,g)]
 |_=>[]
theorem J2 {t:Int}{a b:List Int}(h:(a++t::b).Nodup):(a++t::b).filter (λx=> !decide (x=t))=a++b:=by
 have h1:∀x∈a,x≠t:=λx j z=>by
  have:=(nodup_append.mp h).2.2 x j t (.head _);exact this z
 have h2:∀x∈b,x≠t:=λx j z=>by
  have:=(nodup_cons.mp (nodup_append.mp h).2.1).1;rw [z] at j;exact this j
 rw [filter_append,filter_cons];simp only [decide_true,Bool.not_true,if_neg Bool.false_ne_true];rw [List.filter_eq_self.mpr λx j=>by simp [h1 x j],List.filter_eq_self.mpr λx j=>by simp [h2 x j]]
theorem Mt.note {k:Kp}{M M':MS}{q q':List (Int×Int×Int)}{t:Int}{a b:List Int}(m:Mt k M q)(e:k.wt=a++t::b)(R:∃s g,(t,s,g)∈k.rd)(j:M'.ws.map (·.tag)++q'.map (·.1)=a++b)(I:M'.cs=M.cs)(J:∀r∈M'.ws,r∈M.ws)(L:∀x∈q',x∈q)(cs0:List Cb)(fi:Bool)(F:Bool):∃k',G7 cs0 fi k (.note F t) k'/\Mt k' M' q'/\k'.rd=k.rd:=by
 have G:(a++t::b).Nodup:=e▸m.nw
 have O:k.wt.filter (λx=> !decide (x=t))=a++b:=by rw [e,J2 G]
 rwa[⟨_,⟨R,by rw [e];exact mem_append_right _ (.head _),rfl⟩,⟨?_,?_,λr Y=>m.rw r (J r Y),λx z=>m.rq x (L x z),by rw [I];exact m.rp,m.nd,?_,by rw [I];exact m.np,λx z c ad=> ?_⟩,rfl⟩]
 ·show k.wt.filter _=_;rw [O,j]
 ·show k.ab=_;rw [I];exact m.ab
 ·show (k.wt.filter _).Nodup;exact m.nw.filter _
 ·rw [I] at ad;exact m.dj x (mem_filter.mp z).1 c ad
theorem Mt.like {k:Kp}{M M':MS}{q:List (Int×Int×Int)}(m:Mt k M q)(I:M'.cs.map (·.ps)=M.cs.map (·.ps))(F:M'.ws.map (λr=>(r.tag,r.start,r.goal))=M.ws.map λr=>(r.tag,r.start,r.goal)):Mt k M' q:=by
 have L:M'.ws.map (·.tag)=M.ws.map (·.tag):=by
  have:=congrArg (List.map (·.1)) F;rw [map_map,map_map] at this;exact this
 have ps:∀c∈M'.cs,∃d∈M.cs,c.ps=d.ps:=λc ad=>by
  have:c.ps∈M.cs.map (·.ps):=by rw [<-I];exact mem_map.mpr ⟨c,ad,rfl⟩
  obtain ⟨d,J,e⟩:=mem_map.mp this;exact ⟨d,J,e.symm⟩
 rwa[⟨by rw [L];exact m.wt,by rw [I];exact m.ab,λr Y=> ?_,m.rq,λc h=> ?_,m.nd,m.nw,λc h=> ?_,λt j c h=> ?_⟩]
 ·have:(r.tag,r.start,r.goal)∈M.ws.map λr=>(r.tag,r.start,r.goal):=by rw [<-F];exact mem_map.mpr ⟨r,Y,rfl⟩
  obtain ⟨G,z,e⟩:=mem_map.mp this;rw [<-e];exact m.rw G z
 ·obtain ⟨d,J,e⟩:=ps c h;rw [e];exact m.rp d J
 ·obtain ⟨d,J,e⟩:=ps c h;rw [e];exact m.np d J
 ·obtain ⟨d,J,e⟩:=ps c h;rw [e];exact m.dj t j d J
def Tr (cs0:List Cb)(fi:Bool)(k:Kp)(M M':MS)(q':List (Int×Int×Int)):Prop:=∃L k',M'.log=M.log++L.map Rw.d/\gP cs0 fi k L k'/\Mt k' M' q'/\k'.rd=k.rd
theorem Tr.trans {cs0:List Cb}{fi:Bool}{k:Kp}{M j F:MS}{q q':List (Int×Int×Int)}(h:Tr cs0 fi k M j q)(g:∀k',Mt k' j q->k'.rd=k.rd->Tr cs0 fi k' j F q'):Tr cs0 fi k M F q':=by
 obtain ⟨L,O,S,U,J,z⟩:=h;obtain ⟨I,Z,R,W,G,Y⟩:=g O J z;exact ⟨L++I,Z,by rw [R,S,map_append,append_assoc],U.app W,G,Y.trans z⟩
theorem Tr.none {cs0:List Cb}{fi:Bool}{k:Kp}{M M':MS}{q:List (Int×Int×Int)}(m:Mt k M' q)(e:M'.log=M.log):Tr cs0 fi k M M' q:=⟨[],k,by rw [e,map_nil,append_nil],rfl,m,rfl⟩
theorem Tr.fire {cs0:List Cb}{fi:Bool}{q:List (Int×Int×Int)}:∀(ws:List be) {k:Kp} {M M':MS},Mt k {M with ws:=ws} q->M'.cs=M.cs->M'.ws=[]->M'.log=M.log++(ws.map λr=>vV r.tag)->Tr cs0 fi k M M' q
 |[],k,M,M',m,hc,hw,hl=> .none ⟨by rw [hw];exact m.wt,by rw [hc];exact m.ab,(by rw [hw];exact λr Y=>nomatch Y),m.rq,by rw [hc];exact m.rp,m.nd,m.nw,by rw [hc];exact m.np,by rw [hc];exact m.dj⟩ (by rw [hl];simp)
 |r::ws,k,M,M',m,hc,hw,hl=>by
  obtain ⟨O,F,S,z⟩:=m.note (M':= {M with ws:=ws}) (q':=q) (t:=r.tag) (a:=[]) (b:=ws.map (·.tag)++q.map (·.1)) m.wt ⟨_,_,m.rw r (.head _)⟩ rfl rfl (λx j=> .tail _ j) (λx h=>h) cs0 fi false;obtain ⟨L,J,R,W,G,I⟩:=Tr.fire (cs0:=cs0) (fi:=fi) ws (k:=O) (M:= {M with log:=M.log++[vV r.tag]}) (M':=M') ⟨S.wt,S.ab,S.rw,S.rq,S.rp,S.nd,S.nw,S.np,S.dj⟩ hc hw (by rw [hl];simp);exact ⟨.note false r.tag::L,J,by rw [R];simp;rfl,⟨O,F,W⟩,G,I.trans z⟩
theorem Eh {cs:List Cb}{i:Nat}{c:Cb}(h:∀d,cs[i]? =some d->c.ps=d.ps):(cs.set i c).map (·.ps)=cs.map (·.ps):=by
 rwa[List.ext_getElem? λj=> ?_];rw [getElem?_map,getElem?_map,List.getElem?_set];split
 ·rename_i e;subst e;split
  ·rename_i hi;rw [getElem?_eq_getElem hi];show some c.ps=some _;rw [h _ (getElem?_eq_getElem hi)]
  ·rename_i hi;rw [List.getElem?_eq_none @c]
   first|done|rfl
 ·rfl
theorem JX {M:MS}{i:Int}{d:Cb}(h:M.cs[i.toNat]? =some d):dR M i=d:=by
 unfold dR;rw [getD_eq_getElem?_getD,h];rfl
theorem Mt.deed {cs0:List Cb}{fi:Bool}{lo:Nat}{k:Kp}{M:MS}{d:Dd}{q:List (Int×Int×Int)}(m:Mt k M (dH d++q))(J:d.ok):Tr cs0 fi k M @fI q:=by
 have G:∀i,(fk i M.ws).map (λr=>(r.tag,r.start,r.goal))=M.ws.map λr=>(r.tag,r.start,r.goal):=λi=>by
  unfold fk;rw [map_map];rwa[map_congr_left λr _=> ?_];dsimp only [Function.comp];split<;>rfl
 cases d with
 |come t s g b=>
  have e:k.wt=M.ws.map (·.tag)++t::q.map (·.1):=m.wt;have Y:(t,s,g)∈k.rd:=m.rq _ (.head _);show Tr cs0 fi k M (fI lo M t s g b) q;unfold fI;split
  ·obtain ⟨O,F,S,j⟩:=m.note (M':= {M with log:=M.log++[Mp t]}) (q':=q) (a:=M.ws.map (·.tag)) (b:=q.map (·.1)) e ⟨_,_,Y⟩ rfl rfl @fh (λx h=> .tail _ h) cs0 fi true;exact ⟨[.note true t],O,rfl,⟨O,F,rfl⟩,S,j⟩
  split
  ·obtain ⟨O,F,S,j⟩:=m.note (M':= {M with log:=M.log++[vV t]}) (q':=q) (a:=M.ws.map (·.tag)) (b:=q.map (·.1)) e ⟨_,_,Y⟩ rfl rfl @fh (λx h=> .tail _ h) cs0 fi false;exact ⟨[.note false t],O,rfl,⟨O,F,rfl⟩,S,j⟩
  ·rwa[.none ⟨by rw [e];show _=(M.ws++[(⟨t,s,g,-1⟩:be)]).map (·.tag)++_;simp,m.ab,λr h=> ?_,λx h=>m.rq x (.tail _ h),m.rp,m.nd,m.nw,m.np,m.dj⟩ rfl]
   rcases mem_append.mp h with z|z
   ·exact m.rw r z
   ·rw [mem_singleton.mp z];exact Y
 |lf x i=>
  have m:Mt k M q:=m
  have sp:∀c:Cb,c.ps=(dR M i).ps->(M.cs.set i.toNat c).map (·.ps)=M.cs.map (·.ps):=λc e=>Eh λd J=>by rw [e,JX J]
  rcases J with rfl|rfl|rfl|rfl|rfl
  ·rw [gk];exact .none (m.like rfl rfl) rfl
  ·rw [ge];exact .none (m.like @fZ (G i)) rfl
  ·rw [iB];exact .none (m.like @fZ rfl) rfl
  ·rw [gh];exact .none (m.like @fZ (G i)) rfl
  ·rw [iF];exact .none (m.like @fZ rfl) rfl
 |sg x=>
  have m:Mt k M q:=m
  rcases J with rfl|rfl
  ·rw [iC];exact .fire M.ws m rfl rfl rfl
  ·rw [iE];unfold kI;split
   ·exact .none (m.like rfl rfl) rfl
   ·exact .none m rfl
theorem Mt.deeds {cs0:List Cb}{fi:Bool}{lo:Nat}:∀ {ds:List Dd} {k:Kp} {M:MS},Mt k M @gX->(∀d∈ds,d.ok)->Tr cs0 fi k M @gy []
 |[],k,M,m,_=> .none m rfl
 |d::ds,k,M,m,hd=>by
  rw [flatMap_cons] at m;exact (m.deed (cs0:=cs0) (fi:=fi) (lo:=lo) @dO).trans λj U _=>Mt.deeds (ds:=ds) U λe S=>hd e (.tail _ S)
theorem Mt.deals {cs0:List Cb}{fi:Bool}{dk:Dk}{M:MS}{k:Kp}(m:Mt k M [])(R:0<=M.last)(S:M.cs.length=cs0.length):∀i,Tr cs0 fi k M (aZ @cU M.ws i M) []/\(aZ @cU M.ws i M).cs=M.cs/\(aZ @cU M.ws i M).ws.map (λr=>(r.tag,r.start,r.goal))=M.ws.map λr=>(r.tag,r.start,r.goal)
 |0=>⟨.none m rfl,rfl,rfl⟩
 |i+1=>by
  obtain ⟨h1,h2,L⟩:=m.deals (cs0:=cs0) (fi:=fi) (dk:=dk) R S i;have la:=(gp (dl:=gJ dk) @cQ (W:=M.ws) (M:=M) R i).1;unfold aZ;generalize aZ @cU M.ws i M=X at h1 h2 L la;split
  ·rename_i r Y;split
   ·rename_i z;have tl:=C0 (k:=dk) (cs:=X.cs) (ws:=X.ws) (r:=r) (last:=X.last) la;unfold gK;generalize (gJ dk X.cs X.ws r X.last).1=v at tl;split
    ·exact ⟨h1.trans λF U _=> .none (U.like rfl rfl) rfl,h2,L⟩
    ·rename_i Z
     have hs:(X.ws.set i {r with lift:=v}).map (λr=>(r.tag,r.start,r.goal))=X.ws.map λr=>(r.tag,r.start,r.goal):=by
      rw [map_set];show (X.ws.map λr=>(r.tag,r.start,r.goal)).set i (r.tag,r.start,r.goal)=_;rwa[fU ?_];rw [L,getElem?_map,Y];rfl
     have G:0<=v/\v<(cs0.length:Int):=by
      rcases tl with ⟨e,_⟩|⟨j,e,c,hj,_⟩
      ·exact absurd e Z
      ·have:=(List.getElem?_eq_some_iff.mp hj).1;rw [h2] at this;lia
     rwa[⟨h1.trans λF U _=> ?_,h2,hs.trans L⟩]
     have hm:(r.tag,r.start,r.goal)∈X.ws.map λr=>(r.tag,r.start,r.goal):=by rw [L];exact mem_map.mpr ⟨r,mem_of_getElem? Y,rfl⟩
     obtain ⟨J,I,O⟩:=mem_map.mp hm;rwa[⟨[.deal r.tag v],F,rfl,⟨F,⟨⟨r.start,r.goal,by rw [<-O];exact U.rw J I⟩,?_,G.1,G.2,rfl⟩,rfl⟩,U.like rfl hs,rfl⟩];rw [U.wt];rwa[mem_append_left _ (mem_map.mpr ⟨J,I,?_⟩)];exact congrArg (·.1) O
   ·exact ⟨h1,h2,L⟩
  ·exact ⟨h1,h2,L⟩
theorem Mt.mid {cs0:List Cb}{fi:Bool}{dk:Dk}{M:MS}{k:Kp}(m:Mt k M [])(W:0<=M.last)(I:M.cs.length=cs0.length):Tr cs0 fi k M (dZ @cU M) []/\(dZ @cU M).cs=M.cs:=by
 unfold dZ;split
 ·exact ⟨.none m rfl,rfl⟩
 ·have:=m.deals (cs0:=cs0) (fi:=fi) (dk:=dk) W I M.ws.length;exact ⟨this.1,this.2.1⟩
theorem qS {cs0:List Cb}{fi:Bool}{i:Nat}{c:Cb}{fl:Int}(I:cs0[i]? =some c)(J: ¬c.dr=0)(G:c.pl=2*fl):∀(os:List (Int×Int)) {k:Kp} {A:List (Int×Int)},k.ab[i]? =some A->(∀p∈os,p∈A)->(os.map (·.1)).Nodup->(∀p∈os,∃s,(p.1,s,p.2)∈k.rd)->(∀p∈os,p.2=fl\/fi=true/\fl=0)->gP cs0 fi k (os.map λp=> .step false p.1 (i:Int) fl) {k with ab:=k.ab.set i (A.filter λx=> !decide (x.1∈os.map (·.1)))}
 |[],k,A,hA,_,_,_,_=>by
  have e:A.filter (λx=> !decide (x.1∈([]:List (Int×Int)).map (·.1)))=A:=List.filter_eq_self.mpr λx _=>by simp
  show {k with ab:=k.ab.set i _}=k;rw [e,fU hA]
 |p::os,k,A,hA,h1,h2,h3,h4=>by
  have j:p.1∉os.map (·.1)/\(os.map (·.1)).Nodup:=nodup_cons.mp h2;obtain ⟨s,hs⟩:=h3 p (.head _);have O:=(List.getElem?_eq_some_iff.mp hA).1;rwa[⟨{k with ab:=k.ab.set i (A.filter λx=> !decide (x.1=p.1))},⟨s,p.2,c,A,hs,by lia,by rw [Int.toNat_natCast];exact I,J,G,by rw [Int.toNat_natCast];exact hA,?_⟩,?_⟩]
  ·rw [if_neg Bool.false_ne_true,Int.toNat_natCast];exact ⟨h1 p (.head _),h4 p (.head _),rfl⟩
  ·have F:=qS (fi:=fi) I J G os (k:= {k with ab:=k.ab.set i (A.filter λx=> !decide (x.1=p.1))}) (A:=A.filter λx=> !decide (x.1=p.1)) (by show (k.ab.set i _)[i]? =_;rw [getElem?_set_self O]) (λq L=>mem_filter.mpr ⟨h1 q (.tail _ L),by
    have:q.1≠p.1:=λz=>j.1 (by rw [<-z];exact mem_map.mpr ⟨q,L,rfl⟩)
    simp [this]⟩) j.2 (λq L=>h3 q (.tail _ L)) λq L=>h4 q (.tail _ L)
   have e:(A.filter λx=> !decide (x.1=p.1)).filter (λx=> !decide (x.1∈os.map (·.1)))=A.filter λx=> !decide (x.1∈(p::os).map (·.1)):=by
    rw [List.filter_filter];rwa[List.filter_congr λx _=> ?_];rw [map_cons];by_cases z:x.1=p.1<;>simp [z]
   rw [e] at F;have R:({k with ab:=k.ab.set i (A.filter λx=> !decide (x.1=p.1))}:Kp).ab.set i (A.filter λx=> !decide (x.1∈(p::os).map (·.1)))=k.ab.set i (A.filter λx=> !decide (x.1∈(p::os).map (·.1))):=List.set_set _;rw [R] at F;exact F
theorem vU {cs0:List Cb}{i:Nat}{c:Cb}{fl room:Int}{so:Str}(F:cs0[i]? =some c)(O: ¬c.dr=0)(J:c.pl=2*fl):∀(rs:List be) {k:Kp} {s:yR},k.ab[i]? =some s.kept->(rs.map (·.tag)).Nodup->(∀r∈rs,r.tag∈k.wt)->(∀r∈rs,(r.tag,r.start,r.goal)∈k.rd)->∃I:List be,I.Sublist rs/\(aR so room c.pl s rs).ins=s.ins++I.map (·.tag)/\(aR so room c.pl s rs).kept=s.kept++I.map (λr=>(r.tag,r.goal))/\gP cs0 false k (I.map λr=> .step true r.tag (i:Int) fl) {k with wt:=k.wt.filter (λx=> !decide (x∈I.map (·.tag))),ab:=k.ab.set i (aR so room c.pl s rs).kept}
 |[],k,s,hA,_,_,_=>⟨[],.slnil,by rw [map_nil,append_nil];rfl,by rw [map_nil,append_nil];rfl,by
  have e:k.wt.filter (λx=> !decide (x∈([]:List be).map (·.tag)))=k.wt:=List.filter_eq_self.mpr λx _=>by simp
  show {k with wt:=k.wt.filter _,ab:=k.ab.set i s.kept}=k
  rw [e,fU hA]⟩
 |r::rs,k,s,hA,h1,h2,h3=>by
  have av:r.tag∉rs.map (·.tag)/\(rs.map (·.tag)).Nodup:=nodup_cons.mp h1;have Y:=(List.getElem?_eq_some_iff.mp hA).1;show ∃I:List be,I.Sublist (r::rs)/\(aR so room c.pl @eh rs).ins=_/\(aR so room c.pl @eh rs).kept=_/\gP cs0 false k _ {k with wt:=_,ab:=k.ab.set i (aR so room c.pl @eh rs).kept};by_cases e:ez so room c.pl s r=true
  ·have es:2*r.start=c.pl:=by
    unfold ez at e;rw [Bool.and_eq_true,Bool.and_eq_true] at e;exact of_decide_eq_true e.1.1
   have G:b6 so room c.pl s r=⟨if so=s!"way" then kg r else s.light,s.kept++[(r.tag,r.goal)],s.ins++[r.tag]⟩:=if_pos e;rw [G]
   obtain ⟨I,U,S,R,j⟩:=vU (room:=room) (so:=so) F O J rs (k:= {k with wt:=k.wt.filter (λx=> !decide (x=r.tag)),ab:=k.ab.set i (s.kept++[(r.tag,r.goal)])}) (s:=⟨if so=s!"way" then kg r else s.light,s.kept++[(r.tag,r.goal)],s.ins++[r.tag]⟩) (by show (k.ab.set i _)[i]? =_;rw [getElem?_set_self Y]) av.2 (λq L=>mem_filter.mpr ⟨h2 q (.tail _ L),by
    have:q.tag≠r.tag:=λz=>av.1 (by rw [<-z];exact mem_map.mpr ⟨q,L,rfl⟩)
    simp [this]⟩) (λq L=>h3 q (.tail _ L))
   rwa[⟨r::I,U.cons₂ _,by rw [S,map_cons,append_assoc];rfl,by rw [R,map_cons,append_assoc];rfl,⟨{k with wt:=k.wt.filter (λx=> !decide (x=r.tag)),ab:=k.ab.set i (s.kept++[(r.tag,r.goal)])},⟨r.start,r.goal,c,s.kept,h3 r (.head _),by lia,by rw [Int.toNat_natCast];exact F,O,J,by rw [Int.toNat_natCast];exact hA,?_⟩,?_⟩⟩]
   ·rw [if_pos rfl,Int.toNat_natCast];exact ⟨h2 r (.head _),by lia,rfl,rfl⟩
   ·have Z:(k.wt.filter λx=> !decide (x=r.tag)).filter (λx=> !decide (x∈I.map (·.tag)))=k.wt.filter λx=> !decide (x∈(r::I).map (·.tag)):=by
     rw [List.filter_filter];rwa[List.filter_congr λx _=> ?_];rw [map_cons];by_cases z:x=r.tag<;>simp [z]
    have W:(k.ab.set i (s.kept++[(r.tag,r.goal)])).set i (aR so room c.pl ⟨if so=s!"way" then kg r else s.light,s.kept++[(r.tag,r.goal)],s.ins++[r.tag]⟩ rs).kept=k.ab.set i (aR so room c.pl ⟨if so=s!"way" then kg r else s.light,s.kept++[(r.tag,r.goal)],s.ins++[r.tag]⟩ rs).kept:=List.set_set _;dsimp only at j;rw [Z,W] at j;exact j
  ·have G:b6 so room c.pl s r=s:=if_neg e;rw [G];obtain ⟨I,U,S,R,j⟩:=vU (room:=room) (so:=so) F O J rs hA av.2 (λq L=>h2 q (.tail _ L)) λq L=>h3 q (.tail _ L);exact ⟨I,U.cons _,S,R,j⟩
theorem Mt.gone {k:Kp}{M M':MS}{i:Nat}{c c':Cb}{I:List be}(m:Mt k M [])(hc:M.cs[i]? =some c)(W:I.Sublist M.ws)(ec:M'.cs=M.cs.set i c')(Z:M'.ws=M.ws.filter λr=> !decide (r.tag∈I.map (·.tag)))(O:List (Int×Int))(F:O.Sublist c.ps)(ep:c'.ps=O++I.map λr=>(r.tag,r.goal)):Mt {k with wt:=k.wt.filter (λx=> !decide (x∈I.map (·.tag))),ab:=k.ab.set i c'.ps} M' []:=by
 have L:=mem_of_getElem? hc
 have wt:k.wt=M.ws.map (·.tag):=by have:=m.wt;rw [map_nil,append_nil] at this;exact this
 have R:(I.map (·.tag)).Sublist (M.ws.map (·.tag)):=W.map _
 have ps:∀p∈c'.ps,p∈c.ps\/∃r∈I,p=(r.tag,r.goal):=λp G=>by
  rw [ep] at G
  rcases mem_append.mp G with z|z
  ·exact .inl (F.subset z)
  ·obtain ⟨r,Y,e⟩:=mem_map.mp z;exact .inr ⟨r,Y,e.symm⟩
 have tg:c'.ps.map (·.1)=O.map (·.1)++I.map (·.tag):=by rw [ep,map_append,map_map];rfl
 have S:(c'.ps.map (·.1)).Nodup:=by
  rw [tg];rwa[nodup_append.mpr ⟨(m.np c L).sublist (F.map _),(by rw [<-wt] at R;exact m.nw.sublist R),λa ha b hb z=> ?_⟩];subst z;exact m.dj a (by rw [wt];exact R.subset hb) c L ((F.map _).subset ha)
 have U:∀d∈M'.cs,d∈M.cs\/d=c':=λd J=>by rw [ec] at J;exact fL J
 rwa[⟨?_,?_,λr Y=> ?_,(λx hx=>nomatch hx),λd J p G=> ?_,m.nd,m.nw.filter _,λd J=> ?_,λt ht d J=> ?_⟩]
 ·show k.wt.filter _=_;rw [Z,wt,map_nil,append_nil,List.filter_map];rfl
 ·show k.ab.set i c'.ps=_;rw [ec,m.ab,map_set]
 ·rw [Z] at Y;exact m.rw r (mem_filter.mp Y).1
 ·rcases U d J with z|z
  ·exact m.rp d z p G
  ·subst z
   rcases ps p G with y|⟨r,Y,e⟩
   ·exact m.rp c L p y
   ·rw [e];exact ⟨r.start,m.rw r (W.subset Y)⟩
 ·rcases U d J with z|z
  ·exact m.np d z
  ·rw [z];exact S
 ·have j:=mem_filter.mp ht
  rcases U d J with z|z
  ·exact m.dj t j.1 d z
  ·rw [z,tg];intro y
   rcases mem_append.mp y with y|y
   ·exact m.dj t j.1 c L ((F.map _).subset y)
   ·simp [y] at j
theorem Gu {ps:List (Int×Int)}(L:(ps.map (·.1)).Nodup)(f:Int×Int->Bool):ps.filter (λx=> !decide (x.1∈(ps.filter f).map (·.1)))=ps.filter λx=> !f x:=by
 rwa[List.filter_congr λx j=> ?_];congr 1;by_cases z:f x=true
 ·rw [z];exact decide_eq_true (mem_map.mpr ⟨x,mem_filter.mpr ⟨j,z⟩,rfl⟩)
 ·rw [Bool.not_eq_true] at z;rw [z];rwa[decide_eq_false λy=> ?_];obtain ⟨p,J,e⟩:=mem_map.mp y;obtain ⟨h1,h2⟩:=mem_filter.mp J
  have:p=x:=by
   obtain ⟨a,G,F⟩:=List.getElem_of_mem h1;obtain ⟨b,I,W⟩:=List.getElem_of_mem j
   have R:(ps.map (·.1))[a]'(by rw [length_map];exact G)=(ps.map (·.1))[b]'(by rw [length_map];exact I):=by
    rw [List.getElem_map,List.getElem_map,F,W];exact e
   have:=(getElem_inj L).mp R;subst this;rw [<-F,<-W]
  rw [this] at h2;rw [h2] at z;cases z
theorem FN (ws:List be):ws.filter (λr=> !decide (r.tag∈([]:List be).map (·.tag)))=ws:=List.filter_eq_self.mpr λx _=>by simp
theorem Nb (ws:List Int):ws.filter (λx=> !decide (x∈([]:List be).map (·.tag)))=ws:=List.filter_eq_self.mpr λx _=>by simp
theorem Mt.put {cs0:List Cb}{fi:Bool}{k:Kp}{M M':MS}{i:Nat}{c c':Cb}(m:Mt k M [])(I:M.cs[i]? =some c)(e:M'=cf M (i:Int) c')(F:c'.ps=c.ps):Tr cs0 fi k M M' []:=by
 subst e;rwa[.none (m.like ?_ rfl) rfl];show (M.cs.set ((i:Int)).toNat c').map (·.ps)=_;rw [Int.toNat_natCast]
 exact Eh λd J=>by rw [I] at J;cases J;exact F
theorem Mt.goR {cs0:List Cb}{fi:Bool}{wf:Wf}{hs:Hs}{M M':MS}{i:Nat}{c O:Cb}{l:Lf}{k:Kp}(m:Mt k M [])(hc:atC M (i:Int) c)(U:cs0[i]? =some O)(h1:O.pl=c.pl)(h2:O.dr=c.dr)(hf:M.fire=fi)(ev:0<c.dr->c.pl% 2=0)(h:Hm hs wf M (i:Int) c l M'):Tr cs0 fi k M M' []:=by
 have ad:M.cs[i]? =some c:=by have:=hc.2;rw [Int.toNat_natCast] at this;exact this
 have L:=mem_of_getElem? ad
 have S:k.ab[i]? =some c.ps:=by rw [m.ab,getElem?_map,ad];rfl
 have wt:k.wt=M.ws.map (·.tag):=by have:=m.wt;rw [map_nil,append_nil] at this;exact this
 rcases h with ⟨_,rfl⟩|⟨_,z,rfl⟩|⟨_,z,h⟩
 ·exact .none m rfl
 ·have F:fi=true:=hf.symm.trans z;unfold iA;split
  ·rename_i p0;unfold pf
   have R:gP cs0 fi k ((aT c).map λp=> .step false p.1 (i:Int) 0) {k with ab:=k.ab.set i (c.ps.filter λx=> !decide (x.1∈(aT c).map (·.1)))}:=by
    unfold aT;split
    ·rename_i d0;exact qS U @c @c c.ps S (λp G=>G) (m.np c L) (λp G=>m.rp c L p G) λp _=> .inr ⟨F,rfl⟩
    ·have e:c.ps.filter (λx=> !decide (x.1∈([]:List (Int×Int)).map (·.1)))=c.ps:=List.filter_eq_self.mpr λx _=>by simp
     show {k with ab:=k.ab.set i _}=k;rw [e,fU S]
   have ed:c.ps.filter (λx=> !decide (x.1∈(aT c).map (·.1)))=c.ps.drop (aT c).length:=by
    unfold aT;split
    ·rw [drop_length]
     exact List.filter_eq_nil_iff.mpr λx hx=>by simp;exact ⟨x.2,hx⟩
    ·exact List.filter_eq_self.mpr λx _=>by simp
   rw [ed] at R;have g:=m.gone (M':=cf (jL M "out" ((aT c).map (·.1)) (i:Int) c) (i:Int) ⟨0,0,l.tn,c.mr,c.ps.drop (aT c).length⟩) (i:=i) (c':=⟨0,0,l.tn,c.mr,c.ps.drop (aT c).length⟩) (I:=[]) ad (List.nil_sublist _) (by unfold cf jL;rw [Int.toNat_natCast]) (FN _).symm (c.ps.drop (aT c).length) (List.drop_sublist _ _) @g;rw [Nb] at g;rwa[⟨(aT c).map λp=> .step false p.1 (i:Int) 0,_,?_,R,g,rfl⟩];show M.log++((aT c).map (·.1)).map _=_;rw [map_map,map_map,show c.pl / 2=0 by lia];rfl
  split
  ·exact m.put ad rfl rfl
  ·exact m.put ad rfl rfl
 ·have F:fi=false:=hf.symm.trans z;unfold Dm at h;split at h
  ·rename_i d0;have pe:=ev d0
   have J:O.pl=2*(c.pl / 2):=by lia
   subst h;have os:(c.ps.filter λp=>decide (2*p.2=c.pl)).Sublist c.ps:=List.filter_sublist;have W:=qS (fi:=fi) U @c J (c.ps.filter λp=>decide (2*p.2=c.pl)) S (λp G=>os.subset G) ((m.np c L).sublist (os.map _)) (λp G=>m.rp c L p (os.subset G)) (λp G=> .inl (by have:=of_decide_eq_true (mem_filter.mp G).2;lia));rw [Gu (m.np c L)] at W;have il:=(List.getElem?_eq_some_iff.mp S).1;have j:(aW (i:Int) M).Sublist M.ws:=List.filter_sublist
   have Z: ¬O.dr=0:=by lia
   obtain ⟨I,i1,i2,i3,i4⟩:=vU (so:=hs.so) (room:=l.rm) U Z J (aW (i:Int) M) (k:= {k with ab:=k.ab.set i @ex}) (s:=⟨c.li,b7 c.pl c.ps,[]⟩) (by show (k.ab.set i _)[i]? =_;rw [getElem?_set_self il]) (by have:=m.nw;rw [wt] at this;exact this.sublist (j.map _)) (λr Y=>by show r.tag∈k.wt;rw [wt];exact mem_map.mpr ⟨r,j.subset Y,rfl⟩) (λr Y=>m.rw r (j.subset Y));rw [h1] at i2 i3 i4;have e1:(c6 hs c l (aW (i:Int) M)).ins=I.map (·.tag):=i2;have e2:(c6 hs c l (aW (i:Int) M)).kept=b7 c.pl c.ps++I.map λr=>(r.tag,r.goal):=i3;have e3:({k with ab:=k.ab.set i @ex}:Kp).ab.set i (c6 hs c l (aW (i:Int) M)).kept=k.ab.set i (c6 hs c l (aW (i:Int) M)).kept:=List.set_set _
   have i5:gP cs0 false {k with ab:=k.ab.set i @ex} (I.map λr=> .step true r.tag (i:Int) (c.pl / 2)) {k with wt:=k.wt.filter (λx=> !decide (x∈I.map (·.tag))),ab:=k.ab.set i (c6 hs c l (aW (i:Int) M)).kept}:=by
    rw [<-e3];exact i4
   have g:=m.gone (M':=jP hs M (i:Int) c l (aW (i:Int) M)) (i:=i) (c':=⟨c.pl,(c6 hs c l (aW (i:Int) M)).light,fN l.kd l.tn c.dr (M.bl.testBit ((i:Int)).toNat) (decide (((c5 c.pl c.ps).length:Int)+((c6 hs c l (aW (i:Int) M)).ins.length:Int)>0)),c.mr,(c6 hs c l (aW (i:Int) M)).kept⟩) (I:=I) ad (i1.trans j) (by unfold jP cf jL;rw [Int.toNat_natCast]) (by unfold jP;rw [e1]) @ex List.filter_sublist e2;rw [F] at W ⊢;rwa[⟨_,_,?_,W.app i5,g,rfl⟩];show (M.log++(c5 c.pl c.ps).map _)++(c6 hs c l (aW (i:Int) M)).ins.map _=_;rw [e1,map_append,append_assoc];unfold c5;rw [map_map,map_map,map_map,map_map];rfl
  split at h
  ·exact m.put ad h rfl
  ·obtain ⟨f0,u,d,_,_,_,h⟩:=h;exact m.put ad h rfl
theorem Mt.goN {cs0:List Cb}{hs:Hs}{wf:Wf}{z:MS}{k:Kp}(R:hs.ok)(J:∀fl li he up dn,ia li he up dn->wf fl li he up dn∈cy)(I:∀c∈z.cs,ie hs.fl c)(Y:∀r∈z.ws,fO hs.fl r)(L:z.ws.length<=200)(G:∀(j:Nat) (c:Cb),z.cs[j]? =some c->∃c0:Cb,cs0[j]? =some c0/\c0.pl=c.pl/\c0.dr=c.dr)(m:Mt k z []):∀ {n:Nat} {M':MS},uU hs wf n z M'->Tr cs0 z.fire k z M' []
 |0,M',h=>by
  obtain rfl:M'=z:=h;exact .none m rfl
 |n+1,M',⟨M1,c,l,h1,h2,h3,h4⟩=>by
  obtain ⟨S,_,U,W⟩:=uU.okF R J I Y L h1
  have F:M1.cs[n]? =some c:=by have:=h2.2;rw [Int.toNat_natCast] at this;exact this
  obtain ⟨c0,e0,O,Z⟩:=G n c (by rw [<-W.cs n @f];exact F);exact (Mt.goN R J I Y L G m h1).trans λk' m' _=>m'.goR h2 e0 O Z S ((U c (mem_of_getElem? F)).ev) h4
structure Hn (hs:Hs)(l:Lf)(c:Cb):Prop where
 p0:0<=c.pl
 p1:c.pl<=2*hs.fl - 2
 l0: -1<=c.li
 l1:c.li<=1
 d0:0<=c.dr
 d1:c.dr<=l.tn
 od:c.pl% 2=1->c.li≠0/\c.dr=0
 m0:0<=c.mr
 m3:c.mr<=3
 rm:(c.ps.length:Int)<=l.rm
def G3 (c:Cb):Prop:=∀p∈c.ps,(c.li=1/\c.pl<=2*p.2)\/(c.li= -1/\2*p.2<=c.pl)
structure N3 (hs:Hs)(l:Lf)(b fi:Bool)(c c':Cb):Prop where
 fm:Hn hs l c'
 mv:c.pl≠c'.pl->(c.pl - c'.pl=1\/c.pl - c'.pl= -1)/\ ¬0<c.dr/\ ¬0<c'.dr
 bk:0<c.dr->b=true-> ¬c'.dr=0
 wy:hs.so=s!"way"->fi=false->G3 c->G3 c'
 aw:hs.so=s!"way"->fi=false->G3 c->∀p∈c.ps,p∈c'.ps->(2*p.2 - c'.pl).natAbs<=(2*p.2 - c.pl).natAbs
theorem Hn.mk' {hs:Hs}{l:Lf}{c c':Cb}(f:Hn hs l c)(h1:c'.pl=c.pl)(h2:c'.li=c.li)(L:c'.dr=c.dr)(j:c'.ps=c.ps)(G:0<=c'.mr)(z:c'.mr<=3):Hn hs l c':=⟨by rw [h1];exact f.p0,by rw [h1];exact f.p1,by rw [h2];exact f.l0,by rw [h2];exact f.l1,by rw [L];exact f.d0,by rw [L];exact f.d1,by rw [h1,h2,L];exact f.od,G,z,by rw [j];exact f.rm⟩
theorem N3.stay {hs:Hs}{l:Lf}{b fi:Bool}{c c':Cb}(F:Hn hs l c')(h1:c'.pl=c.pl)(J:0<c.dr->b=true-> ¬c'.dr=0)(j:hs.so=s!"way"->fi=false->G3 c->G3 c'):N3 hs l b fi c c':=⟨F,λz=>absurd h1.symm z,J,j,λ_ _ _ p _ _=>by rw [h1];exact Nat.le_refl _⟩
theorem xi {so:Str}{room pl:Int}:∀(rs:List be) (s:yR),(s.kept.length:Int)<=room->((aR so room pl s rs).kept.length:Int)<=room
 |[],s,h=>h
 |r::rs,s,h=>by
  rwa[xi (so:=so) (room:=room) (pl:=pl) rs @bm ?_];unfold b6;split
  ·rename_i e;unfold ez at e;rw [Bool.and_eq_true,Bool.and_eq_true] at e;have R:(s.kept.length:Int)<room:=of_decide_eq_true e.1.2;show ((s.kept++[_]).length:Int)<=room;rw [length_append,length_singleton];lia
  ·exact h
theorem xh {room pl:Int}{fl:Int}:∀(rs:List be) (s:yR),(∀r∈rs,fO fl r)->(∀p∈s.kept,(s.light=1/\pl<2*p.2)\/(s.light= -1/\2*p.2<pl))->∀p∈(aR "way" room pl s rs).kept,((aR "way" room pl s rs).light=1/\pl<2*p.2)\/((aR "way" room pl s rs).light= -1/\2*p.2<pl)
 |[],s,_,h=>h
 |r::rs,s,hr,h=>by
  rwa[xh (room:=room) (pl:=pl) rs (b6 "way" room pl s r) (λq L=>hr q (.tail _ L)) ?_];have Y:=hr r (.head _);unfold b6;split
  ·rename_i e;unfold ez at e;rw [Bool.and_eq_true,Bool.and_eq_true] at e;have S:2*r.start=pl:=of_decide_eq_true e.1.1
   have j:s.light=0\/s.light=kg r:=by
    rcases of_decide_eq_true e.2 with z|z
    ·exact absurd z @i
    ·exact z
   rw [if_pos rfl];intro p G;have G:p∈s.kept++[(r.tag,r.goal)]:=G;show (kg r=1/\_)\/(kg r= -1/\_);have O:=Y.ne
   rcases mem_append.mp G with z|z
   ·rcases h p z with ⟨y,x⟩|⟨y,x⟩
    ·rcases j with j|j
     ·lia
     ·exact .inl ⟨by lia,x⟩
    ·rcases j with j|j
     ·lia
     ·exact .inr ⟨by lia,x⟩
   ·rw [mem_singleton.mp z];unfold kg;show ((if r.start<r.goal then (1:Int) else -1)=1/\pl<2*r.goal)\/((if r.start<r.goal then (1:Int) else -1)= -1/\2*r.goal<pl);split
    ·exact .inl ⟨rfl,by lia⟩
    ·exact .inr ⟨rfl,by lia⟩
  ·exact h
theorem NN {k:Str}{t n:Int}{b s:Bool}(R:i8 k)(j:1<=t)(I:0<n)(G:n<=t):0<=fN k t n b s/\fN k t n b s<=t/\(b=true-> ¬fN k t n b s=0):=by
 unfold fN;split
 ·exact ⟨by lia,by lia,λ_=>by lia⟩
 ·rename_i z;split
  ·exact ⟨by lia,by lia,λ_=>by lia⟩
  ·rename_i y;rwa[⟨by lia,by lia,λF=> ?_⟩]
   rcases R with e|e|e
   ·exact absurd (.inl ⟨e,F⟩) z
   ·exact absurd ⟨e,F⟩ y
   ·exact absurd (.inr ⟨e,.inl F⟩) z
theorem DA {pl li:Int}{ps:List (Int×Int)}{F:Str}(G:ps≠[]){x:Str}(e:bN "way" pl li ps F=x):(x=s!"u"-> ¬li<0/\∀p∈ps,2*p.2≠pl)/\(x=s!"d"-> ¬0<li/\∀p∈ps,2*p.2≠pl)/\x≠s!"x":=by
 unfold bN at e;rw [if_neg (λz=>by rcases z with z|z;exact absurd z @i;exact G z)] at e;split at e
 ·subst e;exact ⟨λz=>absurd z @i,λz=>absurd z @i,by decide+kernel⟩
 rename_i j;have ah:∀p∈ps,2*p.2≠pl:=λp G z=>j (any_eq_true.mpr ⟨p,G,decide_eq_true z⟩);split at e
 ·subst e;exact ⟨λz=>absurd z @i,λz=>absurd z @i,by decide+kernel⟩
 rename_i I;split at e
 ·subst e;exact ⟨λz=>absurd z @i,λz=>absurd z @i,by decide+kernel⟩
 rename_i J;subst e;exact ⟨λz=>⟨λy=>J (.inl ⟨z,y⟩),ah⟩,λz=>⟨λy=>J (.inr ⟨z,y⟩),ah⟩,I⟩
theorem N3.byW {hs:Hs}{l:Lf}{b fi:Bool}{c:Cb}{L:Str}{f0:Nat}(f2:2<=hs.fl)(t1:1<=l.tn)(f:Hn hs l c)(e:c.pl=2*(f0:Int))(I: ¬0<c.dr)(hw:L∈cy):N3 hs l b fi c (qj hs l c L):=by
 have h5:=NJ (jv (so:=hs.so) (pl:=c.pl) (li:=c.li) (ps:=c.ps) hw);have p0:=f.p0;have p1:=f.p1;have l0:=f.l0;have l1:=f.l1;have S:=f.d0;have U:=f.d1
 have Y:hs.so=s!"way"->c.ps≠[]->(bN hs.so c.pl c.li c.ps L=s!"u"-> ¬c.li<0/\∀p∈c.ps,2*p.2≠c.pl)/\(bN hs.so c.pl c.li c.ps L=s!"d"-> ¬0<c.li/\∀p∈c.ps,2*p.2≠c.pl)/\bN hs.so c.pl c.li c.ps L≠s!"x":=λz y=>by
  rw [z];exact DA y rfl
 have O: -1<=(if c.ps=[] then (0:Int) else c.li)/\(if c.ps=[] then (0:Int) else c.li)<=1:=by split<;>lia
 have F:G3 c->∀p∈c.ps,((if c.ps=[] then (0:Int) else c.li)=1/\c.pl<=2*p.2)\/((if c.ps=[] then (0:Int) else c.li)= -1/\2*p.2<=c.pl):=λw p G=>by
  rw [if_neg @cG];exact w p G
 unfold qj;generalize bN hs.so c.pl c.li c.ps L=x at h5 Y;have j:∀J W,-1<=J->J<=1->0<=W->W<=l.tn->(hs.so=s!"way"->G3 c->∀p∈c.ps,(J=1/\c.pl<=2*p.2)\/(J= -1/\2*p.2<=c.pl))->N3 hs l b fi c ⟨c.pl,J,W,c.mr,c.ps⟩:=λJ W a1 a2 a3 a4 a5=> .stay ⟨p0,p1,a1,a2,a3,a4,λz=>by have z:c.pl% 2=1:=z;lia,f.m0,f.m3,f.rm⟩ rfl (λz=>absurd z I) λh _ w=>a5 h w
 rcases h5 with rfl|rfl|rfl|rfl|rfl
 ·rw [GE];exact j c.li l.tn l0 l1 @c @c λ_ w=>w
 ·rw [Gz];exact j 0 l.tn @c @c @c @c λh w p G=>absurd rfl (Y h @cG).2.2
 ·by_cases z:c.pl / 2<hs.fl - 1
  ·rw [As z]
   have R:hs.so=s!"way"->G3 c->∀p∈c.ps,c.li=1/\c.pl<2*p.2:=λh w p G=>by
    obtain ⟨y1,y2⟩:=(Y h @cG).1 rfl;have:=y2 p G
    rcases w p G with ⟨a,Z⟩|⟨a,Z⟩
    ·exact ⟨a,by lia⟩
    ·lia
   exact ⟨⟨by show 0<=c.pl+1;lia,by show c.pl+1<=_;lia,by show (-1:Int)<=1;decide,by show (1:Int)<=1;decide,S,U,λ_=>⟨by show ¬(1:Int)=0;decide,by show c.dr=0;lia⟩,f.m0,f.m3,f.rm⟩,λ_=>⟨.inr (by show c.pl - (c.pl+1)= -1;lia),I,I⟩,λy=>absurd y I,λh _ w p G=> .inl ⟨rfl,by have:=(R h w p G).2;show c.pl+1<=_;lia⟩,λh _ w p G _=>by have:=(R h w p G).2;show (2*p.2 - (c.pl+1)).natAbs<=_;lia⟩
  ·rw [At z];exact j _ _ O.1 O.2 S U λ_ w=>F w
 ·by_cases z:0<c.pl
  ·rw [Au z]
   have R:hs.so=s!"way"->G3 c->∀p∈c.ps,c.li= -1/\2*p.2<c.pl:=λh w p G=>by
    obtain ⟨y1,y2⟩:=(Y h @cG).2.1 rfl;have:=y2 p G
    rcases w p G with ⟨a,Z⟩|⟨a,Z⟩
    ·lia
    ·exact ⟨a,by lia⟩
   exact ⟨⟨by show 0<=c.pl - 1;lia,by show c.pl - 1<=_;lia,by show (-1:Int)<= -1;decide,by show (-1:Int)<=1;decide,S,U,λ_=>⟨by show ¬(-1:Int)=0;decide,by show c.dr=0;lia⟩,f.m0,f.m3,f.rm⟩,λ_=>⟨.inl (by show c.pl - (c.pl - 1)=1;lia),I,I⟩,λy=>absurd y I,λh _ w p G=> .inr ⟨rfl,by have:=(R h w p G).2;show _<=c.pl - 1;lia⟩,λh _ w p G _=>by have:=(R h w p G).2;show (2*p.2 - (c.pl - 1)).natAbs<=_;lia⟩
  ·rw [Av z];exact j _ _ O.1 O.2 S U λ_ w=>F w
 ·rw [GD];exact j _ _ O.1 O.2 S U λ_ w=>F w
theorem Hm.stp {hs:Hs}{wf:Wf}{M M':MS}{i:Nat}{c:Cb}{l:Lf}(h:Hm hs wf M (i:Int) c l M')(hc:M.cs[i]? =some c)(f2:2<=hs.fl)(W:1<=l.rm/\l.rm<=6/\1<=l.tn/\l.tn<=4/\i8 l.kd)(f:Hn hs l c)(Z:ie hs.fl c)(hw:∀fl li he up dn,ia li he up dn->wf fl li he up dn∈cy)(hr:∀r∈M.ws,fO hs.fl r):M'.fire=M.fire/\M'.bl=M.bl/\∃c',M'.cs=M.cs.set i c'/\N3 hs l (M.bl.testBit i) M.fire c c':=by
 have I:((i:Int)).toNat=i:=Int.toNat_natCast i;have L:=f.p0;have U:=f.p1;have J:=f.l0;have R:=f.l1;have d0:=f.d0;have d1:=f.d1;have Y:=W.2.2.1
 rcases h with ⟨_,rfl⟩|⟨_,O,rfl⟩|⟨_,O,h⟩
 ·exact ⟨rfl,rfl,c,(fU hc).symm,.stay f rfl (λh _=>by lia) λ_ _ w=>w⟩
 ·have j:∀ {A:Prop},M.fire=false->A:=λz=>by rw [O] at z;cases z
  unfold iA;split
  ·rename_i z;rwa[⟨rfl,rfl,⟨0,0,l.tn,c.mr,c.ps.drop (aT c).length⟩,by unfold pf cf jL;rw [I],.stay ⟨by show (0:Int)<=0;decide,by show (0:Int)<=_;lia,by show (-1:Int)<=0;decide,by show (0:Int)<=1;decide,by show 0<=l.tn;lia,Int.le_refl _,λy=>absurd y (by show ¬(0:Int)% 2=1;decide),f.m0,f.m3,?_⟩ z.symm (λ_ _=>by show ¬l.tn=0;lia) λ_ y _=>j y⟩];have:=f.rm;show ((c.ps.drop _).length:Int)<=_;rw [length_drop];lia
  split
  ·rename_i z1 S;rwa[⟨rfl,rfl,⟨c.pl,c.li,if M.bl.testBit i=true then c.dr else 0,c.mr,c.ps⟩,by unfold cf;rw [I],.stay ⟨L,U,J,R,by show 0<=ite _ _ _;split<;>lia,by show ite _ _ _<=_;split<;>lia,λy=> ?_,f.m0,f.m3,f.rm⟩ rfl (λ_ y=>by show ¬ite _ _ _=0;rw [if_pos y];lia) λ_ y _=>j y⟩];have:=f.od y;lia
  ·rename_i z1 S;exact ⟨rfl,rfl,⟨c.pl - 1,-1,0,c.mr,c.ps⟩,by unfold cf;rw [I],⟨by show 0<=c.pl - 1;lia,by show c.pl - 1<=_;lia,by show (-1:Int)<= -1;decide,by show (-1:Int)<=1;decide,Int.le_refl _,by show (0:Int)<=l.tn;lia,λ_=>⟨by show ¬(-1:Int)=0;decide,rfl⟩,f.m0,f.m3,f.rm⟩,λ_=>⟨.inl (by show c.pl - (c.pl - 1)=1;lia),S,by show ¬(0:Int)<0;decide⟩,λy=>absurd y S,λ_ y _=>j y,λ_ y _=>j y⟩
 ·unfold Dm at h;split at h
  ·rename_i z;subst h;have aA:∀r∈aW (i:Int) M,fO hs.fl r:=λr aj=>hr r (by unfold aW at aj;exact (mem_filter.mp aj).1);have kp:∀p∈b7 c.pl c.ps,0<=p.2/\p.2<hs.fl:=λp G=>Z.gs p (mem_filter.mp G).1;have st:=qi (so:=hs.so) (pl:=c.pl) (fl:=hs.fl) (show l.rm<=200 by lia) (aW (i:Int) M) ⟨c.li,b7 c.pl c.ps,[]⟩ ⟨J,R⟩ (Nat.le_trans @Y Z.len) kp aA;have rm:=xi (so:=hs.so) (room:=l.rm) (pl:=c.pl) (aW (i:Int) M) ⟨c.li,b7 c.pl c.ps,[]⟩ (by have:=f.rm;have k2:(b7 c.pl c.ps).length<=c.ps.length:=length_filter_le _ _;show ((b7 c.pl c.ps).length:Int)<=_;lia);have F:=NN (k:=l.kd) (b:=M.bl.testBit ((i:Int)).toNat) (s:=decide (((c5 c.pl c.ps).length:Int)+((c6 hs c l (aW (i:Int) M)).ins.length:Int)>0)) W.2.2.2.2 Y z d1;rwa[⟨rfl,rfl,⟨c.pl,(c6 hs c l (aW (i:Int) M)).light,fN l.kd l.tn c.dr (M.bl.testBit ((i:Int)).toNat) (decide (((c5 c.pl c.ps).length:Int)+((c6 hs c l (aW (i:Int) M)).ins.length:Int)>0)),c.mr,(c6 hs c l (aW (i:Int) M)).kept⟩,by unfold jP cf jL;rw [I],.stay ⟨L,U,st.1.1,st.1.2,F.1,F.2.1,λy=> ?_,f.m0,f.m3,rm⟩ rfl (λ_ y=>F.2.2 (by rw [I];exact y)) λh _ w=> ?_⟩]
   ·have:=f.od y;lia
   ·have:=xh (room:=l.rm) (pl:=c.pl) (aW (i:Int) M) ⟨c.li,b7 c.pl c.ps,[]⟩ aA (λp G=>by
     obtain ⟨h1,h2⟩:=mem_filter.mp G
     have h2:2*p.2≠c.pl:=by simpa using h2
     rcases w p h1 with ⟨a,b⟩|⟨a,b⟩
     ·exact .inl ⟨a,by lia⟩
     ·exact .inr ⟨a,by lia⟩)
    intro p G;have G:p∈(aR hs.so l.rm c.pl ⟨c.li,b7 c.pl c.ps,[]⟩ (aW (i:Int) M)).kept:=G;rw [h] at G;show ((aR hs.so l.rm c.pl ⟨c.li,b7 c.pl c.ps,[]⟩ (aW (i:Int) M)).light=1/\_)\/((aR hs.so l.rm c.pl ⟨c.li,b7 c.pl c.ps,[]⟩ (aW (i:Int) M)).light= -1/\_);rw [h]
    rcases this p G with ⟨a,b⟩|⟨a,b⟩
    ·exact .inl ⟨a,Int.le_of_lt b⟩
    ·exact .inr ⟨a,Int.le_of_lt b⟩
  ·rename_i z;split at h
   ·rename_i y;obtain ⟨o1,o2⟩:=f.od y;subst h;rwa[⟨rfl,rfl,⟨c.pl+c.li,c.li,0,c.mr,c.ps⟩,by unfold cf;rw [I],⟨by show 0<=c.pl+c.li;lia,by show c.pl+c.li<=_;lia,J,R,Int.le_refl _,by show (0:Int)<=l.tn;lia,λx=>by have x:(c.pl+c.li)% 2=1:=x;lia,f.m0,f.m3,f.rm⟩,λ_=>⟨by show c.pl - (c.pl+c.li)=1\/c.pl - (c.pl+c.li)= -1;lia,z,by show ¬(0:Int)<0;decide⟩,λx=>absurd x z,λ_ _ w p G=> ?_,λ_ _ w p G _=> ?_⟩]
    ·show (c.li=1/\c.pl+c.li<=_)\/(c.li= -1/\_<=c.pl+c.li)
     rcases w p G with ⟨a,b⟩|⟨a,b⟩<;>lia
    ·show (2*p.2 - (c.pl+c.li)).natAbs<=_
     rcases w p G with ⟨a,b⟩|⟨a,b⟩<;>lia
   ·obtain ⟨f0,u,d,e,hu,hd,rfl⟩:=h;rwa[⟨rfl,rfl,_,by unfold cf;rw [I],.byW f2 Y f e z (hw _ _ _ _ _ ?_)⟩];exact ⟨J,R,wc.1,wc.2,by rcases hu with ⟨h,_⟩|⟨h,_⟩<;>lia,by rcases hd with ⟨h,_⟩|⟨h,_⟩<;>lia⟩
theorem uU.stp {hs:Hs}{wf:Wf}{z:MS}(R:hs.ok)(O:∀fl li he up dn,ia li he up dn->wf fl li he up dn∈cy)(I:∀c∈z.cs,ie hs.fl c)(Y:∀r∈z.ws,fO hs.fl r)(W:z.ws.length<=200)(hf:∀(j:Nat) (c:Cb) (l:Lf),z.cs[j]? =some c->hs.ls[j]? =some l->Hn hs l c):∀ {n:Nat} {M':MS},uU hs wf n z M'->M'.fire=z.fire/\M'.bl=z.bl/\M'.cs.length=z.cs.length/\∀(j:Nat) (c:Cb) (l:Lf),z.cs[j]? =some c->hs.ls[j]? =some l->j<n->∃c',M'.cs[j]? =some c'/\N3 hs l (z.bl.testBit j) z.fire c c'
 |0,M',h=>by
  obtain rfl:M'=z:=h;exact ⟨rfl,rfl,rfl,λj c l _ _ h=>absurd h (Nat.not_lt_zero _)⟩
 |n+1,M',⟨M1,c,l,h1,h2,h3,h4⟩=>by
  obtain ⟨i1,i2,i3,i4⟩:=uU.stp R O I Y W hf h1;obtain ⟨_,_,c1,U⟩:=uU.okF R O I Y W h1
  have J:M1.cs[n]? =some c:=by have:=h2.2;rw [Int.toNat_natCast] at this;exact this
  have G:z.cs[n]? =some c:=by rw [<-U.cs n @f];exact J
  obtain ⟨g1,g2,c',L,Z⟩:=h4.stp J R.f2 (R.lf l (mem_of_getElem? h3)) (hf n c l G h3) (c1 c (mem_of_getElem? J)) O λr aj=>Y r (U.ws r aj);rw [i1,i2] at Z;rwa[⟨g1.trans i1,g2.trans i2,by rw [L,length_set];exact i3,λj d l' S F hj=> ?_⟩];by_cases e:j=n
  ·subst e;rw [G] at S;cases S;rw [h3] at F;cases F;exact ⟨c',by rw [L,getElem?_set_self (List.getElem?_eq_some_iff.mp J).1],Z⟩
  ·obtain ⟨d',e1,e2⟩:=i4 j d l' S F @c;exact ⟨d',by rw [L,getElem?_set_ne @c];exact e1,e2⟩
theorem KZ {fl:Int}{n:Nat}:∀ {ds:List Dd} {ts:List Int},tM fl n ts ds->(ds.flatMap eN).Nodup/\∀t∈ds.flatMap eN,t∉ts
 |[],_,_=>⟨List.nodup_nil,λt h=>nomatch h⟩
 |d::ds,ts,⟨_,h2,h3⟩=>by
  obtain ⟨G,j⟩:=KZ h3;rw [flatMap_cons];rwa[⟨nodup_append.mpr ⟨?_,G,λa F b I z=> ?_⟩,λt J=> ?_⟩]
  ·cases d with
   |come t s g k=>exact nodup_cons.mpr ⟨not_mem_nil,List.nodup_nil⟩
   |lf x i=>exact List.nodup_nil
   |sg x=>exact List.nodup_nil
  ·subst z;exact j a I (mem_append_right _ F)
  ·rcases mem_append.mp J with z|z
   ·exact h2 t z
   ·exact λy=>j t z (mem_append_left _ y)
theorem jS (ds:List Dd):(ds.flatMap dH).map (·.1)=ds.flatMap eN:=by
 rw [List.map_flatMap];rwa[congrArg (λf=>List.flatMap f ds) (funext λd=> ?_)];cases d<;>rfl
structure Dn (S M:MS):Prop where
 len:M.cs.length=S.cs.length
 cs:∀(j:Nat) (c:Cb),M.cs[j]? =some c->∃c0:Cb,S.cs[j]? =some c0/\c.pl=c0.pl/\c.li=c0.li/\c.dr=c0.dr/\c.ps=c0.ps/\0<=c.mr/\c.mr<=3
 fi:M.fire=false->S.fire=false\/∀c∈S.cs,c.ps=[]
 fw:M.fire=true->M.ws=[]
theorem Dn.set {S M:MS}(h:Dn S M){i:Int}{k:Int}{ws:List be}(k0:0<=k)(k3:k<=3)(J:M.ws=[]->ws=[]):Dn S {M with cs:=M.cs.set i.toNat {dR M i with mr:=k},ws:=ws}:=by
 rwa[⟨by rw [length_set];exact h.len,λj c I=> ?_,h.fi,λz=>J (h.fw z)⟩];have I:(M.cs.set i.toNat {dR M i with mr:=k})[j]? =some c:=I;rw [List.getElem?_set] at I;split at I
 ·rename_i e;split at I
  ·rename_i hi;cases I
   have W:M.cs[i.toNat]? =some @dN:=by
    unfold dR;rw [getD_eq_getElem?_getD,getElem?_eq_getElem hi];rfl
   obtain ⟨O,G,R,Z,U,F,_⟩:=h.cs _ _ W;exact ⟨O,by rw [<-e];exact G,R,Z,U,F,k0,k3⟩
  ·cases I
 ·exact h.cs j c I
theorem KW {m:Nat}{k:Nat}(h:m<=3)(R:k<=1):m|||2^k<=3:=by
 have:m|||2^k<2^2:=Nat.or_lt_two_pow @c (by rcases (show k=0\/k=1 by lia) with rfl|rfl<;>decide)
 lia
theorem Bb (m k:Nat):rz m k<=m:=by
 unfold rz;split
 ·exact Nat.sub_le _ _
 ·exact Nat.le_refl _
theorem Dn.deed {S M:MS}{lo:Nat}{d:Dd}(h:Dn S M)(J:d.ok):Dn S @fI:=by
 have R:∀i,0<=(dR M i).mr/\(dR M i).mr<=3:=λi=>by
  unfold dR;rw [getD_eq_getElem?_getD]
  cases e:M.cs[i.toNat]? with
  |none=>exact ⟨Int.le_refl _,by show (0:Int)<=3;decide⟩
  |some c=>obtain ⟨_,_,_,_,_,_,z⟩:=h.cs _ _ e;exact z
 have I:∀i,M.ws=[]->fk i M.ws=[]:=λi e=>by rw [e];rfl
 cases d with
 |come t s g k=>
  show Dn S @gP;unfold fI;split
  ·exact ⟨h.len,h.cs,h.fi,h.fw⟩
  split
  ·exact ⟨h.len,h.cs,h.fi,h.fw⟩
  ·rename_i z;exact ⟨h.len,h.cs,h.fi,λy=>absurd y z⟩
 |lf x i=>
  have g:=R i
  rcases J with rfl|rfl|rfl|rfl|rfl
  ·rw [gk];exact ⟨h.len,h.cs,h.fi,h.fw⟩
  ·rw [ge];exact h.set @c (by have:=KW (m:=(dR M i).mr.toNat) (k:=0) @c @b;lia) (I i)
  ·rw [iB];exact h.set @c (by have:=Bb (dR M i).mr.toNat 0;lia) id
  ·rw [gh];exact h.set @c (by have:=KW (m:=(dR M i).mr.toNat) (k:=1) @c @b;lia) (I i)
  ·rw [iF];exact h.set @c (by have:=Bb (dR M i).mr.toNat 1;lia) id
 |sg x=>
  rcases J with rfl|rfl
  ·rw [iC];exact ⟨h.len,h.cs,(λz=>by cases z),λ_=>rfl⟩
  ·rw [iE];unfold kI;split
   ·rename_i z;rwa[⟨h.len,h.cs,λ_=> .inr λc L=> ?_,λz=>by cases z⟩];obtain ⟨j,Z,e⟩:=List.getElem_of_mem L
    have F:j<M.cs.length:=by rw [h.len];exact Z
    obtain ⟨U,G,_,_,_,O,_⟩:=h.cs j _ (getElem?_eq_getElem F);rw [getElem?_eq_getElem Z,e] at G;cases G;have:=all_eq_true.mp z _ (getElem_mem F);unfold jM at this;rw [Bool.and_eq_true,Bool.and_eq_true] at this;rw [<-O];exact of_decide_eq_true this.2
   ·exact h
theorem Dn.deeds {S:MS}{lo:Nat}:∀ {ds:List Dd} {M:MS},Dn S M->(∀d∈ds,d.ok)->Dn S @gy
 |[],_,h,_=>h
 |d::ds,M,h,hd=>Dn.deeds (ds:=ds) (h.deed (lo:=lo) @dO) λe j=>hd e (.tail _ j)
theorem By {lo:Nat}{M:MS}{d:Dd}{j:Nat}(J:d.ok)(h:M.bl.testBit j=true\/d= .lf "block" (j:Int)):(bX lo M d).bl.testBit j=true:=by
 cases d with
 |come t s g k=>
  have h:M.bl.testBit j=true:=h.elim id λz=>by cases z
  show (fI lo M t s g k).bl.testBit j=true;unfold fI;split
  ·exact h
  split
  ·exact h
  ·exact h
 |lf x i=>
  have G:x≠s!"block"->M.bl.testBit j=true:=λz=>h.elim id λy=>by cases y;exact absurd rfl z
  rcases J with rfl|rfl|rfl|rfl|rfl
  ·rw [gk];show (M.bl|||2^i.toNat).testBit j=true;rw [Nat.testBit_or,Bool.or_eq_true]
   rcases h with h|h
   ·exact .inl h
   ·cases h;rw [Int.toNat_natCast];exact .inr (Nat.testBit_two_pow_self)
  ·rw [ge];exact G @i
  ·rw [iB];exact G @i
  ·rw [gh];exact G @i
  ·rw [iF];exact G @i
 |sg x=>
  have h':M.bl.testBit j=true:=h.elim id λz=>by cases z
  rcases J with rfl|rfl
  ·rw [iC];exact h'
  ·rw [iE];unfold kI;split<;>exact h'
theorem yz {lo:Nat}{j:Nat}:∀ {ds:List Dd} {M:MS},(∀d∈ds,d.ok)->(M.bl.testBit j=true\/ .lf "block" (j:Int)∈ds)->(ay lo M ds).bl.testBit j=true
 |[],M,_,h=>h.elim id λz=>nomatch z
 |d::ds,M,hd,h=>by
  rwa[yz (ds:=ds) (M:=bX lo M d) (λe S=>hd e (.tail _ S)) ?_]
  rcases h with h|h
  ·exact .inl (By @dO (.inl h))
  ·cases h with
   |head=>exact .inl (By (hd _ (.head _)) (.inr rfl))
   |tail _ h=>exact .inr h
theorem yA {dl:wP}{W:List be}{M:MS}:∀i,(aZ dl W i M).bl=M.bl
 |0=>rfl
 |i+1=>by
  have j:=yA (dl:=dl) (W:=W) (M:=M) i;unfold aZ;split
  ·split
   ·unfold gK;split<;>exact j
   ·exact j
  ·exact j
structure Sf (hs:Hs)(T:List Int)(n:Nat)(S:MS)(k:Kp):Prop where
 r:Sr hs T n S
 m:Mt k S []
 fm:∀(j:Nat) (c:Cb) (l:Lf),S.cs[j]? =some c->hs.ls[j]? =some l->Hn hs l c
 wy:hs.so=s!"way"->S.fire=false->∀c∈S.cs,G3 c
 kt:∀x∈k.rd,x.1∈T
 fw:S.fire=true->S.ws=[]
def Kp.more (k:Kp)(ds:List Dd):Kp:=⟨k.rd++ds.flatMap dH,k.wt++(ds.flatMap dH).map (·.1),k.ab⟩
structure Mv (hs:Hs)(ds:List Dd)(fi:Bool)(j:Nat)(c c':Cb):Prop where
 mv:c.pl≠c'.pl->(c.pl - c'.pl=1\/c.pl - c'.pl= -1)/\ ¬0<c.dr/\ ¬0<c'.dr
 bk:0<c.dr-> .lf "block" (j:Int)∈ds-> ¬c'.dr=0
 aw:hs.so=s!"way"->fi=false->∀p∈c.ps,p∈c'.ps->(2*p.2 - c'.pl).natAbs<=(2*p.2 - c.pl).natAbs
theorem Mt.more {hs:Hs}{T:List Int}{n:Nat}{S:MS}{k:Kp}{ds:List Dd}(h:Sf hs T n S k)(D:yL hs T ds):Mt @fK S.st @gX:=by
 obtain ⟨L,Y⟩:=KZ (D.gd T λt h=>h);have m:=h.m
 have O:k.wt=S.ws.map (·.tag):=by have:=m.wt;rw [map_nil,append_nil] at this;exact this
 have R:∀t∈k.wt,t∈T:=λt J=>h.r.tg t (by rw [O] at J;exact mem_append_left _ J);have Z:∀c∈S.cs,∀t∈c.ps.map (·.1),t∈T:=λc I t J=>h.r.tg t (mem_append_right _ (mem_flatMap.mpr ⟨c,I,J⟩));rwa[⟨by show k.wt++_=_;rw [O];rfl,m.ab,λr W=>mem_append_left _ (m.rw r W),λx j=>mem_append_right _ j,λc I p U=>(m.rp c I p U).imp λs z=>mem_append_left _ z,?_,?_,m.np,λt J c I=> ?_⟩]
 ·show ((k.rd++ds.flatMap dH).map (·.1)).Nodup;rw [map_append,jS];rwa[nodup_append.mpr ⟨m.nd,L,λa F b G z=> ?_⟩];subst z;obtain ⟨x,j,rfl⟩:=mem_map.mp F;exact Y _ G (h.kt x j)
 ·show (k.wt++(ds.flatMap dH).map (·.1)).Nodup;rw [jS];exact nodup_append.mpr ⟨m.nw,L,λa F b G z=>by subst z;exact Y _ G (R a F)⟩
 ·have J:t∈k.wt++(ds.flatMap dH).map (·.1):=J;rw [jS] at J
  rcases mem_append.mp J with z|z
  ·exact m.dj t z c I
  ·exact λy=>Y t z (Z c I t y)
theorem Sf.turn {hs:Hs}{T:List Int}{n:Nat}{S:MS}{k:Kp}{ds:List Dd}{wf:Wf}{dk:Dk}{M':MS}(h:Sf hs T n S k)(hk:hs.ok)(D:yL hs T ds)(ac:n<=150)(hw:∀fl li he up dn,ia li he up dn->wf fl li he up dn∈cy)(G:G4 hs wf dk S ds M'):∃L k',M'.log=L.map Rw.d/\gP S.cs M'.fire @fK L k'/\Sf hs (T++ds.flatMap eN) (n+2) M' k'/\k'.rd=(k.more ds).rd/\∀(j:Nat) (c c':Cb),S.cs[j]? =some c->M'.cs[j]? =some c'->Mv hs ds M'.fire j c c':=by
 obtain ⟨R',_⟩:=h.r.turn hk D ac hw G;have am:=rL (D.gd @fQ h.r.tg);have mo:=h.r.mok.deeds (ds:=ds) (λd hd=>⟨D.ok d hd,am d hd⟩) ds.length;rw [take_of_length_le @f] at mo;have ao:=h.r.w;have an:=D.len;have ap:=D.two;obtain ⟨w1,U⟩:=mV (lo:=hs.lo) (ds:=ds) (M:=S.st);have w1:(ay hs.lo S.st ds).ws.length<=S.ws.length+(ds.flatMap eN).length:=w1;have U:(ay hs.lo S.st ds).last=S.last:=U
 have dn:Dn S @t:=Dn.deeds ⟨rfl,λj c I=>by
  have I:S.cs[j]? =some c:=I
  have O:j<hs.ls.length:=by rw [<-h.r.len];exact (List.getElem?_eq_some_iff.mp I).1
  have f:=h.fm j c _ I (getElem?_eq_getElem O)
  exact ⟨c,I,rfl,rfl,rfl,rfl,f.m0,f.m3⟩,λz=> .inl z,h.fw⟩ D.ok
 have ai:Tr S.cs M'.fire @fK S.st @t []:=(Mt.more h D).deeds D.ok
 have ag:∀j:Nat,.lf "block" (j:Int)∈ds->(dZ @cU @t).bl.testBit j=true:=λj hj=>by
  have:=yz (lo:=hs.lo) (j:=j) (ds:=ds) (M:=S.st) D.ok (.inr hj);unfold dZ;split
  ·exact this
  ·rw [yA];exact this
 have dl:=eV (dl:=gJ dk) (W:=(ay hs.lo S.st ds).ws) (M:=ay hs.lo S.st ds) (ay hs.lo S.st ds).ws.length;have ah:=gp (dl:=gJ dk) @cQ (W:=(ay hs.lo S.st ds).ws) (M:=ay hs.lo S.st ds) (by rw [U];exact h.r.l0) (ay hs.lo S.st ds).ws.length
 have aW:(dZ @cU @t).cs=(ay hs.lo S.st ds).cs/\(dZ @cU @t).fire=(ay hs.lo S.st ds).fire/\(∀r∈(dZ @cU @t).ws,fO hs.fl r)/\(dZ @cU @t).ws.length=(ay hs.lo S.st ds).ws.length:=by
  unfold dZ;split
  ·exact ⟨rfl,rfl,mo.ws,rfl⟩
  ·exact ⟨dl.2.1,ah.2,(mo.deals (dl:=gJ dk) mo.ws _).ws,dl.1⟩
 have ae:∀k',Mt k' @t []->Tr S.cs M'.fire k' @t (dZ @cU @t) []:=λk' m'=>(m'.mid (dk:=dk) (by rw [U];exact h.r.l0) dn.len).1;have G':uU hs wf hs.ls.length (dZ @cU @t) M':=G;generalize dZ @cU @t=J at G' aW ae ag;generalize ay hs.lo S.st ds=M1 at *;obtain ⟨q1,q2,q3,q4⟩:=aW
 have ab:∀c∈J.cs,ie hs.fl c:=by rw [q1];exact mo.cs
 have w2:J.ws.length<=200:=by lia
 have aj:∀(j:Nat) (c:Cb) (l:Lf),J.cs[j]? =some c->hs.ls[j]? =some l->Hn hs l c:=λj c l I hl=>by
  rw [q1] at I;obtain ⟨c0,R,Y,a3,a4,a5,a6,a7⟩:=dn.cs j c I;exact (h.fm j c0 l R hl).mk' Y a3 a4 a5 a6 a7
 obtain ⟨g1,g2,g3,g4⟩:=uU.stp hk hw ab q3 w2 aj G'
 have af:hs.so=s!"way"->J.fire=false->∀(j:Nat) (c:Cb),J.cs[j]? =some c->G3 c:=λad F j c I=>by
  rw [q1] at I;obtain ⟨c0,R,Y,a3,a4,a5,a6,a7⟩:=dn.cs j c I
  rcases dn.fi (by rw [<-q2];exact F) with z|z
  ·have:=h.wy ad z c0 (mem_of_getElem? R);intro p hp;rw [a5] at hp;rw [Y,a3];exact this p hp
  ·intro p hp;rw [a5,z c0 (mem_of_getElem? R)] at hp;cases hp
 have al:∀k',Mt k' J []->Tr S.cs M'.fire k' J M' []:=λk' m'=>by
  rw [g1]
  exact Mt.goN hk hw ab q3 w2 (λj c I=>by
   rw [q1] at I;obtain ⟨c0,R,Y,_,a4,_⟩:=dn.cs j c I
   exact ⟨c0,R,Y.symm,a4.symm⟩) m' G'
 obtain ⟨L,k',e1,r1,m1,d1⟩:=(ai.trans λk' m' _=>ae k' m').trans λk' m' _=>al k' m';have aa:∀(j:Nat) (c:Cb),S.cs[j]? =some c->∃l,hs.ls[j]? =some l:=λj c I=>⟨_,getElem?_eq_getElem (by rw [<-h.r.len];exact (List.getElem?_eq_some_iff.mp I).1)⟩
 have Z:J.cs.length=S.cs.length:=by rw [q1];exact dn.len
 rwa[⟨L,k',e1,r1,⟨R',m1,λj c l I hl=> ?_,λad F c I=> ?_,λx hx=> ?_,λF=> ?_⟩,d1,λj c c' I ak=> ?_⟩]
 ·have O:j<J.cs.length:=by rw [<-g3];exact (List.getElem?_eq_some_iff.mp I).1
  obtain ⟨c',e2,st⟩:=g4 j _ l (getElem?_eq_getElem O) hl (List.getElem?_eq_some_iff.mp hl).1;rw [I] at e2;cases e2;exact st.fm
 ·obtain ⟨j,hj,e⟩:=List.getElem_of_mem I
  have O:j<J.cs.length:=by rw [<-g3];exact hj
  have jh:j<hs.ls.length:=by rw [<-h.r.len,<-Z];exact O
  obtain ⟨c',e2,st⟩:=g4 j _ _ (getElem?_eq_getElem O) (getElem?_eq_getElem jh) jh;rw [getElem?_eq_getElem hj,e] at e2;cases e2;exact st.wy ad (by rw [<-g1];exact F) (af ad (by rw [<-g1];exact F) j _ (getElem?_eq_getElem O))
 ·rw [d1] at hx
  rcases mem_append.mp hx with z|z
  ·exact mem_append_left _ (h.kt x z)
  ·exact mem_append_right _ (by rw [<-jS];exact mem_map.mpr ⟨x,z,rfl⟩)
 ·have:=dn.fw (by rw [<-q2,<-g1];exact F);have z:J.ws=[]:=List.eq_nil_of_length_eq_zero (by rw [q4,this];rfl);obtain ⟨_,_,_,a⟩:=uU.okF hk hw ab q3 w2 G';have:=a.wl;rw [z] at this;exact List.eq_nil_of_length_eq_zero (Nat.le_zero.mp this)
 ·have O:j<J.cs.length:=by rw [Z];exact (List.getElem?_eq_some_iff.mp I).1
  obtain ⟨l,hl⟩:=aa j c I;obtain ⟨c2,e2,st⟩:=g4 j _ l (getElem?_eq_getElem O) hl (List.getElem?_eq_some_iff.mp hl).1;rw [ak] at e2;cases e2
  have h2:M1.cs[j]? =some J.cs[j]:=by rw [<-q1];exact getElem?_eq_getElem O
  obtain ⟨c0,R,Y,a3,a4,a5,_⟩:=dn.cs j _ h2;rw [I] at R;cases R;rwa[⟨λz=> ?_,λz y=> ?_,λad F p hp aC=> ?_⟩]
  ·have:=st.mv (by rw [Y];exact z);rw [Y,a4] at this;exact this
  ·exact st.bk (by rw [a4];exact z) (ag j y)
  ·have F:J.fire=false:=by rw [<-g1];exact F
   have:=st.aw ad F (af ad F j _ (getElem?_eq_getElem O)) p (by rw [a5];exact hp) aC;rw [Y] at this;exact this
abbrev DR (H:Hp)(x:V)(d:Dd):Prop:=∃a,x=V.ref a/\sO H a d
theorem j9 {H H':Hp}{xs:List V}{ds:List Dd}(h:Paired (DR H) xs ds)(s:aq H H'):Paired @gK xs ds:=Paired.imp' (λx d ⟨a,e,z⟩=>⟨a,e,s _ _ z.1,z.2⟩) h
theorem KY {fl:Int}{n:Nat}:∀ {ds:List Dd} {ts:List Int},(∀d∈ds,d.fit fl n)->(ds.flatMap eN).Nodup->(∀t∈ds.flatMap eN,t∉ts)->tM fl n ts ds
 |[],_,_,_,_=>trivial
 |d::ds,ts,h1,h2,h3=>by
  rw [flatMap_cons] at h2 h3;obtain ⟨F,Y,j⟩:=nodup_append.mp h2;rwa[⟨h1 d (.head _),λt J=>h3 t (mem_append_left _ J),KY (λe S=>h1 e (.tail _ S)) Y λt J z=> ?_⟩]
  rcases mem_append.mp z with y|y
  ·exact h3 t (mem_append_right _ J) y
  ·exact j _ y _ J rfl
theorem Aw {H:Hp}{l t:Addr}{zs:List V}{xs:List V}{ds:List Dd}{d:Dd}{o:List V}(W:H l=some (.lst zs))(G:Paired (DR H) xs ds)(J:H t=some (.tup d.v))(F:d.ok):Paired (DR (upd H l (.lst o))) (xs++[.ref t]) (ds++[d]):=by
 have O:∀ {y:Addr} {j:List V},H y=some (.tup j)->y≠l:=λ{y j} e z=>by rw [z,W] at e;cases e
 exact Paired.app (Paired.imp' (λx d ⟨a,e,z⟩=>⟨a,e,by rw [ao (O z.1)];exact z.1,z.2⟩) G) (.cons ⟨t,rfl,by rw [ao (O J)];exact J,F⟩ .nil)
abbrev QN:List V:=[.str "block",.str "stick",.str "free",.str "goods",.str "back",.str "block"]
theorem L7 {j:Int}(F:0<=j)(h1:j<6):∃x:Str,oQ QN j=some (.str x)/\Dd.ok (.lf x 0):=by
 rcases (show j=0\/j=1\/j=2\/j=3\/j=4\/j=5 by lia) with rfl|rfl|rfl|rfl|rfl|rfl
 ·exact ⟨_,rfl,.inl rfl⟩
 ·exact ⟨_,rfl,.inr (.inl rfl)⟩
 ·exact ⟨_,rfl,.inr (.inr (.inl rfl))⟩
 ·exact ⟨_,rfl,.inr (.inr (.inr (.inl rfl)))⟩
 ·exact ⟨_,rfl,.inr (.inr (.inr (.inr rfl)))⟩
 ·exact ⟨_,rfl,.inl rfl⟩
structure DT (ns:List Int)(hs:Hs)(k m:Nat)(ds:List Dd):Prop where
 len:ds.length<=m
 ok:∀d∈ds,d.ok/\d.fit hs.fl hs.ls.length
 tg:(ds.flatMap eN).Sublist [ft ns (2*k),ft ns (2*k+1)]
inductive qp (K:Fg)(vs:List V)(H:Hp)(Q:VK)(_e:XK):Prop
 |mk (a ns h hs:_) (k:Nat) (fi:Bool) (_:vs=[.ref a,.int (8+k),.ref h,.bl fi]) (_:yE K H a ns) (_:k<100) (_:lS K H h hs) (_:∀l xs ds H',aq H H'->H l=none->H' l=some (.lst xs)->Paired @gK xs ds->DT ns hs k 8 ds->Q (.ref l) H')
theorem Cv (F:Z0 K "_law_deeds" vK f fd)(bo:mg "len"=none)(bx:Z00 P w K mg base)(ym:bf P w K mg base 3 "_law_tag" ["_law_script","_law_number"] (D3 K))(sj:bf P w K mg base 3 "_law_rider" ["_law_script","_law_at","_law_house_here","_law_tag_here","_law_lifts"] (qm K)):az P w K mg base bg 4 f fd ["_law_script","_law_at","_law_house_here","_law_fire"] (qp K):=by
 rwa[F.ok Eu (by symm) (λaC A outer s H vs Q E hr h=> ?_)];obtain ⟨a,R,h,hs,k,fi,rfl,Y,k1,hH,q⟩:=h;have av:=hH;obtain ⟨ho,p,ls,hh,hp,hl⟩:=hH;have l1:=ho.l1;have ll:ls.length=hs.ls.length:=hl.len;rwa[⟨_,(aa @a (aa (cO PassesOwn.never rfl @a @a (ac (ax @a (aa @a (aa @a (aa @a (gI (ax @a (aa @a (ac @a)) ar) @G)))) ar))) (aa @a (aa @a (gI (ax @a (ac (aO (gD rfl PySem.F.plainAttrs_list PySem.F.slot_list_append PySem.F.type_list_append jt (wv 4) (au (cW (au @a (au (wv 10) am))) am)))) ar) (gI (ax @a @G ar) (gI (ax @a (ac @a) ar) (ac (ak (wv 4)))))))))),?_⟩];rwa[mJ (bJ (by show 0<=1000000;decide)) λl H1 s1 n1 e1=> ?_];rwa[mJ (bJ (by show 2<=1000000;decide)) λlp H3 s3 n3 e3=> ?_]
 have as:lp≠l:=λz=>by rw [z,e1] at n3;cases n3
 rwa[cz (aN.of e3) ?_];rwa[dX (xs:=[.int 70001,.int 70003]) (λj σ W=>aq H W/\W lp=some (.lst [.int 70001,.int 70003])/\∃(xs:List V) (ds:List Dd) (o1 o2 o3 o4:Option V),W l=some (.lst xs)/\Paired (DR W) xs ds/\ds.length<=j/\(∀d∈ds,d.ok/\d.fit hs.fl hs.ls.length)/\(ds.flatMap eN).Sublist ([ft R (2*k),ft R (2*k+1)].take j)/\σ=[some (.ref a),some (.int (8+k)),some (.ref h),some (.bl fi),some (.ref l),o1,o2,o3,o4,none,none]) ⟨s1.trans s3,e3,[],[],_,_,_,_,s3 _ _ e1,.nil,Nat.le_refl _,(λd U=>nomatch U),.slnil,rfl⟩ (λj σ W _ pv=>aN.of pv.2.1) (λj x σ W hx pv=> ?_) (λσ W pv=> ?_)]
 ·obtain ⟨I,eP,xs,ds,o1,o2,o3,o4,S,Z,dl,dn,dt,rfl⟩:=pv;have j2:j<2:=(List.getElem?_eq_some_iff.mp hx).1
  obtain ⟨pr,rfl,an,aD,aA⟩:∃pr:Int,x= .int pr/\0<pr/\(pr - 70001) / 2=(j:Int)/\[ft R (2*k),ft R (2*k+1)].take (j+1)=[ft R (2*k),ft R (2*k+1)].take j++[ft R (2*k+j)]:=by
   match j,hx with
   |0,h=>exact ⟨70001,(Option.some.inj h).symm,by decide,by decide,by show [_]=[]++[_];rw [nil_append];rfl⟩
   |1,h=>exact ⟨70003,(Option.some.inj h).symm,by decide,by decide,rfl⟩
  rw [aA];rwa[tQ @ga @c @c an @b λi9 _ _=> ?_];rwa[gw @cu @cu]
  ·ext;rwa[⟨eX @b @b,?_⟩];rwa[⟨GP @b @b,?_⟩];rwa[D3.mk _ _ _ rfl @ga @c @c λtg ad=> ?_]
   have ad:tg=ft R (2*k+j):=by rw [ad];congr 1;lia
   rwa[mJ (bJ (by show 1<=1000000;decide)) λla H4 s4 na ea=> ?_];have ab:=I.trans s4;rwa[qm.mk _ _ _ _ _ _ _ [-1] rfl (Y.same ab) @c @c (av.same ab) (aN.of (show H4 la=some (.lst (([-1]:List Int).map V.int)) from ea)) @g @b λv r H5 J hv G aw _=> ?_];obtain ⟨ra,rfl,hT⟩:=dP hv;have ag:=ab.trans J;have O:aq W H5:=s4.trans J;rwa[ae hT rfl ?_];rwa[ae hT rfl ?_];rwa[yb (λσ H'=>H'=H5/\∃s g,Dd.fit hs.fl hs.ls.length (.come tg s g false)/\σ=[some (.ref a),some (.int (8+k)),some (.ref h),some (.bl fi),some (.ref l),some (.int pr),some (.ref ra),some (.int g),some (.int s),none,none]) ?_ ?_]
   ·ext;rwa[gw @cu @cu]
    ·ext;rwa[ae hT rfl ?_];rwa[ae hT rfl ?_];exact ⟨rfl,_,_,⟨G.g0,G.g1,G.s0,G.s1,G.ne.symm⟩,rfl⟩
    ·exact ⟨rfl,_,_,⟨G.s0,G.s1,G.g0,G.g1,G.ne⟩,rfl⟩
   rintro σ' H8 ⟨rfl,s,g,ai,rfl⟩;rwa[⟨.inl ⟨rfl,_,aN.of (O _ _ S)⟩,?_⟩];rwa[ae hT rfl ?_];rwa[tQ (Y.same ag) @c @c (by show (0:Int)<pr+50;lia) @b λaf _ _=> ?_];rwa[b3 (bJ (by show 5<=1000000;decide)) λt9 H9 s9 n9 e9=> ?_]
   have e9:H9 t9=some (.tup (Dd.come tg s g (decide (af=0))).v):=by rw [<-aw];exact e9
   have xl:=Z.len;rwa[iK (s9 _ _ (O _ _ S)) @dA ?_];rwa[⟨aq.updF (ag.trans s9) n1,by rw [ao as];exact s9 _ _ (O _ _ eP),_,_,_,_,_,_,aj,Aw (d:= .come tg s g (decide (af=0))) (s9 _ _ (O _ _ S)) (j9 Z (O.trans s9)) e9 trivial,by rw [length_append];show _+1<=_;lia,λd U=> ?_,?_,rfl⟩]
   ·rcases mem_append.mp U with y|y
    ·exact dn d y
    ·rw [mem_singleton.mp y];exact ⟨trivial,ai⟩
   ·rw [flatMap_append];exact dt.append (by show List.Sublist [tg] _;rw [ad];exact .refl _)
  ·exact ⟨I,eP,xs,ds,_,_,_,_,S,Z,by lia,dn,dt.trans (List.sublist_append_left _ _),rfl⟩
 obtain ⟨I,eP,xs,ds,o1,o2,o3,o4,S,Z,dl,dn,dt,rfl⟩:=pv;have dl:ds.length<=2:=dl;have dt:(ds.flatMap eN).Sublist [ft R (2*k),ft R (2*k+1)]:=dt;have xl:=Z.len;rwa[tQ @ga @c @c @b @b λwy ay aB=> ?_];rwa[ae (I.seqT hh) rfl ?_];rwa[bh (I.seqT hp) ?_];rw [ll];rwa[tQ @ga @c @c @b @c λli al ap=> ?_];rwa[yb (λσ H'=>aq H H'/\∃(L:Addr) (xs:List V) (ds:List Dd),H L=none/\H' L=some (.lst xs)/\Paired @gK xs ds/\DT R hs k 3 ds/\σ=[some (.ref a),some (.int (8+k)),some (.ref h),some (.bl fi),some (.ref L),o1,o2,o3,o4,some (.int wy),some (.int li)]) ?_ ?_]
 ·ext;rwa[gw @k @cu]
  ·have z:wy<6:=z;rwa[⟨.inl ⟨rfl,_,aN.of S⟩,?_⟩];erw[mJ (bJ (by show 6<=1000000;decide)) λlw H4 s4 n4 e4=> ?_];obtain ⟨x,ex,ok⟩:=L7 ay z;rwa[cP (aN.of e4) ex ?_];rwa[b3 (bJ (by show 2<=1000000;decide)) λt5 H5 J n5 e5=> ?_];rwa[iK (J _ _ (s4 _ _ S)) @dA ?_];rwa[⟨aq.updF (I.trans (s4.trans J)) n1,l,_,_,n1,aj,Aw (d:= .lf x li) (J _ _ (s4 _ _ S)) (j9 Z (s4.trans J)) e5 ok,⟨by rw [length_append];show _+1<=_;lia,λd U=> ?_,by rw [flatMap_append];show List.Sublist (_++[]) _;rw [append_nil];exact dt⟩,rfl⟩]
   rcases mem_append.mp U with y|y
   ·exact dn d y
   ·rw [mem_singleton.mp y];exact ⟨ok,al,ap⟩
  ·exact ⟨I,l,xs,ds,n1,S,Z,⟨by lia,dn,dt⟩,rfl⟩
 rintro σ1 HA ⟨sA,lA,xs,ds,nA,eA,pA,dA,rfl⟩;have xl:=pA.len;have dl:=dA.len;rwa[yb (λσ H'=>aq H H'/\∃(L:Addr) (xs:List V) (ds:List Dd),H L=none/\H' L=some (.lst xs)/\Paired @gK xs ds/\DT R hs k 4 ds/\σ=[some (.ref a),some (.int (8+k)),some (.ref h),some (.bl fi),some (.ref L),o1,o2,o3,o4,some (.int wy),some (.int li)]) ?_ ?_]
 ·ext;rwa[tQ (Y.same sA) @c @c @b @b λi9 _ _=> ?_];rwa[gw @k @cu]
  ·ext;rwa[⟨.inl ⟨rfl,_,aN.of eA⟩,?_⟩];rwa[b3 (bJ (by show 1<=1000000;decide)) λt5 H5 J n5 e5=> ?_];rwa[iK (J _ _ eA) @dA ?_];rwa[⟨aq.updF (sA.trans J) nA,lA,_,_,nA,aj,Aw (d:= .sg "fire") (J _ _ eA) (j9 pA J) e5 (.inl rfl),⟨by rw [length_append];show _+1<=_;lia,λd U=> ?_,by rw [flatMap_append];show List.Sublist (_++[]) _;rw [append_nil];exact dA.tg⟩,rfl⟩]
   rcases mem_append.mp U with y|y
   ·exact dA.ok d y
   ·rw [mem_singleton.mp y];exact ⟨.inl rfl,trivial⟩
  ·exact ⟨sA,lA,xs,ds,nA,eA,pA,⟨by lia,dA.ok,dA.tg⟩,rfl⟩
 rintro σ2 HB ⟨sB,lB,xs,ds,nB,eB,pB,dB,rfl⟩;have xl:=pB.len;have dl:=dB.len;rwa[yb (λσ H'=>aq H H'/\∃(L:Addr) (xs:List V) (ds:List Dd),H L=none/\H' L=some (.lst xs)/\Paired @gK xs ds/\DT R hs k 8 ds/\σ=[some (.ref a),some (.int (8+k)),some (.ref h),some (.bl fi),some (.ref L),o1,o2,o3,o4,some (.int wy),some (.int li)]) ?_ ?_]
 ·have no:aq H HB/\∃(L:Addr) (xs:List V) (ds:List Dd),H L=none/\HB L=some (.lst xs)/\Paired (DR HB) xs ds/\DT R hs k 8 ds/\_=[some (.ref a),some (.int (8+k)),some (.ref h),some (.bl fi),some (.ref L),o1,o2,o3,o4,some (.int wy),some (.int li)]:=⟨sB,lB,xs,ds,nB,eB,pB,⟨by lia,dB.ok,dB.tg⟩,rfl⟩;ext
  cases fi with
  |false=>
   rwa[aL rfl ?_];rwa[aL rfl ?_];exact no
  |true=>
   rwa[bG rfl ?_];rwa[tQ (Y.same sB) @c @c @b @b λi9 _ _=> ?_];rwa[gw @k (λ_=>no)];rwa[b3 (bJ (by show 1<=1000000;decide)) λt5 H5 J n5 e5=> ?_];rwa[mJ (bJ (by show 1<=1000000;decide)) λl6 H6 s6 n6 e6=> ?_];rwa[K1 e6 (s6 _ _ (J _ _ eB)) (bJ (by show 1+xs.length<=1000000;lia)) λl8 H8 s8 n8 e8=> ?_];have e8:H8 l8=some (.lst (.ref t5::xs)):=e8;have ah:=J.trans (s6.trans s8);rwa[⟨sB.trans ah,l8,_,.sg "calm"::ds,none_of (sB.trans (J.trans s6)) n8,e8,.cons ⟨t5,rfl,s8 _ _ (s6 _ _ e5),.inr rfl⟩ (j9 pB ah),⟨by rw [length_cons];lia,λd U=> ?_,dB.tg⟩,rfl⟩]
   rcases mem_cons.mp U with y|y
   ·rw [y];exact ⟨.inr rfl,trivial⟩
   ·exact dB.ok d y
 rintro σ3 HC ⟨sC,lC,xs,ds,nC,eC,pC,dC,rfl⟩;exact q lC xs ds HC sC nC eC pC dC
inductive vh (K:Fg)(vs:List V)(H:Hp)(Q:VK)(_e:XK):Prop
 |mk (h st hs cs ws last fi:_) (_:vs=[.ref h,.ref st]) (_:lS K H h hs) (_:cx K H st cs ws last fi) (_:cs.length=hs.ls.length) (_:(∀(j:Nat) (c:Cb) (l:Lf),cs[j]? =some c->hs.ls[j]? =some l->Hn hs l c)) (_:∀H',aq H H'->Q (.bl true) H')
theorem Jv (F:Z0 K "_law_form" zI f fd)(J:mg "isinstance"=none)(S:mg "tuple"=none)(uA:mg "bool"=none)(L:mg "len"=none)(bQ:mg "range"=none)(cR:bf P w K mg base 1 "_law_whole" ["_law_thing"] iQ):az P w K mg base bg 2 f fd ["_law_house_here","_law_state"] (vh K):=by
 rwa[F.ok vw (by symm) (λai A outer s H vs Q E Y h=> ?_)];obtain ⟨h,st,hs,cs,ws,ah,fi,rfl,hH,ad,cl,fm,q⟩:=h;obtain ⟨tc,tw,xs,ys,h1,h2,h3,h4,h5⟩:=ad;obtain ⟨ho,p,ls,hh,hp,hl⟩:=hH;have xl:xs.length=cs.length:=h4.len;have ll:ls.length=hs.ls.length:=hl.len;have l3:=ho.l3;rwa[⟨_,(aa (ax (PW.pt (cG (bw (cI rfl (aA @da rfl J boot_isinstance (au (wv 1) @P)))) (cG (aP @bR (aA @ch rfl L PySem.boot_len @be) ag (aG _)) (cY (bw (cI rfl (aA @da rfl J boot_isinstance (au @S @P)))))))) @B ar) (aa (ax (PW.pt (cG (bw (cI rfl (aA @da rfl J boot_isinstance (au @S @P)))) (cG (aP @bR (aA @ch rfl L PySem.boot_len (au @S am)) (aA @ch rfl L PySem.boot_len (au @n am)) (aG _)) (cY (bw (cI rfl (aA @da rfl J boot_isinstance (au @S (au (dD (v:= .ty "bool") rfl uA boot_bool rfl) am))))))))) @B ar) (aa (cO PassesOwn.never rfl (dU rfl bQ (au (aA @ch rfl L PySem.boot_len (au @S am)) am)) @a (aa (bp (i:=3) vw.nd rfl @q (av @h @S (wv 2) @d)) (aa (ax (PW.pt (cG (bw (cI rfl (aA @da rfl J boot_isinstance (au (wv 3) @P)))) (cG (aP @bR (aA @ch rfl L PySem.boot_len @en) ag (aG _)) (cY (bw (cI rfl (aA @da rfl J boot_isinstance (au @T @P)))))))) @B ar) (aa (cO PassesOwn.never rfl (dJ rfl (im (wZ rfl) (wv 3) mz @gJ)) @a (ac (ax (bw (cI rfl (bV cR Y @b rfl @fL))) @B ar))) (aa (bp (i:=5) vw.nd rfl @q (av @h @n (wv 2) @d)) (aa (ax (PW.pt (cG (bw (fR jo jo ag @T (bT qg @gi ag))) (cG (bw (fR jo jo (KR KC ag) @T ag)) (cY (bw (fR jo jo ag @T @u)))))) @B ar) (aa (ax (PW.pt (cG (PW.pt (gU (aP @br (bT DD @T ag) ag (aG _)) (gH (PW.pt (cG (aP @br @T ag (aG _)) (cY (aP sS @T ag (aG _)))))))) (cY (bw (fR jo jo ag @T ag))))) @B ar) (ac (ax (aP sS (aA @ch rfl L PySem.boot_len (au @T am)) @u (aG _)) @B ar))))))))) @B))),?_⟩];rwa[lJ h1 rfl rfl ?_];rwa[aL rfl ?_];rwa[bh h1 ?_];rwa[aL rfl ?_];rwa[ae h1 rfl ?_];rwa[lJ h2 rfl rfl ?_];rwa[aL rfl ?_];rwa[ae h1 rfl ?_];rwa[lJ h3 rfl rfl ?_];rwa[aL rfl ?_];rwa[ae h1 rfl ?_];rwa[bh h2 ?_];rwa[ae hh rfl ?_];rwa[bh hp ?_];rwa[rH @c ?_];rwa[ae h1 rfl ?_];rwa[⟨rfl,?_⟩];rwa[aL rfl ?_];rwa[ae h1 rfl ?_];rwa[bh h2 ?_];rwa[⟨by lia,?_⟩];rw [show (xs.length:Int).toNat=cs.length by lia];rwa[fY (λj σ HX=>aq H HX/\∃o2 o3 W o5:Option V,σ=[some (.ref h),some (.ref st),o2,o3,W,o5]) ⟨.refl _,_,_,_,_,rfl⟩ (λj σ HX hj R=> ?_) (λσ HX R=> ?_)]
 ·obtain ⟨I,o2,o3,W,o5,rfl⟩:=R;rw [show (0:Int)+(j:Nat)=((j:Nat):Int) by lia];obtain ⟨x,hx⟩:∃x,xs[j]? =some x:=⟨_,getElem?_eq_getElem @c⟩;obtain ⟨c,hc,t,rfl,b,bs,ec,eb,db⟩:=h4.get1 hx;obtain ⟨y,Z⟩:∃y,ls[j]? =some y:=⟨_,getElem?_eq_getElem @c⟩;obtain ⟨l,af,lb,rfl,lt⟩:=hl.get1 Z;have f:=fm j c l hc af;have bl:bs.length=c.ps.length:=aM db;have p0:=f.p0;have p1:=f.p1;have l0:=f.l0;have l1:=f.l1;have d0:=f.d0;have d1:=f.d1;have od:=f.od;have m0:=f.m0;have m3:=f.m3;have rm:=f.rm;have O:=aD.of (K:=K) (I _ _ ec);rwa[ae (I.seqT h1) rfl ?_];rwa[ae (I.seqT h2) (v:= .ref t) (c7 hx) ?_];rwa[lJ O rfl rfl ?_];rwa[aL rfl ?_];rwa[bh O ?_];rwa[aL rfl ?_];rwa[ae O rfl ?_];rwa[lJ (aD.of (I _ _ eb)) rfl rfl ?_];rwa[aL rfl ?_];rwa[vo O (by show ¬(HT.sIx 5 0 none=0/\HT.sIx 5 5 (some 4)=5);decide) λt4 H4 s4 n4 e4=> ?_];have e4:H4 t4=some (.tup [.int c.pl,.int c.li,.int c.dr,.int c.mr]):=e4;have ab:=I.trans s4;have G:=s4.seqT O;rwa[cZ (aD.of e4) ?_];rwa[jN (xs:=[.int c.pl,.int c.li,.int c.dr,.int c.mr]) (λj' σ U=>U=H4/\∃W:Option V,σ=[some (.ref h),some (.ref st),some (.int (j:Int)),some (.ref t),W,o5]) ⟨rfl,_,rfl⟩ (λj' σ U _ R=>by rw [R.1];exact aD.of e4) (λj' y σ U Z R=> ?_) (λσ U R=> ?_)]
  ·obtain ⟨rfl,W,rfl⟩:=R
   obtain ⟨n,rfl⟩:∃n:Int,y= .int n:=by
    match j',Z with
    |0,h=>exact ⟨_,(Option.some.inj h).symm⟩
    |1,h=>exact ⟨_,(Option.some.inj h).symm⟩
    |2,h=>exact ⟨_,(Option.some.inj h).symm⟩
    |3,h=>exact ⟨_,(Option.some.inj h).symm⟩
   rwa[iQ.mk _ rfl ?_];rwa[aL rfl ?_];exact ⟨rfl,_,rfl⟩
  obtain ⟨rfl,W,rfl⟩:=R;rwa[ae (ab.seqT hh) rfl ?_];rwa[ae (ab.seqT hp) (v:= .ref lb) (c7 Z) ?_];rwa[ae G rfl ?_];rwa[fz p0 ?_];rwa[ae (ab.seqT hh) rfl ?_];rwa[⟨eX @b @b,?_⟩];rwa[rH p1 ?_];rwa[ae G rfl ?_];rwa[fz l0 ?_];rwa[rH l1 ?_];rwa[ae G rfl ?_];rwa[fz d0 ?_];rwa[ae @gz rfl ?_];rwa[rH d1 ?_];rwa[ae G rfl ?_];rwa[⟨by decide,?_⟩];rwa[gw @k @k]
  ·obtain ⟨z1,z2⟩:=od z;rwa[ae G rfl ?_];rwa[bK z1 ?_];rwa[ae G rfl ?_];rwa[bK @c ?_];rwa[ae G rfl ?_];rwa[fz m0 ?_];rwa[rH m3 ?_];rwa[ae G rfl ?_];rwa[bh (aD.of (ab _ _ eb)) ?_];rwa[ae @gz rfl ?_];rwa[bK @c ?_];exact ⟨ab,_,_,_,_,rfl⟩
  ·ext;rwa[aL rfl ?_];rwa[ae G rfl ?_];rwa[fz m0 ?_];rwa[rH m3 ?_];rwa[ae G rfl ?_];rwa[bh (aD.of (ab _ _ eb)) ?_];rwa[ae @gz rfl ?_];rwa[bK @c ?_];exact ⟨ab,_,_,_,_,rfl⟩
 obtain ⟨I,o2,o3,W,o5,rfl⟩:=R;exact q _ I
theorem Bn {α:Type}{R:V->α->Prop}{g:α->D}{H:Hp}:∀ {xs:List V} {as:List α},Paired R xs as->(∀x a,R x a->bM K H x (g a))->aC K H xs (as.map g)
 |_,_,.nil,_=> .nil
 |_,_,.cons h t,f=> .cons (f _ _ h) (Bn t f)
def Dd.d:Dd->D
 | .come t s g k=> .tup [.str uk,.int t,.int s,.int g,.bl k]
 | .lf x n=> .tup [.str x,.int n]
 | .sg x=> .tup [.str x]
theorem NR {H:Hp}{a:Addr}{d:Dd}(h:sO H a d):bM K H (.ref a) d.d:=by
 obtain ⟨h,_⟩:=h
 cases d with
 |come t s g k=>exact d3 (aD.of h) (.cons (.str _) (.cons (.int _) (.cons (.int _) (.cons (.int _) (.cons (.bl _) .nil)))))
 |lf x n=>exact d3 (aD.of h) (.cons (.str _) (.cons (.int _) .nil))
 |sg x=>exact d3 (aD.of h) (.cons (.str _) .nil)
theorem J6 (p q:Int×Int):ja (bF p) (bF q)=decide (p=q):=by
 obtain ⟨a,b⟩:=p;obtain ⟨c,d⟩:=q;show (a==c&&(b==d&&true))=_;rw [Bool.eq_iff_iff];simp
theorem Bi {ps:List (Int×Int)}{p:Int×Int}:((ps.map bF).any λd=>ja d (bF p))=decide (p∈ps):=by
 rw [any_map,Bool.eq_iff_iff,any_eq_true,decide_eq_true_eq];constructor
 ·rintro ⟨q,L,e⟩;have e:ja (bF q) (bF p)=true:=e;rw [J6] at e;rw [<-of_decide_eq_true e];exact L
 ·intro h;exact ⟨p,h,by show ja (bF p) (bF p)=true;exact jQ _⟩
theorem NW {ds:List Dd}{j:Int}(h:((ds.map Dd.d).any λd=>ja d (.tup [.str "block",.int j]))=true): .lf "block" j∈ds:=by
 rw [any_map,any_eq_true] at h;obtain ⟨d,J,e⟩:=h;have e:ja d.d (.tup [.str "block",.int j])=true:=e
 cases d with
 |come t s g k=>simp [Dd.d,ja,eqDs] at e
 |lf x n=>
  simp [Dd.d,ja,eqDs] at e;rw [<-e.1,<-e.2];exact J
 |sg x=>simp [Dd.d,ja,eqDs] at e
theorem BG (i:Int):(if i<0 then -i else i)=(i.natAbs:Int):=by split<;>lia
inductive vc (K:Fg)(vs:List V)(H:Hp)(Q:VK)(_e:XK):Prop
 |mk (h st st' dl hs cs ws last fi cs' ws' last' fi' ds:_) (_:vs=[.ref h,.ref st,.ref st',.ref dl]) (_:lS K H h hs) (_:cx K H st cs ws last fi) (_:cx K H st' cs' ws' last' fi') (_:yK K H dl ds) (_:cs'.length=cs.length) (_:cs.length<=3) (_:(∀(j:Nat) (c c':Cb),cs[j]? =some c->cs'[j]? =some c'->Mv hs ds fi' j c c')) (_:∀H',aq H H'->Q (.bl true) H')
theorem Fn (F:Z0 K "_law_moves" vH f fd)(bo:mg "len"=none)(bQ:mg "range"=none)(xM:mg "abs"=none):az P w K mg base bg 1 f fd ["_law_house_here","_law_before","_law_after","_law_deeds_here"] (vc K):=by
 rwa[F.ok qx (by symm) (λaU A outer s H vs Q E Y h=> ?_)];obtain ⟨h,st,L,dl,hs,cs,ws,aM,fi,aJ,aT,ad,ao,ds,rfl,hH,ai,ab,⟨xd,ah,pd⟩,cl,c3,mv,q⟩:=h;obtain ⟨tc,tw,xs,ys,h1,h2,h3,h4,h5⟩:=ai;obtain ⟨aV,aQ,Z,aN,g1,g2,g3,g4,g5⟩:=ab;obtain ⟨ho,p,ls,hh,hp,hl⟩:=hH;have xl:xs.length=cs.length:=h4.len;have aW:Z.length=aJ.length:=g4.len
 have dd:aC K H xd (ds.map Dd.d):=Bn pd λx d ⟨a,e,z⟩=>by rw [e];exact NR z
 have ap:∀d∈ds.map Dd.d,jq d<=50:=λd hd=>by
  obtain ⟨e,_,rfl⟩:=mem_map.mp hd;cases e<;>exact (by decide:1<=50)
 rwa[⟨_,(aa (cO PassesOwn.never rfl (dU rfl bQ (au (aA @ch rfl bo PySem.boot_len (au @S am)) am)) @a (aa (bp (i:=5) qx.nd rfl @q (av @h @S (wv 4) @d)) (aa (bp (i:=6) qx.nd rfl @q (av @h @F (wv 4) @d)) (gI (ax (PW.pt (gU (aP @bR @u @bM (aG _)) (gH (PW.pt (cG (aP @bR (aA AL rfl xM boot_abs (au (bT qg @u @bM) am)) ag (aG _)) (cG (aP sS @u ag (aG _)) (cY (aP sS @bM ag (aG _))))))))) @B ar) (gI (ax (PW.pt (gU (aP sS @u ag (aG _)) (gU (aP (uc rfl Y) (cW (au aS @fL)) (wv 3) @D) (gH (aP @br @bM ag (aG _)))))) @B ar) (ac (ax (PW.pt (gU @cb (gH (bw (cI rfl @F))))) (ac (cO PassesOwn.never rfl (dJ rfl @u) @a (ac (ax (PW.pt (gU (aP (uc rfl Y) (wv 7) @bM @D) (gH (aP sS (aA AL rfl xM boot_abs (au (bT qg (bT ub ag @ci) @bM) am)) (aA AL rfl xM boot_abs (au (bT qg (bT ub ag @ci) @u) am)) (aG _))))) @B ar)))) ar))))))) @B),?_⟩];rwa[ae h1 rfl ?_];rwa[bh h2 ?_];rwa[⟨by lia,?_⟩];rw [show (xs.length:Int).toNat=cs.length by lia];rwa[fY (λj σ HX=>aq H HX/\∃o4 o5 o6 S:Option V,σ=[some (.ref h),some (.ref st),some (.ref L),some (.ref dl),o4,o5,o6,S]) ⟨.refl _,_,_,_,_,rfl⟩ (λj σ HX hj R=> ?_) (λσ HX R=> ?_)]
 ·obtain ⟨J,o4,o5,o6,S,rfl⟩:=R;rw [show (0:Int)+(j:Nat)=((j:Nat):Int) by lia];obtain ⟨x,hx⟩:∃x,xs[j]? =some x:=⟨_,getElem?_eq_getElem @c⟩;obtain ⟨c,hc,t,rfl,b,bs,ec,eb,db⟩:=h4.get1 hx;obtain ⟨y,hy⟩:∃y,Z[j]? =some y:=⟨_,getElem?_eq_getElem @c⟩;obtain ⟨c',aE,t',rfl,b',aO,aH,as,ay⟩:=g4.get1 hy;have m:=mv j c c' hc aE;have U:=aD.of (K:=K) (J _ _ ec);have I:=aD.of (K:=K) (J _ _ aH);rwa[ae (J.seqT h1) rfl ?_];rwa[ae (J.seqT h2) (v:= .ref t) (c7 hx) ?_];rwa[ae (J.seqT g1) rfl ?_];rwa[ae (J.seqT g2) (v:= .ref t') (c7 hy) ?_];rwa[yb (λσ H'=>H'=HX/\σ=[some (.ref h),some (.ref st),some (.ref L),some (.ref dl),some (.int (j:Int)),some (.ref t),some (.ref t'),S]) ?_ ?_]
  ·ext;rwa[ae U rfl ?_];rwa[ae I rfl ?_];rwa[Qz @k @k]
   ·obtain ⟨a1,a2,a3⟩:=m.mv z;rwa[ae U rfl ?_];rwa[ae I rfl ?_];rwa[rH (by split<;>lia) ?_];rwa[ae U rfl ?_];rwa[bK a2 ?_];rwa[ae I rfl ?_];rwa[bK a3 ?_];exact ⟨rfl,rfl⟩
   ·ext;rwa[aL rfl ?_];exact ⟨rfl,rfl⟩
  rintro σ1 HY ⟨rfl,rfl⟩;rwa[yb (λσ H'=>aq HY H'/\σ=[some (.ref h),some (.ref st),some (.ref L),some (.ref dl),some (.int (j:Int)),some (.ref t),some (.ref t'),S]) ?_ ?_]
  ·ext;rwa[ae U rfl ?_];rwa[gw @k @k]
   ·have z:0<c.dr:=z;rwa[b3 (bJ (by show 2<=1000000;decide)) λt5 H5 s5 n5 e5=> ?_];erw[mq ((J.trans s5).seq ah) (aC.same dd (J.trans s5)) (d3 (aD.of e5) (.cons (.str _) (.cons (.int _) .nil))) ap ?_]
    cases hb:((ds.map Dd.d).any λd=>ja d (.tup [.str "block",.int (j:Int)])) with
    |true=>
     rwa[bG rfl ?_];rwa[ae (s5.seqT I) rfl ?_];rwa[bK (m.bk z (NW hb)) ?_];exact ⟨s5,rfl⟩
    |false=>
     rwa[aL rfl ?_];rwa[aL rfl ?_];exact ⟨s5,rfl⟩
   ·ext;rwa[aL rfl ?_];exact ⟨.refl _,rfl⟩
  rintro σ2 HZ ⟨sZ,rfl⟩;have G:=J.trans sZ;rwa[ae (G.seqT hh) rfl ?_];rwa[gw (λaB=> ?_) @cu]
  ·ext;erw[ae (G.seqT g1) rfl ?_]
   cases aK:ao with
   |true=>
    rwa[aL rfl ?_];exact ⟨G,_,_,_,_,rfl⟩
   |false=>
    rwa[bG rfl ?_];rwa[ae (sZ.seqT U) rfl ?_];rwa[cZ (aD.of (G _ _ eb)) ?_];rwa[jN (xs:=bs) (λi' σ W=>W=HZ/\∃S:Option V,σ=[some (.ref h),some (.ref st),some (.ref L),some (.ref dl),some (.int (j:Int)),some (.ref t),some (.ref t'),S]) ⟨rfl,_,rfl⟩ (λi' σ W _ R=>by rw [R.1];exact aD.of (G _ _ eb)) (λi' y σ W al R=> ?_) @eU]
    ·obtain ⟨rfl,aj,rfl⟩:=R;obtain ⟨pr,af,dp⟩:=bE (f:=bF) db al;obtain ⟨pa,zs,rfl,an,dz⟩:=(show bM K W y (.tup [.int pr.1,.int pr.2]) from bM.same dp G).outT
     have O:aD K W pa [.int pr.1,.int pr.2]:=by
      cases dz with|cons q0 t0=>cases t0 with|cons q1 t1=>
      cases t1;cases q0.isInt;cases q1.isInt;exact an
     rwa[ae (sZ.seqT I) rfl ?_];rwa[Iw (aD.of (G _ _ as)) (aC.same ay G) (bM.same dp G) (λd hd=>by obtain ⟨e,_,rfl⟩:=mem_map.mp hd;exact (by decide:1<=50)) ?_];rw [Bi];rwa[gw (λaF=> ?_) @cu]
     ·have aR:=m.aw aB aK pr (mem_of_getElem? af) aF;rwa[ae O rfl ?_];rwa[⟨eX @b @b,?_⟩];rwa[ae (sZ.seqT I) rfl ?_];rwa[ae O rfl ?_];rwa[⟨eX @b @b,?_⟩];rwa[ae (sZ.seqT U) rfl ?_];rwa[bK (by rw [BG,BG];lia) ?_];exact ⟨rfl,_,rfl⟩
     ·ext;rwa[aL rfl ?_];exact ⟨rfl,_,rfl⟩
    obtain ⟨rfl,aj,rfl⟩:=R;exact ⟨G,_,_,_,_,rfl⟩
  ·ext;rwa[aL rfl ?_];exact ⟨G,_,_,_,_,rfl⟩
 obtain ⟨J,o4,o5,o6,S,rfl⟩:=R;exact q _ J
abbrev kR:ce:=Sum.inr "riders"
abbrev kW:ce:=Sum.inr "waiting"
abbrev kA:ce:=Sum.inr "aboard"
def ir (lr lw la:Addr):List (ce×V):=[(kR,.ref lr),(kW,.ref lw),(kA,.ref la)]
def G8 (H:Hp)(kv:ce×V)(x:Int×Int×Int):Prop:=kv.1=Sum.inl x.1/\∃a,kv.2= .ref a/\H a=some (.tup [.int x.1,.int x.2.1,.int x.2.2])
structure uT (K:Fg)(H:Hp)(kp lr lw la:Addr)(las:List Addr)(kvs:List (ce×V))(k:Kp):Prop where
 rk:lr≠kp
 wa:lw≠la
 wi:lw∉las
 ai:la∉las
 nd:las.Nodup
 ek:H kp=some (.dK @cj)
 er:H lr=some (.dK kvs)
 pr:Paired (G8 H) kvs k.rd
 ew:H lw=some (.lst (k.wt.map V.int))
 ea:H la=some (.lst @cD)
 al:las.length=k.ab.length
 ei:∀(j:Nat) (b:Addr) (A:List (Int×Int)),las[j]? =some b->k.ab[j]? =some A->∃us,H b=some (.lst us)/\aC K H us @eq
abbrev v6 (kp lr lw la:Addr)(las:List Addr):List Addr:=kp::lr::lw::la::las
structure pL (K:Fg)(H0 H:Hp)(kp lr lw la:Addr)(las:List Addr)(kvs:List (ce×V))(k:Kp):Prop where
 b:uT K H kp lr lw la las kvs k
 s:aq H0 H
 n:∀x∈v6 kp lr lw la las,H0 x=none
def fq (H H':Hp):Prop:=∀b o,(∀xs,o≠ .lst xs)->(∀kv,o≠ .dK kv)->H b=some o->H' b=some o
theorem aD.sl {H H':Hp}(s:fq H H'){a:Addr}{xs:List V}(h:aD K H a xs):aD K H' a xs:=by
 rcases h with (h|⟨u,h⟩)|h
 ·exact .inl (.inl (s _ _ (λ_ z=>by cases z) (λ_ z=>by cases z) h))
 ·exact .inl (.inr ⟨u,s _ _ (λ_ z=>by cases z) (λ_ z=>by cases z) h⟩)
 ·exact .inr h
theorem bM.sl {H H':Hp}(s:fq H H'){x:V}{d:D}(h:bM K H x d)(j:L2.noL d=true):bM K H' x d:=by
 induction h with
 |non=>exact .non
 |bl b=>exact .bl b
 |int i=>exact .int i
 |str z=>exact .str z
 |lst h hl hi ih=>rw [L2.noL] at j;cases j
 |tup h hl hi ih=>
  rw [L2.noL] at j;exact .tup (aD.sl s h) hl λi x d h1 h2=>ih i x d h1 h2 @gp
theorem aC.sl {H H':Hp}(s:fq H H'){xs:List V}{ds:List D}(h:aC K H xs ds)(z:noLs ds=true):aC K H' xs ds:=
 PySem.Paired.of h.len λi x d h1 h2=>by
  obtain ⟨e,L,r⟩:=h.get1 h1;rw [h2] at L;cases L;exact bM.sl s r (fj z h2)
theorem fh (ps:List (Int×Int)):noLs @di=true:=by
 induction ps with
 |nil=>rfl
 |cons p ps ih=>exact ih
theorem EL (ws:List be):noLs @eS=true:=by
 induction ws with
 |nil=>rfl
 |cons p ps ih=>exact ih
theorem d5.sl {H H':Hp}(s:fq H H'){x:V}{c:Cb}(h:d5 K H x c):d5 K H' x c:=by
 obtain ⟨t,e,b,j,h1,h2,L⟩:=h;exact ⟨t,e,b,j,s _ _ (λ_ z=>by cases z) (λ_ z=>by cases z) h1,s _ _ (λ_ z=>by cases z) (λ_ z=>by cases z) h2,aC.sl s L (fh _)⟩
theorem cx.sl {H H':Hp}(s:fq H H'){st:Addr}{cs:List Cb}{ws:List be}{last:Int}{fi:Bool}(h:cx K H st cs ws last fi):cx K H' st cs ws last fi:=by
 obtain ⟨tc,G,xs,ys,h1,h2,L,j,S⟩:=h;exact ⟨tc,G,xs,ys,aD.sl s h1,aD.sl s h2,aD.sl s L,Paired.imp' (λx c z=>d5.sl s z) j,aC.sl s S (EL _)⟩
def Ax (H:Hp)(ks:List Addr):Hp:=λb=>if b∈ks then none else H b
theorem mW {H:Hp}{ks:List Addr}{b:Addr}{o:HO}(h:H b=some o)(n:b∉ks):Ax H ks b=some o:=by
 unfold Ax;rw [if_neg n];exact h
theorem uT.obj {H:Hp}{kp lr lw la:Addr}{las:List Addr}{kvs:List (ce×V)}{k:Kp}(h:uT K H kp lr lw la las kvs k):∀x∈v6 kp lr lw la las,(∃xs,H x=some (.lst xs))\/∃kv,H x=some (.dK kv):=λx z=>by
 rcases mem_cons.mp z with rfl|z
 ·exact .inr ⟨_,h.ek⟩
 rcases mem_cons.mp z with rfl|z
 ·exact .inr ⟨_,h.er⟩
 rcases mem_cons.mp z with rfl|z
 ·exact .inl ⟨_,h.ew⟩
 rcases mem_cons.mp z with rfl|z
 ·exact .inl ⟨_,h.ea⟩
 ·obtain ⟨j,Z,e⟩:=List.getElem_of_mem z;obtain ⟨F,G,_⟩:=h.ei j x _ (by rw [getElem?_eq_getElem Z,e]) (getElem?_eq_getElem (by rw [<-h.al];exact Z));exact .inl ⟨F,G⟩
theorem uT.cut {H:Hp}{kp lr lw la:Addr}{las:List Addr}{kvs:List (ce×V)}{k:Kp}(h:uT K H kp lr lw la las kvs k):fq H (Ax H @et):=λb o j Y e=>mW e λz=>by
 rcases h.obj b z with ⟨xs,y⟩|⟨F,y⟩
 ·rw [e] at y;cases y;exact j _ rfl
 ·rw [e] at y;cases y;exact Y _ rfl
theorem uT.wide {H:Hp}{kp lr lw la:Addr}{las:List Addr}{kvs:List (ce×V)}{k:Kp}(h:uT K H kp lr lw la las kvs k):pL K (Ax H @et) H kp lr lw la las kvs k:=⟨h,λb o e=>by
 unfold Ax at e;split at e
 ·cases e
 ·exact e,λx z=>by unfold Ax;rw [if_pos z]⟩
theorem uT.nt {H H':Hp}{kp lr lw la:Addr}{las:List Addr}{kvs:List (ce×V)}{k:Kp}(h:uT K H kp lr lw la las kvs k)(s:bu H H'):uT K H' kp lr lw la las kvs k:=by
 have l:∀ {b:Addr} {xs:List V},H b=some (.lst xs)->H' b=some (.lst xs):=λe=>s _ _ (λ_ z=>by cases z) e;rwa[⟨h.rk,h.wa,h.wi,h.ai,h.nd,s _ _ (λ_ z=>by cases z) h.ek,s _ _ (λ_ z=>by cases z) h.er,Paired.imp' (λG x ⟨S,a,R,z⟩=>⟨S,a,R,s _ _ (λ_ z=>by cases z) z⟩) h.pr,l h.ew,l h.ea,h.al,λj b A h1 h2=> ?_⟩];obtain ⟨F,e,d⟩:=h.ei j b A h1 h2;exact ⟨F,l e,s.dens d⟩
theorem pL.same {H0 H H':Hp}{kp lr lw la:Addr}{las:List Addr}{kvs:List (ce×V)}{k:Kp}(h:pL K H0 H kp lr lw la las kvs k)(s:aq H H'):pL K H0 H' kp lr lw la las kvs k:=⟨h.b.nt s.nt,h.s.trans s,h.n⟩
theorem FP: ¬kR=kW:=by decide+kernel
theorem KU: ¬kR=kA:=by decide+kernel
theorem FO: ¬kW=kA:=by decide+kernel
theorem OT {lr lw la:Addr}:eM @cj kR=some (.ref lr):=b5 rfl
theorem KJ {lr lw la:Addr}:eM @cj kW=some (.ref lw):=by
 unfold ir;rw [bC FP,b5 rfl]
theorem OU {lr lw la:Addr}:eM @cj kA=some (.ref la):=by
 unfold ir;rw [bC KU,bC FO,b5 rfl]
theorem Pi {lr lw la L:Addr}:dq @cj kW (.ref L)=ir lr L la:=by
 unfold dq;rw [if_pos (by rw [ig,KJ];rfl)];unfold ir;rw [map_cons,map_cons,map_cons,map_nil,if_neg FP,if_pos rfl,if_neg (λz=>FO (Eq.symm z))]
section
variable {H0 H:Hp}{kp lr lw la:Addr}{las:List Addr}{kvs:List (ce×V)}{k:Kp}
theorem uT.gR (h:uT K H kp lr lw la las kvs k):gz H kp (.str "riders") (some (.ref lr)):=by
 have z:=gz.k (k:=kR) h.ek;rw [OT] at z;exact z
theorem uT.gW (h:uT K H kp lr lw la las kvs k):gz H kp (.str "waiting") (some (.ref lw)):=by
 have z:=gz.k (k:=kW) h.ek;rw [KJ] at z;exact z
theorem uT.gA (h:uT K H kp lr lw la las kvs k):gz H kp (.str "aboard") (some (.ref la)):=by
 have z:=gz.k (k:=kA) h.ek;rw [OU] at z;exact z
theorem uT.pW (h:uT K H kp lr lw la las kvs k){L:Addr}:wQ H kp (.str "waiting") (.ref L) @er:=by
 have z:=wQ.k (k:=kW) (v:= .ref L) h.ek (y3 (by show 3<1000000;decide));rw [Pi] at z;exact z
theorem vW {t s g:Int}:∀ {rd:List (Int×Int×Int)} {kvs:List (ce×V)},Paired (G8 H) kvs rd->(rd.map (·.1)).Nodup->(t,s,g)∈rd->∃a,eM kvs @fF=some (.ref a)/\H a=some (.tup [.int t,.int s,.int g])
 |_,_,.nil,_,h=>nomatch h
 |_,_,.cons (a:=kv) (b:=x) ⟨e1,a,e2,e3⟩ p,nd,h=>by
  have j:=nodup_cons.mp (show ((x.1::_):List Int).Nodup from nd)
  rcases mem_cons.mp h with z|z
  ·subst z;exact ⟨a,by rw [b5 e1,e2],e3⟩
  ·obtain ⟨b,h1,h2⟩:=vW p j.2 z;rwa[⟨b,?_,h2⟩];rw [bC @gl]
   ·exact h1
   ·rw [e1] at y;have:=Sum.inl.inj y;exact j.1 (by rw [this];exact mem_map.mpr ⟨_,z,rfl⟩)
theorem Am {xs:List Int}{t:Int}:((xs.map D.int).any λd=>ja d (.int t))=decide (t∈xs):=by
 rw [any_map,Bool.eq_iff_iff,any_eq_true,decide_eq_true_eq];constructor
 ·rintro ⟨x,z,e⟩;have e:(x==t)=true:=e;rw [<-eq_of_beq e];exact z
 ·intro h;exact ⟨t,h,by show (t==t)=true;exact beq_self_eq_true t⟩
theorem iy:∀is:List Int,aC K H (is.map V.int) @fP
 |[]=> .nil
 |i::is=> .cons (.int i) (iy is)
end
theorem fq.updL {H:Hp}{b:Addr}{us:List V}{o:HO}(h:H b=some (.lst us)):fq H (upd H b o):=λx o' j Y e=>by
 rw [ao (λz=>by rw [z,h] at e;cases e;exact j _ rfl)];exact e
theorem fq.updK {H:Hp}{b:Addr}{F:List (ce×V)}{o:HO}(h:H b=some (.dK F)):fq H (upd H b o):=λx o' j Y e=>by
 rw [ao (λz=>by rw [z,h] at e;cases e;exact Y _ rfl)];exact e
theorem G8.sl {H H':Hp}(s:fq H H'){F:ce×V}{x:Int×Int×Int}(h:G8 H F x):G8 H' F x:=by
 obtain ⟨S,a,R,j⟩:=h;exact ⟨S,a,R,s _ _ (λ_ z=>by cases z) (λ_ z=>by cases z) j⟩
section
variable {H0 H:Hp}{kp lr lw la:Addr}{las:List Addr}{kvs:List (ce×V)}{k:Kp}
theorem pL.setW (a:pL K H0 H kp lr lw la las kvs k){L:Addr}{G:List Int}(I:H0 L=none)(S:L≠la)(Y:L∉las)(e:H L=some (.lst (G.map V.int))):pL K H0 @er kp lr L la las kvs {k with wt:=G}:=by
 have b:=a.b;have sl:fq H @er:= .updK b.ek
 have l:∀ {x:Addr} {xs:List V},H x=some (.lst xs)->(upd H kp (.dK @cR)) x=some (.lst xs):=λ{x xs} h=>by
  rw [ao (λz=>by rw [z,b.ek] at h;cases h)];exact h
 rwa[⟨⟨b.rk,S,Y,b.ai,b.nd,aj,by rw [ao b.rk];exact b.er,Paired.imp' (λU x z=>G8.sl sl z) b.pr,l e,l b.ea,b.al,λj x A h1 h2=> ?_⟩,aq.updF a.s (a.n kp (.head _)),λx F=> ?_⟩]
 ·obtain ⟨J,O,R⟩:=b.ei j x A h1 h2;exact ⟨J,l O,aC.sl sl R (fh _)⟩
 ·rcases mem_cons.mp F with rfl|F
  ·exact a.n _ (.head _)
  rcases mem_cons.mp F with rfl|F
  ·exact a.n _ (.tail _ (.head _))
  rcases mem_cons.mp F with rfl|F
  ·exact I
  ·exact a.n _ (.tail _ (.tail _ (.tail _ F)))
theorem pL.push (a:pL K H0 H kp lr lw la las kvs k){i:Nat}{b ta:Addr}{A:List (Int×Int)}{us:List V}{t g:Int}(G:las[i]? =some b)(Y:k.ab[i]? =some A)(F:H b=some (.lst us))(W:aC K H us @eq)(ht:H ta=some (.tup [.int t,.int g])):pL K H0 (upd H b (.lst (us++[.ref ta]))) kp lr lw la las kvs {k with ab:=k.ab.set i (A++[(t,g)])}:=by
 have B:=a.b;have I:b∈las:=mem_of_getElem? G;have sl:fq H (upd H b (.lst (us++[.ref ta]))):= .updL F;have R:i<k.ab.length:=(List.getElem?_eq_some_iff.mp Y).1;rwa[⟨⟨B.rk,B.wa,B.wi,B.ai,B.nd,?_,?_,Paired.imp' (λkv x z=>G8.sl sl z) B.pr,?_,?_,by show las.length=(k.ab.set i _).length;rw [length_set];exact B.al,λj x L h1 h2=> ?_⟩,aq.updF a.s (a.n b (.tail _ (.tail _ (.tail _ (.tail _ I))))),a.n⟩]
 ·rw [ao (λz=>by have:=B.ek;rw [z,F] at this;cases this)];exact B.ek
 ·rw [ao (λz=>by have:=B.er;rw [z,F] at this;cases this)];exact B.er
 ·rw [ao (λz=>B.wi (by rw [z];exact I))];exact B.ew
 ·rw [ao (λz=>B.ai (by rw [z];exact I))];exact B.ea
 ·have h2:(k.ab.set i (A++[(t,g)]))[j]? =some L:=h2;by_cases e:j=i
  ·subst e;rw [G] at h1;cases h1;rw [getElem?_set_self R] at h2;cases h2;rwa[⟨_,aj,?_⟩];rw [map_append];exact Paired.app (aC.sl sl W (fh _)) (.cons (d3 (aD.of (sl _ _ (λ_ z=>by cases z) (λ_ z=>by cases z) ht)) (.cons (.int _) (.cons (.int _) .nil))) .nil)
  ·rw [getElem?_set_ne @c] at h2;obtain ⟨J,S,U⟩:=B.ei j x L h1 h2
   have O:x≠b:=λz=>by
    subst z;have Z:=(List.getElem?_eq_some_iff.mp h1);have hi:=(List.getElem?_eq_some_iff.mp G);exact e ((getElem_inj B.nd).mp (Z.2.trans hi.2.symm))
   exact ⟨J,by rw [ao O];exact S,aC.sl sl U (fh _)⟩
theorem pL.setI (a:pL K H0 H kp lr lw la las kvs k){i:Nat}{L:Addr}{ys:List V}{G:List (Int×Int)}(R:i<las.length)(W:H0 L=none)(U:L≠la)(Y:L∉las)(n3:L≠lw)(e:H L=some (.lst ys))(d:aC K H ys (G.map bF)):pL K H0 (upd H la (.lst ((las.map V.ref).set i (.ref L)))) kp lr lw la (las.set i L) kvs {k with ab:=k.ab.set i G}:=by
 have B:=a.b;have sl:fq H (upd H la (.lst ((las.map V.ref).set i (.ref L)))):= .updL B.ea;have I:∀x∈las.set i L,x∈las\/x=L:=λx F=>fL F;rwa[⟨⟨B.rk,B.wa,λz=>(I _ z).elim B.wi λy=>n3 y.symm,λz=>(I _ z).elim B.ai λy=>U y.symm,?_,?_,?_,Paired.imp' (λkv x z=>G8.sl sl z) B.pr,?_,by rw [aj,map_set],by show (las.set i L).length=(k.ab.set i G).length;rw [length_set,length_set];exact B.al,λj x A'' h1 h2=> ?_⟩,aq.updF a.s (a.n la (.tail _ (.tail _ (.tail _ (.head _))))),λx F=> ?_⟩]
 ·rw [List.nodup_iff_pairwise_ne,pairwise_iff_getElem];intro p q S O J;rw [length_set] at S O;rw [List.getElem_set,List.getElem_set];have nd:=pairwise_iff_getElem.mp (List.nodup_iff_pairwise_ne.mp B.nd) p q S O J;split
  ·split
   ·lia
   ·exact λz=>Y (by rw [z];exact getElem_mem _)
  ·split
   ·exact λz=>Y (by rw [<-z];exact getElem_mem _)
   ·exact nd
 ·rw [ao (λz=>by have:=B.ek;rw [z,B.ea] at this;cases this)];exact B.ek
 ·rw [ao (λz=>by have:=B.er;rw [z,B.ea] at this;cases this)];exact B.er
 ·rw [ao B.wa];exact B.ew
 ·have h2:(k.ab.set i G)[j]? =some A'':=h2;by_cases ej:j=i
  ·subst ej;rw [getElem?_set_self R] at h1;cases h1;rw [getElem?_set_self (by rw [<-B.al];exact R)] at h2;cases h2;exact ⟨ys,by rw [ao U];exact e,aC.sl sl d (fh _)⟩
  ·rw [getElem?_set_ne @c] at h1 h2;obtain ⟨Z,h3,h4⟩:=B.ei j x A'' h1 h2;exact ⟨Z,by rw [ao (λz=>B.ai (by rw [<-z];exact mem_of_getElem? h1))];exact h3,aC.sl sl h4 (fh _)⟩
 ·rcases mem_cons.mp F with rfl|F
  ·exact a.n _ (.head _)
  rcases mem_cons.mp F with rfl|F
  ·exact a.n _ (.tail _ (.head _))
  rcases mem_cons.mp F with rfl|F
  ·exact a.n _ (.tail _ (.tail _ (.head _)))
  rcases mem_cons.mp F with rfl|F
  ·exact a.n _ (.tail _ (.tail _ (.tail _ (.head _))))
  ·rcases I _ F with z|z
   ·exact a.n _ (.tail _ (.tail _ (.tail _ (.tail _ z))))
   ·rw [z];exact W
theorem pL.rider (a:pL K H0 H kp lr lw la las kvs k){ta:Addr}{t s g:Int}(J:H ta=some (.tup [.int t,.int s,.int g])):pL K H0 (upd H lr (.dK (kvs++[(Sum.inl t,.ref ta)]))) kp lr lw la las (kvs++[(Sum.inl t,.ref ta)]) {k with rd:=k.rd++[(t,s,g)]}:=by
 have B:=a.b;have sl:fq H (upd H lr (.dK (kvs++[(Sum.inl t,.ref ta)]))):= .updK B.er
 have l:∀ {x:Addr} {xs:List V},H x=some (.lst xs)->(upd H lr (.dK (kvs++[(Sum.inl t,.ref ta)]))) x=some (.lst xs):=λ{x xs} h=>by
  rw [ao (λz=>by rw [z,B.er] at h;cases h)];exact h
 rwa[⟨⟨B.rk,B.wa,B.wi,B.ai,B.nd,by rw [ao B.rk.symm];exact B.ek,aj,?_,l B.ew,l B.ea,B.al,λj x A h1 h2=> ?_⟩,aq.updF a.s (a.n lr (.tail _ (.head _))),a.n⟩]
 ·exact Paired.app (Paired.imp' (λI x z=>G8.sl sl z) B.pr) (.cons ⟨rfl,ta,rfl,sl _ _ (λ_ z=>by cases z) (λ_ z=>by cases z) J⟩ .nil)
 ·obtain ⟨G,L,F⟩:=B.ei j x A h1 h2;exact ⟨G,l L,aC.sl sl F (fh _)⟩
theorem pL.wait (a:pL K H0 H kp lr lw la las kvs k){t:Int}:pL K H0 (upd H lw (.lst (k.wt.map V.int++[.int t]))) kp lr lw la las kvs {k with wt:=k.wt++[t]}:=by
 have B:=a.b;have sl:fq H (upd H lw (.lst (k.wt.map V.int++[.int t]))):= .updL B.ew;rwa[⟨⟨B.rk,B.wa,B.wi,B.ai,B.nd,?_,?_,Paired.imp' (λI x z=>G8.sl sl z) B.pr,by rw [aj,map_append];rfl,by rw [ao B.wa.symm];exact B.ea,B.al,λj x A h1 h2=> ?_⟩,aq.updF a.s (a.n lw (.tail _ (.tail _ (.head _)))),a.n⟩]
 ·rw [ao (λz=>by have:=B.ek;rw [z,B.ew] at this;cases this)];exact B.ek
 ·rw [ao (λz=>by have:=B.er;rw [z,B.ew] at this;cases this)];exact B.er
 ·obtain ⟨G,L,F⟩:=B.ei j x A h1 h2;exact ⟨G,by rw [ao (λz=>B.wi (by rw [<-z];exact mem_of_getElem? h1))];exact L,aC.sl sl F (fh _)⟩
end
inductive y9 (K:Fg)(vs:List V)(H:Hp)(Q:VK)(_e:XK):Prop
 |mk (ra kp st st' H0 lr lw la las kvs k k' r cs ws last fi cs' ws' last' fi':_) (_:vs=[.ref ra,.ref kp,.ref st,.ref st']) (_:pL K H0 H kp lr lw la las kvs k) (_:aD K H0 ra (Rw.v r)) (_:cx K H0 st cs ws last fi) (_:cx K H0 st' cs' ws' last' fi') (_:(k.rd.map (·.1)).Nodup) (_:k.wt.length<=400) (_:(∀A∈k.ab,A.length<=5000)) (_:k.ab.length=cs.length) (_:G7 cs fi' k r k') (_:∀lw' las' H',pL K H0 H' kp lr lw' la las' kvs k'->Q (.bl true) H')
theorem Jl (F:Z0 K "_law_row_done" nV f fd)(bo:mg "len"=none):az P w K mg base bg 1 f fd ["_law_row","_law_kept","_law_before","_law_after"] (y9 K):=by
 rwa[F.ok c8 (by symm) (λbm A outer s H O Q E Y h=> ?_)];obtain ⟨ra,kp,st,bf,H0,lr,lw,la,las,kvs,k,k',r,cs,ws,a7,fi,bj,bd,aY,bq,rfl,S,hT,aZ,aR,nd,wl,al,bl,hR,q⟩:=h;obtain ⟨tc,tw,xs,ys,h1,h2,h3,h4,h5⟩:=aZ;obtain ⟨be,bb,bc,a8,g1,g2,g3,g4,g5⟩:=aR;have U:=S.b;have I:=S.s.seqT hT;have xl:xs.length=cs.length:=h4.len
 obtain ⟨s0,g0,aW⟩:∃s0 g0,(r.tag,s0,g0)∈k.rd:=by
  cases r with
  |deal t i=>exact hR.1
  |note b t=>exact hR.1
  |step b t i fl=>obtain ⟨s,g,_,_,z,_⟩:=hR;exact ⟨s,g,z⟩
 obtain ⟨oa,hv,ho⟩:=vW U.pr nd aW
 have gV:gz H lr (.int r.tag) @fj:=by
  have z:=gz.k (k:=Sum.inl r.tag) U.er;rw [hv] at z;exact z
 have aK:oQ r.v 1=some (.int r.tag):=by cases r<;>rfl
 generalize aB:r.tag=tg at aW hv ho gV aK;rwa[⟨_,(aa (bp (i:=4) c8.nd rfl @gn @n) (aa (ax (ES (Cj (dG Y) (wv 4) @V)) @B ar) (aa (bp (i:=5) c8.nd rfl @q (cB (dG Y) @V (wv 4) @d)) (aa (ax (PW.pt (cG @cb (cY @cb))) (aa (bp (i:=6) c8.nd rfl @q @cT) (aa (pZ (dG Y) (wv 1) aS (bz rfl (aE (N':=["_law_other","_law_tag_here"]) (pk:=[none,some 4]) @o) (dJ rfl @V) @l (λC s H ex=>(ff (aP @bR (wv 0) (wv 1) (aG _)))) @O) rfl) @fd)) ar) (aa (ax @cb (ac (ak (iO @cT (iO (b9 @br (aA @ch rfl bo PySem.boot_len @fH) ag (aG _)) (lE (qf jo w_lt ag @n @bK)))))) ar) (aa (ax (PW.pt (cG (aP @bR (aA @ch rfl bo PySem.boot_len @fH) ag (aG _)) (cY (bw (fR jo w_lt ag @n @bK))))) @B ar) (aa (bp (i:=7) c8.nd rfl @q (av @h @F @n @d)) (aa (bp (i:=8) c8.nd rfl @q (av @h @V @n @d)) (aa (ax (PW.pt (cG (aP @br @ci ag (aG _)) (cY (aP @bR @ci @gi (aG _))))) @B ar) (aa (ax @cb (aa (bp (i:=6) c8.nd rfl @q (iO @cT (iO (b9 @br @u @n (aG _)) (lE (yV rfl @T))))) (aa (pZ (dG Y) (wv 1) aS (bz rfl (aE (N':=["_law_other","_law_tag_here"]) (pk:=[none,some 4]) @o) (dJ rfl @V) @l (λC s H ex=>(ff (aP @bR (wv 0) (wv 1) (aG _)))) @O) rfl) (aa (aO (gD rfl PySem.F.plainAttrs_list PySem.F.slot_list_append PySem.F.type_list_append jt (wv 8) (au (cW (au (wv 4) @gb)) am))) @fd))) ar) (aa (bp (i:=6) c8.nd rfl @q (iO (b9 @br @n aS (aG _)) (iO (b9 (uc rfl Y) (cW (au (wv 4) @gb)) (wv 8) @D) (lE (Kz (b9 @br @u @n (aG _)) (lE (iO @T (lE (b9 @br @n ag (aG _)))))))))) (aa (g9 (bz rfl (aE (N':=["_law_pair","_law_tag_here"]) (pk:=[none,some 4]) @o) (dJ rfl (wv 8)) @l (λC s H ex=>(ff (aP @bR @n (wv 1) (aG _)))) @O) (hU @V @n kq)) @fd)))))))))))),?_⟩];rwa[ae I aK ?_];rwa[⟨kp,_,rfl,U.gR,?_⟩];rwa[⟨lr,_,rfl,gV,?_⟩];rwa[⟨_,rfl,?_⟩];rwa[aL rfl ?_];rwa[⟨kp,_,rfl,U.gR,?_⟩];erw[⟨lr,_,rfl,gV,?_⟩];have ho:=aD.of (K:=K) ho
 have ay:∀ {b:Addr},H b=none->H0 b=none/\b≠la/\b∉las/\b≠lw:=λ{b} n=>by
  rwa[⟨none_of S.s n,λz=> ?_,λz=> ?_,λz=> ?_⟩]
  ·rw [z,U.ea] at n;cases n
  ·rcases U.obj b (.tail _ (.tail _ (.tail _ (.tail _ z)))) with ⟨_,y⟩|⟨_,y⟩
   ·rw [n] at y;cases y
   ·rw [n] at y;cases y
  ·rw [z,U.ew] at n;cases n
 have ap:∀d∈k.wt.map D.int,jq d<=50:=λd hd=>by obtain ⟨e,_,rfl⟩:=mem_map.mp hd;exact Nat.zero_le _
 cases r with
 |note b t=>
  obtain rfl:t=tg:=aB;obtain ⟨_,aF,rfl⟩:=hR;obtain ⟨W,J⟩:∃W,W=nW b:=⟨_,rfl⟩
  have I:aD K H ra [.str W,.int t]:=by rw [J];exact I
  have hw:W=s!"barred"\/W=s!"sent":=by
   rw [J];cases b
   ·exact .inr rfl
   ·exact .inl rfl
  rwa[ae I rfl ?_];rwa[gw @k @k];rwa[bG rfl ?_]
  rotate_left
  rwa[ae I rfl ?_];rwa[fz (hw.resolve_left z) ?_]
  all_goals
   rwa[⟨kp,_,rfl,U.gW,?_⟩];rwa[mq @ei (iy _) (.int _) ap ?_];rw [Am,decide_eq_true aF];rwa[⟨kp,_,rfl,U.gW,?_⟩];rwa[cz @ei ?_];rwa[b4 (xs:=k.wt.map V.int) (λj us H'=>H'=H/\us=((k.wt.take j).filter λx=> !decide (x=t)).map V.int) (bJ (by rw [length_map];lia)) (λj us H' p=>by rw [p.2,length_map];exact Nat.le_trans @Y (by rw [length_take];exact Nat.min_le_left _ _)) ⟨rfl,rfl⟩ (λj us H' _ p=>by rw [p.1];exact aN.of U.ew) (λj x us H' Z p=> ?_) (λus H' p L nl=> ?_)]
   ·obtain ⟨rfl,rfl⟩:=p;rw [getElem?_map] at Z
    cases hy:k.wt[j]? with
    |none=>rw [hy] at Z;cases Z
    |some y=>
     rw [hy] at Z;cases Z;erw[⟨cq,?_⟩];have nx:=eU (λx:Int=> !decide (x=t)) hy;show if (!decide (y=t))=true then _ else _
     cases hb:(!decide (y=t)) with
     |true=>
      rw [if_pos rfl];rwa[⟨rfl,?_⟩];rw [nx,hb,if_pos rfl,map_append];rfl
     |false=>
      rw [if_neg @b];rwa[⟨rfl,?_⟩];rw [nx,hb,if_neg @b,append_nil]
   obtain ⟨rfl,rfl⟩:=p;rw [length_map,take_length];obtain ⟨m0,m1,m2,m3⟩:=ay nl;have A1:=S.same (show aq H' (upd H' L (.lst ((k.wt.filter λx=> !decide (x=t)).map V.int))) from .upd nl);have e1:(upd H' L (.lst ((k.wt.filter λx=> !decide (x=t)).map V.int))) L=some (.lst ((k.wt.filter λx=> !decide (x=t)).map V.int)):=aj;generalize upd H' L (.lst ((k.wt.filter λx=> !decide (x=t)).map V.int))=H1 at A1 e1 ⊢;rwa[⟨kp,_,rfl,A1.b.pW,?_⟩];exact q L las _ (A1.setW m0 m1 m2 e1)
 |deal t i=>
  obtain rfl:t=tg:=aB;obtain ⟨_,aF,i0,i1,rfl⟩:=hR;obtain ⟨W,J⟩:∃W,W=DS:=⟨_,rfl⟩
  have I:aD K H ra [.str W,.int t,.int i]:=by rw [J];exact I
  rwa[ae I rfl ?_];rwa[bK (by rw [J];decide+kernel) ?_];rwa[ae I rfl ?_];rwa[bK (by rw [J];decide+kernel) ?_];rwa[ae I rfl ?_];rwa[fz J ?_];rwa[⟨kp,_,rfl,U.gW,?_⟩];rwa[mq @ei (iy _) (.int _) ap ?_];rw [Am,decide_eq_true aF];rwa[bG rfl ?_];rwa[bh I ?_];rwa[bG rfl ?_];rwa[ae I rfl ?_];rwa[fz i0 ?_];rwa[ae @gj rfl ?_];erw[bh @gk ?_];show Q (.bl (decide (i<(xs.length:Int)))) H;rw [decide_eq_true (show i<(xs.length:Int) by lia)];exact q lw las H S
 |step b t i fl=>
  obtain rfl:t=tg:=aB;obtain ⟨s1,aJ,c,A1',aT,i0,hc,hd,hp,ah,ai⟩:=hR;obtain ⟨a9,aU,a3⟩:=vW U.pr nd aT;rw [hv] at aU;cases aU;have an:=aD.of (K:=K) a3;obtain ⟨n,rfl⟩:=Int.eq_ofNat_of_zero_le i0;rw [Int.toNat_natCast] at hc ah ai;obtain ⟨W,J⟩:∃W,W=sW b:=⟨_,rfl⟩
  have G:aD K H ra [.str W,.int t,.int (n:Int),.int fl]:=by rw [J];exact I
  have hw:W=s!"in"/\b=true\/W=s!"out"/\b=false:=by
   rw [J];cases b
   ·exact .inr ⟨rfl,rfl⟩
   ·exact .inl ⟨rfl,rfl⟩
  have nl:=(List.getElem?_eq_some_iff.mp hc).1;obtain ⟨x,Z⟩:∃x,xs[n]? =some x:=⟨_,getElem?_eq_getElem @c⟩;obtain ⟨c',aX,ct,rfl,cb,bi,ec,_,_⟩:=h4.get1 Z;rw [hc] at aX;cases aX;have eT:=aD.of (K:=K) (S.s _ _ ec);obtain ⟨ab,ad⟩:∃ab,las[n]? =some ab:=⟨_,getElem?_eq_getElem (by rw [U.al,bl];exact nl)⟩;obtain ⟨us,eu,du⟩:=U.ei n ab A1' ad ah;have a1:oQ @cD (n:Int)=some (.ref ab):=c7 (by rw [getElem?_map,ad];rfl);have bn:A1'.length<=5000:=al A1' (mem_of_getElem? ah);have ul:us.length=A1'.length:=aM du;rwa[ae G rfl ?_];rwa[bK (by rcases hw with ⟨z,_⟩|⟨z,_⟩<;>rw [z]<;>decide+kernel) ?_];rwa[ae G rfl ?_];rwa[bK (by rcases hw with ⟨z,_⟩|⟨z,_⟩<;>rw [z]<;>decide+kernel) ?_];rwa[ae G rfl ?_];rwa[bK (by rcases hw with ⟨z,_⟩|⟨z,_⟩<;>rw [z]<;>decide+kernel) ?_];rwa[bh G ?_];rwa[aL rfl ?_];rwa[ae G rfl ?_];rwa[fz i0 ?_];rwa[ae @gj rfl ?_];rwa[bh @gk ?_];rwa[rH @c ?_];rwa[ae @gj rfl ?_];rwa[ae G rfl ?_];rwa[ae @gk (v:= .ref ct) (c7 Z) ?_];rwa[⟨kp,_,rfl,U.gA,?_⟩];rwa[ae G rfl ?_];rwa[cP (aN.of U.ea) a1 ?_];rwa[ae eT rfl ?_];rwa[bK hd ?_];rwa[ae eT rfl ?_];rwa[ae G rfl ?_];rwa[⟨eX @b @b,?_⟩];rwa[rH hp ?_];erw[ae G rfl ?_]
  rcases hw with ⟨hw,rfl⟩|⟨hw,rfl⟩
  ·rw [if_pos rfl] at ai;obtain ⟨aF,hs,a5,rfl⟩:=ai;rwa[fz hw ?_];rwa[⟨kp,_,rfl,U.gW,?_⟩];rwa[mq @ei (iy _) (.int _) ap ?_];rw [Am,decide_eq_true aF];rwa[bG rfl ?_];rwa[ae an rfl ?_];rwa[ae G rfl ?_];rwa[fz hs ?_];rwa[ae (S.s.seqT g1) rfl ?_];rw [a5];rwa[⟨kp,_,rfl,U.gW,?_⟩];rwa[cz @ei ?_];rwa[b4 (xs:=k.wt.map V.int) (λj O H'=>H'=H/\O=((k.wt.take j).filter λx=> !decide (x=t)).map V.int) (bJ (by rw [length_map];lia)) (λj O H' p=>by rw [p.2,length_map];exact Nat.le_trans @Y (by rw [length_take];exact Nat.min_le_left _ _)) ⟨rfl,rfl⟩ (λj O H' _ p=>by rw [p.1];exact aN.of U.ew) (λj x O H' Z p=> ?_) (λbk H' p L af=> ?_)]
   ·obtain ⟨rfl,rfl⟩:=p;rw [getElem?_map] at Z
    cases hy:k.wt[j]? with
    |none=>rw [hy] at Z;cases Z
    |some y=>
     rw [hy] at Z;cases Z;erw[⟨cq,?_⟩];have nx:=eU (λx:Int=> !decide (x=t)) hy;show if (!decide (y=t))=true then _ else _
     cases hb:(!decide (y=t)) with
     |true=>
      rw [if_pos rfl];rwa[⟨rfl,?_⟩];rw [nx,hb,if_pos rfl,map_append];rfl
     |false=>
      rw [if_neg @b];rwa[⟨rfl,?_⟩];rw [nx,hb,if_neg @b,append_nil]
   obtain ⟨rfl,rfl⟩:=p;rw [length_map,take_length];obtain ⟨m0,m1,m2,m3⟩:=ay af;have as:aq H' (upd H' L (.lst ((k.wt.filter λx=> !decide (x=t)).map V.int))):= .upd af;have A1:=S.same (show aq H' (upd H' L (.lst ((k.wt.filter λx=> !decide (x=t)).map V.int))) from .upd af);have e1:(upd H' L (.lst ((k.wt.filter λx=> !decide (x=t)).map V.int))) L=some (.lst ((k.wt.filter λx=> !decide (x=t)).map V.int)):=aj;generalize upd H' L (.lst ((k.wt.filter λx=> !decide (x=t)).map V.int))=H1 at A1 e1 as ⊢;rwa[⟨kp,_,rfl,A1.b.pW,?_⟩];have A2:=A1.setW m0 m1 m2 e1
   have aw:(upd H1 kp (.dK @cR)) ab=some (.lst us):=by
    obtain ⟨br,y1,y2⟩:=A2.b.ei n ab A1' ad ah;have:=as _ _ eu;rw [ao (λz=>by rw [z,A1.b.ek] at this;cases this)];exact this
   have aQ:aD K (upd H1 kp (.dK @cR)) oa [.int t,.int s1,.int aJ]:=aD.sl (.updK A1.b.ek) (as.seqT an);generalize upd H1 kp (.dK @cR)=H2 at A2 aw aQ ⊢;rwa[⟨.inl ⟨rfl,_,aN.of aw⟩,?_⟩];rwa[ae aQ rfl ?_];erw[b3 (bJ (by show 2<=1000000;decide)) λta H3 R n3 e3=> ?_];have A3:=A2.same R;obtain ⟨ba,y1,y2⟩:=A3.b.ei n ab A1' ad ah;have aH:=R _ _ aw;rw [aH] at y1;cases y1;rwa[iK aH @dA ?_];have A4:=A3.push ad ah aH y2 e3;exact q L las _ A4
  ·rw [if_neg Bool.false_ne_true] at ai;obtain ⟨aF,hg,rfl⟩:=ai;rwa[bK (by rw [hw];decide+kernel) ?_];rwa[ae G rfl ?_];rwa[fz hw ?_];rwa[ae an rfl ?_];rwa[b3 (bJ (by show 2<=1000000;decide)) λta H3 R n3 e3=> ?_];rwa[mq (aN.of (R _ _ eu)) (aC.same du R) (show bM K H3 (.ref ta) (bF (t,aJ)) from d3 @em (.cons (.int _) (.cons (.int _) .nil))) (λd hd=>by obtain ⟨e,_,rfl⟩:=mem_map.mp hd;exact (by decide:1<=50)) ?_];rw [Bi,decide_eq_true aF];rwa[bG rfl ?_];rwa[ae (R.seqT an) rfl ?_];rwa[ae (R.seqT G) rfl ?_];rwa[gw @k @k]
   rotate_left
   obtain ⟨f1,f2⟩:=hg.resolve_left z;rwa[ae ((S.s.trans R).seqT g1) rfl ?_];rw [f1];rwa[bG rfl ?_];rwa[ae (R.seqT G) rfl ?_];rw [f2]
   all_goals
    rwa[cz (aN.of (R _ _ eu)) ?_];rwa[b4 (xs:=us) (λj O H'=>H'=H3/\O.length<=j/\aC K H3 O (((A1'.take j).filter λx=> !decide (x.1=t)).map bF)) @bu (λj O H' p=>p.2.1) ⟨rfl,Nat.le_refl _,.nil⟩ (λj O H' _ p=>by rw [p.1];exact aN.of (R _ _ eu)) (λj x O H' a0 p=> ?_) (λO H' p L af=> ?_)]
    ·obtain ⟨rfl,vl,dv⟩:=p;obtain ⟨pr,a2,dp⟩:=bE (f:=bF) (aC.same du R) a0;obtain ⟨pa,zs,rfl,a4,dz⟩:=(show bM K H' x (.tup [.int pr.1,.int pr.2]) from dp).outT
     have aV:aD K H' pa [.int pr.1,.int pr.2]:=by
      cases dz with|cons q0 t0=>cases t0 with|cons q1 t1=>
      cases t1;cases q0.isInt;cases q1.isInt;exact a4
     have nx:=eU (λx:Int×Int=> !decide (x.1=t)) a2;rwa[⟨cq,?_⟩];erw[ae aV rfl ?_];show if (!decide (pr.1=t))=true then _ else _
     cases hb:(!decide (pr.1=t)) with
     |true=>
      rw [if_pos rfl];rwa[⟨rfl,by rw [length_append];show _+1<=_;lia,?_⟩];rw [nx,hb,if_pos rfl,map_append];exact Paired.app dv (.cons dp .nil)
     |false=>
      rw [if_neg @b];rwa[⟨rfl,by lia,?_⟩];rw [nx,hb,if_neg @b,append_nil];exact dv
    obtain ⟨rfl,vl,dv⟩:=p;rw [ul,take_length] at dv;have A3:=S.same R;have nH:H L=none:=none_of R af;obtain ⟨m0,m1,m2,m3⟩:=ay nH;have s5:aq H' (upd H' L (.lst O)):= .upd af;have e5:(upd H' L (.lst O)) L=some (.lst O):=aj;generalize upd H' L (.lst O)=H5 at s5 e5 ⊢;have A5:=A3.same s5;have a6:=R.trans s5;rwa[⟨kp,_,rfl,A5.b.gA,?_⟩];erw[ae (a6.seqT G) rfl ?_];have il:n<las.length:=(List.getElem?_eq_some_iff.mp ad).1;rwa[kz (j:=n) A5.b.ea (by have:=mQ (xs:=las.map V.ref) (i:=(n:Int)) @c (by rw [length_map];lia);rw [Int.toNat_natCast] at this;exact this) ?_];exact q lw (las.set n L) _ (A5.setI il m0 m1 m2 m3 e5 (aC.same dv s5))
theorem G7.lens {cs:List Cb}{fi:Bool}{k j:Kp}{r:Rw}{n:Nat}(h:G7 cs fi k r j)(G:∀A∈k.ab,A.length<=n):j.wt.length<=k.wt.length/\j.rd=k.rd/\j.ab.length=k.ab.length/\∀A∈j.ab,A.length<=n+1:=by
 have F:∀A∈k.ab,A.length<=n+1:=λA S=>Nat.le_succ_of_le (G A S)
 cases r with
 |deal t i=>obtain ⟨_,_,_,_,rfl⟩:=h;exact ⟨Nat.le_refl _,rfl,rfl,F⟩
 |note b t=>obtain ⟨_,_,rfl⟩:=h;exact ⟨length_filter_le _ _,rfl,rfl,F⟩
 |step b t i fl=>
  obtain ⟨s,g,c,A,_,_,_,_,_,S,h⟩:=h;have W:=G A (mem_of_getElem? S)
  cases b with
  |true=>
   rw [if_pos rfl] at h;obtain ⟨_,_,_,rfl⟩:=h;rwa[⟨length_filter_le _ _,rfl,length_set,λB U=> ?_⟩]
   rcases fL U with z|z
   ·exact F B z
   ·rw [z,length_append];show _+1<=_;lia
  |false=>
   rw [if_neg Bool.false_ne_true] at h;obtain ⟨_,_,rfl⟩:=h;rwa[⟨Nat.le_refl _,rfl,length_set,λB U=> ?_⟩]
   rcases fL U with z|z
   ·exact F B z
   ·rw [z];exact Nat.le_trans @Y (Nat.le_succ_of_le W)
theorem pY {kvs:List (ce×V)}{k:ce}{v:V}(h:eM kvs k=none):dq kvs k v=kvs++[(k,v)]:=by
 unfold dq;rw [if_neg (by rw [ig,h];decide)]
theorem A0 {H:Hp}{t:Int}:∀ {rd:List (Int×Int×Int)} {kvs:List (ce×V)},Paired (G8 H) kvs rd->t∉rd.map (·.1)->eM kvs @fF=none
 |_,_,.nil,_=>rfl
 |_,_,.cons (a:=kv) (b:=x) ⟨e1,_⟩ p,h=>by
  rw [bC (λy=>by rw [e1] at y;exact h (by rw [<-Sum.inl.inj y];exact .head _))];exact A0 p λz=>h (.tail _ z)
theorem x9:∀is:List Int,deps @fP<=0
 |[]=>Nat.le_refl _
 |i::is=>by rw [map_cons,deps];exact Nat.max_le.mpr ⟨Nat.le_refl _,x9 is⟩
theorem rV:∀es:List Dd,(es.flatMap dH).length<=es.length
 |[]=>Nat.le_refl _
 |e::es=>by
  rw [flatMap_cons,length_append,length_cons]
  have h1:(dH e).length<=1:=by cases e<;>simp [dH]
  have h2:=rV es;lia
theorem FT {k:Kp}{ds:List Dd}{i:Nat}{t s g:Int}{b:Bool}(J:ds[i]? =some (.come t s g b))(L:((k.more ds).rd.map (·.1)).Nodup):t∉(k.more @bh).rd.map (·.1):=by
 have O:=(List.getElem?_eq_some_iff.mp J)
 have e:ds.flatMap dH=(ds.take i).flatMap dH++(t,s,g)::(ds.drop (i+1)).flatMap dH:=by
  have j:ds.drop i= .come t s g b::ds.drop (i+1):=by rw [drop_eq_getElem_cons O.1,O.2]
  have S:=congrArg (List.flatMap dH) (List.take_append_drop i ds);rw [flatMap_append,j,flatMap_cons] at S;exact S.symm
 have R:(k.more ds).rd=(k.more @bh).rd++(t,s,g)::(ds.drop (i+1)).flatMap dH:=by
  show k.rd++ds.flatMap dH=(k.rd++(ds.take i).flatMap dH)++_;rw [e,append_assoc]
 rw [R,map_append,map_cons] at L;exact λz=>(nodup_append.mp L).2.2 t z t (.head _) rfl
inductive vg (K:Fg)(vs:List V)(H:Hp)(Q:VK)(_e:XK):Prop
 |mk (kp st st' dl ll H0 lr lw la las kvs k k' zs L ds cs ws last fi cs' ws' last' fi':_) (_:vs=[.ref kp,.ref st,.ref st',.ref dl,.ref ll]) (_:pL K H0 H kp lr lw la las kvs k) (_:cx K H0 st cs ws last fi) (_:cx K H0 st' cs' ws' last' fi') (_:yK K H0 dl ds) (_:aN K H0 ll zs) (_:aC K H0 zs (L.map Rw.d)) (_:L.length<=4000) (_:ds.length<=100) (_:k.wt.length<=300) (_:k.rd.length<=1000) (_:(∀A∈k.ab,A.length<=500)) (_:k.ab.length=cs.length) (_:cs'.length<=3) (_:ws'.length<=400) (_:((k.more ds).rd.map (·.1)).Nodup) (_:gP cs fi' @fK L k') (_:k'.rd=(k.more ds).rd) (_:k'.wt=ws'.map (·.tag)) (_:k'.ab=cs'.map (·.ps)) (_:(∀r∈ws',(r.tag,r.start,r.goal)∈k'.rd)) (_:(fi'=true->ws'=[])) (_:∀lw' las' kvs' H',pL K H0 H' kp lr lw' la las' kvs' k'->Q (.bl true) H')
theorem Fx (F:Z0 K "_law_kept_right" jF f fd)(aH:mg "isinstance"=none)(bc:mg "tuple"=none)(eG:mg "list"=none)(bo:mg "len"=none)(hZ:bf P w K mg base 1 "_law_row_done" ["_law_row","_law_kept","_law_before","_law_after"] (y9 K)):az P w K mg base bg 2 f fd ["_law_kept","_law_before","_law_after","_law_deeds_here","_law_log"] (vg K):=by
 rwa[F.ok vv (by symm) (λbL A outer s H vs Q E Y h=> ?_)];obtain ⟨kp,st,ao,dl,ll,H0,lr,lw,la,las,kvs,k,k',zs,L,ds,cs,ws,bu,fi,aQ,aT,a6,aX,rfl,hA,a8,ah,⟨xd,aU,pd⟩,ay,dL,Ll,bA,wl,rl,al,a0,c3,bx,nd,hR,bp,bm,aB,ba,a9,q⟩:=h;have bj:xd.length=ds.length:=pd.len;have zl:zs.length=L.length:=aM dL;rwa[⟨_,(aa (cO PassesOwn.never rfl (dJ rfl (wv 3)) @a (ac (ax (aP @br @u aS (aG _)) (aa (pZ (dG Y) @bN @u (cW (au @u (au @u @gb))) rfl) (ac (aO (gD rfl PySem.F.plainAttrs_list PySem.F.slot_list_append PySem.F.type_list_append jt @bN @gb)))) ar))) (aa (cO PassesOwn.never rfl (dJ rfl (wv 4)) @a (ac (ax (bw (cI rfl (bV hZ Y @b rfl (au (wv 6) (au (wv 0) (au (wv 1) @fG)))))) @B ar))) (aa (ax (PW.pt (cG (aP @bR (bz rfl (aE (N':=["_law_one"]) (pk:=[none]) @o) @gL @l @x (λC s H ex=>@n)) @bN (aG _)) (cY (PW.pt (gU (cI rfl @F) (gH (aP sS @bK ag (aG _)))))))) @B ar) (aa (cO PassesOwn.never rfl @gL @a (ac (ax (PW.pt (cG (bw (cI rfl (aA @da rfl aH boot_isinstance (au (wv 7) @bw)))) (cG (aP @bR (aA @ch rfl bo PySem.boot_len (au (wv 7) am)) ag (aG _)) (cY (aP @bR (im (wZ rfl) (wv 7) mz @gJ) (cB (dG Y) @bN @ci @d) (aG _)))))) @B ar))) (ac (ak (b9 @br (bz rfl (aE (N':=["_law_cabin"]) (pk:=[none]) @o) @gL @l @x (λC s H ex=>(bD (qh rfl) rfl eG boot_list (au @n am)))) @bN (aG _)))))))),?_⟩];rwa[cz (hA.s.seq aU) ?_];rwa[dX (xs:=xd) (λi σ W=>∃(G:List (ce×V)) (o5:Option V),pL K H0 W kp lr lw la las G (k.more @bh)/\σ=[some (.ref kp),some (.ref st),some (.ref ao),some (.ref dl),some (.ref ll),o5,none,none]) ⟨kvs,_,by show pL K H0 H kp lr lw la las kvs ⟨k.rd++[],k.wt++[],k.ab⟩;rw [append_nil,append_nil];exact hA,rfl⟩ (λi σ W _ R=>by obtain ⟨G,o5,a,_⟩:=R;exact a.s.seq aU) (λi x σ W hx R=> ?_) @eU]
 ·obtain ⟨G,o5,a,rfl⟩:=R;obtain ⟨d,hd,da,rfl,bk,aR⟩:=pd.get1 hx;have il:=(List.getElem?_eq_some_iff.mp hd).1
  have tk:ds.take (i+1)=ds.take i++[d]:=by rw [take_add_one,hd];rfl
  have S:=a.s _ _ bk;ext
  cases d with
  |come t s0 g0 b0=>
   obtain ⟨w0,aJ⟩:∃w0,w0=uk:=⟨_,rfl⟩
   have S:aD K W da [.str w0,.int t,.int s0,.int g0,.bl b0]:=by rw [aJ];exact aD.of S
   have em:k.more (ds.take (i+1))= {k.more @bh with rd:=(k.more @bh).rd++[(t,s0,g0)],wt:=(k.more @bh).wt++[t]}:=by
    unfold Kp.more;rw [tk,flatMap_append,map_append,<-append_assoc,<-append_assoc];rfl
   have nt:=FT (k:=k) hd nd;have cl:=rV @bh;rw [length_take] at cl
   have bI:(k.more @bh).wt.length<=500:=by
    show (k.wt++_).length<=500;rw [length_append,length_map];lia
   have kl:G.length<=2000:=by
    have h1:=a.b.pr.len
    have:(k.more @bh).rd.length<=1100:=by
     show (k.rd++_).length<=1100;rw [length_append];lia
    lia
   rwa[ae S rfl ?_];rwa[fz aJ ?_];rwa[ae S rfl ?_];rwa[ae S rfl ?_];rwa[ae S rfl ?_];erw[b3 (bJ (by show 3<=1000000;decide)) λta H2 s2 n2 e2=> ?_];have a2:=a.same s2;have aZ:=s2.seqT S;rwa[⟨kp,_,rfl,a2.b.gR,?_⟩];erw[ae aZ rfl ?_]
   have aW:wQ H2 lr (.int t) (.ref ta) (upd H2 lr (.dK (G++[(Sum.inl t,.ref ta)]))):=by
    have z:=wQ.k (k:=Sum.inl t) (v:= .ref ta) a2.b.er @dA;rw [pY (A0 a2.b.pr nt)] at z;exact z
   rwa[⟨lr,_,rfl,aW,?_⟩];have a3:=a2.rider (s:=s0) e2;have aK:aD K (upd H2 lr (.dK (G++[(Sum.inl t,.ref ta)]))) da [.str w0,.int t,.int s0,.int g0,.bl b0]:=aD.sl (.updK a2.b.er) aZ;generalize upd H2 lr (.dK (G++[(Sum.inl t,.ref ta)]))=H3 at a3 aK ⊢;rwa[⟨kp,_,rfl,a3.b.gW,?_⟩];rwa[⟨.inl ⟨rfl,_,aN.of a3.b.ew⟩,?_⟩];rwa[ae aK rfl ?_];rwa[iK a3.b.ew (y3 (by rw [length_map];show (k.more @bh).wt.length<1000000;lia)) ?_];exact ⟨_,_,by rw [em];exact a3.wait,rfl⟩
  |lf x0 i0=>
   have S:aD K W da [.str x0,.int i0]:=aD.of S
   have em:k.more (ds.take (i+1))=k.more @bh:=by
    unfold Kp.more;rw [tk,flatMap_append,show [Dd.lf x0 i0].flatMap dH=[] from rfl,append_nil]
   rwa[ae S rfl ?_];rwa[bK (by have ap:x0=s!"block"\/x0=s!"stick"\/x0=s!"free"\/x0=s!"goods"\/x0=s!"back":=aR;rcases ap with z|z|z|z|z<;>rw [z]<;>decide+kernel) ?_];exact ⟨_,_,by rw [em];exact a,rfl⟩
  |sg x0=>
   have S:aD K W da [.str x0]:=aD.of S
   have em:k.more (ds.take (i+1))=k.more @bh:=by
    unfold Kp.more;rw [tk,flatMap_append,show [Dd.sg x0].flatMap dH=[] from rfl,append_nil]
   rwa[ae S rfl ?_];rwa[bK (by have ap:x0=s!"fire"\/x0=s!"calm":=aR;rcases ap with z|z<;>rw [z]<;>decide+kernel) ?_];exact ⟨_,_,by rw [em];exact a,rfl⟩
 obtain ⟨G,o5,a,rfl⟩:=R;rw [bj,take_length] at a;have cl:=rV ds
 have bd:(k.more ds).wt.length<=400:=by
  show (k.wt++_).length<=400;rw [length_append,length_map];lia
 rwa[cz (a.s.seq ay) ?_];rwa[dX (xs:=zs) (λi σ W=>∃(ad:Addr) (I:List Addr) (ki:Kp) (o6:Option V),pL K H0 W kp lr ad la I G ki/\ki.rd=(k.more ds).rd/\ki.wt.length<=400/\ki.ab.length=cs.length/\(∀A∈ki.ab,A.length<=500+i)/\gP cs aX ki (L.drop i) k'/\σ=[some (.ref kp),some (.ref st),some (.ref ao),some (.ref dl),some (.ref ll),o5,o6,none]) ⟨lw,las,k.more ds,_,a,rfl,bd,a0,al,hR,rfl⟩ (λi σ W _ R=>by obtain ⟨ad,I,ki,o6,a,_⟩:=R;exact a.s.seq ay) (λi x σ W hx R=> ?_) @eU]
 ·obtain ⟨ad,I,ki,o6,a,af,aw,ai,bn,Z,rfl⟩:=R;obtain ⟨r,U,dr⟩:=bE (f:=Rw.d) dL hx;obtain ⟨ra,rfl,O⟩:=Mj dr;have il:=(List.getElem?_eq_some_iff.mp U).1
  have br:L.drop i=r::L.drop (i+1):=by rw [drop_eq_getElem_cons il,(List.getElem?_eq_some_iff.mp U).2]
  rw [br] at Z;obtain ⟨k1,r1,r2⟩:=Z;obtain ⟨n1,n2,n3,n4⟩:=r1.lens bn;rwa[y9.mk _ _ _ _ _ _ _ _ _ _ _ _ _ _ _ _ _ _ _ _ _ rfl a O a8 ah (by rw [af];exact nd) aw (λA hA=>by have:=bn A hA;lia) ai r1 λa4 aV H2 a2=> ?_];rwa[aL rfl ?_];exact ⟨a4,aV,k1,_,a2,n2.trans af,by lia,by lia,λA hA=>by have:=n4 A hA;lia,r2,rfl⟩
 obtain ⟨ad,I,ki,o6,a,af,aw,ai,bn,Z,rfl⟩:=R;rw [zl,drop_length] at Z;obtain rfl:k'=ki:=Z;obtain ⟨bC,bv,aF,an,g1,g2,g3,g4,g5⟩:=ah;have yl:an.length=aT.length:=aM g5;have bH:aF.length=aQ.length:=g4.len;rwa[ae (a.s.seqT g1) rfl ?_];rwa[cZ (a.s.seqT g3) ?_];rwa[cN (xs:=an) (λj J H'=>H'=W/\J=(aT.take j).map λr=>V.int r.tag) @bu (λj J H' p=>by rw [p.2,length_map,length_take];exact Nat.min_le_left _ _) ⟨rfl,rfl⟩ (λj J H' _ p=>by rw [p.1];exact a.s.seqT g3) (λj y J H' hy p=> ?_) (λJ H' p l1 a7=> ?_)]
 ·obtain ⟨rfl,rfl⟩:=p;obtain ⟨r,U,dr⟩:=bE (f:=be.d) g5 hy;obtain ⟨ra,rfl,O⟩:=dP (bM.same dr a.s);rwa[⟨cq,?_⟩];rwa[ae O rfl ?_];rwa[⟨rfl,?_⟩];rw [take_add_one,U,map_append];rfl
 obtain ⟨rfl,rfl⟩:=p;rw [yl,take_length];have s1:aq H' (upd H' l1 (.lst @bC)):= .upd a7;have e1:(upd H' l1 (.lst @bC)) l1=some (.lst @bC):=aj;generalize upd H' l1 (.lst @bC)=H1 at s1 e1 ⊢;have a1:=a.same s1;erw[⟨kp,_,rfl,a1.b.gW,?_⟩];have as:bM K H1 (.ref l1) (.lst (k'.wt.map D.int)):=C2 @dE (by rw [show @bC=k'.wt.map V.int by rw [bm,map_map];rfl];exact iy _);rwa[wm as (C2 (aN.of a1.b.ew) (iy _)) (by rw [jq];have:deps (k'.wt.map D.int)<=0:=x9 _;lia) ?_];rwa[aL rfl ?_];erw[ae @fR rfl ?_];cases bq:aX;rwa[aL rfl ?_];rwa[aL rfl ?_]
 rotate_left
 rwa[bG rfl ?_];rwa[ae @fR rfl ?_];rwa[bh @fS ?_];rwa[bK (by rw [yl,a9 bq];decide) ?_]
 all_goals
  rwa[ae @fR rfl ?_];rwa[cZ @fS ?_];rwa[jN (xs:=an) (λj σ HY=>aq H1 HY/\∃o7:Option V,σ=[some (.ref kp),some (.ref st),some (.ref ao),some (.ref dl),some (.ref ll),o5,o6,o7]) ⟨.refl _,_,rfl⟩ (λj σ HY _ R=>R.1.seqT @fS) (λj y σ HY hy R=> ?_) (λσ HY R=> ?_)]
  ·obtain ⟨sY,o7,rfl⟩:=R;have aY:=a1.same sY;obtain ⟨r,U,dr⟩:=bE (f:=be.d) g5 hy;obtain ⟨ra,rfl,O⟩:=dP (bM.same dr aY.s);obtain ⟨oa,hv,ho⟩:=vW aY.b.pr (by rw [bp];exact nd) (ba r (mem_of_getElem? U))
   have gV:gz HY lr (.int r.tag) @fj:=by
    have z:=gz.k (k:=Sum.inl r.tag) aY.b.er;rw [hv] at z;exact z
   rwa[lJ O rfl rfl ?_];rwa[aL rfl ?_];rwa[bh O ?_];rwa[aL rfl ?_];rwa[vo O (by show ¬(HT.sIx 4 0 none=0/\HT.sIx 4 4 (some 3)=4);decide) λt3 H3 s3 n3 e3=> ?_];have e3:H3 t3=some (.tup [.int r.tag,.int r.start,.int r.goal]):=e3;have a3:=aY.same s3;rwa[⟨kp,_,rfl,a3.b.gR,?_⟩];erw[ae (s3.seqT O) rfl ?_]
   have bb:gz H3 lr (.int r.tag) @fj:=by
    have z:=gz.k (k:=Sum.inl r.tag) a3.b.er;rw [hv] at z;exact z
   rwa[⟨lr,_,rfl,bb,?_⟩];rwa[wm (d:= .tup [.int r.tag,.int r.start,.int r.goal]) (d3 @em (.cons (.int _) (.cons (.int _) (.cons (.int _) .nil)))) (d3 (aD.of (s3 _ _ ho)) (.cons (.int _) (.cons (.int _) (.cons (.int _) .nil)))) (by show 1<=60;decide) ?_];rwa[aL rfl ?_];exact ⟨sY.trans s3,_,rfl⟩
  obtain ⟨sY,o7,rfl⟩:=R;have aY:=a1.same sY;rwa[ae (aY.s.seqT g1) rfl ?_];rwa[cZ (aY.s.seqT g2) ?_];rwa[cN (xs:=aF) (λj J H'=>aq HY H'/\J.length=j/\∀(i:Nat) (u:V),J[i]? =some u->∃c:Cb,aQ[i]? =some c/\bM K H' u (.lst (c.ps.map bF))) @bu (λj J H' p=>by lia) ⟨.refl _,rfl,λi u h=>by cases h⟩ (λj J H' _ p=>p.1.seqT (aY.s.seqT g2)) (λj y J H' hy p=> ?_) (λJ H' p l2 bi=> ?_)]
  ·obtain ⟨sm,ul,pu⟩:=p;obtain ⟨c,hc,t,rfl,b,bs,ec,eb,db⟩:=g4.get1 hy;have sH:=aY.s.trans sm;rwa[⟨cq,?_⟩];rwa[ae (aD.of (sH _ _ ec)) rfl ?_];rwa[mK (.inr (aD.of (sH _ _ eb))) λl3 H3 s3 n3 e3=> ?_];rwa[⟨sm.trans s3,by rw [length_append];show J.length+1=_;lia,λi u h=> ?_⟩];rw [List.getElem?_append] at h;split at h
   ·obtain ⟨c2,h1,h2⟩:=pu i u h;exact ⟨c2,h1,bM.same h2 s3⟩
   ·rename_i z
    have:i=j:=by
     have:=(List.getElem?_eq_some_iff.mp h).1;simp at this;lia
    subst this;rw [show i - J.length=0 by lia] at h;cases h;exact ⟨c,hc,C2 (aN.of e3) (aC.same db (sH.trans s3))⟩
  obtain ⟨sm,ul,pu⟩:=p;have s5:aq H' (upd H' l2 (.lst J)):= .upd bi;have e5:(upd H' l2 (.lst J)) l2=some (.lst J):=aj;generalize upd H' l2 (.lst J)=H5 at s5 e5 ⊢;have a5:=aY.same (sm.trans s5)
  have du:aC K H5 J (k'.ab.map λA=> .lst @eq):=PySem.Paired.of (by rw [length_map,aB,length_map];lia) λi u d h1 h2=>by
   obtain ⟨c,h3,h4⟩:=pu i u h1;rw [getElem?_map,aB,getElem?_map,h3] at h2;cases h2;exact bM.same h4 s5
  have bt:aC K H5 (I.map V.ref) (k'.ab.map λA=> .lst @eq):=PySem.Paired.of (by rw [length_map,length_map];exact a5.b.al) λi u d h1 h2=>by
   rw [getElem?_map] at h1 h2
   cases hb:I[i]? with
   |none=>rw [hb] at h1;cases h1
   |some b=>
    cases hA:k'.ab[i]? with
    |none=>rw [hA] at h2;cases h2
    |some A=>
     rw [hb] at h1;cases h1;rw [hA] at h2;cases h2;obtain ⟨vs,h3,h4⟩:=a5.b.ei i b A hb hA;exact C2 (aN.of h3) h4
  rwa[⟨kp,_,rfl,a5.b.gA,?_⟩]
  refine wm (C2 (aN.of e5) du) (C2 (aN.of a5.b.ea) bt) (by
   rw [jq]
   have h2:∀A:List (Int×Int),jq (.lst @eq)<=2:=λA=>by rw [jq];have:=uI A;lia
   have:∀ab:List (List (Int×Int)),deps (ab.map λA=>D.lst @eq)<=2:=λab=>by
    induction ab with
    |nil=>exact Nat.zero_le _
    |cons A ab ih=>rw [map_cons,deps];exact Nat.max_le.mpr ⟨h2 A,ih⟩
   have:=this k'.ab
   lia) ?_
  exact q ad I G _ a5
abbrev Sv:List V:=[.str LJ,.str LQ,.str LN,.str LK]
theorem zm {i fl:Int}(F:0<=i)(h1:i<4):∃s rk,oQ Sv i=some (.str s)/\fG s fl=some rk/\kL s:=by
 have Z:∃rk,fG LJ fl=some rk/\kL LJ:=⟨.sw,by unfold fG;rw [if_pos rfl],by decide,show ∀c∈LJ.cps.toList,c<128 by decide⟩;have I:∃rk,fG LQ fl=some rk/\kL LQ:=⟨.ho,by unfold fG;rw [if_neg @b,if_pos rfl],by decide,show ∀c∈LQ.cps.toList,c<128 by decide⟩;have O:∃rk,fG LN fl=some rk/\kL LN:=⟨.ne,by unfold fG;rw [if_neg @b,if_neg @b,if_pos rfl],by decide,show ∀c∈LN.cps.toList,c<128 by decide⟩;have j:∃rk,fG LK fl=some rk/\kL LK:=⟨.ba (fl - 1),by unfold fG;rw [if_neg @b,if_neg @b,if_neg @b,if_pos rfl],by decide,show ∀c∈LK.cps.toList,c<128 by decide⟩
 rcases (show i=0\/i=1\/i=2\/i=3 by lia) with rfl|rfl|rfl|rfl
 ·exact ⟨LJ,Z.imp λ_ h=>⟨rfl,h⟩⟩
 ·exact ⟨LQ,I.imp λ_ h=>⟨rfl,h⟩⟩
 ·exact ⟨LN,O.imp λ_ h=>⟨rfl,h⟩⟩
 ·exact ⟨LK,j.imp λ_ h=>⟨rfl,h⟩⟩
inductive D7 (K:Fg)(k:Ks)(vs:List V)(H:Hp)(Q:VK)(_e:XK):Prop
 |mk (a ns h hs:_) (_:vs=[.ref a,.ref h]) (_:yE K H a ns) (_:lS K H h hs) (_:∀ra dx (rk:Rk) H',rk.ok->aq H H'->H' ra=some (.ins @gw dx rk.fs)->Q (.ref ra) H')
theorem MX {k:Ks}{G:Addr}(F:Z0 K "_law_rule" zF f fd)(cT:N8 K k.t)(bx:Z00 P w K mg base)(m4:bf P w K mg base 3 "_law_letters" ["_law_script","_law_at"] (zd K))(rZ:bf P w K mg base 3 "rule_of" ["text","floors"] (λvs H Q _=>jz K k G vs H Q E0))(oA:jm P w K mg base @cr 1 "Table" k.t (jY K G)):az P w K mg base bg 4 f fd ["_law_script","_law_house_here"] (D7 K k):=by
 rwa[F.ok Iz (by symm) (λad A outer s H vs Q E Y h=> ?_)];obtain ⟨a,ns,h,hs,rfl,R,⟨U,p,ls,hh,hp,hl⟩,q⟩:=h;rwa[⟨_,(aa @a (aa (ax @a (ac (ak (bV rZ Y @b rfl @gI))) ar) (ac (ak (gC oA (IY (X:=_)) Y @b rfl @bi))))),?_⟩];rwa[tQ R @b @b @b @b λab W w1=> ?_];rwa[gw @k @k]
 ·ext;rwa[mJ (bJ @g) λl1 H1 S n1 e1=> ?_];obtain ⟨s,rk,es,Z,ht⟩:=zm (fl:=hs.fl) W z;rwa[cP @dE es ?_];rwa[ae (S.seqT hh) rfl ?_];exact IH ht U.f2 (λO L ra dx H2 s2 n2 e2=>q ra dx O H2 (EI U.f2 L) (S.trans s2) e2) (λI=>by rw [Z] at I;cases I)
 rwa[zd.mk _ _ _ rfl R @b @b λt H9 s9 j=> ?_];rwa[KS cT (by rw [j.1];decide) (JB j) (λ_ ru J HA sA nA eA=> ?_) (λI=>absurd j I)];exact q ru J (.ta t) HA j (s9.trans sA) eA
def NV (c:Cb):D:= .tup (K2 c.pl c.li c.dr c.mr c.ps)
def MS.d (M:MS):D:= .tup [.tup (M.cs.map NV),.tup @ef,.int M.last,.bl M.fire]
theorem LW {H:Hp}{st:Addr}{M:MS}(h:cx K H st M.cs M.ws M.last M.fire):bM K H (.ref st) M.d:=by
 obtain ⟨tc,G,xs,ys,h1,h2,L,j,S⟩:=h;rwa[d3 h1 (.cons (d3 h2 ?_) (.cons (d3 L S) (.cons (.int _) (.cons (.bl _) .nil))))];rwa[PySem.Paired.of (by rw [length_map];exact j.len) λi x d F R=> ?_];rw [getElem?_map] at R;obtain ⟨c,I,t,rfl,z⟩:=j.get1 F;rw [I] at R;cases R;exact z.den
theorem wr {α:Type}{g:α->D}{n:Nat}(h:∀a,jq (g a)<=n):∀as:List α,deps (as.map g)<=n
 |[]=>Nat.zero_le _
 |a::as=>by rw [map_cons,deps];exact Nat.max_le.mpr ⟨h a,wr h as⟩
theorem NQ (c:Cb):jq (NV c)<=3:=by
 have:=uI c.ps;show max 0 (max 0 (max 0 (max 0 (max (deps (c.ps.map bF)+1) 0))))+1<=3;lia
theorem NP (M:MS):jq M.d<=8:=by
 have h1:=wr NQ M.cs;have h2:deps @ef<=1:=wr (λr=>by show max 0 (max 0 (max 0 (max 0 0)))+1<=1;decide) M.ws;show max (deps (M.cs.map NV)+1) (max (deps @ef+1) (max 0 (max 0 0)))+1<=8;lia
theorem Rw.row (L:List Rw):∀d∈L.map Rw.d,Hk d:=λd J=>by
 obtain ⟨r,_,rfl⟩:=mem_map.mp J
 cases r with
 |deal t i=>exact ⟨_,t,[i],rfl,by simp⟩
 |note b t=>exact ⟨_,t,[],rfl,by decide⟩
 |step b t i fl=>exact ⟨_,t,[i,fl],rfl,by simp⟩
def S0 (hs:Hs):MS:=⟨hs.ls.map Dr,[],(hs.ls.length:Int) - 1,false,0,[]⟩
theorem Gp {hs:Hs}(h:hs.ok)(J:N4 hs):Sr hs [] 0 (S0 hs):=by
 rwa[⟨by show (hs.ls.map Dr).length=_;rw [length_map],λc I=> ?_,(λr Y=>nomatch Y),by have:=h.l1;show (0:Int)<=(hs.ls.length:Int) - 1;lia,Nat.le_refl _,λt J=> ?_⟩]
 ·obtain ⟨l,W,rfl⟩:=mem_map.mp I;obtain ⟨O,j⟩:=J l W;exact ⟨by show 0<=2*l.st;lia,by show 2*l.st<=_;lia,by show (-1:Int)<=0;decide,by show (0:Int)<=1;decide,by show (0:Int)<=0;decide,λz=>absurd z (by show ¬(0:Int)<0;decide),Nat.zero_le _,λp G=>nomatch G⟩
 ·rcases mem_append.mp J with z|z
  ·cases z
  ·obtain ⟨c,I,z⟩:=mem_flatMap.mp z;obtain ⟨l,_,rfl⟩:=mem_map.mp I;cases z
theorem LC {R:List Int}{k:Nat}{l:List Int}(h:l.Sublist [ft R (2*k),ft R (2*k+1)]):l.Nodup/\l.length<=2/\∀t∈l,∃j:Int,2*(k:Int)<=j/\j<2*(k:Int)+2/\t=ft R j:=by
 rwa[⟨h.nodup ?_,h.length_le,λt J=> ?_⟩]
 ·rw [nodup_cons];exact ⟨λz=>by have:=AR (mem_singleton.mp z);lia,by simp⟩
 ·rcases mem_cons.mp (h.subset J) with z|z
  ·exact ⟨_,Int.le_refl _,by lia,z⟩
  ·exact ⟨_,by lia,by lia,mem_singleton.mp z⟩
theorem NU {xs:List V}:(fB xs (some 8) (some 58)).length<=50:=by
 unfold fB;rw [show (some (8:Int))=some ((8:Nat):Int) from rfl,show (some (58:Int))=some ((58:Nat):Int) from rfl,HT.sIx_nat,HT.sIx_nat,length_take,length_drop];lia
theorem P6 {i:Int}(F:0<=i)(h1:i<3):∃k:Dk,oQ [V.str "near",.str "least",.str "turns"] i=some (.str k.tx):=by
 rcases (show i=0\/i=1\/i=2 by lia) with rfl|rfl|rfl
 ·exact ⟨.near,rfl⟩
 ·exact ⟨.least,rfl⟩
 ·exact ⟨.turns,rfl⟩
theorem uj {H:Hp}{P:Addr}{q:Str}(h:H P=some (.tbl #[])):dI H P q:=⟨#[],h,trivial,λpos G e=>by cases e⟩
theorem Ma {H H':Hp}{a:Addr}{R:List Int}(h:yE K H a R)(s:bu H H'):yE K H' a R:=⟨⟨s.sqL h.1.1,h.1.2⟩,h.2⟩
theorem NS {R:List Int}{hs:Hs}{j:Nat}{ds:List Dd}{T:List Int}(d:DT R hs j 8 ds)(O:∀t∈T,∃i:Int,i<2*(j:Int)/\t=ft R i):yL hs T ds/\∀t∈T++ds.flatMap eN,∃i:Int,i<2*((j+1:Nat):Int)/\t=ft R i:=by
 obtain ⟨L,Y,F⟩:=LC d.tg;rwa[⟨⟨d.len,Y,λU W=>KY (λe S=>(d.ok e S).2) L λt J z=> ?_,λe S=>(d.ok e S).1⟩,λt J=> ?_⟩]
 ·obtain ⟨i,i0,_,e⟩:=F t J;obtain ⟨Z,G,I⟩:=O t (W t z);have:=AR (e.symm.trans I);lia
 ·rcases mem_append.mp J with z|z
  ·obtain ⟨i,G,e⟩:=O t z;exact ⟨i,by lia,e⟩
  ·obtain ⟨i,_,G,e⟩:=F t z;exact ⟨i,by lia,e⟩
theorem Gq {hs:Hs}(h:hs.ok)(J:N4 hs):Sf hs [] 0 (S0 hs) ⟨[],[],hs.ls.map λ_=>[]⟩:=by
 have F:∀c∈(S0 hs).cs,c.ps=[]:=λc I=>by
  obtain ⟨l,_,rfl⟩:=mem_map.mp I;rfl
 rwa[⟨Gp h J,⟨rfl,?_,(λr Y=>nomatch Y),(λx L=>nomatch L),λc I p G=> ?_,List.nodup_nil,List.nodup_nil,λc I=> ?_,λt J=>nomatch J⟩,λj c l I W=> ?_,λ_ _ c I p G=> ?_,(λx L=>nomatch L),λz=>by cases z⟩]
 ·show (hs.ls.map λ_=>[])=(hs.ls.map Dr).map (·.ps);rw [map_map];rfl
 ·rw [F c I] at G;cases G
 ·rw [F c I];exact List.nodup_nil
 ·have I:(hs.ls.map Dr)[j]? =some c:=I;rw [getElem?_map,W] at I;cases I;have O:=mem_of_getElem? W;obtain ⟨U,S⟩:=J l O;have R:=h.lf l O;exact ⟨by show 0<=2*l.st;lia,by show 2*l.st<=_;lia,by show (-1:Int)<=0;decide,by show (0:Int)<=1;decide,Int.le_refl _,by show (0:Int)<=l.tn;lia,λz=>by have z:2*l.st% 2=1:=z;lia,Int.le_refl _,by show (0:Int)<=3;decide,by show ((0:Nat):Int)<=l.rm;lia⟩
 ·rw [F c I] at G;cases G
theorem JD {H H':Hp}(s:bu (rb H) H'):bu H H':=λb o n e=>s b o n (lF e n)
theorem DO {H H':Hp}{P:Addr}{q:Str}(s:fq H H')(t:dI H P q):dI H' P q:=by
 obtain ⟨ps,h1,h2,L⟩:=t;rwa[⟨ps,s _ _ (λ_ z=>by cases z) (λ_ z=>by cases z) h1,h2,λpos G e=> ?_⟩];obtain ⟨j,S,R⟩:=L pos G e;exact ⟨j,S,s _ _ (λ_ z=>by cases z) (λ_ z=>by cases z) R⟩
theorem Ml (L:List Rw):noLs (L.map Rw.d)=true:=by
 induction L with
 |nil=>rfl
 |cons r L ih=>cases r<;>exact ih
theorem PR {a b c:V}:oy [] [(kR,a),(kW,b),(kA,c)]=[(kR,a),(kW,b),(kA,c)]:=by
 have S:dq ([]:List (ce×V)) kR a=[(kR,a)]:=pY rfl;have R:dq [(kR,a)] kW b=[(kR,a),(kW,b)]:=pY (by rw [bC FP];rfl);have z:dq [(kR,a),(kW,b)] kA c=[(kR,a),(kW,b),(kA,c)]:=pY (by rw [bC KU,bC FO];rfl);show dq (dq (dq [] kR a) kW b) kA c=_;rw [S,R,z]
inductive xn (K:Fg)(Pn Pl:Addr)(vs:List V)(H:Hp)(Q:VK)(_e:XK):Prop
 |mk (a:Addr) (ns:List Int) (_:vs=[.ref a]) (_:yE K H a ns) (_:dI H Pn qN) (_:dI H Pl qL) (_:∀H',Q (.bl true) H')
theorem MY {k:Ks}{iu Pn Pl kn kl kT:Addr}(bO:Pn≠Pl)(F:Z0 K "law" Mf f fd)(R:R3 K P w mg base k)(bo:mg "len"=none)(bQ:mg "range"=none)(eG:mg "list"=none)(bc:mg "tuple"=none)(Nk:mg "max"=none)(aH:mg "isinstance"=none)(uF:mg "near"=some (.ref kn))(oG:mg "least"=some (.ref kl))(fP:mg "by_turns"=some (.ref kT))
(GV:bf P w K mg base 5 "near" ["cabins","waiting","rider","last"] (u8 K Pn))(Az:bf P w K mg base 5 "least" ["cabins","waiting","rider","last"] (AV K Pl))(oP:bf P w K mg base 3 "by_turns" ["cabins","waiting","rider","last"] (pU K))(lQ:bf P w K mg base 2 "dealer_of" ["text","house"] (λvs H Q _=>Eb kn kl kT vs H Q E0))(lO:bf P w K mg base 4 "_law_house" ["_law_script","_law_most"] (qo K))(bx:Z00 P w K mg base)(oM:bf P w K mg base 4 "_law_rule" ["_law_script","_law_house_here"] (D7 K k))(lP:bf P w K mg base 4 "_law_deeds" ["_law_script","_law_at","_law_house_here","_law_fire"] (qp K))(oN:bf P w K mg base 2 "_law_rows" ["_law_log"] (y8 K))(kb:bf P w K mg base 2 "_law_form" ["_law_house_here","_law_state"] (vh K))(lN:bf P w K mg base 1 "_law_moves" ["_law_house_here","_law_before","_law_after","_law_deeds_here"] (vc K))(fC:bf P w K mg base 2 "_law_kept_right" ["_law_kept","_law_before","_law_after","_law_deeds_here","_law_log"] (vg K))(cR:bf P w K mg base 1 "_law_whole" ["_law_thing"] iQ)
(Ai:jm P w K mg base bg 1 "Court" iu (Im K))(cC:N9 K iu)(jf:jU P w K mg base bg 2 "begin" iu (vj K))(jT:jU P w K mg base bg 9 "turn" iu (lZ P w K mg base Pn Pl)):az P w K mg base bg 11 f fd ["_law_script"] (xn K Pn Pl):=by
 rwa[F.ok kB (by symm) (λcr A outer s H vs Q E hr h=> ?_)];obtain ⟨a,ns,rfl,hS,tN,tL,q⟩:=h
 have cv:∀d:Dk,m8 P w K mg base 5 (d.ad kn kl kT) (uq K @cJ tG (gJ d)):=by
  obtain ⟨f1,x1,F1⟩:=GV.fnv;rw [uF] at x1;cases x1;obtain ⟨f2,x2,F2⟩:=Az.fnv;rw [oG] at x2;cases x2;obtain ⟨f3,x3,F3⟩:=oP.fnv;rw [fP] at x3;cases x3;exact NO bO F1.cal F2.cal F3.cal
 rwa[⟨_,(aa (bp (i:=1) kB.nd rfl @q (bV lO hr @b rfl (au (wv 0) (au ag am)))) (aa (bp (i:=2) kB.nd rfl @q (av @h (ng (au aS (au aS (au aS am)))) (bV bx hr @b rfl (au (wv 0) (au ag (au ag (au ag am))))) @d)) (aa (bp (i:=3) kB.nd rfl @q (gC Ai jI hr @b rfl (au (wv 1) (au (bV oM hr @b rfl (au (wv 0) @be)) (au (bV lQ hr @b rfl (au (wv 2) @be)) am))))) (aa (bp (i:=4) kB.nd rfl @q (Dy (n:=2) jI hr @b (wv 3))) (aa (bp (i:=5) kB.nd rfl @q (bD @el rfl bc boot_tuple (au (bz rfl (aE (N':=["_law_lift_here"]) (pk:=[none]) @o) (dJ rfl @S) @l @x (λC s H ex=>(cW (au @gi (au ag (au ag (au ag (au (cW am) am)))))))) am))) (aa (ax (PW.pt (cG (bw (cI rfl (bV kb hr @b rfl (au (wv 1) @fL)))) (cG (bw (cI rfl (bV cR hr @b rfl (au (av @h (wv 4) ag @d) am)))) (cY (aP (fg rfl hr) (wv 4) (cW (au (wv 5) (au (cW am) (au (bT qg (aA @ch rfl bo PySem.boot_len (au (wv 5) am)) ag) (au bW am))))) (aG _)))))) @B ar) (aa (bp (i:=6) kB.nd rfl @q (IW (qV aS E5 (qV aS (ng am) (qV aS (bz rfl (aE (N':=["_law_lift_here"]) (pk:=[none]) @o) (dJ rfl @S) @l @x (λC s H ex=>(ng am))) IQ))) rfl rfl @b @b)) (aa (cO PassesOwn.never rfl (dU rfl bQ (au (aA (Oq rfl) rfl Nk boot_max (au ag (au (aA @ch rfl bo PySem.boot_len (au (im (wZ rfl) (wv 0) @gJ @gJ) am)) am))) am)) @a (aa (bp (i:=8) kB.nd rfl @q (bV lP hr @b rfl (au (wv 0) (au (bT @fr ag (wv 7)) (au (wv 1) (au (av @h (wv 4) ag @d) am)))))) (aa (bp (i:=9) kB.nd rfl @q (uW (n:=9) jI hr @b (wv 3) (au (wv 4) (au (bD (qh rfl) rfl eG boot_list @fC) am)))) (aa (ax (PW.pt (cG (bw (cI rfl (aA @da rfl aH boot_isinstance (au (wv 9) @bw)))) (cG (aP (fg rfl hr) (aA @ch rfl bo PySem.boot_len (au (wv 9) am)) ag (aG _)) (cY (bw (cI rfl (bV oN hr @b rfl @gM))))))) @B ar) (aa (ax (PW.pt (cG (bw (cI rfl (bV kb hr @b rfl (au (wv 1) @gM)))) (cY (bw (cI rfl (bV lN hr @b rfl (au (wv 1) (au (wv 4) (au @bO @fC))))))))) @B ar) (aa (ax (bw (cI rfl (bV fC hr @b rfl (au (wv 6) (au (wv 4) (au @bO (au (wv 8) @gM))))))) @B ar) (ac (bp (i:=4) kB.nd rfl @q @bO)))))))) @B)))))))),?_⟩];rwa[qo.mk _ _ rfl hS λhA hs H1 s1 hH bA=> ?_];rwa[mJ (bJ (by show 3<=1000000;decide)) λl2 H2 s2 n2 e2=> ?_];have a9:=s1.trans s2;rwa[tQ (hS.same a9) @b @b @b @b λi i0 i1=> ?_];obtain ⟨d,ed⟩:=P6 i0 i1;rwa[cP (aN.of e2) ed ?_];rwa[D7.mk _ _ _ _ rfl (hS.same a9) (hH.same s2) λra dx rk H3 bL s3 e3=> ?_];rwa[SD ?_];rwa[RH cC λca cg H4 s4 n4 e4=> ?_];have hR:Ds P w K mg base H4 ra rk.word:=Mm R bL (s4 _ _ e3);have bi:=s2.trans (s3.trans s4);have a2:=s1.trans bi;have aO:=hH.same bi;have bj:Le P w K mg base iu Pn Pl H4 ca hs rk.word d:=⟨⟨cg,hA,ra,d.ad kn kl kT,e4,aO,hR,cv d⟩,rJ _ _ a2.st ⟨tN,tL⟩⟩;have bX:=hS.same a2
 have bS:∀fl li he up dn,ia li he up dn->rk.word fl li he up dn∈cy:=by
  obtain ⟨_,_,_,_,_,_,_,z,_⟩:=hR;exact z
 have hk:=hH.1;have F0:=Gq hk bA;rwa[qa e4 rfl jf ?_];rwa[vj.mk _ _ _ _ _ _ _ rfl e4 cC aO λst H5 s5 bF=> ?_];have W:=bF.st;have aT:=aO.same s5;obtain ⟨ho,p,ls,hh,hp,hl⟩:=id aT;have ll:ls.length=hs.ls.length:=hl.len;have l3:=ho.l3;rwa[ae hh rfl ?_];rwa[cZ hp ?_];rwa[cN (xs:=ls) (λj Z H'=>aq H5 H'/\aC K H' Z ((hs.ls.take j).map λl=>NV (Dr l))) @bu (λj Z H' p=>by have:=aM (f:=λl=>NV (Dr l)) p.2;rw [length_take] at this;lia) ⟨.refl _,.nil⟩ (λj Z H' _ p=>p.1.seqT hp) (λj x Z H' O p=> ?_) (λZ H' p l6 n6=> ?_)]
 ·obtain ⟨sm,du⟩:=p;obtain ⟨l,ci,b,rfl,lt⟩:=hl.get1 O;rwa[⟨cq,?_⟩];rwa[ae (sm.seqT lt) rfl ?_];rwa[⟨eX @b @b,?_⟩];rwa[b3 (bJ (by show 0<=1000000;decide)) λt0 H6 s6 n6 e6=> ?_];rwa[b3 (bJ (by show 5<=1000000;decide)) λt1 H7 s7 n7 e7=> ?_];rwa[⟨sm.trans @eT,?_⟩];rw [take_add_one,ci,map_append];exact Paired.app (aC.same du @eT) (.cons (d3 (aD.of e7) (.cons (.int _) (.cons (.int _) (.cons (.int _) (.cons (.int _) (.cons (d3 (aD.of (s7 _ _ e6)) .nil) .nil)))))) .nil)
 obtain ⟨sm,du⟩:=p;rw [ll,take_length] at du;have s6:aq H' (upd H' l6 (.lst Z)):= .upd n6;have e6:(upd H' l6 (.lst Z)) l6=some (.lst Z):=aj;generalize upd H' l6 (.lst Z)=H6 at s6 e6 ⊢;rwa[jw (aN.of e6) λfi H7 s7 n7 e7=> ?_];have aB:=sm.trans @eT;have bK:=aC.same du @eT;have an:=cx.nt aB.nt W;have bb:=aT.same aB;rwa[vh.mk _ _ _ _ _ _ _ rfl bb an (by rw [length_map]) (λj c l hc hl=>F0.fm j c l hc hl) λH8 s8=> ?_];rwa[aL rfl ?_];obtain ⟨tc,tw,xs,ys,q1,q2,q3,q4,q5⟩:=id (cx.nt s8.nt an);rwa[ae q1 (v:= .int ((hs.ls.length:Int) - 1)) rfl ?_];rwa[iQ.mk _ rfl ?_];rwa[aL rfl ?_];rwa[b3 (bJ (by show 0<=1000000;decide)) λt0 H9 s9 n9 e9=> ?_];rwa[bh (aD.of (s9 _ _ (s8 _ _ e7))) ?_];rwa[b3 (bJ (by show 4<=1000000;decide)) λt1 J bH b8 ba=> ?_];have af:=s9.trans bH;have ul:Z.length=hs.ls.length:=aM (f:=λl=>NV (Dr l)) du;rwa[wm (LW (M:=S0 hs) (cx.nt (s8.trans af).nt an)) (show bM K J (.ref t1) (S0 hs).d from d3 (aD.of ba) (.cons (d3 (aD.of ((s8.trans af) _ _ e7)) (by show aC K J Z ((hs.ls.map Dr).map NV);rw [map_map];exact aC.same bK @hf)) (.cons (d3 (aD.of (bH _ _ e9)) .nil) (.cons (by rw [ul];exact .int _) (.cons (.bl _) .nil))))) (by have:=NP (S0 hs);lia) ?_];rwa[aL rfl ?_];have Y:=aB.trans @hf;have cf:=a2.trans (s5.trans Y);have aV:=bj.same (s5.trans Y);have bE:=hS.same cf;have bI:=aT.same Y;have aX:=cx.nt Y.nt W;clear s8 af Y aB s6 s7 sm e6 e7 e9 ba q1 q2 q3 q4 q5 an bb du bK bj bX aO aT W b8 n9 n7;ext;intro kp aK;have sK:aq J (upd J kp (.dK [])):= .upd aK;have eK:(upd J kp (.dK [])) kp=some (.dK []):=aj;generalize upd J kp (.dK [])=HK at sK eK ⊢;ext;intro lr aR;have sR:aq HK (upd HK lr (.dK [])):= .upd aR;have eR:(upd HK lr (.dK [])) lr=some (.dK []):=aj;generalize upd HK lr (.dK [])=HR at sR eR ⊢;rwa[mJ (bJ (by show 0<=1000000;decide)) λlw HW sW nW eW=> ?_];have a1:=sR.trans sW;have al:=sK.trans a1;obtain ⟨ho,p,ls,hh,hp,hl⟩:=id bI;have ll:ls.length=hs.ls.length:=hl.len;have l3:=ho.l3;rwa[ae (al.seqT hh) rfl ?_];rwa[cZ (al.seqT hp) ?_];rwa[cN (xs:=ls) (λj Z H'=>aq HW H'/\∃bs:List Addr,Z=bs.map V.ref/\bs.length=j/\bs.Nodup/\∀b∈bs,HW b=none/\H' b=some (.lst [])) @bu (λj Z H' p=>by obtain ⟨_,bs,rfl,e,_⟩:=p;rw [length_map];lia) ⟨.refl _,[],rfl,rfl,List.nodup_nil,λb hb=>nomatch hb⟩ (λj Z H' _ p=>p.1.seqT (al.seqT hp)) (λj x Z H' O p=> ?_) (λZ H' p la ay=> ?_)]
 ·obtain ⟨sm,bs,rfl,bl,bn,hb⟩:=p;rwa[⟨cq,?_⟩];rwa[mJ (bJ (by show 0<=1000000;decide)) λb Hb sb nb eb=> ?_];rwa[⟨sm.trans sb,bs++[b],by rw [map_append];rfl,by rw [length_append];show bs.length+1=_;lia,nodup_append.mpr ⟨bn,nodup_cons.mpr ⟨not_mem_nil,List.nodup_nil⟩,λx O y hy z=> ?_⟩,λx O=> ?_⟩]
  ·rw [mem_singleton.mp hy] at z;rw [<-z] at nb;rw [(hb x O).2] at nb;cases nb
  ·rcases mem_append.mp O with z|z
   ·exact ⟨(hb x z).1,sb _ _ (hb x z).2⟩
   ·rw [mem_singleton.mp z];exact ⟨none_of sm nb,eb⟩
 obtain ⟨sm,las,rfl,bl,bn,hb⟩:=p;have sL:aq H' (upd H' la (.lst @cD)):= .upd ay;have eL:(upd H' la (.lst @cD)) la=some (.lst @cD):=aj;generalize upd H' la (.lst @cD)=HL at sL eL ⊢;have as:=sm.trans sL;have a4:=a1.trans as;rwa[⟨a4 _ _ eK,[(kR,.ref lr),(kW,.ref lw),(kA,.ref la)],rfl,by show 3<=15;decide,?_⟩];rw [PR]
 have ne:∀ {x y:Addr} {G:Hp} {o:HO},G x=none->G y=some o->x≠y:=λh1 h2 z=>by rw [z,h2] at h1;cases h1
 have rk:lr≠kp:=ne aR eK
 have aQ:∀ {x:Addr} {o:List V},HL x=some (.lst o)->x≠kp:=λ{x o} e z=>by rw [z,a4 _ _ eK] at e;cases e
 have wa:lw≠la:=λz=>ne ay (sm _ _ eW) z.symm;have wi:lw∉las:=λz=>ne (hb lw z).1 eW rfl
 have ai:la∉las:=λz=>by have:=(hb la z).2;rw [ay] at this;cases this
 have B0:uT K (upd HL kp (.dK @cj)) kp lr lw la las [] ⟨[],[],hs.ls.map λ_=>[]⟩:=by
  rwa[⟨rk,wa,wi,ai,bn,aj,by rw [ao rk];exact as _ _ (sW _ _ eR),.nil,by rw [ao (aQ (as _ _ eW))];exact as _ _ eW,by rw [ao (aQ eL)];exact eL,by rw [length_map];lia,λj b A h1 h2=> ?_⟩];have h2:(hs.ls.map λ_=>([]:List (Int×Int)))[j]? =some A:=h2
  have cb:A=[]:=by
   rw [getElem?_map] at h2
   cases O:hs.ls[j]? with
   |none=>rw [O] at h2;cases h2
   |some l=>rw [O] at h2;cases h2;rfl
  have e:=sL _ _ (hb b (mem_of_getElem? h1)).2;rw [cb];exact ⟨[],by rw [ao (aQ e)];exact e,.nil⟩
 have nB:∀x∈v6 kp lr lw la las,J x=none:=λx O=>by
  rcases mem_cons.mp O with rfl|O
  ·exact aK
  rcases mem_cons.mp O with rfl|O
  ·exact none_of sK aR
  rcases mem_cons.mp O with rfl|O
  ·exact none_of (sK.trans sR) nW
  rcases mem_cons.mp O with rfl|O
  ·exact none_of (al.trans sm) ay
  ·exact none_of al (hb x O).1
 have aw:aq J (upd HL kp (.dK @cj)):=aq.updF (al.trans as) aK;have e0:([(kR,V.ref lr),(kW,V.ref lw),(kA,V.ref la)]:List (ce×V))=ir lr lw la:=rfl;rw [e0];generalize upd HL kp (.dK @cj)=HM at B0 aw ⊢;clear a4 as sL eL sm hb bn wi ai wa aQ ne rk al a1 sW eW sR eR sK eK ay nW aR aK;rwa[Iq (aw.seq bE.1.1) λl8 H8 s8 n8 e8=> ?_];rwa[j3 (aN.of e8) ?_];have b7:=NU (xs:=ns.map V.int);generalize (fB @bW (some 8) (some 58)).length=be at b7;ext;obtain ⟨aF,aU,cp,cj⟩:∃aF:Int,aF=(if (be:Int)>10 then (be:Int) else 10)/\0<=aF/\aF<=50:=⟨_,rfl,by split<;>lia,by split<;>lia⟩;rw [<-aU];clear aU;rwa[⟨⟨by lia,by lia⟩,?_⟩];have bk:BM Pn Pl H8:=rJ _ _ (aw.trans s8).st aV.gg
 refine fY (λj σ HX=>∃(st:Addr) (S:MS) (T:List Int) (k:Kp) (lw:Addr) (las:List Addr) (kvs:List (ce×V)) (o7 o8 o9:Option V),bu (rb J) HX/\BM Pn Pl HX/\uT K HX kp lr lw la las kvs k/\(∀x∈v6 kp lr lw la las,rb J x=none)/\cx K HX st S.cs S.ws S.last S.fire/\Sf hs T (2*j) S k/\(∀t∈T,∃i:Int,i<2*(j:Int)/\t=ft ns i)/\k.rd.length<=2*j/\σ=[some (.ref a),some (.ref hA),some (.str d.tx),some (.ref ca),some (.ref st),some (.ref fi),some (.ref kp),o7,o8,o9]) ⟨st,S0 hs,[],_,lw,las,[],_,_,_,λb o n e=>(aw.trans s8) b o (by
  unfold rb at e
  cases hb:J b with
  |none=>rw [hb] at e;cases e
  |some o'=>rw [hb] at e;cases o'<;>first|exact e|cases e),bk,B0.nt s8.nt,λx O=>by unfold rb;rw [nB x O],cx.nt (aw.trans s8).nt aX,F0,(λt ht=>nomatch ht),Nat.le_refl _,rfl⟩ (λj σ HX hj pv=> ?_) (λσ HX pv=> ?_)
 ·clear bk B0 nB aX F0 aw s8 e8 n8;obtain ⟨st,S,T,k1,lw,las,kvs,o7,o8,o9,sX,gX,B,nX,W,SF,hT,bR,rfl⟩:=pv;rw [show (0:Int)+(j:Nat)=((j:Nat):Int) by lia];have aZ:=JD sX;have cX:=aV.nt aZ gX;have bN:=Ma bE aZ;have a8:=Bk aZ bI;obtain ⟨tc,tw,xs,ys,q1,q2,q3,q4,q5⟩:=id W;rwa[ae q1 rfl ?_];rwa[qp.mk _ _ _ _ _ _ rfl bN @c a8 λld xd ds HD sD nD eD pd dn=> ?_];obtain ⟨D,b6⟩:=NS dn hT;have cD:=cX.same sD;obtain ⟨dx,hX,co,cl,bZ,_⟩:=cD.ex;rwa[qa bZ rfl jT ?_];rwa[mK (.inl (aN.of eD)) λlh HE sE nE eE=> ?_];have a6:=sD.trans sE;rwa[OW (cD.same sE) cC (cx.nt a6.nt W) SF.r @c ⟨_,aN.of eE,j9 pd sE⟩ D λr bd ll zs M' HF L sF gF eF ap a0 a3 eL Ll _ b0 hG R'=> ?_];obtain ⟨L2',k2,bt,aY,SF',a7,b5⟩:=SF.turn hk D @c bS hG
  have L2l:L2'.length<=4000:=by
   have:=congrArg List.length (bt.symm.trans eL);rw [length_map,length_map] at this;lia
  rw [bt] at a3;have a5:bu HX HF:=a6.nt.trans sF;have BE:=B.nt a6.nt;have aW:=cx.nt a5 W;have bC:HF ld=some (.lst xd):=(sE.nt.trans sF) _ _ (λ_ z=>by cases z) eD;have bv:Paired (DR HF) xd ds:=Paired.imp' (λx d ⟨a,e,z⟩=>⟨a,e,(sE.nt.trans sF) _ _ (λ_ z=>by cases z) z.1,z.2⟩) pd;have bq:=Bk a5 a8
  have bY:ld∉v6 kp lr lw la las:=λz=>by
   rcases B.obj ld z with ⟨_,y⟩|⟨_,y⟩<;>rw [nD] at y<;>cases y
  have cc:ll∉v6 kp lr lw la las:=λz=>by
   rcases BE.obj ll z with ⟨bP,y⟩|⟨kv,y⟩
   ·exact b0 ll bP y rfl
   ·have:=sF _ _ (λ_ z=>by cases z) y;rw [a0] at this;cases this
  have BF:=BE.nt sF;rwa[F6 rfl (.tup eF) rfl ?_];rwa[aL rfl ?_];rwa[bh (aD.of eF) ?_];rwa[aL rfl ?_];rwa[ae (aD.of eF) rfl ?_];rwa[y8.mk _ _ _ rfl a0 a3 (Rw.row L2') (by rw [length_map];exact L2l) λHG sG=> ?_];rwa[aL rfl ?_];rwa[ae (aD.of (sG _ _ eF)) rfl ?_];rwa[vh.mk _ _ _ _ _ _ _ rfl (bq.same sG) (cx.nt sG.nt ap) SF'.r.len SF'.fm λHH sH=> ?_];have ah:=sG.trans sH;rwa[aL rfl ?_];rwa[ae (aD.of (ah _ _ eF)) rfl ?_];rwa[vc.mk _ _ _ _ _ _ _ _ _ _ _ _ _ _ rfl (bq.same ah) (cx.nt ah.nt aW) (cx.nt ah.nt ap) ⟨xd,aN.of (ah _ _ bC),j9 bv ah⟩ (SF'.r.len.trans SF.r.len.symm) (by rw [SF.r.len];exact hk.l3) b5 λHI sI=> ?_];have I:=ah.trans sI;rwa[aL rfl ?_];rwa[ae @eG rfl ?_];rwa[ae @eG rfl ?_];have BI:=BF.nt I.nt;have U:=BI.cut;have m1:=SF.m;have m2:=SF'.m
  have b2:k1.wt=S.ws.map (·.tag):=by have:=m1.wt;rw [map_nil,append_nil] at this;exact this
  have ch:k2.wt=M'.ws.map (·.tag):=by have:=m2.wt;rw [map_nil,append_nil] at this;exact this
  have ct:=SF.r.w;have cm:=SF'.r.w;have cn:=D.two;have d8:=D.len;have b9:=hk.l3;have b1:aD K (Ax HI @et) r [.ref bd,.ref ll]:=aD.sl U @eG
  refine vg.mk _ _ _ _ _ _ _ _ _ _ _ k1 _ _ _ _ _ _ _ _ _ _ _ _ rfl BI.wide (cx.sl U (cx.nt I.nt aW)) (cx.sl U (cx.nt I.nt ap)) ⟨xd,aN.of (mW (I _ _ bC) bY),Paired.imp' (λx d ⟨a,e,z⟩=>⟨a,e,U _ _ (λ_ z=>by cases z) (λ_ z=>by cases z) (I _ _ z.1),z.2⟩) bv⟩ (aN.of (mW (I _ _ a0) cc)) (aC.sl U (aC.same a3 I) (Ml L2')) L2l @c (by rw [b2,length_map];lia) @c (λA hA=>by
   rw [m1.ab] at hA;obtain ⟨c,hc,rfl⟩:=mem_map.mp hA;have:=(SF.r.ck c hc).len
   lia) (by rw [m1.ab,length_map]) (by rw [SF'.r.len];exact b9) @c (by rw [<-a7];exact m2.nd) aY a7 ch m2.ab m2.rw SF'.fw λb4 br bG HJ aJ=> ?_
  rwa[aL rfl ?_];rwa[ae (aJ.s.seqT b1) rfl ?_];have bm:bu (rb J) HI:=sX.trans (a5.trans I.nt);rwa[⟨bd,M',T++ds.flatMap eN,k2,b4,br,bG,_,_,_,λb o n e=>aJ.s _ _ (mW (bm b o n e) λz=>by rw [nX b z] at e;cases e),rJ _ _ aJ.s.st ⟨DO U (rJ _ _ I.st gF).1,DO U (rJ _ _ I.st gF).2⟩,aJ.b,λx O=> ?_,cx.nt aJ.s.nt (cx.sl U (cx.nt I.nt ap)),SF',b6,?_,rfl⟩]
  ·cases e:rb J x with
   |none=>rfl
   |some o=>
    have nt:∀ps,o≠ .tbl ps:=λps z=>Ab J x ps (by rw [e,z])
    have:=mW (bm x o nt e) λz=>by rw [nX x z] at e;cases e
    rw [aJ.n x O] at this;cases this
  ·rw [a7];show (k1.rd++ds.flatMap dH).length<=_;have:=congrArg List.length (jS ds);rw [length_map] at this;rw [length_append];lia
 obtain ⟨st,S,T,k1,lw,las,kvs,o7,o8,o9,sX,gX,B,nX,W,SF,hT,bR,rfl⟩:=pv;exact q _
end
end My
namespace My
open PySem L2 PyProof.Rows
seal PE PT PS tW PA PI PG Di Hr PW PO dE Od bR Dt yF K6 G9
seal uD jC mw vp Ki ut lK qu oX Be Km Kr xN DN xQ setL BP Ap tR wR Dp AI oW Gs Ic xX
seal GR oE Ak L2.pz L2.putAt L2.v5 iq J3 NL JJ Qy Kj Kn qv DQ
seal Ip jz Eb jA pX mf lZ
theorem F4 {K:Fg}{H:Hp}{a:Addr}{R:List Int}{E:XK}(j:aN K H a @gd)(W:R.length<=63)(F:∀i∈R,Builtin.Int.intBits i<=2^20)(O:∀t∈([(315,311),(320,318)]:List (Addr×Addr)),H t.2=some (.tbl #[])):xn K 311 318 [.ref a] H (λv _=>v= .bl true) E:=⟨a,R,rfl,⟨⟨j,W⟩,F⟩,uj (O (315,311) (.head _)),uj (O (320,318) (.tail _ (.head _))),λ_=>rfl⟩
theorem GF {P:Program}{w:World}{K:Fg}{mg:Str->Option Value}{base:Heap}{j F z:Addr}(L:iL K j)(I:aV K j "turns")(G:iL K F)(Y:aV K F "turns")(U:iL K z)(S:aV K z "turns")(O:jU P w K mg base bg 1 "left" j (jB K KO))(J:jU P w K mg base bg 1 "left" F (jB K hst))(W:jU P w K mg base bg 1 "left" z (jB K Ho)):Ld P w K mg base j F z:=by
 rwa[⟨λk R=> ?_,λk R=> ?_⟩]
 ·rcases R with rfl|rfl|rfl
  ·rw [Ny];exact ⟨L,I⟩
  ·rw [Nz];exact ⟨G,Y⟩
  ·rw [Nx];exact ⟨U,S⟩
 ·rcases R with rfl|rfl|rfl
  ·rw [Ny];exact O
  ·rw [Nz];exact J
  ·rw [Nx];exact W
theorem NZ {l:PySem.W.OpenLaw}{w:World}{K:Fg}{h:Heap}{mg:Str->Option Value}{fa:Addr}(X:K.In h)(G:h.Ns mainGlobals mg)(dF:mg "law"=some (.ref fa))
{tJ mP v7 O L R Y cQ rE ad ab z v8 fu iu f1 f2 f3 f4 f5 f6 f7 f8 f9 dB bV dy bR dp bX bK de bi b9 dH dl bI aa bN d3 dM dh bs dn c0 cD bk bv dL ct bz cr d8 dq du bm dE c4 ag ac cq dD di a0 c9 dV cN dA cm bJ dt cJ bh cS aJ b4 dR cK be bG ck c1 dk d7 bj dO aZ a3 cv cs b7 dz aG au dU aK cp cT cy d5 dI cY dY ba dj cV cw cn cI bB d9 ca ci cB aI:Addr}{aY aN:Option Addr}{aC:Array @Z}{ar an aS ah ai:Value}{ak as:Option Addr}{aU:Array @Z}{ay am aO aW aD:Value}{DP:Tok}{LG:Tok}{LF:Tok}{xb:Tok}{xa:Tok}{LD:Tok}{u3:Tok}
(On:W.nsIn K mainGlobals "Door"=some (some (.ref tJ)))
(Lp:W.nsIn K mainGlobals "Hasty"=some (some (.ref mP)))
(Ol:W.nsIn K mainGlobals "Slow"=some (some (.ref v7)))
(Du:W.nsIn K mainGlobals "Shuttle"=some (some (.ref O)))
(Lm:W.nsIn K mainGlobals "Table"=some (some (.ref L)))
(Om:W.nsIn K mainGlobals "Rule"=some (some (.ref R)))
(Hw:W.nsIn K mainGlobals "Homing"=some (some (.ref Y)))
(Dv:W.nsIn K mainGlobals "Nearest"=some (some (.ref cQ)))
(Hu:W.nsIn K mainGlobals "NoDeal"=some (some (.ref rE)))
(Og:W.nsIn K mainGlobals "near"=some (some (.ref ad)))
(Lj:W.nsIn K mainGlobals "least"=some (some (.ref ab)))
(BO:W.nsIn K mainGlobals "by_turns"=some (some (.ref z)))
(Hv:W.nsIn K mainGlobals "Moment"=some (some (.ref v8)))
(Ht:W.nsIn K mainGlobals "NoRule"=some (some (.ref fu)))
(Lq:W.nsIn K mainGlobals "Court"=some (some (.ref iu)))
(S:Lg K tJ)
(J:Lg K mP)
(Z:Lg K v7)
(j:sQ K v8)
(cC:N9 K iu)
(h1:L2.NF K "bit" Mi f1)
(h2:L2.NF K "has" Mh f2)
(h3:L2.NF K "with_bit" qB f3)
(h4:L2.NF K "below" zL f4)
(h5:L2.NF K "above" zM f5)
(h6:L2.NF K "mask_of" vC f6)
(h7:L2.NF K "listed" vE f7)
(h8:L2.NF K "lowest" vD f8)
(h9:L2.NF K "highest" qK f9)
(bH:L2.NF K "floor_of" qM dB)
(d1:L2.NF K "goals_aboard" iY bV)
(dT:L2.NF K "way_of" zD dy)
(bl:L2.NF K "tasks_of" qD bR)
(c6:L2.NF K "goes_along" ly dp)
(dv:L2.NF K "here_of" vO bX)
(a7:L2.NF K "view" EF bK)
(cA:L2.NF K "turned" vy de)
(bb:L2.NF K "bounded" qR bi)
(dJ:L2.NF K "with_changes" iT b9)
(b6:L2.NF K "steered" qE dH)
(cb:L2.NF K "may_step_in" lu dl)
(dS:L2.NF K "exchanged" lz bI)
(db:L2.MF K tJ "__init__" "Door.__init__" om aa)
(aP:L2.MF K tJ "left" "Door.left" oj bN)
(av:L2.MF K mP "left" "Hasty.left" lx d3)
(aM:L2.MF K v7 "left" "Slow.left" nK dM)
(c2:L2.NF K "door_of" vP dh)
(cg:L2.NF K "room_of" vB bs)
(co:L2.NF K "turns_of" qC dn)
(bC:L2.NF K "kind_of" vL c0)
(cu:L2.NF K "do_come" vS cD)
(a6:L2.NF K "dealt_to" qO bk)
(b0:L2.NF K "with_marks" kZ bv)
(cx:L2.NF K "without" qA dL)
(bT:L2.NF K "put_mark" qI ct)
(a9:L2.NF K "lose_mark" nR bz)
(bA:L2.NF K "do_fire" vQ cr)
(cZ:L2.NF K "is_left" vM d8)
(a2:L2.NF K "do_calm" vT dq)
(bM:L2.NF K "do_deed" vR du)
(dC:L2.NF K "is_serving" lv bm)
(cW:L2.NF K "serving" qG dE)
(c7:L2.NF K "serving_from" iW c4)
(bP:W.nsIn K mainGlobals "near"=some (some (.ref ag)))(aR:K.lookup ag=some ⟨ar,aY,.func (W.fnOf "near" "near" (cF fF) (bO fF) @gU .none an aS ah aN (.ref 315) ai),aC⟩)(aw:W.codeIn K (.ref 315) "near"=true)(ap:W.keepIn K (.ref ag)=true)
(aB:W.codeHdIn K 315 311=true)
(a1:W.nsIn K mainGlobals "least"=some (some (.ref ac)))(aj:K.lookup ac=some ⟨ay,ak,.func (W.fnOf "least" "least" (cF dN) (bO dN) @gV .none am aO aW as (.ref 320) aD),aU⟩)(aT:W.codeIn K (.ref 320) "least"=true)(aq:W.keepIn K (.ref ac)=true)
(aL:W.codeHdIn K 320 318=true)
(da:L2.NF K "by_turns" qQ cq)
(cX:L2.NF K "zone_of" AY dD)
(cc:L2.NF K "fixed_of" xB di)
(bD:L2.NF K "read_lifts" qH a0)
(cP:L2.NF K "dealer_of" on c9)
(bL:L2.NF K "deal" AZ dV)
(bt:L2.NF K "deal_all" my cN)
(dZ:L2.NF K "log_steps" nU dA)
(a5:L2.NF K "open_below" k9 cm)
(b3:L2.NF K "go_in_fire" nZ bJ)
(d4:L2.NF K "exchange" oh dt)
(c8:L2.NF K "go_by_rule" og cJ)
(d6:L2.NF K "go_without_fire" fV bh)
(b8:L2.NF K "go" Rx cS)
(cG:L2.MF K v8 "__init__" "Moment.__init__" jE aJ)
(cH:L2.NF K "state_of" qF b4)
(cO:L2.NF K "need_floor" lj dR)
(bU:L2.NF K "need_lift" nO cK)
(bw:L2.NF K "need_ride" nN be)
(bu:L2.NF K "need_deed" nQ bG)
(df:L2.NF K "tags_in" vz ck)
(ch:L2.NF K "need_deeds" lq c1)
(al:L2.MF K iu "turn" "Court.turn" iZ dk)
(dw:L2.NF K "swept" zE d7)
(cf:L2.NF K "nearest" qJ bj)
(bS:L2.NF K "shuttled" nL dO)
(bE:L2.NF K "place_in_table" g8 aZ)
(ax:L2.MF K R "word" "Rule.word" nM a3)
(aX:L2.MF K Y "word" "Homing.word" jG cv)
(ao:L2.MF K cQ "word" "Nearest.word" iX cs)
(aA:L2.MF K O "word" "Shuttle.word" iU b7)
(aE:L2.MF K L "word" "Table.word" k6 dz)
(dG:L2.MF K O "__init__" "Shuttle.__init__" iV aG)
(bn:L2.MF K L "__init__" "Table.__init__" k7 au)
(a8:L2.NF K "rule_of" vA dU)
(cL:L2.MF K iu "__init__" "Court.__init__" lD aK)
(cz:L2.NF K "cabin_of" qP cp)
(aQ:L2.MF K iu "begin" "Court.begin" jH cT)
(b1:L2.NF K "_law_cell" zK cy)
(d0:L2.NF K "_law_draw" zJ d5)
(c3:L2.NF K "_law_great" vJ dI)
(bq:L2.NF K "_law_whole" vF cY)
(dX:L2.NF K "_law_tag" EG dY)
(c5:L2.NF K "_law_lift" zH ba)
(bF:L2.NF K "_law_house" vI dj)
(dd:L2.NF K "_law_rider" vG cV)
(bZ:L2.NF K "_law_letters" nY cw)
(dP:L2.NF K "_law_rows" zG cn)
(dK:L2.NF K "_law_rule" zF cI)
(b5:L2.NF K "_law_deeds" vK bB)
(b2:L2.NF K "_law_form" zI d9)
(bp:L2.NF K "_law_moves" vH ca)
(dc:L2.NF K "_law_row_done" nV ci)
(dm:L2.NF K "_law_kept_right" jF cB)
(aV:L2.NF K "law" Mf aI)
(Lc:L2.iL K tJ)
(yP:W.findIn K (.ref tJ) "turns"=some none)
(Hl:L2.iL K mP)
(wU:W.findIn K (.ref mP) "turns"=some none)
(La:L2.iL K v7)
(yN:W.findIn K (.ref v7) "turns"=some none)
(sM:L2.iL K O)
(m9:W.findIn K (.ref O) "top"=some none)
(iM:W.findIn K (.ref O) "letters"=some none)
(wO:L2.iL K L)
(lT:W.findIn K (.ref L) "top"=some none)
(gv:W.findIn K (.ref L) "letters"=some none)
(Lb:L2.iL K R)
(Dq:W.findIn K (.ref R) "top"=some none)
(ua:W.findIn K (.ref R) "letters"=some none)
(BL:L2.iL K Y)
(yO:W.findIn K (.ref Y) "top"=some none)
(pR:W.findIn K (.ref Y) "letters"=some none)
(yI:L2.iL K cQ)
(wS:W.findIn K (.ref cQ) "top"=some none)
(oV:W.findIn K (.ref cQ) "letters"=some none)
(Li:W.nsIn K mainGlobals "range"=some none)
(QI:W.nsIn K mainGlobals "len"=some none)
(Lh:W.nsIn K mainGlobals "tuple"=some none)
(Nh:L2.Mk K tJ aa)
(JH:L2.Mk K mP aa)
(Ng:L2.Mk K v7 aa)
(Dw:W.nsIn K mainGlobals "NO_LIFT"=some (some (.int (-1) DP)))
(QL:W.nsIn K mainGlobals "all"=some none)
(Lo:W.nsIn K mainGlobals "STUCK"=some (some (.int 0 LG)))
(Ln:W.nsIn K mainGlobals "TAKEN"=some (some (.int 1 LF)))
(yS:W.nsIn K mainGlobals "enumerate"=some none)
(QG:W.nsIn K mainGlobals "min"=some none)
(QM:W.nsIn K mainGlobals "abs"=some none)
(wY:W.nsIn K mainGlobals "MOST_FIXED"=some (some (.int 9 xb)))
(wb:W.excIn K rE [.type "ValueError",.type "Exception",.type "BaseException",.type "object"] "ValueError.__new__"=true)
(Oh:W.nsIn K mainGlobals "list"=some none)
(Oi:W.nsIn K mainGlobals "dict"=some none)
(FU:L2.Mk K v8 aJ)
(QK:W.nsIn K mainGlobals "any"=some none)
(wX:W.nsIn K mainGlobals "TABLE_SIZE"=some (some (.int 36 xa)))
(Lk:W.nsIn K mainGlobals "WORDS"=some (some (.str "oxuds" LD)))
(j5:W.excIn K fu [.type "ValueError",.type "Exception",.type "BaseException",.type "object"] "ValueError.__new__"=true)
(FQ:L2.K8 K R)
(v4:L2.K8 K Y)
(rf:L2.K8 K cQ)
(CF:L2.Mk K O aG)
(JG:L2.Mk K L au)
(uV:W.nsIn K mainGlobals "TABLE_START"=some (some (.str "table " u3)))
(wW:W.nsIn K mainGlobals "isinstance"=some none)
(QJ:W.nsIn K mainGlobals "int"=some none)
(Oj:W.nsIn K mainGlobals "bool"=some none)
(QF:W.nsIn K mainGlobals "str"=some none)
(QH:W.nsIn K mainGlobals "max"=some none)
(JI:L2.Mk K iu aK)
(Hg:L2.t6 K iu):
 ∃fd:FuncData,(∀(s:Shared) (v:Value),BindsTo s fd ⟨[v],[]⟩ [("_law_script",v)])/\∀base:Heap,K.In base->base.Ns mainGlobals mg->L2.kN base mg->az l.prog w K mg base bg 11 fa fd ["_law_script"] (xn K 311 318):=by
 obtain ⟨aF,_,F100⟩:=aV;cases dF.symm.trans (W.mg_of X G aF);rwa[⟨_,F100.law,λbase KB _ BB=> ?_⟩];have T:L2.tU l.prog w K mg base h:=⟨X,G⟩;have PX:=T.gl On;have NH:=T.gl Lp;have PV:=T.gl Ol;have Gh:=T.gl Du;have NG:=T.gl Lm;have Gi:=T.gl Om;have wj:=T.gl Hw;have rM:=T.gl Dv;have wg:=T.gl Hu;have uF:=T.gl Og;have oG:=T.gl Lj;have fP:=T.gl BO;have JY:=T.gl Hv;have j6:=T.gl Ht;have NI:=T.gl Lq;have F44:=wk (x:="near") (qual:="near") (st:=fF) aR aw ap
 have dW:=F44.binds (ps:=["cabins","waiting","rider","last"]) λ_ _ _ _ _ _ us hl=>match us,hl with|[_,_,_,_],_=>rfl
 have F45:=wk (x:="least") (qual:="least") (st:=dN) aj aT aq
 have a4:=F45.binds (ps:=["cabins","waiting","rider","last"]) λ_ _ _ _ _ _ us hl=>match us,hl with|[_,_,_,_],_=>rfl
 have Qq:=Lc.cl;have N7:=Hl.cl;have Qo:=La.cl;have He:=sM.cl;have N6:=wO.cl;have Qp:=Lb.cl;have Kw:=BL.cl;have Hf:=yI.cl;have bQ:=T.no Li;have I:=T.no QI;have U:=T.no Lh;have br:=T.gl Dw;have Nn:=T.no QL;have we:=T.gl Lo;have Gg:=T.gl Ln;have dg:=T.no yS;have CH:=T.no QG;have xM:=T.no QM;have py:=T.gl wY;have eG:=T.no Oh;have FX:=T.no Oi;have Nm:=T.no QK;have pq:=T.gl wX;have Gf:=T.gl Lk;have mR:=T.gl uV;have aH:=T.no wW;have Nl:=T.no QJ;have uA:=T.no Oj;have Nj:=T.no QF;have Nk:=T.no QH;have yx:=T.cal' h1 λF=>M9 F;have m5:=T.cal' h2 λF=>M3 F yx;have fQ:=T.cal' h3 λF=>E9 F yx;have wF:=T.cal' h4 λF=>FG F yx;have GW:=T.cal' h5 λF=>FJ F wF;have se:=T.cal' h6 λF=>Cq F fQ;have Bw:=T.cal' h7 λF=>Ct F bQ m5;have Bv:=T.cal' h8 λF=>Cs F Bw;have yp:=T.cal' h9 λF=>z9 F;have cj:=T.cal' bH λF=>Fz F;have cU:=T.cal' d1 λF=>Fy F;have jd:=T.cal' dT λF=>MR F;have uJ:=T.cal' bl λF=>Fe F I cU se;have pG:=T.cal' c6 λF=>FI F jd;have yq:=T.cal' dv λF=>Ju F cj m5 cU pG;have K3:=T.cal' a7 λF=>Jg F cj uJ GW Bv wF yp yq;have Bu:=T.cal' cA λF=>z7 F I cj cU;have yw:=T.cal' bb λF=>Aa F cj;have bY:=T.cal' dJ λF=>Jf F;have yj:=T.cal' b6 λF=>z6 F I Bu yw bY;have je:=T.cal' cb λF=>MW F jd;have sr:=T.cal' dS λF=>Jx F I U cj jd je;obtain ⟨ea,_,F23⟩:=db;have ae:=T.ok (Jt F23);have FZ:=T.mkc F23 Nh PX ae;have Ah:=T.mkc F23 JH NH ae;have FY:=T.mkc F23 Ng PV ae;have AF:=T.mcal' aP Qq aP.1 λF=>Fu F;have yH:=T.mcal' av N7 av.1 λF=>Ft F;have AD:=T.mcal' aM Qo aM.1 λF=>Fs F;have yr:=T.cal' c2 λF=>Cy F S J Z FZ Ah FY;have mZ:=T.cal' cg λF=>Jm F;have fb:=T.cal' co λF=>z5 F;have yn:=T.cal' bC λF=>Cw F;have yu:=T.cal' cu λF=>Jy F j br m5;have fc:=T.cal' a6 λF=>FC F;have gM:=T.cal' b0 λF=>MQ F;have yh:=T.cal' cx λF=>zY F yx m5;have uL:=T.cal' bT λF=>Jn F j br fQ gM fc;have si:=T.cal' a9 λF=>Fp F j yh gM;have yt:=T.cal' bA λF=>Jw F j;have yo:=T.cal' cZ λF=>Fv F I;have yv:=T.cal' a2 λF=>JA F j Nn yo;have m6:=T.cal' bM λF=>PD F j we Gg yu fQ uL si yt yv;have gO:=T.cal' dC λF=>MZ F;have mY:=T.cal' cW λF=>Jj F dg gO;have kJ:=T.cal' c7 λF=>Pw F I bQ br gO;have bW:=T.ok (Jq aR aw (W.codeHd_of_K KB aB) BB CH xM br mY);have GV:L2.bf l.prog w K mg base _ "near" ["cabins","waiting","rider","last"] _:=⟨_,_,bW,dW,ap,T.gl bP⟩;have d2:=T.ok (Fw aj aT (W.codeHd_of_K KB aL) BB CH I br mY);have Az:L2.bf l.prog w K mg base _ "least" ["cabins","waiting","rider","last"] _:=⟨_,_,d2,a4,aq,T.gl a1⟩;have oP:=T.cal' da λF=>Fc F br kJ;have rY:=T.cal' cX λF=>Je F;have oO:=T.cal' cc λF=>FA F;have gB:=T.calX' bD λF=>Px F;have yT:=T.calX' cP λF=>PF F I py wg wb uF oG fP gB rY oO;have lQ:=yT.calm;have Bx:=T.cal' bL λF=>FD (Pn:=311) (Pl:=318) F j U br fc;have ke:=T.cal' bt λF=>Cz (Pn:=311) (Pl:=318) F j eG dg br Bx;have gt:=T.cal' dZ λF=>Jr F j cj;have pE:=T.cal' a5 λF=>Jo F j I gt fb;have pH:=T.cal' b3 λF=>M5 F j pE m5 bY;have uN:=T.cal' d4 λF=>M6 F j (GF Lc yP Hl wU La yN AF yH AD) I mZ fb yn sr gt yr m5 bY;have pI:=T.cal' c8 λF=>M8 F j mZ fb K3 yj;have iJ:=T.cal' d6 λF=>M4 F j uN bY pI;have bd:=T.cal' b8 λF=>Pz F j we m5 pH iJ;have mI:=T.mkc' cG FU JY λF=>Fo F eG;have ka:=T.cal' cH λF=>MU F j U;have pF:=T.cal' cO λF=>Cp F;have r9:=T.cal' bU λF=>Fm F I;have r6:=T.cal' bw λF=>Fk F pF;have sd:=T.cal' bu λF=>Jp F r6 r9;have yi:=T.cal' df λF=>Ji F;have gN:=T.cal' ch λF=>MV F FX yi sd;have jT:=T.mcal' al Hg al.1 λF=>Fd (Pn:=311) (Pl:=318) F j I bQ gN mI m6 ke bd ka;have wE:=T.cal' dw λF=>Fh F;have yk:=T.cal' cf λF=>z8 F;have uK:=T.cal' bS λF=>xI F;have jj:=T.cal' bE λF=>Fj F;have AE:=T.mcal' ax Qp ax.1 λF=>Fb F wE;have wN:=T.mcal' aX Kw aX.1 λF=>zZ F wE;have tY:=T.mcal' ao Hf ao.1 λF=>xH F yk;have tX:=T.mcal' aA He aA.1 λF=>xG F uK;have yG:=T.mcal' aE N6 aE.1 λF=>Cn F jj;have rn:=T.mkc' dG CF Gh λF=>Fi F;have oA:=T.mkc' bn JG NG λF=>Ff F I Nm pq Gf j6 j5;have Dx:=T.calX' a8 λF=>Co (k:=⟨R,Y,cQ,O,L⟩) F I (.mk sM m9 iM) (.mk wO lT gv) Gi wj rM FQ v4 rf rn oA mR j6 j5;have rZ:=Dx.calm;have Ai:=T.mkc' cL JI NI λF=>FF F;have uO:=T.cal' cz λF=>M7 F;have jf:=T.mcal' aQ Hg aQ.1 λF=>FH F I U uO;have iI:=T.cal' b1 λF=>Jz F I;have bx:=T.cal' d0 λF=>PB F iI;have sq:=T.cal' c3 λF=>Py F iI;have cR:=T.cal' bq λF=>Fa F aH Nl uA;have ym:=T.cal' dX λF=>MT F bx sq;have uM:=T.cal' c5 λF=>Fq F bx;have lO:=T.cal' bF λF=>Cu F U bQ bx uM;have sj:=T.cal' dd λF=>Cr F I bx;have m4:=T.cal' bZ λF=>Js F bQ bx;have oN:=T.cal' dP λF=>Jk F aH eG U Nj I cR;have oM:=T.cal' dK λF=>MX (k:=⟨R,Y,cQ,O,L⟩) F (.mk wO lT gv) bx m4 rZ oA;have lP:=T.cal' b5 λF=>Cv F I bx ym sj;have kb:=T.cal' b2 λF=>Jv F aH U uA I bQ cR;have lN:=T.cal' bp λF=>Fn F I bQ xM;have hZ:=T.cal' dc λF=>Jl F I;have fC:=T.cal' dm λF=>Fx F aH U eG I hZ;exact MY (Pn:=311) (Pl:=318) (k:=⟨R,Y,cQ,O,L⟩) @b F100 (Mn AE wN tY tX yG Lb Dq ua BL yO pR yI wS oV sM m9 iM wO lT gv) I bQ eG U Nk aH uF oG fP GV Az oP lQ lO bx oM lP oN kb lN fC cR Ai cC jf jT
theorem QO {l:PySem.W.OpenLaw}{q:Program}{j:List Str}{I:(Str->Option Value)->Heap->Prop}{Z:World->Heap->Prop}{d:DefRec}{K:Params->Fg}(J:l.most=some 63)(R:d.params.defaults=[])
(S:∀(w:World) (h:Heap),Z w h->(K w.params).In h/\∀t∈([(315,311),(320,318)]:List (Addr×Addr)),h.get? t.2=some (W.tabObj #[]))(aj:∀w:World,W.noTabs @ce=true)(G:∀w:World,∀t∈([(315,311),(320,318)]:List (Addr×Addr)),W.codeHdIn @ce t.1 t.2=true)
(F:∀(w:World) (mg:Str->Option Value) (fa:Addr) (h:Heap),(K w.params).In h->h.Ns mainGlobals mg->mg d.name=some (.ref fa)->
   ∃fd:FuncData,(∀(s:Shared) (u:Value),BindsTo s fd ⟨[u],[]⟩ [("_law_script",u)])/\∀base:Heap,(K w.params).In base->base.Ns mainGlobals mg->L2.kN base mg->az l.prog w @ce mg base bg 11 fa fd ["_law_script"] (xn @ce 311 318)):
 PySem.W.WalkO q j I Z l.row.toRowW d [] @dh:=
 L2.DB (tabs:=λ_=>[(315,311),(320,318)]) (n:=63) (k:=11) (x:="_law_script") (CX:=λ_=>bg) (sp:=λw=>xn @ce 311 318) J @b R ⟨rfl,by decide,by decide⟩ S aj G F (λ_ _ a ns L Y U O=>F4 O L Y U) λ_ _ _ _ _ z=>z
end My
open PySem PySem.W PyProof.Rows
local macro_rules | `(tactic| walk_at "l3t") => `(tactic| first | (refine' L2.PK ?_ ?_ ?_ ?_; all_goals try k_is) | (refine' L2.PN ?_ ?_ ?_ ?_ ?_; all_goals try k_is) | k_is | kernel_rfl | (refine L2.Sy ?_; constructor <;> walk_at "l3t"))
set_option maxRecDepth 100000 in
set_option maxHeartbeats 0 in
theorem PySem.Challenge.cw_liftcourt_k39_turns_are_safe_holds : PySem.Challenge.rw_liftcourt_k39_turns_are_safe.Holds := by
 w_on;o_law;k_head;(case hw=>w_witness2)
 k_fill
 rwa[My.QO (l:=PySem.Challenge.rw_liftcourt_k39_turns_are_safe) rfl rfl (λw h Y=>⟨PySem.W.km_in_of Y,λt J=>PySem.W.km_tabs_of Y _ (by simp only [mem_cons,not_mem_nil,or_false] at J;rcases J with rfl|rfl<;>decide)⟩) ?lnt ?lhc ?F]
 (case lnt=>intro w;kernel_rfl)
 (case lhc=>intro w t J;simp only [mem_cons,not_mem_nil,or_false] at J;rcases J with rfl|rfl<;>kernel_rfl)
 case F=>
  intro w mg z h j G S;refine' My.NZ j G S ?_ ?_ ?_ ?_ ?_ ?_ ?_ ?_ ?_ ?_ ?_ ?_ ?_ ?_ ?_ ?_ ?_ ?_ ?_ ?_ ?_ ?_ ?_ ?_ ?_ ?_ ?_ ?_ ?_ ?_ ?_ ?_ ?_ ?_ ?_ ?_ ?_ ?_ ?_ ?_ ?_ ?_ ?_ ?_ ?_ ?_ ?_ ?_ ?_ ?_ ?_ ?_ ?_ ?_ ?_ ?_ ?_ ?_ ?_ ?_ ?_ ?_ ?_ ?_ ?_ ?_ ?_ ?_ ?_ ?_ ?_ ?_ ?_ ?_ ?_ ?_ ?_ ?_ ?_ ?_ ?_ ?_ ?_ ?_ ?_ ?_ ?_ ?_ ?_ ?_ ?_ ?_ ?_ ?_ ?_ ?_ ?_ ?_ ?_ ?_ ?_ ?_ ?_ ?_ ?_ ?_ ?_ ?_ ?_ ?_ ?_ ?_ ?_ ?_ ?_ ?_ ?_ ?_ ?_ ?_ ?_ ?_ ?_ ?_ ?_ ?_ ?_ ?_ ?_ ?_ ?_ ?_ ?_ ?_ ?_ ?_ ?_ ?_ ?_ ?_ ?_ ?_ ?_ ?_ ?_ ?_ ?_ ?_ ?_ ?_ ?_ ?_ ?_ ?_ ?_ ?_ ?_ ?_ ?_ ?_ ?_ ?_ ?_ ?_ ?_ ?_ ?_ ?_ ?_ ?_ ?_ ?_ ?_ ?_ ?_ ?_ ?_ ?_ ?_ ?_ ?_ ?_ ?_ ?_
  all_goals try walk_at "l3t"
