import PyProof.Rows.All
import Wide.All
import KE.KDictOf
import KE.KDictList
import KE.KNestM
import KE.KFromBytes
import KE.KIsAll
import KE.KLam
import KE.RegMulBits
import Wide.FinOn
import KE.LcSums
import KE.KIntText
import KE.KRevIter
import KE.KMinKey
import KE.KCount
import PySem.Challenge.RW_liftcourt_k35_dealt_in_a_turn
set_option Elab.async false
set_option bootstrap.genMatcherCode false
set_option linter.all false
set_option maxRecDepth 100000
set_option maxHeartbeats 4000000
local macro_rules|`(s! $x)=>match x.raw[0].isInterpolatedStrLit? with|some s=>`(PySem.Str.ofString $(Lean.quote s))|_=>Lean.Macro.throwUnsupported
local macro_rules|`(tactic|symm)=>`(tactic|(intro _ _ _ _ h;cases h;subst_vars;rfl))
local macro_rules|`(tactic|ac_rfl)=>`(tactic|exact ⟨rfl,rfl,rfl,by decide+kernel,rfl,by decide+kernel,by decide+kernel⟩)
local macro_rules|`(tactic|ext)=>`(tactic|conv=>whnf)
local macro_rules|`(tactic|rwa[$x:term])=>`(tactic|refine $x)
local macro_rules|`(tactic|erw[$x:term])=>`(tactic|(refine $x;conv=>whnf))
local macro_rules|`(tactic|left)=>`(tactic|walk_at "l3go")
local macro_rules|`(tactic|right)=>`(tactic|walk_at "l3dd")
namespace Lean
def wN:=Syntax.node .none
def wI(s:String):Syntax:=mkIdent (.mkSimple s)
def wA(s:String):Syntax:=if s=="_" then wN ``Parser.Term.hole #[mkAtom s] else
 let c:=s.front;if c=='?' then wN ``Parser.Term.syntheticHole #[mkAtom "?",mkAtom "_"] else if c=='@' then wN ``Parser.Term.explicit #[mkAtom "@",mkIdent (s.drop 1).toString.toName] else
 if c.isDigit then Syntax.mkNumLit s else if c=='"' then Syntax.mkStrLit ((s.drop 1).dropEnd 1).toString else if c=='!' then Unhygienic.run (match s with|"!r"=>`((by right))|"!d"=>`((by decide))|"!l"=>`((by lia))|"!a"=>`((by assumption))|"!s"=>`((by simp))|"!k"=>`((by decide+kernel))|"!c"=>`((by kernel_rfl))|"!q"=>`((by walk_at "l3sq"))|"!f"=>`((by first|assumption|decide|lia))|"!g"=>`((by first|assumption|decide))|"!h"=>`((by first|decide|lia))|_=>`((by with_unfolding_all rfl))) else
 let d p:= !(p:String).front.isDigit;if c=='.' then wN ``Parser.Term.dotIdent #[mkAtom ".",mkIdent (s.drop 1).toString.toName] else let q:=s.splitOn ".";let i:Syntax:=mkIdent ((q.takeWhile d).foldl .str .anonymous);(q.dropWhile d).foldl (λt p=>wN ``Parser.Term.proj #[t,mkAtom ".",if d p then wI p else wN `fieldIdx #[mkAtom p]]) i
def wE(x:String):Syntax->Bool|.atom _ y=>x != y|_=>true
def wF:List Syntax->Syntax|[]=>.missing|[x]=>x|x::y=>Syntax.mkApp ⟨x⟩ (y.toArray.map (⟨·⟩))
def wL(l:List Syntax):Syntax:=match l.dropWhile (wE "λ") with|[]=>wF l|_::b=>let v:TSyntaxArray ``Parser.Term.funBinder:=(b.takeWhile (wE "=>")).toArray.map (⟨·⟩);let e:Term:=⟨wF ((b.dropWhile (wE "=>")).drop 1)⟩;wF (l.takeWhile (wE "λ")++[(Unhygienic.run `(fun $v*=>$e)).raw])
def wS(l:List Syntax):Syntax:=let r:=l.foldl (λ(s:Array Syntax×List Syntax) x=>if wE "," x then (s.1,x::s.2) else (s.1.push (wL s.2.reverse),[])) (#[],[]);Syntax.mkSep (if r.2.isEmpty then r.1 else r.1.push (wL r.2.reverse)) (mkAtom ",")
def wC(c:Char)(l:List Syntax):Syntax:=if c==']' then wN `«term[_]» #[mkAtom "[",wS l,mkAtom "]"] else if c=='⟩' then wN ``Parser.Term.anonymousCtor #[mkAtom "⟨",wS l,mkAtom "⟩"] else match l with|x::y::r=>if wE ":=" y then wL l else wN ``Parser.Term.namedArgument #[mkAtom "(",x,mkAtom ":=",wL r,mkAtom ")"]|_=>wL l
def wP(s:List (List Syntax)×String)(x:Syntax):List (List Syntax)×String:=match s.1 with|[]=>s|f::g=>((x::f)::g,"")
def wG(s:List (List Syntax)×String):List (List Syntax)×String:=if s.2=="" then s else wP s (if s.2=="=>"||s.2==":=" then mkAtom s.2 else wA s.2)
def wT(s:List (List Syntax)×String)(c:Char):List (List Syntax)×String:=if " ([⟨)]⟩,λ".contains c then let s:=wG s;if c==' ' then s else if "([⟨".contains c then ([]::s.1,"") else if c==','||c=='λ' then wP s (mkAtom c.toString) else match s.1 with|f::g=>wP (g,"") (wC c f.reverse)|_=>s else (s.1,s.2.push c)
def wD(t:String):Syntax:=match (wG (t.foldl wT ([[]],""))).1 with|[f]=>wL f.reverse|_=>.missing
end Lean
def Lean.wW:=("!r~!d~!l~model X.prog X.w~!s~Nat.le_refl _~!k~λC s H ex => @a~λab A outer s H vs Q E hr h => ?_~ac(ao @a)~λz => ?_~!c~bq X scope N' C s H ex~model prog w~λj A outer s H R Q E S h => ?_~cQ(fI rfl)(wv 0)aM(λ_ _ => rfl)~Or.inl rfl~λC s H ex => bC~λz => absurd z.1 @b~EP X pins σ Q~upd(upd H dx(.own a))a(.ins C dx[])~λC s H ex => (eS(K := K)(n := 2)rfl rfl(aF @a(aF @a de)))~λC s H ex => (eS(K := K)(n := 4)rfl rfl(aF @a(aF @a(aF @a(aF @a de)))))~mem_append_right _(.head _)~Option Nat~starEach es X.env~Heap.lt_size e~Option Value~aq @a am~ac(aK @a)~aV I q @e~ys.set j(.ref G)~post_val_or_str⟨Nat.le_trans(Txt.slice_le z _ _)J,G⟩~λC s H ex => (wv 0)~cy pk σ~bq X scope N' C F H fp~rs.map aH.d~upd H p(.lst ys)~mem_append_right _(.tail _(.head _))~λC s H ex => (dj @a)~mem_append_right _(mem_append_right _(gU L e))~λad A outer s H vs Q E hr h => ?_~ay(N' := [\"tag\",\"start\",\"goal\",\"lift\"])(pk := [none,none,none,none])@l~model P w~bt @c~aq(wv 2)(aq(aI(iE rfl)rfl cc boot_list(aq(wv 7)am))am)~aB @a @j ar~some(.ref f)~Nat.lt_of_lt_of_le @A I.ok.above~decide_eq_true z~!u~Nat.lt_irrefl _~~~~~~~~~~~λ_ _ => rfl~bp hs.lo⟨cs,ws,last,false,0,[]⟩ds~dS X.env.cells scope.names[]~Nat.ne_of_lt(Nat.lt_of_lt_of_le @A(I.ok.cab x c U G))~λx c z => b9.keep z st~aB @a(ac @a)ar~hI(aC.of R)(.cons(.str _)(.cons(.int _).nil))~List.map V.bl bs~ds.getD j .non~es.getD j .non~wpAny_pure⟨_,rfl,wpAny_pure h⟩~aq(wv 1)am~PySem.W.instObj C s.heap.objs.size~lJ CX P w K mg base N qual scope f j A outer s H E~upd H a o~length_filter_le _ _~ac(ao fB)~some v~U pins s σ H _ I h~fV xs lo hi~binaryOp .Add~I.ok.hd hc~upd H p(.lst(xs.set j v))~upd(upd H P _)c' _~~ns.map V.int~envOfC qual scope s.heap.objs.size f cd~kla_obj name qual j G scope F pm c' ctv~mem_append_right _ G~Value.type.inj S~mem_append_left _ G~wpAny_pure ?_~ae st~K w.params~aA.of a.ec~λh2 => ?_~starEach es env~upd H' D(.lst ys)~min its.toArray.size J.toArray.size~aq(wv 3)am~ac(ao(wv 2))~upd H a(.ins C dx(putF f y fs))~bE rfl aG @C~I.hok.fresh @f~upd H l(.lst ys)~ps.zip us~aT cs~Builtin.Str.glued z ts~λz A outer s H R Q E S h => ?_~!q~aB @a(ac(ao cY))ar~λz A outer s H R Q E G h => ?_~~~~~~~~~~~L.st.trans(.updL(L _ _ a.el))~aI(iE rfl)rfl cc boot_list @C~letOwnedTupleGo tg(.ref it)u~Value.ref j.objs.size~cL rfl(wv 0)(wv 1)~aq(wv 0)am~i7 H m lc lw ll~Ar P w~dI rfl~λvs H Q E h => ?_~j pins s σ H _ I h~start N vs~PySem.F.args_tuple_add_2 _ _~λ_ => rfl~dS env.cells scope.names[]~cQ(fI rfl)(wv 11)aM @ba~F.hok.fresh @f~Nat.lt_succ_self _~ps.mapλp => p.cps.toList~λh1 => ?_~bV P w~compEnvC scope @bc C X.env~starEach[]X.env~wpAny_seqItems nS.1 rfl ?_~aq(wv 11)am~cq hs.so c.pl c.li c.ps wd~s5.trans s6~upd H l(.tup ys)~I.same L~aC.of(s5 _ _ e4)~S b o e j~g i j~bh st~assign(.Name x G)X.env~λf vs => PySem.call f vs~unhid cs H H2~cq so pl li ps wd~cs.map fo~upd H Z(.dK[])~gP @a(iQ @a(wv 1)nO)~cL rfl(wv 0)@a~gP @a(iQ @a(wv 2)nO)~lO(.inr(aC.of h1))h2~pyNext(.ref it)~f(.int i t)(.int j u)~λj g1 g2 => ?_~λy => ?_~iC(j.take xs.length)f~aa @a(aa @a @j)~λu => ?_~compareOp .NotIn~ps.mapλp => p.2.toNat~~~~~~~~~~~dP rfl~j.mapλp => ka p.1 p.2~λb o F e => eb b o F e~ts.map V.str~CR aZ outer P w H s Q E~ml Kλl => .int l.rm~ml Kλl => .int l.tn~Bq @c~F.args_str_split_2 _ _~aA.of e1~cQ(fI rfl)@p aM @ba~ac(ao(wv 1))~λi ys H' hi p => ?_~yr(bO O J)~~I.base.free b o e n j~PySem.mem_of_lookup h~HT.sIx xs.length 0 lo~keywordEach[]X.env~λb u z => ?_~rs.take i~R.seqT hT~L2.hid cs H~Builtin.bitAnd c.mr 2~Builtin.bitAnd c.mr 1~TP X pins σ Q~binaryOp .Mult~λ_ _ => False~k.is.map V.int~PySem.W.instObj C dx~hi pins s σ H _ I h~he pins s σ H _ I h~bJ G(bS z)i~Builtin.bitOr c.mr 1~Builtin.bitOr c.mr 2~λ_ q => q~~vX X.stack~G pins s σ H _ I h~R pins s σ H _ I h~compareOp .In~bI st~Or.inr rfl~Y pins s σ H _ I h~some u~~m7 M i~aA.of e2~call(.ref f)[u]~keeperOf(.ref f)~λz => h z.2~λz => R z.1~~~~~~~~~~~bH.same dr U~sv.map V.int~λσ HY pv => ?_~zs.map V.int~I.ok.hd J~Rm X pins σ tg R~I.ok.hd j~λx => x.1.isSome~λj => tm @bi @bj~decide_eq_true h1~im so room pl s r~pX K GG LB pre dl~F b _ qλz => z~sr h lc lw M.last M.fire M.bl ll~bO W(ds.take j)~bB q z~I.tok _~ns.map WData.int~Dv pk wi g tt te~aQ h'.1~bF h'.2~typeIs_str _ _ _~λ_ _ _ => False~sO j.heap H~aH.d r~cq so pl li ps j~i7 H1 m lc lw ll~aA.of G~λσ I R => ?_~Nat.ne_of_lt @W~eval iter X.env~sIx j.size 0 lo~ac(ao aM)~λU => ?_~bP 0 M d~NZ r ta tb~h1.trans z~L _ _ a.ew~Heap.lt_size q~λ_ _ _ q => q~dE kvs p.1 p.2~vH li he up dn~aq(wv 12)am~tupleKind @cu~I.freeC x c e~wpAny_bind ?_~Nat.le_succ _~xs.length~upd H p o~nK c' q~Nat.zero_le _~ps.map iR~~~~~~~~~~~λz => h1 z.1~aK @a~ps.take i~M.ws.map aH.d~ac qH~ds.take i~aq(wv 2)am~bz(j := 0)rfl~Str.ofString \"0123456789\"~j.1 _ _ Z~I.stkSub b z~σ.set i @br~eval o X.env~~Option V~bq X scope N' C s H fp~List Nat~hid cs H~aA.of af~λz3 => ?_~aC.of et~fK cs ws~G _ _ ed~s9 _ _ I~fs.lookup f~compareOp j~R.map V.int~i _ _ _ _ q~Option Expr~wv 10~b9 K H~ws.map aH.d~fO i M~tR rfl~zs.getD i 0~λW => ?_~λS => ?_~Str.ofString \"oxuds\"~toString i~tb σ H1 Q~xs.set i v~L _ _ a.el~aA.of a.ew~v5 h ru df~upd H x o~Ne.symm Z~bs.all id~ks.map kV~Jg C dx t~s7 _ _ el~Ne.symm e~bO O J~~~~~~~~~~~X.wish E~backTo pos @bK~dE kvs Z.1 Z.2~az dl M.ws i M~GF lo n~ae d7~ae cN~kc kD kH kS k~Gv K a~Gu K a~M.ws.take j~cR dl M p r~az dl W i M~hH.same a.s~I.map V.int~its.push y~hC.same s1~L2.iM _ _ _ _ _~L2.ag !q rfl ?_~L2.aN !q rfl ?_~L2.iL _ _ _ _~L2.cI !q ?_~L2.b6 !q ?_~L2.Bo _ _ _ _ _~L2.kz !q rfl ?_~L2.spDraw _ _ _ _ _~L2.drawI !q !l !l !l ?_~L2.m5 _ _ _ _ _~L2.vR rfl(.tup !q)rfl ?_~L2.vR rfl(.lst !q)rfl ?_~L2.su _ _ _~L2.jA !f ?_~L2.dF !f ?_~L2.Q4 !f ?_~L2.Q5 !f ?_~L2.bL !g ?_~L2.be !g ?_~And(L2.PF _ _ _ _)_~⟨.inl⟨rfl,_,!q⟩,?_⟩~And(L2.C1 _ _)_~⟨L2.JW !d !d,?_⟩~And(L2.wu _ _)_~⟨L2.cZ !h !h,?_⟩".splitOn "~").toArray
local macro_rules|`(@$i:ident)=>do
 let n:=i.getId;let k:=n.toString.foldl (λk c=>k*62+(("abcdefghijklmnopqrstuvwxyzABCDEFGHIJKLMNOPQRSTUVWXYZ0123456789".splitOn c.toString).head!).length) 0;let s:=Lean.wW.getD k "";if n.hasMacroScopes||n.toString.length>2||s=="" then Lean.Macro.throwUnsupported else return Lean.wD s
open List (all_cons all_eq_true all_map any_cons any_eq_false any_eq_true any_filter any_map append_assoc append_nil cons_append drop_eq_getElem_cons drop_length drop_zero ext_getElem filterMap_cons filterMap_map filter_append filter_cons filter_cons_of_neg filter_cons_of_pos filter_nil find?_cons flatMap_append flatMap_cons flatMap_nil foldl_append foldl_cons forIn_cons getD_eq_getElem?_getD getElem?_append_left getElem?_append_right getElem?_drop getElem?_eq_getElem getElem?_map getElem?_replicate getElem?_set_ne getElem?_set_self getElem?_take_of_lt getElem?_zip_eq_some getElem_inj getElem_mem length_append length_cons length_drop length_eq_zero_iff length_filter_le length_map length_nil length_pos_iff length_range length_replicate length_set length_singleton length_take length_take_le lookup_cons lookup_eq_none_iff map_append map_congr_left map_cons map_eq_nil_iff map_map map_nil map_set mem_append mem_append_left mem_append_right mem_cons mem_cons_of_mem mem_cons_self mem_filter mem_filterMap mem_flatMap mem_iff_getElem mem_iff_getElem? mem_map mem_map_of_mem mem_of_getElem? mem_of_mem_take mem_or_eq_of_mem_set mem_range mem_reverse mem_singleton nil_append nodup_append nodup_cons not_mem_nil of_mem_zip pairwise_iff_getElem pairwise_lt_range range_succ range_succ_eq_map rel_of_pairwise_cons replicate_succ set_getElem_self size_toArray sum_cons take_add_one take_length take_of_length_le take_sublist take_succ take_zero)
local macro_rules|`(#check $s:str)=>do
 let a←(s.getString.splitOn " ").toArray.mapM λw=>let i:=Lean.mkIdent (.str `PySem.W.Fast ("tw"++toString (w.foldl (λk c=>k*62+(("0123456789ABCDEFGHIJKLMNOPQRSTUVWXYZabcdefghijklmnopqrstuvwxyz".splitOn c.toString).head!).length) 0)));`(command|def $i:ident:=True)
 return Lean.mkNullNode (a.map (·.raw))
#check "ClkJhTuHGCP IoK2XzDT67 1YcqXiIW7DG 4fB864ZYgKz 58thVqqa08w EFScysqKq57 BBIGyGG6iti woAjsi1dye 1zOivoRhSB5 KUj64HtpR0O KTy9QZIC0te Cxtl6LK7RAy 8mc25w6RDj AI5AzREMTSX DMGBab1Q3wy Lk0JuonfZCN 2WXx1ybI0F7 E4A4iZfCstH DsSyRSRZ7Vx IwM1slvTHCC E8OStqj2lKc 7KBH9hYeybB IXMseE2OP21 5Jcc9DC0FkF 1DDBsKTxyRV 9wtHCFNg4lP IBB6bWGStzJ 6YQ7rd4iuVU K5uROClq2Tu 4CfFZA1c6OZ KFbOuyy3Caf Igq3ZyI3j8T ipzIpqr4dT 39ipGD5Iq4L 8IdNYJpi97m 1nN78VcQepc HXsczWx001w FRnaO5zPnxC 1Di3Ymqv7jP EVtGsuE5ZbJ JLzkBTMhiP7 5vcf44Pahma HkhG1jRkJes CBZE2Pw68ID 6aS74fWgxEH 4UobHPRN0qX IpltFrDb29m JD7XQDx3gtf EEE7AVTgVqP 544nRKF8g4l FNeyTIaIIZQ F8XKnBpSzna KVjYiQ2jgRk 1WNhURryd57 48p1FIDVFAS KYEF7x8Zc9v D4F2llb0B0 3NmmnJseWR0 CR8YftrrBQG 7NtWaJ69F4b 9w2oiPELChr AuGEomqPRYK F0jJEV1ZL9Z K9UHahPyhGz 6wBL5Qp8Lpz 9X9pLqGgjeu 2nJBJ28TxPE KsDCYsMj54O DSPQeqIXqWf 3BcGM32OsEq 5qQvpQNKSW7 DBKkKC90Diz Cdz4xqjdbmn JkOB68daJhA DiMqKzMM8oZ 9tYos1NCKlM JRSoZ8hiU1r 6Ym49LNfUfQ K22RnXRD4BX 4mcasmEAHXf BJs5FpNHRao 9nbFYzWHsjR AZQ7WM1er1O KErS5u7PtYm GulBcwyy1rh IgBfKfwWsMO oryfBcShYw HWAooaNXB2r A5d2tU2xnP6 4WMhuoW33z 5eaw4rZZcDi O68PbYtCUs 5PesGRYgQQo 8Svz0Ax7sXD 5gh0DrV8UOS 1M7GVdT2zfW 5bxfkIQTpbz CKRYT5imIHl 7WqbeMjbjYz FjJ6s8WBGhF L2DkNz3x8hN JcYErM6gtF4 8QKnfMTXI7Z CHDIQxclLYs JsCEZgK9hVv L2CFuUIKQ7B FZb01ZcrytI H7uLnz0lVbT BNA5JuWtVrL 4FqivxG1k4p Lw5siIuB2x6 9BCDvj58IfT 7CgrYGBlFF4 KPvWelutdVv BS4JPSTy7ka 4CPdPqOlK4a 2xExqzGSFRR GZ6cWneZAOo 2Tis6XVreAz FVWZKcH9QPN L5Int7E7jxw 745YfpFKSdl Gwtswy9uoVy LZLI9pmBI1G 5ukoc0Hfnjt 4H44ceo7x4w EWW9xpd0QwB Gne85HX1YXW 5REKaoUZ3cD LBdpLWtUj1 Bv6U4Zt9D3r 1D7KuSsB57G DcHCziyVsuk EUyC9eKPqT1 33DLdzN9D4i 7prrnlSWNOs 5L6KJKVp3Ze KWeN1Pl38Jr 76PsjP59faW AVaWtSh6p1e 7kdod9Q6IgP 1v5YfWTFRnF AZk3MiP5iop 4QoE1uAWZzo 5hXfPkasgLs IKM6DtAAtiF 2GmwtbkZJI5 4RdCD2RTHFA 2R3g959rZ9b 30btUQwWQI6 LCDAne5XUAA 8OAykBaZhBb DYrqkvDxOpU 3jX1zoEFrZZ CZ2tQODGtpL AeZN3HC7Wfn KQF4tWIeIvJ JZF10AEcCYR 64gs90yg4oc 1CrbSBAGJrO KW4vxccGM0P AeDqBY56fwH 7Vx18lznL4u Cq6mE6cNrnv 6UbMuM6gA8A 5WdxaNS5wbh A0CJQBDg3NO 2FxHtdDUaVD 2fTNafJ2x4C 7E8FEpJmWrp DIalnRSUh5g KMLeCQAnsiJ BdRoxoc1qXU LPvvd27AwDF CFR1DcLn4uK fTxmAXFfMm GwRCuz7a20F Jea5FvUVYkM 3SeUtBuBb66 D94QwB6zUCA LO6VKOO7onJ HqHQYvAAtLL EZBY3FwLzAD IkYKoH1DCOd 4XOmaWdyJ7G 424DBME91Hm 8GVeELE3gME B9m32zIzyHd CpEwz7Azp8Y CxHNIPAbwxp JffeBmsOMlo KgHUrDe0J4N EV0kEK3KL1u 43pf4RNeoe8 2LDLFfFfzjj 42ERyA28b9w f3Yt3efajE 8zrz0yQZjju 1VoJ57zqNfy H6yu7rrfHKP 672zioCRJwG AKfngIMKTl4 FdwgQHTxwIh FiCslE2HXGs 88n3bmLpPNL Lr6qqLTHq5x 4eMpO4ilT9V 9XbajzfF454 F51e7qL9YN9 7AGe6dWyq3O 3g1LGSRh0CE AYAP3pcunwT BgmLdSUKtQh FRlB9cIV8bZ LfRCxsCPooy 5OIKG8X0sJo GkODCSsJBOo 9Gr5FzWElb0 8TNkbwDezKu F0ONpzus02k 1AR8AMyqXze LxDndgKBbWV CnktPhCngeC 7Ich5uCxESV Hk3pW0Dj68d 1foXGpucJ0L CPI1ok6JSvv C78vGSMMq3W 4JmgMG5NWl2 Jad6kuZ5nXr 4hPX11otfjG 6wPSsSYWQAo LFIMsoGDQoS 5TgzItm9iYQ Jr593HwF97i 2erJKzOL1at 4j6nASD7648 8HStr8ZoYk4 889dAtWtadp 44o2R4kZ9ZG 8ors98iSq0M EIP6ahrv2wG 5WYEINT9sVr G1aIgiW1lGQ 3dZzT3NzQhg Lb11B2tDEYi 9kObOwIwv58 Lw71ErhZQlH 44tYBTudfNS DQxmz3U46gZ DhDWqfUvdHu Aa7Shealrfq Jr555f3WFgY 6g6ISaBTpfR 7V00Kt7ETX0 21k7FaRwlGs 8ezANsXlVkv BjqIoY13NcJ 6Ba2uT8ftyf DntERMqR7fS SxwAX7J1ec H3LRLrRIfa2 7QB91TGZAOw L1YtiSeumQN 1OdcKkXaLsi IQbsRqFQFN1 Fed7yfie1hG PNEv8cFhfM 5jjzyW4LZLh CmB0mAkkFmZ J25FU4bZzqe Cn5BBCnaG1A CUaGa32GYIC D0fA2Xuo5tL ECp9k8MVXHu AB8ZLisPImV KrDx8YehR4f KVpwfoVQC2v AQSybQ4AXcV Ge3ZHaP6ofV 85EfKfILRoE FGJZhfqm3zI Jj7RBPjdImv 6aRT0AHO9iF 6K8J5NDaIeG FjBYjRl1YY8 88CCbdrtRHi 7fmBckPMSHe AwKMiqKdET6 13f7LH1VN45 335zUJ6iYmC 7M1uktKGRNa 8G01hHdfPh2 K05M65ekLe4 5aU2KIXJjKZ 2FXLsQ8evXt EbOPdiqURSY 74IvAQ6Rz44 D6hkCRFtphP F8UGZwyIPEP 3oCg2bIoG1Y Lu5NU8z84Lh AjPT4HdlFO1 5mfI4zZNGjO 6SBEZzvjtRH FIEWnFLBX9B DVTW3T8tIx7 HN9Ga7XyrAt CX7lFfKJTKp GnIKMgrg4bU 3QloNvjq6uL BrWKNrEtyvL LydrxoNsAvb 7l8IHWwh5A7 GtvNZCcKK79 460tA4ACmlF 1eyTJjqTFHf 9NrBJevcqkR 2lYHE3arRa1 I0AuMnfsF3B DV35z3YUlq8 L3ewqfuWuYT 5Z06Hyq7crZ JY61lcE56yE CWcsIzW3qC1 E99oKXOuja4 8FdQ4qWn0Cm 2hrmeUWRfHs BoifVFcfUXE 1i4GpOhQq2R CDiJ28TO7a4 5ItE0sI49gi AjjTpaynF74 JgaU5rlUnmt Jb4kX1WmjAP EKkCdbvFhXD KGJf7Rl05Y7 FoeJDTMOhfB 43Y2om8Xqfs IYTyYfy91JV 4Ihs6xmL2mO JVXEB1MG9jz 4bdSycazTv6 1ascSIpwy6W 8dHfJJaeBy9 4YAqoAWbOuO 40yQaGK0iPF 4orkKrEJbPt KxXqlNnGOLM AFqctdzlBV9 G6XzYM881a5 4I4yDpqGqyf EozqRu0TB7 E88gdeQZTEJ DdJAWj2U521 EsFtznlQ3Ik 4e2mycrVgEr 7yqUTRM9UZv 14T6RKDF5k8 4AHJTs4cgV5 LyVuF0tWxYR Atr5PyOmaKz 1J5rFSnSDzK JDLXbJWcTJn 2z91FzEfQCn 2VqCllgll2N 26vLO5TspwG KYvsRYyMD3y DwNVk5HSxIT 3kvOPR3QAQC JZtcok87OER 7o7PjtAIdmb 5jpTdG7QaNA BLNPSOPxRM2 G0Kpf1qk65C eUWJETQyHI Cmvgs9CCnpV CpLGq3f7P6Q LnqTmG3pEpN Rne4En8yIn 9HHNE1UtiMd se1GqP6OfP 9bIJTnhdNe3 DgPCaieEHSX E99kySGYOtg Fnes6sCSvIr 6n4zx11AOu6 1Y6awtGVAJx DsTsUvAHAFU 2s1b3LmaY64 1ejif2C5sqI LGsyvu8DwJu ETTtKEESZ7Q CFos662d5xR hqnjxkg72a 5PkK79i33Kk DQrNoXttC6Q EW1ONzWYOnX 6NYyusL9rb5 6ilr0WNn8z6 CLG81LLJKcD GuvgFp2iAi8 LHBaC6mKlv9 7c0mmzNhh54 oFsDOW8NpL 1i7wIOtJFbT JpH5nEQAio2 9w3CXz7w2IE JOwlBZrwMt5 2UsdDgQA6Mc ECBn99kZhAc FTuYDl5lr4q 5IzheLj08c0 7cpY4JoffA4 Jmb4xjJYnZt 2RaOVFyljpY 31JdtgwmmIR HwT74O89zoJ FFbhjE6fWXq J6pe5l2gQsm 1QpCeWzdI9x A0TUlMgSCMZ 38UB5dHIWXk 9mBwzYOKUqi JPOkMSPcXkf E39cuO3q3dT FGTHOvjZgsw BYt4kPH53lF rbTXMIOsw5 HvRHIao2TK LiXIVfurz9i 3w086facgBd 4uz0BeKIpH9 JPPuR9ACEHn GcUBr0KIt7J BVxRNoNhoX9 LpFJ84hzorD Gxlbe7fvdNO DNdCxtYTBBN Fu0CtxLcnXx AUaAbyUeIPu KGrgsm0puwm 9FQSu9ApkEX 1C9nqLfByps DyQzjC2wciZ 4oStgZiiRrS G9WccOMXt0n 1dAsfU4TlqN IiiT9Aqh7Ar 33hNCxPLT9D DHTFyWwvxgt IkDUd2VdM29 A7D2S1WGREX 4Mc7YfJzOMZ Fw9FsLxX2qW B5mDt2eSVci 2di1ckwbknm 4Dqf2ITE1U7 2fHFKAar1pq EqpG0wfcwUQ CfnSsy3HMRi CgySfkOX39p AsVYhyaOj9q JU0imPmnyM3 9yA8TxB2aeN Ia0k9MbCxtH 705KE067uxh AZWIQ8FEkYB 4MXfeQ0mJgq CYF3kvQXFwM HZqSbZ1Mk0A 1WnZCLU2cye 4lVuLhAjWyz Gaw8mCSoOFj 6DRAa4gwI26 FK53QrEFDir IQk91cTXKIT CjqTYUiJX2O FwypcxlVdCk 52ZQiUOpDzk 28VuJX37Wt0 FZSYMxMmsQx 89uv8DVmac4 2TrKUoE9lUi IEoIB5wh994 ILAM4utEGlm IEkrKinvWCB DBe8sxQPZCk 4YHDqzqHeGo 1R3K7qgnOGV LCWIZd8fkSR HqG2wfRmLNQ AiKDtXiLQvU 5sjF8NUTJg4 9qAUz04XSKO 1dHDcJ2se4i LkuZKywBBvt D8GJd8nKIwo Jd2h5dNgY0k Bg71Rc5bAJT 6Y9pKYWEsVc J65GakLKNO8 5uOzdR6EaaF 4qy46IG8mVl K87vXghL6JS Gqt0woiYTJ8 5K3z60q2DwL 2mvZz85c6lN 4H2s4W9MVHI 1OrJl7jF9dl 8ZBqQMOOf90 Av2eNV0aMwi 5wArcdCMmlk 6rM5EgwuZs7 KF7eRJyyPhx GZblt88dbQ twmtpOD872 DXodQxcVQ8F FA3VeNzzpg0 2MItTMeo169 CoTIkewEX1O K20sML63Opm LGvqj41nu01 Jg5FcVaXAgv CaoCN4Rw5ct Ieex83k3hNo 7pohW5x3Ro7 77H5TROaXCo LXXZcXkveuP Nr0JbVE5T7 Geimn6QZzH8 Ln4PSDADuMb 8YguwTrXLYq 81uKgC5lyRr JvJ9UIkZR6R 3JoWuEMEOrf 7vIIoobgjwc 3an5kr7wQin EohJVvRAg4I 4VsWo72RW5A JmLFUu1xpMX 4yd90OX1pQI CVaKuGafGFZ Ksxm6uDF5xb AD9X0JUFvIf BlYv6UBRW16 HgJ2eTtqodM 15eLHFEQMqb 3XTPbHpmNVT 5Gtau10gyRV 92Yu7fpQd79 1u1bSpkqrk9 JEnnTlR6B52 H7JJ9frkKkp 8ctLgDEYo4U KybcPTeVK4U 2YhDlqDMmiy CutkQkOKFqz 3UuGPI6HEzm CEx1N2IJOPU 6R2AYiP2ULA Fz9g4JcRcZg AMxJ5pPeS1P EKxoPMeL6AB IIluNTuXcjN CKMcjbrHPkX LwiUvijsbcW Icik27rxupa 1vVyH2hCeOp I27MPIHKps 9yP4oKwnNSj JJyP4gpzekl 77q0DXW9e0D E5fB6q1KNbY JmDFa7BoCVx E76oQBQGXoY 9l6j8mEGtGs 50id16K22Es 9qN7kddHDuz FwWJAv4NclE FppSaL2gxS4 A1dniO1wpWP KBteK5GgyXe 2VlHezopFP0 10WhnctGMn6 FJU6NqR24TE GlS7GaKfS4B HSjbz1E4M2J J4I8Mla7jCH AMmlPj5a8J DikwgKa1PUk 4CrGTIcvTmr 9RbXN6BTLcE 7iApTlI1SsK cLWpKlT2qI BsZEx5uA1Vy 8b0pxs78va9 34iDnVS0AOh 2KwIc67OhQU BQTRPQanu0P A8R7YmUPiqK DryH2X4ybo5 DX68OAgKQ3L Cn9BLPXGJMD 90U6xbzE2E6 FWdX6fN2ogL K4rxXGYH2aE 7ONGQnuofET BnIaMbskPBm EncL1ydek96 4z4JL9nshVL FvuWzp5Yhb5 KRxZSvBexnE 6FVOdOobFz3 GgOQ7iduqAs 6QKkRhZ41q4 EqhWDbEuZii AIOHxRdcYrt JICOMHr47qY JP2T9KtSOSH GyCwumMZR1E GbE6E7twMZR Bic3jswLkEk 3AJ7gtinoOG Kstn5XLjzNJ B2axb2DjaFL FSG5fpjst6Z HMWyWkawzkB 1Kj8ZPpGkuM JRKRPfRCsMA 3yKqbvoPlUX 1NkBAGj9J83 3TBRDNhJuP2 7A7sCnED7Yo FcfI2mvhkjA VDdm922xVe 7M6HwEURX2Y FZbWWFheqvD Ei8g72oVTGQ E9wfx4fvSBS JpwGuCyFqnD IjhPqCJH4wz FobeAZtHLJA 8lSk66B7s63 5eXidCGw6Wa L1ge4omSyDa 1JIR99Ry11p 34yWfzlO90H Eg1G0kuS2EU HkDYMmUPBpb Dh2KSkQMFdR JaCLUJZnJlf K6wGZoj4Y9D 1wtWE6ourjD 6iQbI6HcWq6 KHtMGZQR9Uo Cq09xxUTdUw 3Lh5evEgBYt KCGocDZg2Bk 3ZKfNbA7ezN C7K9zopmYOL B9gfT084PWD 6l122OqnOJT 5QKrRkmOFUs COnBM0aix67 CdkfkDXbHjq Jzdts5pPWlS EOI87bQjvyh DfoDIwcdtZa 7WYY7MtWBgv LfMsHbGJyLl K0RbnnPg6MV 3jyghO3PPX3 LeHjU1mi3EH DZ2VnFu1NAZ JcVdVAGm8M4 FvpjEKnFEaH 1a8YGaAQNom 9jfalH3FB9L FlDc1mMLy6v 2ArXiBQdGRU JrFprzxROfk ICscgDeJxCc IY8XN0CRbkp 2J7FwI1bnCj DzmAGUDGbYs Gw24eBJDNRk Jq4qKZQOSbs GWjbFB4rMuv Ajw5PMgo1SH IN0KM4ejFCr 6oJdvxOGeQa IoRGmyVPTPp LYTM4qYDwLG K1BL44wypRG 1GTL8gBEeoz EvjCQPRzxr0 8Aj36JUBnvF DJn5xHaTkdF 5LKfSsTh4b0 LkMd2qy7gAi 3VvVirPoRsj 4EiKjMhI1oS 83nAWUIDZCc 1JUGNIzBV90 G0aSdrvwast FDHwEyvpukd 5FNHB8D76ya LwVP5E5gi7N 9fP08rqu29t IJlaPndIEll G3Xd66qfS4G BN38SW1Wxhn JP9v0l48Mug DEP2FKhcMr1 FVmHrm4S0V JDOKvB0b5R1 KYhLCAh8Ot0 JMDd4UVDbr0 JHSRzITNvoW AY0pHK4GCaD KTx9yVcbFVk 3f4et1NVXx7 66FJ3nE7jEG LXSGuiCDU6E IbbBIdlgfnz HTIIGInSOCu HrNDO3yxoPx HoFZoZ7L3eh 7PMIqKGDntY 1uP2xBkKEIP I9D8j1yMJv2 I8z2J3nBOfR 6nQxzrWmLFD AJyX5ayT9LQ Fi6O8fpup0y 6taOdZL8KDN 9sn85pkVDsM 4o6cw6LTe5D LuBma67r7Az 3OcEevcfrRX EV0Snn0h5jS AXD8ENmZJQi CRyvQ1e0SdX HBy1IZgDwDv 1GmDzRDsycF Eb1iuZh4pVc 1DpRw4tzqN7 GJclpyVGi0Z 94Co09nDg72 9qhPzvBm8hP GlxBCjhpts6 BcKZzicCdvH 6MbKuatwiJ9 DnRLHRVAfRo KfYbLGBX2U1 AX5b4GBifOA D4dPoXQgDmr 634mWO96I7z AXZ8RdXGEmK 6xer28ojDls 5QqI9uNAxWo 3YVwXgLkFnE EdH0fp1nJue 1z9m0S5DsZg 98BHYODxBtc E0MPfLQb6EP 6dezj35bzrR K46Eta0KHJi 77NgNI4XBYv 4UcHYuYNt0h HWkNNwCW1Tg KtXaUDfmHUy K00Bx5Z21qA 1AFWiXysMEg IZ7wxohhD0Q JqdstncZvf5 5liK5N5XvoK 8k4UJ92wpC4 5aXVZFm78Ze 6WqWNyhmuzS A8cS2PqDWT3 K1OLfddNCoQ LIyleY6jl8a 7lPTFNwJuZG FYCuFlWrWcH LNwXS5p2qrK 2edmSl0zStK Ip8Y50Y0X9i 4XtqdYCHzIa AEaCtPEXt8V Lt3mJJf6W57 BQaJnFTNZ8U 61CmB0g31G8 HAaSHnXrrij 9XAqOfKhCT8 5E4HSwsUUK8 B8LhxB88XrR 14ELhEqLL0Y 6St8hEgNQ4g HClN0dMpWGQ K6ev3JYRhg3 AwlqHCy8EdN 3097N6ZDcx6 BnHrohNGyJ0 EQ5BxVRxvXA J6aStDu7h7L L9xPYKuEKa3 IFQJt6aShHn I1LCUYP5q9A TBWbkz6smm 7laVjFa7rxi CayhCkbZgII G0KJikd6g0C GAYZ7UPLJCT 23N5LjpB1F9 2XrTtZ92Zhp Dibs957nWxy ADsyjKnElK3"
abbrev Fg:=PySem.W.Frag
namespace L2
open PySem PySem.Spec PyProof.Rows
abbrev cG:=Sum Int Str
def uj:cG->Value->Bool
 | .inl k,v=>Value.isInt k v
 | .inr x,v=>Value.isStrOf x v
def QZ (w:World):cG->Int
 | .inl k=>hashInt k
 | .inr x=>hashStr w x
theorem bW:∀ {k:cG} {v:Value},uj k v=true->(∃i t,k=Sum.inl i/\v=Value.int i t)\/(∃x t,k=Sum.inr x/\v=Value.str x t)
 | .inl i,v,h=>by
   obtain ⟨t,e⟩:=Value.isInt_shape (k:=i) (v:=v) h;exact .inl ⟨i,t,rfl,e⟩
 | .inr x,v,h=>by
   obtain ⟨t,e⟩:=Value.isStrOf_shape (x:=x) (v:=v) h;exact .inr ⟨x,t,rfl,e⟩
theorem Ct (i:Int)(t:Tok):uj (.inl i) (.int i t)=true:=by simp [uj,Value.isInt]
theorem Cs (x:Str)(t:Tok):uj (.inr x) (.str x t)=true:=by simp [uj,Value.isStrOf]
theorem Me (a b:Int):decide ((Sum.inl a:cG)=Sum.inl b)=(a==b):=by
 by_cases e:a=b
 ·subst e;simp
 ·have h: ¬(Sum.inl a:cG)=Sum.inl b:=λq=>e (Sum.inl.inj q);rw [decide_eq_false h];exact (beq_eq_false_iff_ne.mpr e).symm
theorem Mb (a b:Str):decide ((Sum.inr a:cG)=Sum.inr b)=decide (a=b):=by
 by_cases e:a=b
 ·subst e;simp
 ·have h: ¬(Sum.inr a:cG)=Sum.inr b:=λq=>e (Sum.inr.inj q);rw [decide_eq_false h,decide_eq_false e]
theorem Md (a:Int)(b:Str):decide ((Sum.inl a:cG)=Sum.inr b)=false:=decide_eq_false (λq=>nomatch q)
theorem Mc (a:Str)(b:Int):decide ((Sum.inr a:cG)=Sum.inl b)=false:=decide_eq_false (λq=>nomatch q)
noncomputable def bV (prog:Program)(w:World):PySem.KeyKind prog w cG where
 is:=uj
 hash:=QZ w
 inj:=λv a b ha hb=>by
  rcases bW ha with ⟨i,t,rfl,rfl⟩|⟨x,t,rfl,rfl⟩
  ·rcases bW hb with ⟨j,u,rfl,e⟩|⟨y,u,rfl,e⟩
   ·injection e with e1 _;rw [e1]
   ·exact nomatch e
  ·rcases bW hb with ⟨j,u,rfl,e⟩|⟨y,u,rfl,e⟩
   ·exact nomatch e
   ·injection e with e1 _;rw [e1]
 byValue:=λk v h=>by
  rcases bW h with ⟨i,t,rfl,rfl⟩|⟨x,t,rfl,rfl⟩<;>rfl
 pyHash:=λhv h=>by
  rcases bW hv with ⟨i,t,rfl,rfl⟩|⟨x,t,rfl,rfl⟩
  ·exact wpAny_pyHash_int h
  ·exact wpAny_pyHash_str h
 eqBool:=λhu hv h=>by
  rcases bW hu with ⟨i,t,rfl,rfl⟩|⟨x,t,rfl,rfl⟩
  ·rcases bW hv with ⟨j,u,rfl,rfl⟩|⟨y,u,rfl,rfl⟩
   ·rw [Me] at h;exact wpAny_eqBool_int h
   ·rw [Md] at h;exact SeqAt.EqAt.int_str i t y u _ _ _ _ h
  ·rcases bW hv with ⟨j,u,rfl,rfl⟩|⟨y,u,rfl,rfl⟩
   ·rw [Mc] at h;exact SeqAt.EqAt.str_int x t j u _ _ _ _ h
   ·rw [Mb] at h;exact wpAny_eqBool_str h
 «strs»:=λk x t v h=>by
  rcases bW h with ⟨i,u,rfl,e⟩|⟨y,u,rfl,e⟩
  ·exact nomatch e
  ·injection e with e1 _;subst e1;cases v<;>rfl
theorem xt (prog:Program)(w:World)(i:Int)(t:Tok):(bV prog w).is (.inl i) (.int i t)=true:=Ct i t
theorem xq (prog:Program)(w:World)(x:Str)(t:Tok):(bV prog w).is (.inr x) (.str x t)=true:=Cs x t
inductive V where
 |non|bl (b:Bool)|int (i:Int)|str (x:Str)|byt (b:Array UInt8)|flt (b:UInt64)|ref (a:Addr)|ty (n:String)
 deriving DecidableEq
def aE:V->Value->Prop
 | .non,u=>u=Value.none
 | .bl b,u=>u=Value.bool b
 | .int i,u=>∃t,u=Value.int i t
 | .str x,u=>∃t,u=Value.str x t
 | .byt b,u=>∃t,u=Value.bytes b t
 | .flt b,u=>∃t,u=Value.float b t
 | .ref a,u=>u=Value.ref a
 | .ty n,u=>u=Value.type n
abbrev aL:List V->List Value->Prop:=Paired aE
theorem aL.length {xs:List V}{us:List Value}(r:aL xs us):xs.length=us.length:=Paired.length r
theorem aL.get:∀ {xs:List V} {us:List Value} {i:Nat} {x:V},aL xs us->xs[i]? =some x->∃u,us[i]? =some u/\aE x u
 |_,_,_,_,.nil,e=>by simp at e
 |_,_,0,_,.cons r _,e=>by simp at e;subst e;exact ⟨_,rfl,r⟩
 |_,_,i+1,x,.cons _ t,e=>by
  obtain ⟨u,h1,h2⟩:=aL.get (i:=i) (x:=x) t (by simpa using e);exact ⟨u,by simpa using h1,h2⟩
theorem aL.set {x:V}{u:Value}(r:aE x u):∀ {xs:List V} {us:List Value} (i:Nat),aL xs us->aL (xs.set i x) (us.set i u)
 |_,_,_,.nil=> .nil
 |_,_,0,.cons _ t=> .cons r t
 |_,_,i+1,.cons q t=> .cons q (aL.set r i t)
theorem aL.append:∀ {xs ys:List V} {us ws:List Value},aL xs us->aL ys ws->aL (xs++ys) (us++ws)
 |_,_,_,_,.nil,s=>s
 |_,_,_,_,.cons r t,s=> .cons r (aL.append t s)
theorem aL.take:∀ {xs:List V} {us:List Value} (n:Nat),aL xs us->aL (xs.take n) (us.take n)
 |_,_,0,_=> .nil
 |_,_,_+1,.nil=> .nil
 |_,_,n+1,.cons r t=> .cons r (aL.take n t)
theorem aL.drop:∀ {xs:List V} {us:List Value} (n:Nat),aL xs us->aL (xs.drop n) (us.drop n)
 |_,_,0,r=>r
 |_,_,_+1,.nil=> .nil
 |_,_,n+1,.cons _ t=>aL.drop n t
def jC:Option V->Option Value->Prop
 |some v,some u=>aE v u
 |none,none=>True
 |_,_=>False
def KV {κ:Type}:List (κ×V)->List (κ×Value)->Prop:=Paired λ(p:κ×V) (q:κ×Value)=>p.1=q.1/\aE p.2 q.2
def kV:cG->V
 | .inl i=> .int i
 | .inr x=> .str x
inductive HO where
 |lst (xs:List V)
 |tup (xs:List V)
 |dK (kvs:List (cG×V))|dT (kvs:List (List cG×V))
 |set (S:Int->Bool) (n:Nat)
 |ins (C dx:Addr) (fs:List (Str×V))
 |own (x:Addr)
 |xd (fs:List (Str×V))
 |met (f x:Addr)
 |rng (lo hi:Int)
 |frz (o:Obj) (u:HO)
 |tbl (ps:Array Value)
 |ext (φ:Heap->Prop)
abbrev Hp:=Addr->Option HO
def upd (H:Hp)(a:Addr)(o:HO):Hp:=λb=>if b=a then some o else H b
theorem af {H:Hp}{a:Addr}{o:HO}:upd H a o a=some o:=by unfold upd;rw [if_pos rfl]
theorem ak {H:Hp}{a b:Addr}{o:HO}(h:b≠a):upd H a o b=H b:=by unfold upd;rw [if_neg h]
theorem AA {H:Hp}{a:Addr}{o u:HO}:upd @bo a u=upd H a u:=by
 funext b;unfold upd;split<;>rfl
theorem OL {H:Hp}{a b:Addr}{o u:HO}(h:H a=some o)(h':H b=some u)(d:o≠u):a≠b:=by
 intro e;subst e;rw [h] at h';exact d (Option.some.inj h')
theorem bB {H:Hp}{a b:Addr}{o:HO}(h:H a=some o)(h':H b=none):a≠b:=by
 intro e;subst e;rw [h] at h';cases h'
section
variable (P:Program)(w:World)
def br (H:Hp)(h:Heap)(a:Addr):HO->Prop
 | .lst xs=>xs.length<=sizeLine/\∃(its:List Value) (n:Nat),aL xs its/\h.get? a=some {cls:= .type "list",data:= .seq its.toArray n}
 | .tup xs=>xs.length<=sizeLine/\∃its:List Value,aL xs its/\IsTup h a its.toArray
 | .dK kvs=>kvs.length<=sizeLine/\(a==sysModules)=false/\∃vs,KV kvs vs/\h.DictOf @cu a vs
 | .dT kvs=>kvs.length<=sizeLine/\(a==sysModules)=false/\∃xs:List (List cG×Addr×Value),
    Paired (λ(p:List cG×V) (q:List cG×Addr×Value)=>p.1=q.1/\H q.2.1=some (.tup (p.1.map kV))/\aE p.2 q.2.2) kvs xs/\
    ∃o es ep,h.get? a=some o/\o.ExactDict/\o.data= .dict es ep/\es.toList=xs.map (entryOfKey @eR)/\(xs.map (·.1)).Nodup
 | .set S n=>h.SetOf (intKind P w) a S n
 | .ins C dx fs=>H dx=some (.own a)/\fs.length<=1000/\dx≠a/\h.get? a=some @dD/\
    ∃mA,h.Ns1 dx mA/\(∀f,jC @fy (mA f))/\PySem.Within mA (fs.map (·.1))
 | .own _=>∃o,h.get? a=some o
 | .xd fs=>∃mA,h.Ns1 a mA/\∀f,jC @fy (mA f)
 | .rng lo hi=>∃t u v,h.get? a=some {cls:= .type "range",data:= .fields #[.int lo t,.int hi u,.int 1 v]}
 | .frz o u=>h.get? a=some o/\br H h a u
 | .tbl ps=>h.get? a=some {cls:= .none,data:= .fields ps}
 | .met f x=>h.get? a=some (W.methodObj (.ref f) (.ref x))
 | .ext φ=>φ h/\(∃o,h.get? a=some o)/\∀h1 h2:Heap,φ h1->(∀o,h1.get? a=some o->h2.get? a=some o)->φ h2
def fH (H:Hp)(h:Heap):Prop:=∀a o,H a=some o->br P w H h a o
end
section
variable {P:Program}{w:World}{H H':Hp}{h h':Heap}{a:Addr}{o:HO}
theorem br.lt (x:br P w H h a o):a<h.objs.size:=by
 cases o with
 |lst xs=>obtain ⟨_,_,_,_,e⟩:=x;exact Heap.lt_size e
 |tup xs=>obtain ⟨_,_,_,p⟩:=x;exact p.lt
 |dK kvs=>obtain ⟨_,_,_,_,o,_,_,e,_⟩:=x;exact Heap.lt_size e
 |dT kvs=>obtain ⟨_,_,_,_,o,_,_,e,_⟩:=x;exact Heap.lt_size e
 |set S n=>obtain ⟨o,_,_,_,e,_⟩:=x;exact Heap.lt_size e
 |ins C dx fs=>obtain ⟨_,_,_,e,_⟩:=x;exact Heap.lt_size e
 |own y=>obtain ⟨_,e⟩:=x;exact Heap.lt_size e
 |xd fs=>obtain ⟨_,⟨_,_,_,e,_⟩,_⟩:=x;exact Heap.lt_size e
 |rng lo hi=>obtain ⟨_,_,_,e⟩:=x;exact Heap.lt_size e
 |frz ob u=>obtain ⟨e,_⟩:=x;exact Heap.lt_size e
 |tbl ps=>exact Heap.lt_size (show h.get? a=some _ from x)
 |met f y=>exact Heap.lt_size (show h.get? a=some _ from x)
 |ext φ=>obtain ⟨_,⟨_,e⟩,_⟩:=x;exact Heap.lt_size e
theorem Paired.mapP {α β:Type}{F G:α->β->Prop}:∀ {l₁:List α} {l₂:List β},Paired F l₁ l₂->(∀a b,F a b->G a b)->Paired G l₁ l₂
 |_,_,.nil,_=> .nil
 |_,_,.cons r t,f=> .cons (f _ _ r) (Paired.mapP t f)
theorem Paired.imp' {α β:Type}{F G:α->β->Prop}(f:∀a b,F a b->G a b){z:List α}{j:List β}(r:Paired F z j):Paired G z j:=Paired.mapP r f
theorem br.stay (x:br P w H h a o)(k:∀b u,(b=a\/H b=some (.own a))->h.get? b=some u->h'.get? b=some u)
(I:∀b,H b=some (.own a)->H' b=some (.own a))(J:∀b xs,H b=some (.tup xs)->H' b=some (.tup xs)):br P w H' h' a o:=by
 induction o with
 |lst xs=>obtain ⟨z,its,n,r,e⟩:=x;exact ⟨z,its,n,r,k _ _ (.inl rfl) e⟩
 |tup xs=>obtain ⟨z,its,r,j,e,c⟩:=x;exact ⟨z,its,r,j,k _ _ (.inl rfl) e,c⟩
 |dK kvs=>obtain ⟨z,y,R,r,j,es,F,e,c⟩:=x;exact ⟨z,y,R,r,j,es,F,k _ _ (.inl rfl) e,c⟩
 |dT kvs=>
  obtain ⟨z,y,xs,r,j,es,F,e,c⟩:=x;exact ⟨z,y,xs,Paired.mapP r λp q z=>⟨z.1,J _ _ z.2.1,z.2.2⟩,j,es,F,k _ _ (.inl rfl) e,c⟩
 |set S n=>obtain ⟨j,es,F,t,e,c⟩:=x;exact ⟨j,es,F,t,k _ _ (.inl rfl) e,c⟩
 |ins C dx fs=>
  obtain ⟨d,z,L,e,mA,⟨G,es,F,O,c⟩,r⟩:=x;exact ⟨I _ d,z,L,k _ _ (.inl rfl) e,mA,⟨G,es,F,k _ _ (.inr d) O,c⟩,r⟩
 |own y=>obtain ⟨j,e⟩:=x;exact ⟨j,k _ _ (.inl rfl) e⟩
 |xd fs=>obtain ⟨mA,⟨G,es,F,e,c⟩,r⟩:=x;exact ⟨mA,⟨G,es,F,k _ _ (.inl rfl) e,c⟩,r⟩
 |rng lo hi=>obtain ⟨t,u,v,e⟩:=x;exact ⟨t,u,v,k _ _ (.inl rfl) e⟩
 |frz j u ih=>obtain ⟨e,q⟩:=x;exact ⟨k _ _ (.inl rfl) e,ih q⟩
 |tbl ps=>
  have e:h.get? a=some {cls:= .none,data:= .fields ps}:=x;show h'.get? a=some {cls:= .none,data:= .fields ps};exact k a _ (.inl rfl) e
 |met f y=>
  have e:h.get? a=some (W.methodObj (.ref f) (.ref y)):=x;show h'.get? a=some (W.methodObj (.ref f) (.ref y));exact k a _ (.inl rfl) e
 |ext φ=>obtain ⟨p,⟨o,e⟩,st⟩:=x;exact ⟨st _ _ p λo q=>k _ _ (.inl rfl) q,⟨o,k _ _ (.inl rfl) e⟩,st⟩
theorem fH.lt (x:fH P w H h)(e:H a=some o):a<h.objs.size:=(x a o e).lt
theorem fH.fresh (x:fH P w H h)(e:h.objs.size<=a):H a=none:=by
 cases q:H a with
 |none=>rfl
 |some u=>exact absurd (Nat.lt_of_lt_of_le (x.lt q) e) @Z
theorem fH.kept (x:fH P w H h)(k:∀b u,h.get? b=some u->h'.get? b=some u):fH P w H h':=λa o e=>
 (x a o e).stay (λb u _ q=>k b u q) @dJ λ_ _ q=>q
theorem fH.laid (x:fH P w H h)(k:∀b u,h.get? b=some u->h'.get? b=some u)(G:h.objs.size<=a)(j:br P w @bo h' a o):fH P w @bo h':=λb u e=>by
 have z:=x.fresh G;by_cases F:b=a
 ·subst F;rw [af] at e;cases e;exact j
 ·rw [ak F] at e
  exact (x b u e).stay (λc v _ q=>k c v q) (λc q=>by rw [ak @ep];exact q) λc xs q=>by rw [ak @ep];exact q
end
def Rd (H:Hp)(a:Addr)(u:HO):Prop:=H a=some u\/∃o,H a=some (.frz o u)
theorem Rd.ok {P:Program}{w:World}{H:Hp}{h:Heap}{a:Addr}{u:HO}(r:Rd H a u)(x:fH P w H h):br P w H h a u:=by
 rcases r with r|⟨o,r⟩
 ·exact x a u r
 ·obtain ⟨_,q⟩:=x a _ r;exact q
def Pj:Option HO->Prop
 |some (.lst _)=>True
 |some (.dK _)=>True
 |some (.dT _)=>True
 |some (.set _ _)=>True
 |some (.ins _ _ _)=>True
 |some (.ext _)=>True
 |_=>False
section
variable {P:Program}{w:World}{H:Hp}{h h':Heap}{x e:Addr}{o':HO}
theorem fH.write (W:fH P w H h)(J:Pj (H x))(U:e=x\/H e=some (.own x))(k:∀b u,b≠e->h.get? b=some u->h'.get? b=some u)(O:∃u,h'.get? e=some u)
(R:br P w (upd H x o') h' x o'):fH P w (upd H x o') h':=λb u q=>by
 have F:∀c y,H c=some (.own y)->c≠x:=λc y r z=>by subst z;rw [r] at J;exact J
 have G:∀c xs,H c=some (.tup xs)->c≠x:=λc xs r z=>by subst z;rw [r] at J;exact J
 by_cases L:b=x
 ·subst L;rw [af] at q;cases q;exact R
 ·rw [ak L] at q;by_cases j:b=e
  ·have S:H b=some (.own x):=by
    rcases U with z|z
    ·exact absurd (j.trans z) L
    ·rw [j];exact z
   rw [q] at S;cases S;obtain ⟨v,Y⟩:=O;exact ⟨v,by rw [j];exact Y⟩
  ·refine (W b u q).stay (λc v I r=>k c v ?_ r) (λc r=>by rw [ak (F c b r)];exact r) λc xs r=>by rw [ak (G c xs r)];exact r
   rcases I with rfl|I
   ·exact j
   ·rintro rfl
    rcases U with z|z
    ·exact F c b I z
    ·rw [I] at z;cases z;exact L rfl
end
structure Un (fs ex:List Addr)(H H':Hp)(h h':Heap):Prop where
 keep:∀b o,h.get? b=some o->H b=none->b∉fs->b∉ex->h'.get? b=some o
 slot:∀b o,h.get? b=some o->H b=none->b∈fs->b∉ex->∃sl,h'.get? b=some {o with slots:=sl}
 free:∀b o,h.get? b=some o->H b=none->b∉ex->H' b=none
 there:∀b o,h.get? b=some o->b∉ex->∃o',h'.get? b=some o'
 tups:∀b xs,H b=some (.tup xs)->H' b=some (.tup xs)
 frzs:∀b o u,H b=some (.frz o u)->H' b=some (.frz o u)
 tbls:∀b ps,H b=some (.tbl ps)->∃more,H' b=some (.tbl (ps++more))
section
variable {fs fs' ex ex':List Addr}{H H1 H2:Hp}{h h1 h2 h':Heap}{a x e:Addr}{o:HO}
theorem Un.any (u:Un fs ex H H1 h h1){b:Addr}{j:Obj}(q:h.get? b=some j)(n:H b=none)(z:b∉ex):∃sl,h1.get? b=some {j with slots:=sl}:=by
 by_cases F:b∈fs
 ·exact u.slot b j q n F z
 ·exact ⟨j.slots,u.keep b j q n F z⟩
theorem Un.kept (k:∀b u,h.get? b=some u->h'.get? b=some u):Un fs ex H H h h':=
 ⟨λb j q _ _ _=>k b j q,λb j q _ _ _=>⟨j.slots,k b j q⟩,λ_ _ _ n _=>n,λb j q _=>⟨j,k b j q⟩,λ_ _ q=>q,λ_ _ _ q=>q,λ_ ps q=>⟨#[],by rw [q];simp⟩⟩
theorem Un.refl:Un fs ex H H h h:=Un.kept λ_ _ q=>q
theorem Un.laid (k:∀b u,h.get? b=some u->h'.get? b=some u)(G:h.objs.size<=a)(z:H a=none):Un fs ex H @bo h h' where
 keep:=λb u q _ _ _=>k b u q
 slot:=λb u q _ _ _=>⟨u.slots,k b u q⟩
 free:=λb u q n _=>by rw [ak (Nat.ne_of_lt (Nat.lt_of_lt_of_le @eM G))];exact n
 there:=λb u q _=>⟨u,k b u q⟩
 tups:=λb xs q=>by rw [ak @ep];exact q
 frzs:=λb u xs q=>by rw [ak @ep];exact q
 tbls:=λb ps q=>⟨#[],by rw [ak @ep,q];simp⟩
theorem Un.write (J:Pj (H x))(U:e=x\/H e=some (.own x))(k:∀b u,b≠e->h.get? b=some u->h'.get? b=some u)(O:∃u,h'.get? e=some u):Un fs ex H @fS h h':=by
 have G:∀b,H b=none->b≠x:=λb n z=>by subst z;rw [n] at J;exact J
 have I:∀b,H b=none->b≠e:=λb n z=>by
  subst z
  rcases U with r|r
  ·exact G b n r
  ·rw [n] at r;cases r
 have F:∀b u,H b=some u-> ¬Pj @dS->b≠x:=λb u q nm z=>by subst z;rw [q] at J;exact nm J
 refine ⟨λb u q n _ _=>k b u (I b n) q,λb u q n _ _=>⟨u.slots,k b u (I b n) q⟩,λb u q n _=>by rw [ak (G b n)];exact n,λb u q _=> ?_,
  λb xs q=>by rw [ak @em];exact q,λb u xs q=>by rw [ak @em];exact q,λb ps q=>⟨#[],by rw [ak @em,q];simp⟩⟩
 by_cases j:b=e
 ·subst j;exact O
 ·exact ⟨u,k b u j q⟩
end
def PH (h:Heap)(H:Hp):List Addr:=(List.range h.objs.size).filter λa=>(H a).isSome
def sO (h:Heap)(H:Hp):Heap:=W.hideAll h (PH h H)
theorem Cy (h:Heap)(H:Hp):(sO h H).objs.size=h.objs.size:=W.hideAll_size _ _
theorem Fz {h:Heap}{H:Hp}{b:Addr}{o:Obj}(e:h.get? b=some o)(n:H b=none):(sO h H).get? b=some o:=
 W.hideAll_get _ e λF=>by
  have q:(H b).isSome=true:=(mem_filter.mp F).2;rw [n] at q;simp at q
theorem ID {h:Heap}{H:Hp}{b:Addr}{o:Obj}(e:(sO h H).get? b=some o):h.get? b=some o/\H b=none:=by
 have j:h.get? b=some o:=W.of_hideAll (PH h H) e;rwa[⟨j,?_⟩]
 cases q:H b with
 |none=>rfl
 |some x=>
  have F:b∈PH h H:=mem_filter.mpr ⟨mem_range.mpr (Heap.lt_size j),by simp [q]⟩;have z:(sO h H).get? b=none:=W.hideAll_none (PH h H) F;rw [z] at e;cases e
def Jt (g h:Heap)(L:Addr):List (Addr×Obj):=(List.range h.objs.size).filterMap λa=>if a=L\/(g.get? a).isSome=true then none else (h.get? a).map λo=>(a,o)
def dJ (g h:Heap)(L d:Addr):List (Addr×Obj):=(Jt g h L).filter λp=>decide (p.1≠d)
structure Mod (K:Fg)(mg:Str->Option Value)(base:Heap):Prop where
 kin:K.In base
 glob:base.Ns mainGlobals mg
 blt:∃mb,base.Ns builtinsNs mb/\∀x:Str,x≠"__name__"->mb x=bootBuiltins x
 nolimit:base.NoLimit
structure Cx where
 prog:Program
 w:World
 K:Fg
 mg:Str->Option Value
 base:Heap
 A:Around
 N:List Str
 s₀:Shared
 H₀:Hp
 env:Env
 outer:List Env
 stack:List Env
 ex:List Addr
 fn:Str->Bool
 calm:Bool
 pn:List (Addr×Obj)
 xe:Value->Shared->Prop
def vX (l:List Env):List Addr:=l.filterMap (·.frame)
abbrev Cx.fs (X:Cx):List Addr:=vX X.outer
def Pe (sc:Scope)(x:Str):Prop:=sc.names.lookup x=some .local\/sc.names.lookup x=some .cell\/sc.names.lookup x=some .free
def J0 (sc:Scope)(x:Str):Prop:=sc.names.lookup x=some .local\/sc.names.lookup x=some .cell
def Ro (env:Env)(h:Heap)(m:Str->Option Value)(x:Str)(u:Value):Prop:=
 (env.kindOf x=some .local/\m x=some u)\/((env.kindOf x=some .cell\/env.kindOf x=some .free)/\∃c,env.cells.lookup x=some c/\h.IsCell c @dS)
structure Cx.Ok (X:Cx):Prop where
 mod:Mod X.K X.mg X.base
 kind:X.env.scope.kind= .function
 glob:X.env.globals=mainGlobals
 blt:X.env.builtins=builtinsNs
 above:X.s₀.heap.objs.size<=X.env.locals
 inj:∀x y c,X.env.cells.lookup x=some c->X.env.cells.lookup y=some c->x=y
 has:∀x,(X.env.kindOf x=some .cell\/X.env.kindOf x=some .free)->∃c,X.env.cells.lookup x=some c
 cab:∀x c,X.fn x=true->X.env.cells.lookup x=some c->X.s₀.heap.objs.size<=c
 hd:X.calm=true->X.A.handled=none
 frames:X.A.frames=some X.stack
 stk:X.stack=X.outer\/(X.stack=X.env::X.outer/\X.env.frame=some X.env.locals)
 exf:∀b∈X.ex,b≠X.env.locals/\∀x c,X.env.cells.lookup x=some c->c≠b
 bs:∀b o,X.base.get? b=some o->X.s₀.heap.get? b=some o/\X.H₀ b=none
 bsz:X.base.objs.size<=X.s₀.heap.objs.size
 noex:∀b o,X.base.get? b=some o->b∉X.ex
 exfs:∀b∈X.ex,b∉X.fs
 funs:X.s₀.heap.FunFrames X.base X.outer
 frf:∀b∈X.fs,X.H₀ b=none
structure av (X:Cx)(pins:List (Addr×Obj))(σ:List @fo)(H:Hp)(s:Shared):Prop where
 ok:X.Ok
 os:s.os=X.s₀.os
 bare:AllBare s.gens
 base:Un X.fs X.ex X.H₀ H X.s₀.heap s.heap
 loc:∃m,s.heap.Ns X.env.locals m/\∀(i:Nat) (x:Str) (v:V),X.N[i]? =some x->σ[i]? =some @br->Pe X.env.scope x->∃u,aE v u/\Ro X.env s.heap m x u
 cell:∀x c,X.env.cells.lookup x=some c->∃v,s.heap.IsCell c v
 free:H X.env.locals=none
 freeC:∀x c,X.env.cells.lookup x=some c->H c=none
 pin:∀p∈X.pn++pins,s.heap.get? p.1=some p.2/\H p.1=none/\p.1≠X.env.locals/\p.1∉X.fs/\∀v,p.2.data≠ .cell v
 hok:fH X.prog X.w H s.heap
 len:σ.length=X.N.length
section
variable {X:Cx}{pins:List (Addr×Obj)}{σ:List @fo}{H H':Hp}{s:Shared}{h':Heap}
theorem Cx.Ok.nofr (W:X.Ok){b:Addr}{o:Obj}(e:X.base.get? b=some o):b∉X.fs:=λF=>by
 have:=(W.funs.mem F).1;rw [e] at this;cases this
theorem av.bs (I:av X pins σ H s):∀b o,X.base.get? b=some o->s.heap.get? b=some o/\H b=none:=λb o e=>
 ⟨I.base.keep b o (I.ok.bs b o e).1 (I.ok.bs b o e).2 (I.ok.nofr e) (I.ok.noex b o e),I.base.free b o (I.ok.bs b o e).1 (I.ok.bs b o e).2 (I.ok.noex b o e)⟩
theorem av.bk (I:av X pins σ H s):∀b o,X.base.get? b=some o->s.heap.get? b=some o:=λb o e=>(I.bs b o e).1
theorem av.mod (I:av X pins σ H s):Mod X.K X.mg X.base:=I.ok.mod
theorem av.kIn (I:av X pins σ H s):X.K.In s.heap:=I.ok.mod.kin.keeps I.bk
theorem av.lt (I:av X pins σ H s):X.env.locals<s.heap.objs.size:=let ⟨_,hn,_⟩:=I.loc;hn.lt
theorem av.sz (I:av X pins σ H s):X.s₀.heap.objs.size<=s.heap.objs.size:=Nat.le_trans I.ok.above (Nat.le_of_lt I.lt)
theorem av.nofs (I:av X pins σ H s){a:Addr}(h:s.heap.objs.size<=a):a∉X.fs:=λF=>by
 obtain ⟨_,o,j,_⟩:=I.ok.funs.mem F;exact absurd (Nat.lt_of_lt_of_le (Heap.lt_size j) (Nat.le_trans I.sz h)) @Z
theorem av.cne (I:av X pins σ H s):∀x c,X.env.cells.lookup x=some c->c≠X.env.locals:=λx c e z=>by
 obtain ⟨v,o,G,J⟩:=I.cell x c e;obtain ⟨m,⟨o',es,L,F,j,_⟩,_⟩:=I.loc;rw [z,F] at G;cases G;rw [j] at J;cases J
theorem av.funs (I:av X pins σ H s):s.heap.FunFrames X.base X.outer:=by
 have j:∀(l:List Env),(∀b∈vX l,b∈X.fs)->X.s₀.heap.FunFrames X.base l->s.heap.FunFrames X.base l:=by
  intro l
  induction l with
  |nil=>intro _ _;trivial
  |cons env r ih=>
   intro hs W;obtain ⟨R,⟨L,o,F,O,U,Y⟩,S⟩:=W;have G:L∈X.fs:=hs L (by unfold vX;rw [filterMap_cons,F];exact mem_cons_self);obtain ⟨sl,e⟩:=I.base.slot L o U (I.ok.frf L G) G λz=>I.ok.exfs L z G;exact ⟨R,⟨L,_,F,O,e,Y⟩,ih (λb J=>hs b (by unfold vX;rw [filterMap_cons,F];exact mem_cons_of_mem _ J)) S⟩
 exact j X.outer (λ_ J=>J) I.ok.funs
theorem av.stack (I:av X pins σ H s):s.heap.FunFrames X.base X.stack:=by
 rcases I.ok.stk with e|⟨e,F⟩
 ·rw [e];exact I.funs
 ·rw [e];obtain ⟨m,z,_⟩:=I.loc;rwa[.cons (by rw [I.ok.kind];decide) F z ?_ I.funs];exact Heap.get?_none_of_le (Nat.le_trans I.ok.bsz I.ok.above)
theorem av.stkSub (I:av X pins σ H s):∀b∈vX X.stack,b∈X.env.locals::X.fs:=λb F=>by
 rcases I.ok.stk with e|⟨e,j⟩
 ·rw [e] at F;exact mem_cons_of_mem _ F
 ·rw [e] at F;unfold vX at F;rw [filterMap_cons,j] at F;exact F
theorem av.stkFree (I:av X pins σ H s):∀b∈vX X.stack,H b=none:=λb F=>by
 rcases mem_cons.mp (I.stkSub b F) with e|F
 ·rw [e];exact I.free
 ·obtain ⟨_,o,j,_⟩:=I.ok.funs.mem F;exact I.base.free b o j (I.ok.frf b F) λz=>I.ok.exfs b z F
theorem av.step {g':Array GenState}{t':Nat}{d':Drawn}{ch:List Addr}(I:av X pins σ H s)
(G:∀b∈ch,(b∈X.ex\/X.s₀.heap.objs.size<=b)/\b≠X.env.locals/\(∀x c,X.env.cells.lookup x=some c->c≠b)/\∀p∈X.pn++pins,p.1≠b)
(L:∀b o,b≠X.env.locals->b∉X.fs->b∉ch->s.heap.get? b=some o->H b=none->h'.get? b=some o)
(U:∀b o,b≠X.env.locals->b∈X.fs->b∉ch->s.heap.get? b=some o->H b=none->∃sl,h'.get? b=some {o with slots:=sl})(F:∀b o,b∉ch->s.heap.get? b=some o->H b=none->H' b=none)
(W:∀b o,b∉ch->s.heap.get? b=some o->∃o',h'.get? b=some o')
(ab:∀b xs,H b=some (.tup xs)->H' b=some (.tup xs))(aa:∀b o u,H b=some (.frz o u)->H' b=some (.frz o u))(ad:∀b ps,H b=some (.tbl ps)->∃more,H' b=some (.tbl (ps++more)))
(ns:∀m,s.heap.Ns X.env.locals m->h'.Ns X.env.locals m)(ae:fH X.prog X.w H' h')(hg:AllBare g'):
 av X pins σ H' {s with heap:=h',gens:=g',drawn:=d',toks:=t'}:=by
 have ac:∀b o,X.s₀.heap.get? b=some o->b≠X.env.locals:=λb o e=>Nat.ne_of_lt @W
 have S:∀b o,X.s₀.heap.get? b=some o->b∉X.ex->b∉ch:=λb o e j Y=>by
  rcases (G b Y).1 with z|z
  ·exact j z
  ·exact absurd (Nat.lt_of_lt_of_le @A z) @Z
 have J:∀x c,X.env.cells.lookup x=some c->∀v,s.heap.IsCell c v->h'.IsCell c v:=λx c e v ⟨o,Z,hd⟩=>by
  have O:c∉ch:=λz=>(G c z).2.2.1 x c e rfl;by_cases hc:c∈X.fs
  ·obtain ⟨sl,q⟩:=U c o (I.cne x c e) hc O Z @eS;exact ⟨_,q,hd⟩
  ·exact ⟨o,L c o (I.cne x c e) hc O Z @eS,hd⟩
 rwa[⟨I.ok,I.os,hg,⟨λb o e n Y j=> ?_,λb o e n Y j=> ?_,λb o e n j=> ?_,λb o e j=> ?_,λb xs e=>ab b xs (I.base.tups b xs e),λb o xs e=>aa b o xs (I.base.frzs b o xs e),λb ps e=> ?_⟩,?_,λx c e=> ?_,?_,λx c e=> ?_,λp hp=> ?_,ae,I.len⟩]
 ·exact L b o (ac b o e) Y @cE (I.base.keep b o e n Y j) @dp
 ·obtain ⟨sl,R⟩:=I.base.slot b o e n Y j;obtain ⟨af,e2⟩:=U b _ (ac b o e) Y @cE R @dp;exact ⟨af,e2⟩
 ·obtain ⟨o',R⟩:=I.base.there b o e j;exact F b o' @cE R @dp
 ·obtain ⟨o',R⟩:=I.base.there b o e j;exact W b o' @cE R
 ·obtain ⟨m1,R⟩:=I.base.tbls b ps e;obtain ⟨m2,e2⟩:=ad b _ R;exact ⟨m1++m2,by rw [e2,Array.append_assoc]⟩
 ·obtain ⟨m,hn,hl⟩:=I.loc;rwa[⟨m,ns m hn,λi x v R e2 e3=> ?_⟩];obtain ⟨u,r,l⟩:=hl i x v R e2 e3;rwa[⟨u,r,?_⟩]
  rcases l with l|⟨k,c,e,z⟩
  ·exact .inl l
  ·exact .inr ⟨k,c,e,J x c e _ z⟩
 ·obtain ⟨v,z⟩:=I.cell x c e;exact ⟨v,J x c e v z⟩
 ·obtain ⟨m,⟨o,_,_,Z,_⟩,_⟩:=I.loc;exact F _ o (λz=>(G _ z).2.1 rfl) Z I.free
 ·obtain ⟨v,o,Z,hd⟩:=I.cell x c e;exact F c o (λz=>(G c z).2.2.1 x c e rfl) Z @eS
 ·obtain ⟨e,n,ne,nf,d⟩:=I.pin p hp;have O:p.1∉ch:=λz=>(G p.1 z).2.2.2 p hp rfl;exact ⟨L p.1 p.2 ne nf O e n,F p.1 p.2 O e n,ne,nf,d⟩
theorem av.un {t':Nat}(I:av X pins σ H s)(u:Un X.fs [] H H' s.heap h')(ae:fH X.prog X.w H' h'):av X pins σ H' {s with heap:=h',toks:=t'}:=by
 obtain ⟨m,⟨o,es,U,L,r⟩,_⟩:=id I.loc;obtain ⟨sl,S⟩:=u.any L I.free @e
 exact I.step (g':=s.gens) (d':=s.drawn) (ch:=[]) (λ_ z=>nomatch z) (λb o _ J _ e n=>u.keep b o e n J @e) (λb o _ J _ e n=>u.slot b o e n J @e) (λb o _ e n=>u.free b o e n @e) (λb o _ e=>u.there b o e @e) u.tups u.frzs u.tbls (λW O=>by
  obtain ⟨o',j,G,F,R⟩:=O;rw [L] at F;cases F
  exact ⟨_,j,G,S,R⟩) ae I.bare
theorem av.call {g':Array GenState}{t':Nat}{d':Drawn}{ch:List Addr}(I:av X pins σ H s)(u:Un @dL ch H H' s.heap h')(ae:fH X.prog X.w H' h')(W:AllBare g')
(G:∀b∈ch,(b∈X.ex\/X.s₀.heap.objs.size<=b)/\b≠X.env.locals/\(∀x c,X.env.cells.lookup x=some c->c≠b)/\∀p∈X.pn++pins,p.1≠b):
 av X pins σ H' {s with heap:=h',gens:=g',drawn:=d',toks:=t'}:=by
 obtain ⟨m,⟨o,es,Z,R,r⟩,_⟩:=id I.loc;obtain ⟨sl,O⟩:=u.any R I.free λz=>(G _ z).2.1 rfl
 exact I.step (ch:=ch) G (λb o O Y j e n=>u.keep b o e n (λz=>(mem_cons.mp @fk).elim O Y) j) (λb o _ _ j e n=>u.any e n j) (λb o j e n=>u.free b o e n j) (λb o j e=>u.there b o e j) u.tups u.frzs u.tbls (λm' S=>by
  obtain ⟨o',J,L,F,U⟩:=S;rw [R] at F;cases F
  exact ⟨_,J,L,O,U⟩) ae W
theorem av.turned {t':Nat}{it:Addr}(I:av X pins σ H s)(k:∀b o,b≠it->s.heap.get? b=some o->h'.get? b=some o)(O:H it=none)(G:it≠X.env.locals)
(h1:it∈X.ex\/X.s₀.heap.objs.size<=it)(h2:∀x c,X.env.cells.lookup x=some c->c≠it)(L:∀p∈X.pn++pins,p.1≠it):av X pins σ H {s with heap:=h',toks:=t'}:=by
 have F:∀b u,H b=some u->b≠it:=λb u e z=>by rw [z,O] at e;cases e
 refine I.step (g':=s.gens) (d':=s.drawn) (ch:=[it]) (λb U=> ?_) (λb o _ _ j e _=>k b o (λz=>j (by simp [z])) e) (λb o _ _ j e _=>⟨o.slots,k b o (λz=>j (by simp [z])) e⟩) (λ_ _ _ _ n=>n)
  (λb o j e=>⟨o,k b o (λz=>j (by simp [z])) e⟩) (λ_ _ e=>e) (λ_ _ _ e=>e) (λb ps e=>⟨#[],by rw [e];simp⟩) (λm J=> ?_) (λb u e=> ?_) I.bare
 ·have e:b=it:=by simpa using U
  subst e;exact ⟨h1,G,h2,L⟩
 ·obtain ⟨o,es,R,S,r⟩:=J;exact ⟨o,es,R,k _ o (Ne.symm G) S,r⟩
 ·rwa[(I.hok b u e).stay (λc v j q=>k c v ?_ q) @dJ λ_ _ q=>q]
  rcases j with z|z
  ·rw [z];exact F b u e
  ·exact F c _ z
theorem av.tok (I:av X pins σ H s)(t:Nat):av X pins σ H {s with toks:=t}:=I.un (h':=s.heap) (t':=t) Un.refl I.hok
theorem av.kept {t':Nat}(I:av X pins σ H s)(k:∀b u,s.heap.get? b=some u->h'.get? b=some u):av X pins σ H {s with heap:=h',toks:=t'}:=I.un (Un.kept k) (I.hok.kept k)
theorem av.laid {a:Addr}{o:HO}{t':Nat}(I:av X pins σ H s)(k:∀b u,s.heap.get? b=some u->h'.get? b=some u)(G:s.heap.objs.size<=a)(j:br X.prog X.w @bo h' a o):
 av X pins σ @bo {s with heap:=h',toks:=t'}:=I.un (Un.laid k G (I.hok.fresh G)) (I.hok.laid k G j)
theorem av.write {x e:Addr}{o:HO}{t':Nat}(I:av X pins σ H s)(J:Pj (H x))(U:e=x\/H e=some (.own x))(k:∀b u,b≠e->s.heap.get? b=some u->h'.get? b=some u)(O:∃u,h'.get? e=some u)
(j:br X.prog X.w @fS h' x o):av X pins σ @fS {s with heap:=h',toks:=t'}:=I.un (Un.write J U k O) (I.hok.write J U k O j)
theorem av.weak {j:List @fo}(I:av X pins σ H s)(W:j.length=σ.length)(w:∀(i:Nat) v,j[i]? =some @br->σ[i]? =some @br):av X pins j H s:=
 ⟨I.ok,I.os,I.bare,I.base,let ⟨m,hn,hl'⟩:=I.loc;⟨m,hn,λi x v R O z=>hl' i x v R (w i v O) z⟩,I.cell,I.free,I.freeC,I.pin,I.hok,W.trans I.len⟩
theorem av.pins_of {j:List (Addr×Obj)}(I:av X pins σ H s)(h:∀p∈j,s.heap.get? p.1=some p.2/\H p.1=none/\p.1≠X.env.locals/\p.1∉X.fs/\∀v,p.2.data≠ .cell v):av X j σ H s:=
 ⟨I.ok,I.os,I.bare,I.base,I.loc,I.cell,I.free,I.freeC,λp G=>(mem_append.mp G).elim (λz=>I.pin p (mem_append_left _ z)) (h p),I.hok,I.len⟩
theorem qQ {N:List Str}(z:N.Nodup){i j:Nat}{x:Str}(a:N[i]? =some x)(b:N[j]? =some x):i=j:=by
 obtain ⟨h1,R⟩:=List.getElem?_eq_some_iff.mp a;obtain ⟨h2,O⟩:=List.getElem?_eq_some_iff.mp b;exact (getElem_inj z).mp (R.trans O.symm)
theorem tW {M:Model}{A:Around}{E:Value->Shared->Prop}{i:Nat}{x:Str}{v:V}{u:Value}{Q:Unit->Shared->Prop}(I:av X pins σ H s)(hN:X.N.Nodup)(hi:X.N[i]? =some x)(J:J0 X.env.scope x)(r:aE v u)
(h:∀s',av X pins @fl H s'->(∃a,Heap.SameBut a s.heap s'.heap/\(a=X.env.locals\/X.env.cells.lookup x=some a))->Q () s')(hf:X.fn x=true\/X.env.scope.names.lookup x=some .local:=by first|exact .inl rfl|exact .inr rfl|assumption):wpAny M A (storeName X.env x u) Q E s:=by
 obtain ⟨m,hn,hl⟩:=id I.loc
 have aa:(X.env.scope.kind== .class||(X.env.scope.kind== .module&&X.env.locals != X.env.globals))=false:=by rw [I.ok.kind];rfl
 have ac:i<σ.length:=by rw [I.len];exact (List.getElem?_eq_some_iff.mp hi).1
 have Y:=I.cne
 have F:∀ {a:Addr} {h':Heap},(∃o,s.heap.get? a=some o/\H a=none)->Heap.SameBut a s.heap h'->fH X.prog X.w H h':=λ{a h'} ha hs b ob e=>by
  obtain ⟨_,_,L⟩:=ha;rwa[(I.hok b ob e).stay (λc w' G q=>(hs.2 c ?_).trans q) @dJ λ_ _ q=>q];rintro rfl
  rcases G with rfl|G
  ·rw [L] at e;cases e
  ·rw [L] at G;cases G
 rcases J with S|S
 ·rwa[wpAny_storeName_local S hn (λh' ah hs=> ?_) aa];obtain ⟨oL,_,_,ag,_⟩:=id hn;rwa[h _ ⟨I.ok,I.os,I.bare,⟨λb o e n W J=> ?_,λb o e n W J=> ?_,I.base.free,λb o e J=> ?_,I.base.tups,I.base.frzs,I.base.tbls⟩,⟨_,ah,λj y v' R O e3=> ?_⟩,λy c e=> ?_,I.free,I.freeC,λp hp=> ?_,F ⟨oL,ag,I.free⟩ hs,by simpa using I.len⟩ ⟨_,hs,.inl rfl⟩]
  ·exact (hs.2 b @eD).trans (I.base.keep b o e n W J)
  ·obtain ⟨sl,R⟩:=I.base.slot b o e n W J;exact ⟨sl,(hs.2 b @eD).trans R⟩
  ·obtain ⟨o',R⟩:=I.base.there b o e J;exact ⟨o',(hs.2 b @eD).trans R⟩
  ·by_cases Z:j=i
   ·subst Z;rw [hi] at R;cases R;rw [getElem?_set_self ac] at O;cases O;exact ⟨u,r,.inl ⟨S,by simp⟩⟩
   ·rw [getElem?_set_ne @fT] at O;obtain ⟨u',r',q⟩:=hl j y v' R O e3;rwa[⟨u',r',?_⟩]
    rcases q with ⟨k,e⟩|⟨k,c,e,z⟩
    ·rwa[.inl ⟨k,?_⟩];have:y≠x:=λe=>Z (qQ hN R (e▸hi));simp [this,e]
    ·exact .inr ⟨k,c,e,z.sameBut hs (Y y c e)⟩
  ·obtain ⟨w',z⟩:=I.cell y c e;exact ⟨w',z.sameBut hs (Y y c e)⟩
  ·obtain ⟨e,n,ne,nf,d⟩:=I.pin p hp;exact ⟨(hs.2 p.1 ne).trans e,n,ne,nf,d⟩
 ·have U:X.fn x=true:=by
   rcases hf with z|z
   ·exact z
   ·rw [z] at S;cases S
  obtain ⟨c,G⟩:=I.ok.has x (.inl S);obtain ⟨w',z⟩:=I.cell x c G;rwa[wpAny_storeName_cell I.ok.kind S G z (λh' af hs=> ?_)];obtain ⟨oc,ae,ad⟩:=id z;rwa[h {s with heap:=h'} ⟨I.ok,I.os,I.bare,⟨λb o e n W J=> ?_,λb o e n W J=> ?_,I.base.free,λb o e J=> ?_,I.base.tups,I.base.frzs,I.base.tbls⟩,⟨m,hn.sameBut hs (Ne.symm (Y x c G)),λj y v' R O e3=> ?_⟩,λy c' e=> ?_,I.free,I.freeC,λp hp=> ?_,F ⟨oc,ae,I.freeC x c G⟩ hs,by simpa using I.len⟩ ⟨c,hs,.inr G⟩]
  ·exact (hs.2 b @bd).trans (I.base.keep b o e n W J)
  ·obtain ⟨sl,R⟩:=I.base.slot b o e n W J;exact ⟨sl,(hs.2 b @bd).trans R⟩
  ·obtain ⟨o',R⟩:=I.base.there b o e J;exact ⟨o',(hs.2 b @bd).trans R⟩
  ·by_cases Z:j=i
   ·subst Z;rw [hi] at R;cases R;rw [getElem?_set_self ac] at O;cases O;exact ⟨u,r,.inr ⟨.inl S,c,G,af⟩⟩
   ·rw [getElem?_set_ne @fT] at O;obtain ⟨u',r',q⟩:=hl j y v' R O e3;rwa[⟨u',r',?_⟩]
    rcases q with q|⟨k,c',e,z'⟩
    ·exact .inl q
    ·rwa[.inr ⟨k,c',e,z'.sameBut hs ?_⟩];rintro rfl;exact Z (qQ hN R (I.ok.inj _ _ _ e G▸hi))
  ·by_cases ab:c'=c
   ·subst ab;exact ⟨_,af⟩
   ·obtain ⟨w2,z2⟩:=I.cell y c' e;exact ⟨w2,z2.sameBut hs ab⟩
  ·obtain ⟨e,n,ne,nf,d⟩:=I.pin p hp;rwa[⟨(hs.2 p.1 ?_).trans e,n,ne,nf,d⟩];intro q;rw [q,ae] at e;have q':oc=p.2:=Option.some.inj e;exact d w' (by rw [<-q'];exact ad)
theorem wR {M:Model}{A:Around}{E:Value->Shared->Prop}{i:Nat}{x:Str}{v:V}{u:Value}{Q:Unit->Shared->Prop}(I:av X pins σ H s)(z:X.N.Nodup)(hi:X.N[i]? =some x)(j:J0 X.env.scope x)(r:aE v u)
(h:∀s',av X pins @fl H s'->Q () s')(G:X.fn x=true\/X.env.scope.names.lookup x=some .local:=by first|exact .inl rfl|exact .inr rfl|assumption):wpAny M A (storeName X.env x u) Q E s:=
 tW I z hi j r (λs' F _=>h s' F) G
theorem av.call' {s':Shared}{ch:List Addr}(I:av X pins σ H s)(j:s'.os=s.os)(u:Un @dL ch H H' s.heap s'.heap)(ae:fH X.prog X.w H' s'.heap)(W:AllBare s'.gens)
(G:∀b∈ch,(b∈X.ex\/X.s₀.heap.objs.size<=b)/\b≠X.env.locals/\(∀x c,X.env.cells.lookup x=some c->c≠b)/\∀p∈X.pn++pins,p.1≠b):av X pins σ H' s':=by
 obtain ⟨h',J,F,z,o'⟩:=s';have e:o'=s.os:=j;subst e;exact I.call (g':=J) (t':=z) (d':=F) u ae W G
end
abbrev XK:=Value->Option Addr->Hp->Prop
abbrev St:=List @fo
abbrev VK:=V->Hp->Prop
abbrev TE:=St->Hp->VK->Prop
abbrev TT:=St->Hp->(Bool->Hp->Prop)->Prop
abbrev TA:=St->Hp->(List V->Hp->Prop)->Prop
structure oQ where
 nx:St->Hp->Prop
 rt:VK
 bk:St->Hp->Prop:=λ_ _=>False
 ct:St->Hp->Prop:=λ_ _=>False
abbrev TS:=oQ->St->Hp->Prop
def EP (X:Cx)(pins:List (Addr×Obj))(σ:St)(Q:VK)(u:Value)(s':Shared):Prop:=∃v H',av X pins σ H' s'/\aE v u/\Q v H'
def TP (X:Cx)(pins:List (Addr×Obj))(σ:St)(Q:Bool->Hp->Prop)(b:Bool)(s':Shared):Prop:=∃H',av X pins σ H' s'/\Q b H'
def AP (X:Cx)(pins:List (Addr×Obj))(σ:St)(Q:List V->Hp->Prop)(us:List Value)(s':Shared):Prop:=∃vs H',av X pins σ H' s'/\aL vs us/\Q vs H'
def SP (X:Cx)(pins:List (Addr×Obj))(D:oQ)(f:Flow)(s':Shared):Prop:=
 match f with
 | .next=>∃σ' H',av X pins σ' H' s'/\D.nx σ' H'
 | .brk=>∃σ' H',av X pins σ' H' s'/\D.bk σ' H'
 | .cont=>∃σ' H',av X pins σ' H' s'/\D.ct σ' H'
 | .ret u=>∃v σ' H',av X pins σ' H' s'/\aE v u/\D.rt v H'
def PE (X:Cx)(e:Expr)(t:TE):Prop:=
 ∀(pins:List (Addr×Obj)) (s:Shared) (σ:St) (H:Hp) (Q:VK),av X pins σ H s->t σ H Q->wpAny @d X.A (eval e X.env) @t X.xe s
def PT (X:Cx)(e:Expr)(t:TT):Prop:=
 ∀(pins:List (Addr×Obj)) (s:Shared) (σ:St) (H:Hp) (Q:Bool->Hp->Prop),av X pins σ H s->t σ H Q->wpAny @d X.A (isTrue e X.env (eval e X.env)) @dz X.xe s
def PW (X:Cx)(e:Expr)(t:TT):Prop:=
 ∀(whole:Sem Value) (pins:List (Addr×Obj)) (s:Shared) (σ:St) (H:Hp) (Q:Bool->Hp->Prop),av X pins σ H s->t σ H Q->wpAny @d X.A (isTrue e X.env whole) @dz X.xe s
theorem PW.pt {X:Cx}{e:Expr}{t:TT}(h:PW X e t):PT X e t:=h _
def PA (X:Cx)(es:List Expr)(t:TA):Prop:=
 ∀(pos:Pos) (pins:List (Addr×Obj)) (s:Shared) (σ:St) (H:Hp) (Q:List V->Hp->Prop),av X pins σ H s->t σ H Q->wpAny @d X.A (spliced (backTo pos @z)) (AP X pins σ Q) X.xe s
def PS (X:Cx)(st:Stmt)(t:TS):Prop:=
 ∀(pins:List (Addr×Obj)) (s:Shared) (σ:St) (H:Hp) (D:oQ),av X pins σ H s->t D σ H->wpAny @d X.A (exec st X.env) (SP X pins D) X.xe s
def tH (X:Cx)(st:List Stmt)(t:TS):Prop:=
 ∀(pins:List (Addr×Obj)) (s:Shared) (σ:St) (H:Hp) (D:oQ),av X pins σ H s->t D σ H->wpAny @d X.A (execs st X.env) (SP X pins D) X.xe s
theorem bG {α:Type}{t:Sem α}{Q j:α->Shared->Prop}{M:Model}{A:Around}{E:Value->Shared->Prop}{s:Shared}(h:wpAny M A t Q E s)(z:∀a s,Q a s->j a s):wpAny M A t j E s:=wpAny_mono h z λ_ _ x=>x
section
variable {X:Cx}
def Qw (i:Nat):TE:=λσ H Q=>∃v,σ[i]? =some @br/\Q v H
def tC (v:V):TE:=λ_ H Q=>Q v H
theorem Et {i:Nat}{x:Str}{pos:Pos}(O:X.N[i]? =some x)(Y:Pe X.env.scope x)(J:(x==("__debug__":Str))=false:=by decide)(F:(x==("__classdict__":Str))=false:=by decide):PE X (.Name x pos) (Qw i):=by
 intro pins s σ H Q I h;obtain ⟨v,e,h⟩:=h;obtain ⟨m,S,W⟩:=I.loc;obtain ⟨u,r,l⟩:=W i x v O e Y;have z:EP X pins σ Q u s:=⟨v,H,I,r,h⟩
 rcases l with ⟨R,L⟩|⟨R,c,G,j⟩
 ·exact wpAny_Name (wpAny_loadName_local I.ok.kind R S L z) J
 ·rcases R with R|R
  ·exact wpAny_Name (wpAny_loadName_cell I.ok.kind R G j z) J
  ·exact wpAny_Name (wpAny_loadName_free I.ok.kind R G j z F) J
theorem aM {i j pos}:PE X (.Constant (.int i) j pos) (tC (.int i)):=λ_ _ _ H _ I h=>wpAny_Constant_int ⟨.int i,H,I.tok _,⟨_,rfl⟩,h⟩
theorem fB {b j pos}:PE X (.Constant (.bool b) j pos) (tC (.bl b)):=λ_ _ _ H _ I h=>Constant_bool ⟨.bl b,H,I,rfl,h⟩
theorem zF {j pos}:PE X (.Constant .none j pos) (tC .non):=λ_ _ _ H _ I h=>Constant_none ⟨.non,H,I,rfl,h⟩
theorem cY {x j pos}:PE X (.Constant (.str x) j pos) (tC (.str x)):=λ_ _ _ H _ I h=>Calls.Constant_str ⟨.str x,H,I.tok _,⟨_,rfl⟩,h⟩
def Gl (X:Cx)(x:Str):Prop:=X.env.kindOf x=some .globalImplicit
theorem pp {E:Value->Shared->Prop}{pins:List (Addr×Obj)}{s:Shared}{σ:St}{H:Hp}{x:Str}{u:Value}{pos:Pos}{Q:Value->Shared->Prop}(I:av X pins σ H s)(W:Gl X x)(F:X.mg x=some u)(h:Q u s)
(J:(x==("__debug__":Str))=false:=by decide):wpAny @d X.A (eval (.Name x pos) X.env) Q E s:=
 Calls.Name_function_global I.ok.kind W (Calls.loadGlobal_global (by rw [I.ok.glob];exact I.mod.glob.keeps I.bk) F h) J
theorem gW {E:Value->Shared->Prop}{pins:List (Addr×Obj)}{s:Shared}{σ:St}{H:Hp}{x:Str}{u:Value}{pos:Pos}{Q:Value->Shared->Prop}(I:av X pins σ H s)(W:Gl X x)(F:X.mg x=none)(Y:bootBuiltins x=some u)(h:Q u s)
(z:x≠"__name__":=by decide)(J:(x==("__debug__":Str))=false:=by decide):wpAny @d X.A (eval (.Name x pos) X.env) Q E s:=by
 obtain ⟨j,h1,h2⟩:=I.mod.blt;exact Calls.Name_function_global I.ok.kind W (Calls.loadGlobal_builtin (by rw [I.ok.glob];exact I.mod.glob.keeps I.bk) F (by rw [I.ok.blt];exact h1.keeps I.bk) ((h2 x z).trans Y) h) J
theorem AN {x:Str}{v:V}{u:Value}{pos:Pos}(W:Gl X x)(F:X.mg x=some u)(r:aE v u)(J:(x==("__debug__":Str))=false:=by decide):PE X (.Name x pos) (tC v):=
 λ_ _ _ H _ I h=>pp I W F ⟨v,H,I,r,h⟩ J
theorem jo {x:Str}{v:V}{u:Value}{pos:Pos}(W:Gl X x)(F:X.mg x=none)(Y:bootBuiltins x=some u)(r:aE v u)(z:x≠"__name__":=by decide)(J:(x==("__debug__":Str))=false:=by decide):PE X (.Name x pos) (tC v):=
 λ_ _ _ H _ I h=>gW I W F Y ⟨v,H,I,r,h⟩ z J
variable {a b:Expr}{ta tb:TE}{pos:Pos}
def PC (X:Cx)(op:CmpOp)(a b:Expr)(t:TE):Prop:=
 ∀(pins:List (Addr×Obj)) (s:Shared) (σ:St) (H:Hp) (Q:VK),av X pins σ H s->t σ H Q->
  wpAny @d X.A (eval a X.env) (λv s₁=>wpAny @d X.A (eval b X.env) (λu s₂=>wpAny @d X.A (compareOp op v u) @t X.xe s₂) X.xe s₁) X.xe s
def tB (t:TE):TT:=λσ H Q=>t σ H λx H1=>∃c,x= .bl c/\Q c H1
theorem Lb {j:CmpOp}{t:TE}(h:PC X j a b t)(h1:behindInMarks j b=false:=by first|exact nobehind _ @b @b|rfl):PT X (.Compare a [j] [b] pos) (tB t):=by
 intro pins s σ H Q I z;rwa[wpAny_isTrue_Compare1 (bG (h pins s σ H _ I z) λv L h1=>bG h1 λu R h2=>bG h2 λc O ⟨x,H1,F,G,J⟩=> ?_) h1];obtain ⟨d,rfl,q⟩:=J;cases G;exact wpAny_truthy_bool ⟨H1,F,q⟩
variable {tA tB':TT}{dJ:List Expr}
def QH (t u:TT):TT:=λσ H Q=>t σ H λc H1=>if c=true then u σ H1 Q else Q false H1
def RI (t u:TT):TT:=λσ H Q=>t σ H λc H1=>if c=true then Q true H1 else u σ H1 Q
def QA (t:TT):TT:=λσ H Q=>t σ H λc H1=>Q (!c) H1
theorem AL (j:PT X a tA):PW X (.BoolOp .And [a] pos) tA:=by
 intro z pins s σ H Q I h;rwa[isTrue_and (bG (j pins s σ H Q I h) λc L e=> ?_)]
 cases c with
 |true=>exact isTrue_and_nil e
 |false=>exact e
theorem vD (j:PT X a tA):PW X (.BoolOp .Or [a] pos) tA:=by
 intro z pins s σ H Q I h;rwa[isTrue_or (bG (j pins s σ H Q I h) λc L e=> ?_)]
 cases c with
 |false=>exact isTrue_or_nil e
 |true=>exact e
theorem La (G:PT X a tA)(j:PW X (.BoolOp .And (b::dJ) pos) tB'):PW X (.BoolOp .And (a::b::dJ) pos) (QH tA tB'):=by
 intro z pins s σ H Q I h;rwa[isTrue_and (bG @dM λc L ⟨H1,F,J⟩=> ?_)]
 cases c with
 |true=>exact j z pins L σ H1 Q F J
 |false=>exact ⟨H1,F,J⟩
theorem Om (G:PT X a tA)(j:PW X (.BoolOp .Or (b::dJ) pos) tB'):PW X (.BoolOp .Or (a::b::dJ) pos) (RI tA tB'):=by
 intro z pins s σ H Q I h;rwa[isTrue_or (bG @dM λc L ⟨H1,F,J⟩=> ?_)]
 cases c with
 |true=>exact ⟨H1,F,J⟩
 |false=>exact j z pins L σ H1 Q F J
theorem d6 (j:PT X a tA):PT X (.UnaryOp .Not a pos) (QA tA):=by
 intro pins s σ H Q I h;exact isTrue_not (j pins s σ H (λc H1=>Q (!c) H1) I h)
theorem zE {j}{t:TE}(h:PE X a t):PE X (.BoolOp j [a] pos) t:=λpins s σ H Q I z=>BoolOp_one (h pins s σ H Q I z)
def RJ (t:TT)(ta tb:TE):TE:=λσ H Q=>t σ H λc H1=>if c=true then ta σ H1 Q else tb σ H1 Q
theorem Ev {c:Expr}(G:PT X c tA)(j:PE X a ta)(z:PE X b tb):PE X (.IfExp c a b pos) (RJ tA ta tb):=by
 intro pins s σ H Q I h;rwa[wpAny_IfExp (bG @dM λd L ⟨H1,F,J⟩=> ?_)]
 cases d with
 |true=>exact j pins L σ H1 Q F J
 |false=>exact z pins L σ H1 Q F J
end
def aA (K:Fg)(H:Hp)(a:Addr)(xs:List V):Prop:=
 Rd H a (.lst xs)\/
  ∃(o:Obj) (its:Array Value) (n:Nat),K.lookup a=some o/\o.cls= .type "list"/\o.dict=none/\o.data= .seq its n/\its.size<=sizeLine/\aL xs its.toList
def aC (K:Fg)(H:Hp)(a:Addr)(xs:List V):Prop:=
 Rd H a (.tup xs)\/
  ∃(o:Obj) (its:Array Value) (n:Nat),K.lookup a=some o/\o.cls= .type "tuple"/\o.data= .seq its n/\its.size<=sizeLine/\aL xs its.toList
noncomputable def Rj:Value->Option V
 | .none=>some .non
 | .bool b=>some (.bl b)
 | .int i _=>some (.int i)
 | .str x _=>some (.str x)
 | .bytes b _=>some (.byt b)
 | .float b _=>some (.flt b)
 | .ref a=>some (.ref a)
 | .type n=>some (.ty n)
 |_=>none
theorem aE.abs {x:V}{u:Value}(r:aE x u):Rj u=some x:=by
 cases x with
 |non=>cases r;rfl
 |bl _=>cases r;rfl
 |int _=>obtain ⟨t,rfl⟩:=r;rfl
 |str _=>obtain ⟨t,rfl⟩:=r;rfl
 |byt _=>obtain ⟨t,rfl⟩:=r;rfl
 |flt _=>obtain ⟨t,rfl⟩:=r;rfl
 |ref _=>cases r;rfl
 |ty _=>cases r;rfl
theorem aE.inj {x y:V}{u:Value}(r:aE x u)(q:aE y u):x=y:=Option.some.inj (r.abs.symm.trans q.abs)
theorem aL.inj:∀ {xs ys:List V} {us:List Value},aL xs us->aL ys us->xs=ys
 |_,_,_,.nil,.nil=>rfl
 |_,_,_,.cons r t,.cons r' t'=>by rw [r.inj r',aL.inj t t']
section
variable {X:Cx}{pins:List (Addr×Obj)}{σ:St}{H:Hp}{s:Shared}{a:Addr}{xs ys:List V}
theorem aA.of {K:Fg}(h:H a=some (.lst xs)):aA K H a xs:= .inl (.inl h)
theorem aC.of {K:Fg}(h:H a=some (.tup xs)):aC K H a xs:= .inl (.inl h)
theorem av.list (I:av X pins σ H s)(h:aA X.K H a xs):∃its:List Value,aL xs its/\PlainL s.heap a its.toArray/\xs.length<=sizeLine:=by
 rcases h with h|⟨o,its,n,R,j,J,hs,F,r⟩
 ·obtain ⟨z,its,n,r,e⟩:=h.ok I.hok;exact ⟨its,r,⟨_,n,e,rfl,rfl,rfl⟩,z⟩
 ·rwa[⟨its.toList,r,⟨o,n,I.kIn a o R,j,J,by simpa using hs⟩,?_⟩];have e:=r.length;simp only [Array.length_toList] at e;lia
theorem av.tuple (I:av X pins σ H s)(h:aC X.K H a xs):∃its:List Value,aL xs its/\IsTup s.heap a its.toArray/\xs.length<=sizeLine:=by
 rcases h with h|⟨o,its,n,R,j,hs,F,r⟩
 ·obtain ⟨z,its,r,p⟩:=h.ok I.hok;exact ⟨its,r,p,z⟩
 ·rwa[⟨its.toList,r,⟨o,I.kIn a o R,j,n,by simpa using hs⟩,?_⟩];have e:=r.length;simp only [Array.length_toList] at e;lia
theorem av.list_inj (I:av X pins σ H s)(h:aA X.K H a xs)(h':aA X.K H a ys):xs=ys:=by
 obtain ⟨its,r,⟨o,n,e,_,_,d⟩,_⟩:=I.list h;obtain ⟨j,R,⟨o',G,z,_,_,F⟩,_⟩:=I.list h';rw [e] at z;cases z;rw [d] at F;injection F with d1 _
 have:its=j:=by simpa using congrArg Array.toList d1
 subst this;exact r.inj R
theorem av.tuple_inj (I:av X pins σ H s)(h:aC X.K H a xs)(h':aC X.K H a ys):xs=ys:=by
 obtain ⟨its,r,⟨o,e,_,n,d⟩,_⟩:=I.tuple h;obtain ⟨j,R,⟨o',z,_,G,F⟩,_⟩:=I.tuple h';rw [e] at z;cases z;rw [d] at F;injection F with d1 _
 have:its=j:=by simpa using congrArg Array.toList d1
 subst this;exact r.inj R
end
abbrev Cx.wish (X:Cx)(E:Value->Shared->Prop):Cx:= {X with xe:=E}
abbrev Cx.nox (X:Cx):Cx:=X.wish λ_ _=>False
theorem Cx.Ok.wish {X:Cx}(W:X.Ok)(E:Value->Shared->Prop):(X.wish E).Ok:=
 ⟨W.mod,W.kind,W.glob,W.blt,W.above,W.inj,W.has,W.cab,W.hd,W.frames,W.stk,W.exf,W.bs,W.bsz,W.noex,W.exfs,W.funs,W.frf⟩
theorem Cx.Ok.unwish {X:Cx}{E:Value->Shared->Prop}(W:(X.wish E).Ok):X.Ok:=
 ⟨W.mod,W.kind,W.glob,W.blt,W.above,W.inj,W.has,W.cab,W.hd,W.frames,W.stk,W.exf,W.bs,W.bsz,W.noex,W.exfs,W.funs,W.frf⟩
section
variable {X:Cx}{pins:List (Addr×Obj)}{σ:St}{H:Hp}{s:Shared}{E:Value->Shared->Prop}
theorem av.wish (I:av X pins σ H s)(E:Value->Shared->Prop):av @ga pins σ H s:=⟨I.ok.wish E,I.os,I.bare,I.base,I.loc,I.cell,I.free,I.freeC,I.pin,I.hok,I.len⟩
theorem av.unwish (I:av @ga pins σ H s):av X pins σ H s:=⟨I.ok.unwish,I.os,I.bare,I.base,I.loc,I.cell,I.free,I.freeC,I.pin,I.hok,I.len⟩
theorem SP.unwish {D:oQ}{f:Flow}{s':Shared}(h:SP @ga pins D f s'):SP X pins D f s':=by
 cases f with
 |next=>obtain ⟨j,H',I,q⟩:=h;exact ⟨j,H',I.unwish,q⟩
 |brk=>obtain ⟨j,H',I,q⟩:=h;exact ⟨j,H',I.unwish,q⟩
 |cont=>obtain ⟨j,H',I,q⟩:=h;exact ⟨j,H',I.unwish,q⟩
 |ret u=>obtain ⟨v,j,H',I,r,q⟩:=h;exact ⟨v,j,H',I.unwish,r,q⟩
theorem tH.nox {st:List Stmt}{t:TS}(h:tH X.nox st t):tH X st t:=λpins s σ H D I j=>
 wpAny_mono (h pins s σ H D (I.wish _) j) (λ_ _ q=>q.unwish) λ_ _ z=>False.elim z
end
section
variable {X:Cx}{st:Stmt}{dJ:List Stmt}{t u:TS}{e:Expr}{te:TE}{pos:Pos}
def N0:TS:=λD σ H=>D.nx σ H
def Qy (t u:TS):TS:=λD σ H=>t {D with nx:=u D} σ H
theorem ar:tH X [] N0:=λ_ _ σ H _ I h=>wpAny_execs_nil ⟨σ,H,I,h⟩
theorem aa (h1:PS X st t)(h2:tH X dJ u):tH X (st::dJ) (Qy t u):=by
 intro pins s σ H D I h;rwa[wpAny_execs_cons (bG (h1 pins s σ H {D with nx:=u D} I h) λf L q=> ?_)]
 cases f with
 |next=>
  obtain ⟨j,H',F,q⟩:=q;exact h2 pins L j H' D F q
 |ret v=>exact q
 |brk=>exact q
 |cont=>exact q
theorem ac (h1:PS X st t):tH X [st] t:=by
 intro pins s σ H D I h;rwa[wpAny_execs_cons (bG (h1 pins s σ H D I h) λf L q=> ?_)]
 cases f with
 |next=>exact wpAny_execs_nil q
 |ret v=>exact q
 |brk=>exact q
 |cont=>exact q
theorem av.quiet {pins:List (Addr×Obj)}{σ:St}{H:Hp}{s:Shared}(I:av X pins σ H s):interactive X.env=false:=by simp [interactive,I.ok.kind]
def N3 (te:TE):TS:=λD σ H=>te σ H λ_ H1=>D.nx σ H1
theorem aK (U:PE X e te)(hs:swapsWith e none pos.line X.env=pure false:=by rfl):PS X (.Expr e pos) (N3 te):=by
 intro pins s σ H D I h;exact wpAny_Expr_any (bG @bs λv L ⟨x,H1,F,G,J⟩=>⟨σ,H1,F,J⟩) I.quiet hs
def Qz (te:TE):TS:=λD σ H=>te σ H D.rt
theorem ao (U:PE X e te):PS X (.Return (some e) pos) (Qz te):=by
 intro pins s σ H D I h;exact wpAny_Return_some (bG @bs λv L ⟨x,H1,F,G,J⟩=>⟨x,σ,H1,F,G,J⟩)
def NY:TS:=λD _ H=>D.rt .non H
theorem Hm:PS X (.Return none pos) NY:=λ_ _ σ H _ I h=>wpAny_Return_none ⟨.non,σ,H,I,rfl,h⟩
def QE (c:TT)(t u:TS):TS:=λD σ H=>c σ H λb H1=>if b=true then t D σ H1 else u D σ H1
theorem On {c:Expr}{a b:List Stmt}{tc:TT}(j:PT X c tc)(G:tH X a t)(z:tH X b u):PS X (.If c a b pos) (QE tc t u):=by
 intro pins s σ H D I h;rwa[wpAny_If (bG @ck λd L ⟨H1,F,J⟩=> ?_)]
 cases d with
 |true=>exact G pins L σ H1 D F J
 |false=>exact z pins L σ H1 D F J
end
abbrev TG:=V->St->Hp->(St->Hp->Prop)->Prop
abbrev Bj:=List V->St->Hp->(St->Hp->Prop)->Prop
def PG (X:Cx)(target:Expr)(t:TG):Prop:=
 ∀(pins:List (Addr×Obj)) (s:Shared) (σ:St) (H:Hp) (v:V) (u:Value) (Q:St->Hp->Prop),av X pins σ H s->aE v u->t v σ H Q->
  wpAny @d X.A (assign target X.env u) (λ_ s'=>∃σ' H',av X pins σ' H' s'/\Q σ' H') X.xe s
def CW (X:Cx)(ts:List Expr)(t:Bj):Prop:=
 ∀(pins:List (Addr×Obj)) (s:Shared) (σ:St) (H:Hp) (vs:List V) (us:List Value) (Q:St->Hp->Prop),av X pins σ H s->aL vs us->t vs σ H Q->
  wpAny @d X.A (assignInOrder ((assignEach ts X.env).map (·.2)) us) (λ_ s'=>∃σ' H',av X pins σ' H' s'/\Q σ' H') X.xe s
abbrev MN:=V->V->V->Hp->(Hp->Prop)->Prop
def Gp (X:Cx)(t:MN):Prop:=
 ∀(pins:List (Addr×Obj)) (s:Shared) (σ:St) (H:Hp) (o i v:V) (ov iv u:Value) (Q:Hp->Prop),av X pins σ H s->aE o ov->aE i iv->aE v u->t o i v H Q->
  wpAny @d X.A (setItem ov iv u) (λ_ s'=>∃H',av X pins σ H' s'/\Q H') X.xe s
section
variable {X:Cx}{pos:Pos}
def jK (i:Nat):TG:=λv σ H Q=>Q @fl H
theorem pf {i:Nat}{x:Str}(z:X.N.Nodup)(hi:X.N[i]? =some x)(j:J0 X.env.scope x)(G:X.fn x=true\/X.env.scope.names.lookup x=some .local:=by first|exact .inl rfl|exact .inr rfl|assumption):PG X (.Name x pos) (jK i):=by
 intro pins s σ H v u Q I r h;exact wpAny_assign_Name (wR I z hi j r (λs' F=>⟨_,H,F,h⟩) G)
def Q7:Bj:=λvs σ H Q=>vs=[]/\Q σ H
def OT (t:TG)(u:Bj):Bj:=λvs σ H Q=>∃v r,vs=v::r/\t v σ H λσ' H'=>u r σ' H' Q
theorem Hr:CW X [] Q7:=by
 intro pins s σ H R j Q I r h;obtain ⟨e,h⟩:=h;subst e;cases r;exact assignInOrder_nil ⟨σ,H,I,h⟩
theorem Er {e:Expr}{es:List Expr}{t:TG}{u:Bj}(h1:PG X e t)(h2:CW X es u)
(hs:(assignEach (e::es) X.env).map (·.2)=assign e X.env::(assignEach es X.env).map (·.2):=by rfl):CW X (e::es) (OT t u):=by
 intro pins s σ H O z Q I r h;obtain ⟨v,G,R,h⟩:=h;subst R
 cases r with
 |cons r rr=>
  rw [hs];rwa[assignInOrder_cons (bG (h1 pins s σ H _ _ _ I r h) λ_ L ⟨j,H1,F,J⟩=> ?_)];exact h2 pins L j H1 _ _ Q F rr J
def OS (K:Fg)(n:Nat)(t:Bj):TG:=λv σ H Q=>∃a xs,v= .ref a/\aC K H a xs/\xs.length=n/\t xs σ H Q
theorem Lh {es:List Expr}{k:Nat}{t:Bj}{n:Nat}(J:X.calm=true)(h:CW X es t)
(L:(assignEach es X.env).length=n:=by rfl)(j:(assignEach es X.env).findIdx? (·.1)=none:=by rfl):PG X (.Tuple es k pos) (OS X.K n t):=by
 intro pins s σ H v u Q I r z;obtain ⟨a,xs,R,G,W,z⟩:=z;subst R;cases r;obtain ⟨its,F,O,Y⟩:=I.tuple G;rwa[assign_Tuple_tuple @ee O (by simp [L,<-W,F.length]) j λh' S=> ?_];have U:av X pins σ H {s with heap:=h'}:=I.kept (t':=s.toks) λb o e=>S b o (Nat.ne_of_lt @A) e;exact h pins _ σ H xs _ Q U (by simpa using F) z
def Q6 (to ti:TE)(t:MN):TG:=λv σ H Q=>to σ H λo H1=>ti σ H1 λi H2=>t o i v H2 λH3=>Q σ H3
theorem iQ {o i:Expr}{to j:TE}{t:MN}(R:PE X o to)(hi:PE X i j)(hs:Gp X t)
(G:∀v,assign (.Subscript o i pos) X.env v=(do
   let ov<-holding [v] @fm
   let iv<-holding [v,ov] (eval i X.env)
   standAt pos
   holding [v,ov,iv] (setItem ov iv v)
   release [v,ov,iv] []):=by intro _;rfl):PG X (.Subscript o i pos) (Q6 to j t):=by
 intro pins s σ H v u Q I r h;rw [G];rwa[wpAny_bind (wpAny_holding (bG @dN λov L ⟨x,H1,S,U,O⟩=> ?_))];rwa[wpAny_bind (wpAny_holding (bG (hi pins L σ H1 _ S O) λiv W ⟨y,H2,F,J,q2⟩=> ?_))];rwa[wpAny_bind (wpAny_standAt (wpAny_bind (wpAny_holding (bG (hs pins W σ H2 x y v ov iv u _ F U J r q2) λ_ s3 ⟨z,Z,Y⟩=> ?_))))];exact wpAny_release ⟨σ,z,Z,Y⟩
def Dw (te:TE)(g:TG):TS:=λD σ H=>te σ H λx H1=>g x σ H1 D.nx
theorem gP {tg e:Expr}{te:TE}{g:TG}(U:PE X e te)(W:PG X tg g)(hs:swapsWithSole [tg] e pos.line X.env=pure false:=by rfl)(z:swappedStores [tg] e X.env=pure none:=by rfl)
(h1:(assignEach [tg] X.env).map (·.2)=[assign tg X.env]:=by rfl):PS X (.Assign [tg] e pos) (Dw te g):=by
 intro pins s σ H D I h;rwa[wpAny_Assign_stores (bG @bs λv L ⟨x,H1,F,G,J⟩=> ?_) hs z];rw [h1];exact bG (W pins L σ H1 x v _ F G J) λ_ R q=>q
theorem bD {i:Nat}{x:Str}{e:Expr}{te:TE}{pos':Pos}(z:X.N.Nodup)(hi:X.N[i]? =some x)(L:J0 X.env.scope x)(U:PE X e te)(hs:swapsWith e (some (.Name x pos')) pos.line X.env=pure false:=by rfl)(j:X.fn x=true\/X.env.scope.names.lookup x=some .local:=by first|exact .inl rfl|exact .inr rfl|assumption):
 PS X (.Assign [.Name x pos'] e pos) (Dw te (jK i)):=by
 intro pins s σ H D I h;rwa[wpAny_Assign_Name (bG @bs λv R ⟨y,H1,G,O,J⟩=> ?_) hs];exact wR G z hi L O (λS F=>⟨_,H1,F,J⟩) j
end
structure It where
 go:Nat->Hp->Prop
 yld:Nat->Hp->V->Hp->Prop
 stop:Nat->Hp->Prop
def jd (X:Cx)(pins:List (Addr×Obj))(H:Hp)(b:Addr):Prop:=
 H b=none/\b≠X.env.locals/\b∉X.fs/\(b∈X.ex\/X.s₀.heap.objs.size<=b)/\(∀x c,X.env.cells.lookup x=some c->c≠b)/\∀p∈X.pn++pins,p.1≠b
theorem av.fpOk {X:Cx}{pins:List (Addr×Obj)}{σ:St}{H H':Hp}{s:Shared}{b:Addr}(I:av X pins σ H s)(F:s.heap.objs.size<=b)(j:H' b=none):jd X pins H' b:=by
 rwa[⟨j,Nat.ne_of_gt (Nat.lt_of_lt_of_le I.lt F),I.nofs F,.inr (Nat.le_trans I.sz F),λx c e z=> ?_,λp G z=> ?_⟩]
 ·obtain ⟨v,q⟩:=I.cell x c e;exact absurd (Nat.lt_of_lt_of_le q.lt (by rw [z];exact F)) @Z
 ·exact absurd (Nat.lt_of_lt_of_le (Heap.lt_size (I.pin p G).1) (by rw [z];exact F)) @Z
structure wq (P:Program)(w:World)(K:Fg)(tg:Expr)(J:It)(fp:List Addr)(it:Addr)(tn:Nat->Heap->Prop):Prop where
 mem:it∈fp
 obj:∀i h,tn i h->∀b∈fp,∃o,h.get? b=some o/\∀v,o.data≠ .cell v
 keep:∀i h h',tn i h->(∀b∈fp,∀o,h.get? b=some o->h'.get? b=some o)->tn i h'
 item:∀(X:Cx),X.prog=P->X.w=w->X.K=K->X.calm=true->∀(i:Nat) (pins:List (Addr×Obj)) (s:Shared) (σ:St) (H:Hp) (E:Value->Shared->Prop),av X pins σ H s->(∀b∈fp,jd X pins H b)->tn i s.heap->J.go i H->
  wpAny @R X.A @cR (λr s1=>∃u,r=some u/\
   wpAny @R X.A @cc (λ_ s2=>∃x H',av X pins σ H' s2/\aE x u/\J.yld i H x H'/\tn (i+1) s2.heap/\∀b∈fp,H' b=none) E s1) E s
 done:∀(X:Cx),X.prog=P->X.w=w->X.K=K->X.calm=true->∀(i:Nat) (pins:List (Addr×Obj)) (s:Shared) (σ:St) (H:Hp) (E:Value->Shared->Prop),av X pins σ H s->(∀b∈fp,jd X pins H b)->tn i s.heap->J.stop i H->
  wpAny @R X.A @cR (λr s1=>r=none/\av X pins σ H s1) E s
 self:∀(A:Around) (i:Nat) (s:Shared) (Q:Value->Shared->Prop) (E:Value->Shared->Prop),tn i s.heap->Q (.ref it) s->wpAny @R A (pyIter (.ref it)) Q E s
abbrev TI:=St->Hp->(It->Hp->Prop)->Prop
def Rm (X:Cx)(pins:List (Addr×Obj))(σ:St)(tg:Expr)(R:It->Hp->Prop)(itv:Value)(s2:Shared):Prop:=
 ∃(it:Addr) (fp:List Addr) (tn:Nat->Heap->Prop) (J:It) (H':Hp),itv= .ref it/\av X pins σ H' s2/\wq X.prog X.w X.K tg J fp it tn/\tn 0 s2.heap/\(∀b∈fp,jd X pins H' b)/\R J H'
def PI (X:Cx)(tg iter:Expr)(wi:TI):Prop:=
 ∀(pins:List (Addr×Obj)) (s:Shared) (σ:St) (H:Hp) (R:It->Hp->Prop),av X pins σ H s->wi σ H R->
  wpAny @d X.A @eE (λv s1=>wpAny @d X.A (pyIter v) @ef X.xe s1) X.xe s
theorem A2 {M:Model}{A:Around}{E:Value->Shared->Prop}{s:Shared}{tg:Expr}{it:Addr}{u:Value}{o:Obj}{n:String}{vs:Array Value}{Q:Unit->Shared->Prop}(I:s.heap.get? it=some o)(j:o.cls= .type n)(J:o.data= .fields vs)
(F:["enumerate","zip","dict_itemiterator","dict_reverseitemiterator","odict_iterator","itertools.zip_longest","itertools.pairwise"].contains n=false)(z:Q () s):wpAny M A @cc Q E s:=by
 unfold letOwnedTupleGo
 cases tg<;>first
  |exact wpAny_pure z
  |(cases u<;>first
     |exact wpAny_pure z
     |(refine wpAny_bind (wpAny_load I ?_)
       rw [j,J];show wpAny M A (if (["enumerate","zip","dict_itemiterator","dict_reverseitemiterator","odict_iterator","itertools.zip_longest","itertools.pairwise"].contains n&&vs[0]? ==some (rawInt _))=true then _ else _) Q E s;rw [if_neg (by intro h;rw [F,Bool.false_and] at h;cases h)]
       exact wpAny_pure z))
def Gv (K:Fg)(a:Addr):It:=
 ⟨λi H=>∃xs x,aA K H a xs/\xs[i]? =some x,λi H x H'=>H'=H/\∀xs,aA K H a xs->xs[i]? =some x,λi H=>∃xs,aA K H a xs/\xs.length<=i⟩
def Gu (K:Fg)(a:Addr):It:=
 ⟨λi H=>∃xs x,aC K H a xs/\xs[i]? =some x,λi H x H'=>H'=H/\∀xs,aC K H a xs->xs[i]? =some x,λi H=>∃xs,aC K H a xs/\xs.length<=i⟩
def GF (lo:Int)(n:Nat):It:=⟨λi _=>i<n,λi H x H'=>H'=H/\x= .int (lo+i),λi _=>n<=i⟩
theorem Bp {P:Program}{w:World}{K:Fg}{tg:Expr}(a it:Addr):wq P w K tg @gi [it] it (λi h=>h.IsListIter it a i) where
 mem:=by simp
 obj:=λi h st b F=>by
  have e:b=it:=by simpa using F
  subst e;obtain ⟨o,e,c,d⟩:=st;exact ⟨o,e,λv z=>by rw [d] at z;cases z⟩
 keep:=λi h h' st k=>st.at λo e=>k it @e o e
 item:=by
  intro X hP W O hc i pins s σ H E I J st Z;subst hP W O;obtain ⟨xs,x,G,Y⟩:=Z;obtain ⟨its,S,p,hz⟩:=I.list G;obtain ⟨u,hu,ru⟩:=S.get Y;obtain ⟨U,L,f2,f3,R,f5⟩:=J it @e;rwa[wpAny_pyNext_list_item st p.isList (x:=u) (by simpa using hu) λh' j sb=> ?_];have I1:av X pins σ H {s with heap:=h'}:=I.turned (t':=s.toks) (λb o F e=>(sb.2 b F).trans e) U L f3 R f5;obtain ⟨o,e,c,d⟩:=id j;exact ⟨u,rfl,A2 (s:= {s with heap:=h'}) e c d @b ⟨x,H,I1,ru,⟨rfl,λys hy=>by rw [I.list_inj hy G];exact Y⟩,j,λb F=>(J b F).1⟩⟩
 done:=by
  intro X hP W O hc i pins s σ H E I J st Z;subst hP W O;obtain ⟨xs,G,Y⟩:=Z;obtain ⟨its,S,p,hz⟩:=I.list G;obtain ⟨U,L,f2,f3,R,f5⟩:=J it @e;have hl:=S.length;exact wpAny_pyNext_list_end @bv st p.isList (by simp;lia) λh' eb=>⟨rfl,I.turned (t':=s.toks) @dc U L f3 R f5⟩
 self:=λ_ _ _ _ _ st h=>wpAny_pyIter_listiter st h
theorem yF {P:Program}{w:World}{K:Fg}{tg:Expr}(a it:Addr):wq P w K tg @gj [it] it (λi h=>h.IsTupleIter it a i) where
 mem:=by simp
 obj:=λi h st b F=>by
  have e:b=it:=by simpa using F
  subst e;obtain ⟨o,e,c,d⟩:=st;exact ⟨o,e,λv z=>by rw [d] at z;cases z⟩
 keep:=λi h h' st k=>st.at λo e=>k it @e o e
 item:=by
  intro X hP W O hc i pins s σ H E I J st Z;subst hP W O;obtain ⟨xs,x,G,Y⟩:=Z;obtain ⟨its,S,p,hz⟩:=I.tuple G;obtain ⟨u,hu,ru⟩:=S.get Y;obtain ⟨U,L,f2,f3,R,f5⟩:=J it @e;rwa[wpAny_pyNext_tuple_item st (show s.heap.IsTuple a its.toArray from p) (x:=u) (by simpa using hu) λh' j sb=> ?_];have I1:av X pins σ H {s with heap:=h'}:=I.turned (t':=s.toks) (λb o F e=>(sb.2 b F).trans e) U L f3 R f5;obtain ⟨o,e,c,d⟩:=id j;exact ⟨u,rfl,A2 (s:= {s with heap:=h'}) e c d @b ⟨x,H,I1,ru,⟨rfl,λys hy=>by rw [I.tuple_inj hy G];exact Y⟩,j,λb F=>(J b F).1⟩⟩
 done:=by
  intro X hP W O hc i pins s σ H E I J st Z;subst hP W O;obtain ⟨xs,G,Y⟩:=Z;obtain ⟨its,S,p,hz⟩:=I.tuple G;obtain ⟨U,L,f2,f3,R,f5⟩:=J it @e;have hl:=S.length;exact wpAny_pyNext_tuple_end @bv st (show s.heap.IsTuple a its.toArray from p) (by simp;lia) λh' eb=>⟨rfl,I.turned (t':=s.toks) @dc U L f3 R f5⟩
 self:=λ_ _ _ _ _ st h=>wpAny_pyIter_tupleiter st h
theorem yG {P:Program}{w:World}{K:Fg}{tg:Expr}(it:Addr)(lo:Int)(n:Nat):wq P w K tg @ge [it] it (λi h=>IsRangeIter h it (lo+(i:Nat)*1) ((n:Int) - (i:Nat)) 1) where
 mem:=by simp
 obj:=λi h st b F=>by
  have e:b=it:=by simpa using F
  subst e
  exact ⟨_,st,λv z=>by
   have z':Data.fields _=Data.cell v:=z
   cases z'⟩
 keep:=λi h h' st k=>k it @e _ st
 item:=by
  intro X hP S O J i pins s σ H E I G st Y;subst hP S O;obtain ⟨U,L,f2,f3,R,Z⟩:=G it @e;have W:=Walks.range (prog:=X.prog) (w:=X.w) @ee it lo 1 n;rwa[W.item i s _ _ Y st λv h' tk hv j kk=> ?_];obtain ⟨t,rfl⟩:=hv;have I1:av X pins σ H {s with heap:=h',toks:=tk}:=I.turned (λb o F e=>kk b o (by simpa using F) e) U L f3 R Z;rwa[⟨_,rfl,A2 (s:= {s with heap:=h',toks:=tk}) (n:="range_iterator") j rfl rfl @b ⟨.int (lo+i),H,I1,⟨t,?_⟩,⟨rfl,rfl⟩,j,λb F=>(G b F).1⟩⟩];rw [Int.mul_one]
 done:=by
  intro X hP S O J i pins s σ H E I G st Y;subst hP S O;obtain ⟨U,L,f2,f3,R,Z⟩:=G it @e;exact wpAny_pyNext_range_end @ee st (by have:n<=i:=Y;lia) λh' eb=>⟨rfl,I.turned (t':=s.toks) @dc U L f3 R Z⟩
 self:=λ_ _ _ _ _ st h=>wpAny_pyIter_rangeiter st h
section
variable {X:Cx}{tg:Expr}
theorem xk {pins:List (Addr×Obj)}{σ:St}{H:Hp}{s:Shared}{R:It->Hp->Prop}{E:Value->Shared->Prop}{lo hi:Int}{t u v:Tok}{tk:Nat}(I:av X pins σ H s)(h1: -(2^62)<=lo)(h2:lo<2^62)(L: -(2^62)<=hi)(j:hi<2^62)
(q:R (GF lo (hi - lo).toNat) H):wpAny @d X.A (pyIter (.ref s.heap.objs.size)) @ef E {s with heap:=s.heap.push {cls:= .type "range",data:= .fields #[.int lo t,.int hi u,.int 1 v]},toks:=tk}:=by
 rwa[wpAny_pyIter_range (IsRange.new ..) (small_one h1 h2 L j) ?_];have F:av X pins σ H {s with heap:=s.heap.push {cls:= .type "range",data:= .fields #[.int lo t,.int hi u,.int 1 v]},toks:=tk}:=I.kept λb o e=>Heap.get?_push_of_some _ e
 refine ⟨(s.heap.push {cls:= .type "range",data:= .fields #[.int lo t,.int hi u,.int 1 v]}).objs.size,[(s.heap.push {cls:= .type "range",data:= .fields #[.int lo t,.int hi u,.int 1 v]}).objs.size],_,_,H,rfl,
  F.kept (t':=tk) λb o e=>Heap.get?_push_of_some _ e,yG _ lo (hi - lo).toNat,?_,λb z=> ?_,q⟩
 ·have G:lo+((0:Nat):Int)*1=lo:=by simp
  have O:(((hi - lo).toNat:Nat):Int) - ((0:Nat):Int)=Builtin.Range.rangeSize lo hi 1:=by rw [rangeSize_one];split<;>lia
  show IsRangeIter _ _ (lo+((0:Nat):Int)*1) ((((hi - lo).toNat:Nat):Int) - ((0:Nat):Int)) 1;rw [G,O];exact Heap.get?_push_size _ rfl
 ·have e:b=(s.heap.push {cls:= .type "range",data:= .fields #[.int lo t,.int hi u,.int 1 v]}).objs.size:=by simpa using z
  subst e;exact F.fpOk @f @cq
def QF (wi:TI)(g:TG)(tb:TS):TS:=λD σ H=>wi σ H λJ H1=>∃W:Nat->Nat->St->Hp->Prop,(∃m,W 0 m σ H1)/\∀i m σ H,W i m σ H->
 (J.stop i H/\D.nx σ H)\/(J.go i H/\∃N:St->Hp->Prop,(∀σ' H',N σ' H'->∃m',m'<m/\W (i+1) m' σ' H')/\∀x H',J.yld i H x H'->g x σ H' λσ2 H2=>tb {D with nx:=N,ct:=N,bk:=D.nx} σ2 H2)
def qI (fp:List Addr)(h:Heap):List (Addr×Obj):=fp.filterMap λb=>(h.get? b).map λo=>(b,o)
theorem gU {fp:List Addr}{h:Heap}{b:Addr}{o:Obj}(F:b∈fp)(e:h.get? b=some o):(b,o)∈qI fp h:=mem_filterMap.mpr ⟨b,F,by rw [e];rfl⟩
theorem Cd {fp:List Addr}{h:Heap}{p:Addr×Obj}(G:p∈qI fp h):p.1∈fp/\h.get? p.1=some p.2:=by
 obtain ⟨b,F,e⟩:=mem_filterMap.mp G
 cases q:h.get? b with
 |none=>rw [q] at e;cases e
 |some o=>
  rw [q] at e;have j:(b,o)=p:=Option.some.inj e;subst j;exact ⟨F,q⟩
theorem av.pinned {pins:List (Addr×Obj)}{σ:St}{H:Hp}{s:Shared}{fp:List Addr}(I:av X pins σ H s)(L:∀b∈fp,jd X pins H b)(J:∀b∈fp,∃o,s.heap.get? b=some o/\∀v,o.data≠ .cell v):av X (pins++qI fp s.heap) σ H s:=
 I.pins_of λp G=>(mem_append.mp G).elim (λz=>I.pin p (mem_append_right _ z)) λz=>by
  obtain ⟨F,e⟩:=Cd z;obtain ⟨U,O,R,_⟩:=L p.1 F;obtain ⟨o,j,d⟩:=J p.1 F;rw [e] at j;cases j;exact ⟨e,U,O,R,d⟩
theorem av.unpinned {pins pl:List (Addr×Obj)}{σ:St}{H:Hp}{s:Shared}(I:av X (pins++pl) σ H s):av X pins σ H s:=I.pins_of λp G=>I.pin p (mem_append_right _ @bE)
theorem Ld {iter:Expr}{S:List Stmt}{wi:TI}{g:TG}{tb:TS}{pos:Pos}(hp:PassesOwn @d X.A X.env X.xe)(hc:X.calm=true)(hi:PI X tg iter wi)(hg:PG X tg g)(L:tH X S tb)
(hs:∀x,foldedSetIterable iter X.env x=pure x:=by intro _;rfl):PS X (.For tg iter S [] pos) (QF wi g tb):=by
 intro pins s σ H D I h;rwa[wpAny_For (bG @dE λv s1 h1=>bG h1 λag s2 h2=> ?_) hs];obtain ⟨it,fp,tn,J,H2,e,I2,T,ae,f2,W,⟨m0,w0⟩,Y⟩:=h2;subst e;have O:∀ {H':Hp},(∀b∈fp,H' b=none)->∀b∈fp,jd X pins H' b:=λhn b L=>⟨hn b L,(f2 b L).2⟩;rwa[codeAny_forLoop_any (λn s'=>∃i Z H',av X pins Z H' s'/\tn i s'.heap/\(∀b∈fp,H' b=none)/\W i n Z H') ?_ m0 ⟨0,σ,H2,I2,ae,λb L=>(f2 b L).1,w0⟩];rintro n s3 ⟨i,σ3,H3,I3,ad,ab,w3⟩
 rcases Y i n σ3 H3 w3 with ⟨ac,qn⟩|⟨go,N,hN,aa⟩
 ·rwa[wpAny_passesOwn hp (bG (T.done X rfl rfl rfl hc i pins s3 σ3 H3 X.xe I3 (O ab) ad ac) λr s4 ⟨hr,I4⟩=> ?_)];subst hr;exact wpAny_execs_nil ⟨σ3,H3,I4,qn⟩
 ·rwa[wpAny_passesOwn hp (bG (T.item X rfl rfl rfl hc i pins s3 σ3 H3 X.xe I3 (O ab) ad go) λr s4 ⟨u,hr,h4⟩=> ?_)];subst hr;rwa[wpAny_passesOwn hp (bG h4 λ_ s5 ⟨x,H5,I5,r5,y5,U,af⟩=> ?_)];have I5':=I5.pinned (O af) (T.obj _ _ U);rwa[wpAny_passesOwn hp (bG (hg _ s5 σ3 H5 x u _ I5' r5 (aa x H5 y5)) λ_ s6 ⟨σ6,H6,I6,q6⟩=> ?_)];rwa[wpAny_passesOwn hp (bG (L _ s6 σ6 H6 _ I6 q6) λf s7 R=> ?_)]
  have z:∀ {j:St} {F:Hp},av X (pins++qI fp s5.heap) j F s7->N j F->∃m,m<n/\∃i Z H',av X pins Z H' s7/\tn i s7.heap/\(∀b∈fp,H' b=none)/\W i m Z H':=λ{j F} G n7=>by
   obtain ⟨m',hm,w7⟩:=hN j F n7;rwa[⟨m',hm,i+1,j,F,G.unpinned,T.keep _ _ _ U λb L o e=>(G.pin (b,o) @O).1,λb L=> ?_,w7⟩];obtain ⟨o,e,d⟩:=T.obj _ _ U b L;exact (G.pin (b,o) @O).2.1
  cases f with
  |next=>obtain ⟨j,F,G,n7⟩:=R;exact z G n7
  |cont=>obtain ⟨j,F,G,n7⟩:=R;exact z G n7
  |brk=>obtain ⟨j,F,G,R⟩:=R;exact ⟨j,F,G.unpinned,R⟩
  |ret v=>obtain ⟨x7,j,F,G,r7,R⟩:=R;exact ⟨x7,j,F,G.unpinned,r7,R⟩
end
theorem FJ {K:Fg}{a:Addr}{xs:List V}{g:TG}{tb:TS}{D:oQ}{σ:St}{H:Hp}(j:Nat->St->Hp->Prop)(F:j 0 σ H)(I:∀i σ H,i<=xs.length->j i σ H->aA K H a xs)
(hs:∀i x σ H,xs[i]? =some x->j i σ H->g x σ H λσ2 H2=>tb {D with nx:=j (i+1),ct:=j (i+1),bk:=D.nx} σ2 H2)(J:∀σ H,j xs.length σ H->D.nx σ H):
 ∃W:Nat->Nat->St->Hp->Prop,(∃m,W 0 m σ H)/\∀i m σ H,W i m σ H->
  ((Gv K a).stop i H/\D.nx σ H)\/((Gv K a).go i H/\∃N:St->Hp->Prop,(∀σ' H',N σ' H'->∃m',m'<m/\W (i+1) m' σ' H')/\∀x H',(Gv K a).yld i H x H'->g x σ H' λσ2 H2=>tb {D with nx:=N,ct:=N,bk:=D.nx} σ2 H2):=by
 rwa[⟨λi m σ H=>m=xs.length - i/\i<=xs.length/\j i σ H,⟨xs.length,by simp,Nat.zero_le _,F⟩,?_⟩];rintro i m σ H ⟨rfl,hi,p⟩;have q:=I i σ H hi p;by_cases z:i<xs.length
 ·rwa[.inr ⟨⟨xs,xs[i],q,by simp [z]⟩,j (i+1),λσ' H' G=>⟨xs.length - (i+1),by lia,rfl,z,G⟩,λx H' y=> ?_⟩];obtain ⟨e,y⟩:=y;subst e;exact hs i x σ _ (y xs q) p
 ·have e:i=xs.length:=by lia
  subst e;exact .inl ⟨⟨xs,q,Nat.le_refl _⟩,J σ H p⟩
theorem Ja {K:Fg}{a:Addr}{xs:List V}{g:TG}{tb:TS}{D:oQ}{σ:St}{H:Hp}(j:Nat->St->Hp->Prop)(F:j 0 σ H)(I:∀i σ H,i<=xs.length->j i σ H->aC K H a xs)
(hs:∀i x σ H,xs[i]? =some x->j i σ H->g x σ H λσ2 H2=>tb {D with nx:=j (i+1),ct:=j (i+1),bk:=D.nx} σ2 H2)(J:∀σ H,j xs.length σ H->D.nx σ H):
 ∃W:Nat->Nat->St->Hp->Prop,(∃m,W 0 m σ H)/\∀i m σ H,W i m σ H->
  ((Gu K a).stop i H/\D.nx σ H)\/((Gu K a).go i H/\∃N:St->Hp->Prop,(∀σ' H',N σ' H'->∃m',m'<m/\W (i+1) m' σ' H')/\∀x H',(Gu K a).yld i H x H'->g x σ H' λσ2 H2=>tb {D with nx:=N,ct:=N,bk:=D.nx} σ2 H2):=by
 rwa[⟨λi m σ H=>m=xs.length - i/\i<=xs.length/\j i σ H,⟨xs.length,by simp,Nat.zero_le _,F⟩,?_⟩];rintro i m σ H ⟨rfl,hi,p⟩;have q:=I i σ H hi p;by_cases z:i<xs.length
 ·rwa[.inr ⟨⟨xs,xs[i],q,by simp [z]⟩,j (i+1),λσ' H' G=>⟨xs.length - (i+1),by lia,rfl,z,G⟩,λx H' y=> ?_⟩];obtain ⟨e,y⟩:=y;subst e;exact hs i x σ _ (y xs q) p
 ·have e:i=xs.length:=by lia
  subst e;exact .inl ⟨⟨xs,q,Nat.le_refl _⟩,J σ H p⟩
theorem CA {lo:Int}{n:Nat}{g:TG}{tb:TS}{D:oQ}{σ:St}{H:Hp}(j:Nat->St->Hp->Prop)(F:j 0 σ H)
(hs:∀i σ H,i<n->j i σ H->g (.int (lo+i)) σ H λσ2 H2=>tb {D with nx:=j (i+1),ct:=j (i+1),bk:=D.nx} σ2 H2)(J:∀σ H,j n σ H->D.nx σ H):
 ∃W:Nat->Nat->St->Hp->Prop,(∃m,W 0 m σ H)/\∀i m σ H,W i m σ H->
  ((GF lo n).stop i H/\D.nx σ H)\/((GF lo n).go i H/\∃N:St->Hp->Prop,(∀σ' H',N σ' H'->∃m',m'<m/\W (i+1) m' σ' H')/\∀x H',(GF lo n).yld i H x H'->g x σ H' λσ2 H2=>tb {D with nx:=N,ct:=N,bk:=D.nx} σ2 H2):=by
 rwa[⟨λi m σ H=>m=n - i/\i<=n/\j i σ H,⟨n,by simp,Nat.zero_le _,F⟩,?_⟩];rintro i m σ H ⟨rfl,hi,p⟩;by_cases z:i<n
 ·rwa[.inr ⟨z,j (i+1),λσ' H' G=>⟨n - (i+1),by lia,rfl,z,G⟩,λx H' y=> ?_⟩];obtain ⟨e,y⟩:=y;subst e y;exact hs i σ _ z p
 ·have e:i=n:=by lia
  subst e;exact .inl ⟨Nat.le_refl _,J σ H p⟩
abbrev R2:=V->V->Hp->VK->Prop
def cU (X:Cx)(f:Value->Value->Sem Value)(r:R2):Prop:=
 ∀(pins:List (Addr×Obj)) (s:Shared) (σ:St) (H:Hp) (x y:V) (v u:Value) (Q:VK),av X pins σ H s->aE x v->aE y u->r x y H Q->
  wpAny @d X.A (f v u) @t X.xe s
def M7 (X:Cx)(f:Value->Sem Value)(r:V->Hp->VK->Prop):Prop:=
 ∀(pins:List (Addr×Obj)) (s:Shared) (σ:St) (H:Hp) (x:V) (v:Value) (Q:VK),av X pins σ H s->aE x v->r x H Q->
  wpAny @d X.A (f v) @t X.xe s
def aW (X:Cx)(f:Value)(r:List V->Hp->VK->Prop):Prop:=
 ∀(pins:List (Addr×Obj)) (s:Shared) (σ:St) (H:Hp) (xs:List V) (us:List Value) (Q:VK),av X pins σ H s->aL xs us->r xs H Q->
  wpAny @d X.A (call f us) @t X.xe s
def Rk (X:Cx)(r:V->Hp->(Bool->Hp->Prop)->Prop):Prop:=
 ∀(pins:List (Addr×Obj)) (s:Shared) (σ:St) (H:Hp) (x:V) (v:Value) (Q:Bool->Hp->Prop),av X pins σ H s->aE x v->r x H Q->
  wpAny @d X.A (truthy v) @dz X.xe s
def NZ (r:R2)(ta tb:TE):TE:=λσ H Q=>ta σ H λx H1=>tb σ H1 λy H2=>r x y H2 Q
def RG (r:V->Hp->VK->Prop)(ta:TE):TE:=λσ H Q=>ta σ H λx H1=>r x H1 Q
def rI (C:Int->Int->Prop)(g:Int->Int->V):R2:=λx y H Q=>∃i j,x= .int i/\y= .int j/\C i j/\Q @cF H
def Ej (g:Int->Int->V):R2:=λx y H Q=>∃i j,x= .int i/\y= .int j/\Q @cF H
def rU (g:Int->V):V->Hp->VK->Prop:=λx H Q=>∃i,x= .int i/\Q (g i) H
section
variable {X:Cx}{a b c:Expr}{ta tb tc:TE}{pos:Pos}
theorem MJ (j:PE X a ta)(U:PE X b tb){pins:List (Addr×Obj)}{s:Shared}{σ:St}{H:Hp}{R:V->V->Hp->Prop}(I:av X pins σ H s)
(h:ta σ H λx H1=>tb σ H1 λy H2=>R x y H2){Q:Value->Shared->Prop}{f:Value->Value->Sem Value}
(G:∀v u s2 x y H2,av X pins σ H2 s2->aE x v->aE y u->R x y H2->wpAny @d X.A (f v u) Q X.xe s2):
 wpAny @d X.A (eval a X.env) (λv s₁=>wpAny @d X.A (eval b X.env) (λu s₂=>wpAny @d X.A (f v u) Q X.xe s₂) X.xe s₁) X.xe s:=by
 rwa[bG @ck λv L ⟨x,H1,O,S,z⟩=> ?_];rwa[bG (U pins L σ H1 _ O z) λu s2 ⟨y,H2,F,J,W⟩=> ?_];exact G v u s2 x y H2 F S J W
theorem bZ {j:Operator}{r:R2}(J:cU X (binaryOp j) r)(z:PE X a ta)(O:PE X b tb):PE X (.BinOp a j b pos) @eJ:=by
 intro pins s σ H Q I h;exact wpAny_BinOp (MJ z O I h λv u R x y H2 F G L q=>J pins R σ H2 x y v u Q F G L q)
theorem JQ {j:UnaryOp}{r:V->Hp->VK->Prop}(z:M7 X (unaryOp j) r)(J:PE X a ta):PE X (.UnaryOp j a pos) (RG r ta):=by
 intro pins s σ H Q I h;exact UnaryOp_ (bG (J pins s σ H _ I h) λv L ⟨x,H1,F,G,O⟩=>z pins L σ H1 x v Q F G O)
theorem M4 {f:Value->Value->Sem Value}{C:Int->Int->Prop}{g:Int->Int->Int}
(z:∀(i j:Int) (t u:Tok) (s:Shared) (Q:Value->Shared->Prop) (E:Value->Shared->Prop),C i j->Q (.int @cF s.toks) {s with toks:=s.toks+1}->wpAny @d X.A @cS Q E s):
 cU X f (rI C λi j=> .int @cF):=by
 intro pins s σ H x y v u Q I J L h;obtain ⟨i,j,rfl,rfl,G,q⟩:=h;obtain ⟨t,rfl⟩:=J;obtain ⟨F,rfl⟩:=L;exact z i j t F s _ _ G ⟨.int @cF,H,I.tok _,⟨_,rfl⟩,q⟩
theorem Ic {f:Value->Value->Sem Value}{g:Int->Int->Int}
(z:∀(i j:Int) (t u:Tok) (s:Shared) (Q:Value->Shared->Prop) (E:Value->Shared->Prop),Q (.int @cF s.toks) {s with toks:=s.toks+1}->wpAny @d X.A @cS Q E s):
 cU X f (Ej λi j=> .int @cF):=by
 intro pins s σ H x y v u Q I G L h;obtain ⟨i,j,rfl,rfl,q⟩:=h;obtain ⟨t,rfl⟩:=G;obtain ⟨F,rfl⟩:=L;exact z i j t F s _ _ ⟨.int @cF,H,I.tok _,⟨_,rfl⟩,q⟩
theorem Ie {f:Value->Value->Sem Value}{g:Int->Int->Bool}
(z:∀(i j:Int) (t u:Tok) (s:Shared) (Q:Value->Shared->Prop) (E:Value->Shared->Prop),Q (.bool @cF) s->wpAny @d X.A @cS Q E s):
 cU X f (Ej λi j=> .bl @cF):=by
 intro pins s σ H x y v u Q I G L h;obtain ⟨i,j,rfl,rfl,q⟩:=h;obtain ⟨t,rfl⟩:=G;obtain ⟨F,rfl⟩:=L;exact z i j t F s _ _ ⟨.bl @cF,H,I,rfl,q⟩
def C1 (i j:Int):Prop:=0<j/\j<1073741824
def As (i j:Int):Prop:=0<=j/\j<=1000000/\i.natAbs<2^64
def wu (i j:Int):Prop:=(-(2^64)<i/\i<2^64)\/(-(2^64)<j/\j<2^64)
theorem wu.ok {i j:Int}(h:wu i j):IntMulOk i j:=by
 rcases h with ⟨h1,h2⟩|⟨h1,h2⟩
 ·exact .of_left (intBits_le_64 h1 h2)
 ·exact .of_right (intBits_le_64 h1 h2)
theorem Lv:cU X @bu (Ej λi j=> .int (i+j)):=Ic λ_ _ _ _ _ _ _ q=>add_int q
theorem Lm:cU X (binaryOp .Sub) (Ej λi j=> .int (i - j)):=Ic λ_ _ _ _ _ _ _ q=>sub_int q
theorem Lp:cU X @dA (rI wu λi j=> .int (i*j)):=M4 λ_ _ _ _ _ _ _ I q=>mul_int q I.ok
theorem HH:cU X (binaryOp .FloorDiv) (rI C1 λi j=> .int (i / j)):=M4 λi j _ _ _ _ _ I q=>by
 have h1:(0:Int)<j:=I.1;have h2:j<1073741824:=I.2;exact floordiv_int @c (by rw [Int.fdiv_eq_ediv_of_nonneg i @c];exact q) (.inl (PyProof.noPylong_small @c))
theorem Lq:cU X (binaryOp .Mod) (rI (λ_ j=>0<j) λi j=> .int (i% j)):=M4 λi j _ _ _ _ _ I q=>by
 have h1:(0:Int)<j:=I;exact mod_int' @c (by rw [Int.fmod_eq_emod_of_nonneg i @c];exact q)
theorem Lo:cU X (binaryOp .Pow) (rI As λi j=> .int (i^j.toNat)):=M4 λ_ _ _ _ _ _ _ I q=>pow_int_small I.1 I.2.1 I.2.2 q
theorem Ln:cU X (binaryOp .LShift) (rI As λi j=> .int (i*2^j.toNat)):=M4 λ_ _ _ _ _ _ _ I q=>lshift_int_small I.1 I.2.1 I.2.2 q
theorem Lu:cU X (binaryOp .BitAnd) (Ej λi j=> .int (Builtin.bitAnd i j)):=Ic λ_ _ _ _ _ _ _ q=>and_int q
theorem Oq:cU X (binaryOp .BitOr) (Ej λi j=> .int (Builtin.bitOr i j)):=Ic λ_ _ _ _ _ _ _ q=>or_int q
theorem RF {f:Value->Sem Value}{g:Int->Int}
(z:∀(i:Int) (t:Tok) (s:Shared) (Q:Value->Shared->Prop) (E:Value->Shared->Prop),Q (.int (g i) s.toks) {s with toks:=s.toks+1}->wpAny @d X.A (f (.int i t)) Q E s):
 M7 X f (rU λi=> .int (g i)):=by
 intro pins s σ H x v Q I G h;obtain ⟨i,rfl,q⟩:=h;obtain ⟨t,rfl⟩:=G;exact z i t s _ _ ⟨.int (g i),H,I.tok _,⟨_,rfl⟩,q⟩
theorem Ku:M7 X (unaryOp .USub) (rU λi=> .int (-i)):=RF λ_ _ _ _ _ q=>neg_int q
end
noncomputable def KW:V->V->Bool
 | .non,.non=>true| .non,.int _=>true| .int _,.non=>true| .non,.bl _=>true| .bl _,.non=>true| .non,.str _=>true| .str _,.non=>true
 | .int _,.int _=>true| .bl _,.bl _=>true| .str _,.str _=>true| .byt _,.byt _=>true
 | .int _,.str _=>true| .str _,.int _=>true| .bl _,.str _=>true| .str _,.bl _=>true
 |_,_=>false
def RL:R2:=λx y H Q=>KW x y=true/\Q (.bl (decide (x=y))) H
def RK:R2:=λx y H Q=>KW x y=true/\Q (.bl (!decide (x=y))) H
theorem A8 {i j:Int}:decide (V.int i=V.int j)=(i==j):=by
 rw [Bool.eq_iff_iff];simp
theorem FW {i j:Bool}:decide (V.bl i=V.bl j)=(i==j):=by
 rw [Bool.eq_iff_iff];simp
theorem A7 {i j:Str}:decide (V.str i=V.str j)=(i==j):=by
 rw [Bool.eq_iff_iff];simp
theorem A9 {i j:Array UInt8}:decide (V.byt i=V.byt j)=(i.toList==j.toList):=by
 rw [Bool.eq_iff_iff];cases i;cases j;simp
section
variable {X:Cx}{a b c:Expr}{ta tb tc:TE}{pos:Pos}
theorem aV {pins:List (Addr×Obj)}{σ:St}{H:Hp}{s:Shared}{Q:VK}{k j:Bool}(I:av X pins σ H s)(q:Q (.bl k) H)(e:k=j):EP X pins σ Q (.bool j) s:=by
 subst e;exact ⟨.bl k,H,I,rfl,q⟩
theorem Ox:cU X (compareOp .Eq) RL:=by
 intro pins s σ H x y v u Q I G L h;obtain ⟨hs,q⟩:=h
 cases x with
 |non=>
  cases G
  cases y with
  |non=>cases L;exact PySem.EqNone.eq_none_none @E
  |bl j=>cases L;exact PySem.EqNone.eq_none_bool @E
  |int j=>obtain ⟨z,rfl⟩:=L;exact PySem.EqNone.eq_none_int @E
  |str j=>obtain ⟨z,rfl⟩:=L;exact PySem.EqNone.eq_none_str @E
  |_=>exact absurd (show false=true from hs) Bool.false_ne_true
 |bl i=>
  cases G
  cases y with
  |non=>cases L;exact PySem.EqNone.eq_bool_none @E
  |bl j=>cases L;exact eq_bool (aV I q FW)
  |str j=>obtain ⟨z,rfl⟩:=L;exact PySem.EqMixed.eq_bool_str @E
  |_=>exact absurd (show false=true from hs) Bool.false_ne_true
 |int i=>
  obtain ⟨t,rfl⟩:=G
  cases y with
  |non=>cases L;exact PySem.EqNone.eq_int_none @E
  |int j=>obtain ⟨z,rfl⟩:=L;exact eq_int (aV I q A8)
  |str j=>obtain ⟨z,rfl⟩:=L;exact PySem.EqMixed.eq_int_str @E
  |_=>exact absurd (show false=true from hs) Bool.false_ne_true
 |str i=>
  obtain ⟨t,rfl⟩:=G
  cases y with
  |non=>cases L;exact PySem.EqNone.eq_str_none @E
  |bl j=>cases L;exact PySem.EqMixed.eq_str_bool @E
  |int j=>obtain ⟨z,rfl⟩:=L;exact PySem.EqMixed.eq_str_int @E
  |str j=>obtain ⟨z,rfl⟩:=L;exact eq_str (aV I q A7)
  |_=>exact absurd (show false=true from hs) Bool.false_ne_true
 |byt i=>
  obtain ⟨t,rfl⟩:=G
  cases y with
  |byt j=>obtain ⟨z,rfl⟩:=L;exact W.eq_bytes (aV I q A9)
  |_=>exact absurd (show false=true from hs) Bool.false_ne_true
 |_=>cases y<;>exact absurd (show false=true from hs) Bool.false_ne_true
theorem Os:cU X (compareOp .NotEq) RK:=by
 intro pins s σ H x y v u Q I G L h;obtain ⟨hs,q⟩:=h
 cases x with
 |non=>
  cases G
  cases y with
  |non=>cases L;exact PySem.EqNone.ne_none_none @E
  |bl j=>cases L;exact PySem.EqNone.ne_none_bool @E
  |int j=>obtain ⟨z,rfl⟩:=L;exact PySem.EqNone.ne_none_int @E
  |str j=>obtain ⟨z,rfl⟩:=L;exact PySem.EqNone.ne_none_str @E
  |_=>exact absurd (show false=true from hs) Bool.false_ne_true
 |bl i=>
  cases G
  cases y with
  |non=>cases L;exact PySem.EqNone.ne_bool_none @E
  |bl j=>cases L;exact ne_bool (aV I q (congrArg not FW))
  |str j=>obtain ⟨z,rfl⟩:=L;exact PySem.EqMixed.ne_bool_str @E
  |_=>exact absurd (show false=true from hs) Bool.false_ne_true
 |int i=>
  obtain ⟨t,rfl⟩:=G
  cases y with
  |non=>cases L;exact PySem.EqNone.ne_int_none @E
  |int j=>obtain ⟨z,rfl⟩:=L;exact ne_int (aV I q (congrArg not A8))
  |str j=>obtain ⟨z,rfl⟩:=L;exact PySem.EqMixed.ne_int_str @E
  |_=>exact absurd (show false=true from hs) Bool.false_ne_true
 |str i=>
  obtain ⟨t,rfl⟩:=G
  cases y with
  |non=>cases L;exact PySem.EqNone.ne_str_none @E
  |bl j=>cases L;exact PySem.EqMixed.ne_str_bool @E
  |int j=>obtain ⟨z,rfl⟩:=L;exact PySem.EqMixed.ne_str_int @E
  |str j=>obtain ⟨z,rfl⟩:=L;exact ne_str (aV I q (congrArg not A7))
  |_=>exact absurd (show false=true from hs) Bool.false_ne_true
 |byt i=>
  obtain ⟨t,rfl⟩:=G
  cases y with
  |byt j=>obtain ⟨z,rfl⟩:=L;exact W.ne_bytes (aV I q (congrArg not A9))
  |_=>exact absurd (show false=true from hs) Bool.false_ne_true
 |_=>cases y<;>exact absurd (show false=true from hs) Bool.false_ne_true
theorem Ot:cU X (compareOp .Lt) (Ej λi j=> .bl (decide (i<j))):=Ie λ_ _ _ _ _ _ _ q=>lt_int q
theorem Ou:cU X (compareOp .LtE) (Ej λi j=> .bl (decide (i<=j))):=Ie λ_ _ _ _ _ _ _ q=>le_int q
theorem Ov:cU X (compareOp .Gt) (Ej λi j=> .bl (decide (j<i))):=Ie λ_ _ _ _ _ _ _ q=>gt_int q
theorem Ow:cU X (compareOp .GtE) (Ej λi j=> .bl (decide (j<=i))):=Ie λ_ _ _ _ _ _ _ q=>ge_int q
theorem BU:cU X @dO (λx y H Q=>∃i j,x= .str i/\y= .str j/\Q (.bl (!(Builtin.Str.occurrences j i 0 j.length 1).isEmpty)) H):=by
 intro pins s σ H x y v u Q I G L h;obtain ⟨i,j,rfl,rfl,q⟩:=h;obtain ⟨t,rfl⟩:=G;obtain ⟨z,rfl⟩:=L;exact in_str (aV I q rfl)
theorem Lr:cU X (compareOp .Is) (λx y H Q=>y= .non/\Q (.bl (decide (x= .non))) H):=by
 intro pins s σ H x y v u Q I G L h;obtain ⟨rfl,q⟩:=h;cases L;rwa[is_none_gen (aV I q ?_)]
 cases x<;>first
  |(cases G;rfl)
  |(obtain ⟨t,rfl⟩:=G;rfl)
theorem vF:cU X @cY (λx y H Q=>∃i j,x= .str i/\y= .str j/\Q (.bl (!(!(Builtin.Str.occurrences j i 0 j.length 1).isEmpty))) H):=by
 intro pins s σ H x y v u Q I G L h;obtain ⟨i,j,rfl,rfl,q⟩:=h;obtain ⟨t,rfl⟩:=G;obtain ⟨z,rfl⟩:=L;exact notIn_str (aV I q rfl)
theorem cU.or {f:Value->Value->Sem Value}{r R:R2}(h:cU X f r)(h':cU X f R):cU X f (λx y H Q=>r x y H Q\/R x y H Q):=by
 intro pins s σ H x y v u Q I G L q
 rcases q with q|q
 ·exact h pins s σ H x y v u Q I G L q
 ·exact h' pins s σ H x y v u Q I G L q
theorem bR (b:Expr){j:CmpOp}(h:j≠ .In:=by decide)(h2:j≠ .NotIn:=by decide):behindInMarks j b=false:=by
 have R:(j==CmpOp.In)=false:=by cases j<;>first|rfl|exact absurd rfl h
 have O:(j==CmpOp.NotIn)=false:=by cases j<;>first|rfl|exact absurd rfl h2
 cases b<;>simp [behindInMarks,R,O]
theorem dQ {j:CmpOp}{r:R2}(L:cU X @fz r)(G:PE X a ta)(R:PE X b tb)(F:behindInMarks j b=false):PE X (.Compare a [j] [b] pos) @eJ:=by
 intro pins s σ H Q I h;exact wpAny_Compare1 (MJ G R I h λv u S x y H2 z J O q=>L pins S σ H2 x y v u Q z J O q) F
def Pg (K:Fg)(x:V)(H:Hp)(k:Bool):Prop:=
 match x with
 | .non=>k=false
 | .bl b=>k=b
 | .int i=>k=(i != 0)
 | .str y=>y.length<=sizeLine/\k=((y.length:Int) != 0)
 | .byt y=>y.size<=sizeLine/\k=((y.size:Int) != 0)
 | .ref p=>(∃xs,aA K H p xs/\k= !xs.isEmpty)\/(∃xs,aC K H p xs/\k= !xs.isEmpty)\/∃kvs,H p=some (.dK kvs)/\k= !kvs.isEmpty
 |_=>False
theorem Ac {κ:Type}{j:List (κ×V)}{vs:List (κ×Value)}(r:KV j vs):(!vs.isEmpty)= !j.isEmpty:=by
 cases r<;>rfl
theorem q8 {xs:List V}{its:List Value}(r:aL xs its):(!its.toArray.isEmpty)= !xs.isEmpty:=by
 cases r<;>simp
theorem kh:(sizeLine:Nat)<2^63:=by rw [sizeLine_eq];decide
theorem iI:Rk X (λx H Q=>∃k,Pg X.K x H k/\Q k H):=by
 intro pins s σ H x v Q I G h;obtain ⟨k,e,q⟩:=h;have U:=kh;have hs:sizeLine=16777216:=sizeLine_eq
 cases x with
 |non=>
  cases G;have j:k=false:=e;subst j;exact truthy_none ⟨H,I,q⟩
 |bl b=>
  cases G;have j:k=b:=e;subst j;exact wpAny_truthy_bool ⟨H,I,q⟩
 |int i=>
  obtain ⟨t,rfl⟩:=G;have j:k=(i != 0):=e;subst j;exact PySem.P.truthy_int ⟨H,I,q⟩
 |str y=>
  obtain ⟨t,rfl⟩:=G;obtain ⟨O,j⟩:y.length<=sizeLine/\k=((y.length:Int) != 0):=e;subst j;exact PySem.P.truthy_str @c ⟨H,I.tok _,q⟩
 |byt y=>
  obtain ⟨t,rfl⟩:=G;obtain ⟨O,j⟩:y.size<=sizeLine/\k=((y.size:Int) != 0):=e;subst j;exact W.truthy_bytes @c ⟨H,I.tok _,q⟩
 |ref p=>
  cases G;have j:(∃xs,aA X.K H p xs/\k= !xs.isEmpty)\/(∃xs,aC X.K H p xs/\k= !xs.isEmpty)\/∃z,H p=some (.dK z)/\k= !z.isEmpty:=e
  rcases j with ⟨xs,J,j⟩|⟨xs,J,j⟩|⟨z,J,j⟩
  ·subst j;obtain ⟨its,r,pl,L⟩:=I.list J;have F:=r.length;exact wpAny_truthy_list pl.isList (by simp only [size_toArray];lia) ⟨H,I.tok _,by rw [q8 r];exact q⟩
  ·subst j;obtain ⟨its,r,pl,L⟩:=I.tuple J;have F:=r.length;exact truthy_tuple pl (by simp only [size_toArray];lia) ⟨H,I.tok _,by rw [q8 r];exact q⟩
  ·subst j;obtain ⟨L,S,R,r,m⟩:z.length<=sizeLine/\(p==sysModules)=false/\∃R,KV z R/\s.heap.DictOf (bV X.prog X.w) p R:=I.hok p _ J;have F:z.length=R.length:=Paired.length r;exact wpAny_truthy_dict S m @c ⟨H,I.tok _,by rw [Ac r];exact q⟩
 |_=>exact (show False from e).elim
theorem zJ:cU X @bu (λx y H Q=>∃i j,x= .str i/\y= .str j/\i.length+j.length<=sizeLine/\Q (.str (i++j)) H):=by
 intro pins s σ H x y v u Q I G L h;obtain ⟨i,j,rfl,rfl,F,q⟩:=h;obtain ⟨t,rfl⟩:=G;obtain ⟨z,rfl⟩:=L;exact add_str (λz tk=>⟨.str (i++j),H,I.tok _,⟨_,rfl⟩,q⟩) F
theorem fX {x:V}{us:List Value}(r:aL [x] us):∃u,us=[u]/\aE x u:=by
 cases r with
 |cons r1 r2=>cases r2;exact ⟨_,rfl,r1⟩
theorem Az {x y:V}{us:List Value}(r:aL [x,y] us):∃u w',us=[u,w']/\aE x u/\aE y w':=by
 cases r with
 |cons r1 r2=>
  cases r2 with
  |cons r3 r4=>cases r4;exact ⟨_,_,rfl,r1,r3⟩
theorem F9:aW X (.builtin "abs") (λxs H Q=>∃i,xs=[.int i]/\Q (.int (if i<0 then -i else i)) H):=by
 intro pins s σ H xs j Q I r h;obtain ⟨i,rfl,q⟩:=h;obtain ⟨u,rfl,t,rfl⟩:=fX r;exact call_abs_int λu tk=>⟨.int (if i<0 then -i else i),H,I.tok _,⟨_,rfl⟩,q⟩
theorem CL (z:X.calm=true):aW X (.builtin "max") (λxs H Q=>∃i j,xs=[.int i,.int j]/\Q (.int (if j>i then j else i)) H):=by
 intro pins s σ H xs G Q I r h;obtain ⟨i,j,rfl,q⟩:=h;obtain ⟨u,F,rfl,⟨t,rfl⟩,⟨J,rfl⟩⟩:=Az r;rwa[max_two_ints (I.ok.hd z) λh' tk k=>⟨_,H,I.kept k,?_,q⟩];by_cases Z:j>i
 ·rw [if_pos Z,if_pos Z];exact ⟨_,rfl⟩
 ·rw [if_neg Z,if_neg Z];exact ⟨_,rfl⟩
theorem CQ:aW X (.type "int") (λxs H Q=>(∃i,xs=[.int i]/\Q (.int i) H)\/∃k,xs=[.bl k]/\Q (.int (if k then 1 else 0)) H):=by
 intro pins s σ H xs j Q I r h
 rcases h with ⟨i,rfl,q⟩|⟨k,rfl,q⟩
 ·obtain ⟨u,rfl,t,rfl⟩:=fX r;exact call_int_int ⟨.int i,H,I,⟨_,rfl⟩,q⟩
 ·obtain ⟨u,rfl,G⟩:=fX r;cases G;exact call_int_bool ⟨.int (if k then 1 else 0),H,I.tok _,⟨_,rfl⟩,q⟩
theorem v7:aW X (.type "str") (λxs H Q=>∃i,xs=[.int i]/\i.natAbs.log2<1920/\Q (.str @fM) H):=by
 intro pins s σ H xs j Q I r h;obtain ⟨i,rfl,F,q⟩:=h;obtain ⟨u,rfl,t,rfl⟩:=fX r;exact PySem.P.str_of_int F ⟨.str _,H,I.tok _,⟨_,rfl⟩,q⟩
end
structure Ao (h:Heap)(x dx C:Addr)(mA:Str->Option Value):Prop where
 obj:h.get? x=some @dD
 ns:h.Ns1 dx mA
 ne:dx≠x
theorem Cn {h:Heap}{dx:Addr}{mA:Str->Option Value}(n:h.Ns1 dx mA):∃od,h.get? dx=some od/\∀name,W.lookIn name od=some (mA name):=by
 obtain ⟨o,es,L,I,J,R,_,F⟩:=n;rwa[⟨o,I,λname=> ?_⟩];have e:=F name;unfold nsFind findBy at e;rw [<-Array.find?_toList] at e;unfold W.lookIn;rw [J];dsimp only;split
 ·rename_i y q;rw [q] at e;exact congrArg some e
 ·rename_i q;rw [q] at e
  have a:es.toList.any (·.refKey)=false:=by
   rw [any_eq_false];intro y O;obtain ⟨z,t,j⟩:=R y (Array.mem_toList_iff.mp O);simp [DictEntry.refKey,j]
  have G: ¬es.toList.any (·.refKey)=true:=by rw [a];exact Bool.false_ne_true
  rw [if_neg G];exact congrArg some e
theorem Ao.look {h:Heap}{x dx C:Addr}{mA:Str->Option Value}(I:Ao h x dx C mA):∃od,PySem.W.InstAt h x @dD C (some od)/\∀name,W.lookIn name od=some (mA name):=
 let ⟨od,ho,hl⟩:=Cn I.ns
 ⟨od,⟨I.obj,rfl,rfl,ho⟩,hl⟩
section
variable {prog:Program}{w:World}{A:Around}{E:Value->Shared->Prop}{s:Shared}{K:Fg}{x dx C f:Addr}{mA:Str->Option Value}{name:Str}{v:Value}
theorem IZ {j:Bool}{Q:Value->Shared->Prop}(X:K.In s.heap)(I:Ao s.heap x dx C mA)(L:W.plainGet K C name=true)(G:W.hasDictIn K C=true)
(F:W.findIn K (.ref C) name=some none)(Y:mA name=some v)(z:W.handedIn v=true)(h:Q v {s with toks:=s.toks+1}):
 wpAny @n A (getAttr (.ref x) name j) Q E s:=by
 obtain ⟨R,J,O⟩:=I.look;exact W.get_value X J (W.plainGet_of L).1 (W.findObj_own G F rfl (by rw [O,Y])) z h
theorem FE {pl:Sem Bool}{Q:Value×List Value->Shared->Prop}(X:K.In s.heap)(I:Ao s.heap x dx C mA)(j:W.plainGet K C name=true)
(F:W.findIn K (.ref C) name=some @V)(z:W.isFn K (.ref f)=true)(Y:mA name=none)(h:Q (.ref f,[.ref x]) s):
 wpAny @n A (getMethod (.ref x) name pl) Q E s:=by
 obtain ⟨L,J,G⟩:=I.look;exact W.method_fn X J (W.plainGet_of j).1 (W.plainGet_of j).2 F (beq_iff_eq.mp z) (by show (W.lookIn name L).map (·.isSome)=some false;rw [G,Y];rfl) h
theorem G2 {R:List Str}{Q:Unit->Shared->Prop}(X:K.In s.heap)(I:Ao s.heap x dx C mA)
(hs:W.findIn K (.ref C) "__setattr__"=some (some (.builtin "object.__setattr__")))(U:W.plainOver K C=true)(ht:W.takerIn K C name=some none)(Z:W.hasDictIn K C=true)
(hw:PySem.Within mA R)(hsz:R.length<=sizeLine)
(h:∀h',Ao h' x dx C (λy=>if y=name then some v else mA y)->Heap.SameBut dx s.heap h'->Q () {s with heap:=h',toks:=s.toks+2}):
 wpAny @n A (setAttr (.ref x) name v) Q E s:=by
 obtain ⟨od,J,hl⟩:=I.look;rwa[W.set_plain X J hs (W.osa_open (s:= {s with toks:=s.toks+1}) (r:=none) X J U ht λb=> ?_)];obtain ⟨cd,Y,G⟩:=W.any_some Z;have hx:s.heap.get? x=some ⟨.ref C,some dx,.plain,#[]⟩:=I.obj;rwa[wpAny_bind (wpAny_pure (wpAny_bind (wpAny_bind (wpAny_loadPart hx (wpAny_bind (PySem.W.Looks.here (s:= {s with toks:=s.toks+1}) (W.looks_clsIn X Y) ?_))))))];rw [G];rwa[wpAny_pure (a:=some dx) (wpAny_bind (wpAny_pure @eT))];rwa[wpAny_nsSet1 (s:= {s with toks:=s.toks+1}) I.ns λh' z j=> ?_];obtain ⟨oD,S,aa,L,F,O⟩:=z.count (PySem.Within.cons name v hw);rwa[wpAny_bind (wpAny_lookBehind L (by rw [F];exact pastItsLine_dict (Nat.le_trans O (by rw [length_cons];lia))) ?_)];exact wpAny_pure (h _ ⟨(j.2 _ (Ne.symm I.ne)).trans I.obj,z,I.ne⟩ j)
theorem Fh {R:Result->Shared->Prop}{vs:List Value}{z:List (Str×Value)}(X:K.In s.heap)(F:W.makesIn K C=true)
(hi:W.findIn K (.ref C) "__init__"=some @V)(G:W.typeIn K (.ref f)=some (.type "function"))
(h:codeAny @n (A.under (.builtin "type.__call__" ⟨.ref C::vs,z⟩)) (.call (.ref f) ⟨.ref (s.heap.objs.size+1)::vs,z⟩) (PySem.W.InitBack (s.heap.objs.size+1) R)
   {s with heap:=(s.heap.push W.emptyDict).push @bm}):
 codeAny @n A (.call (.ref C) ⟨vs,z⟩) R s:=by
 obtain ⟨I,g,d,t,os⟩:=s;exact W.make_core (W.makes_of X F) (W.looks_findIn X hi) (λj=>W.bind_fn X j G) (.inl rfl) h
end
noncomputable def putF (f:Str)(v:V):List (Str×V)->List (Str×V)
 |[]=>[(f,v)]
 |(g,x)::r=>if g=f then (g,v)::r else (g,x)::putF f v r
theorem oj (f g:Str)(v:V):∀fs:List (Str×V),(putF f v fs).lookup g=if g=f then some v else fs.lookup g
 |[]=>by
  show List.lookup g [(f,v)]=_;by_cases h:g=f
  ·have F:(g==f)=true:=beq_iff_eq.mpr h;simp only [List.lookup,F,if_pos h]
  ·have F:(g==f)=false:=beq_eq_false_iff_ne.mpr h;simp only [List.lookup,F,if_neg h]
 |(k,x)::r=>by
  have j:=oj f g v r;rw [show putF f v ((k,x)::r)=(if k=f then (k,v)::r else (k,x)::putF f v r) from rfl];by_cases R:k=f
  ·rw [if_pos R];by_cases h:g=k
   ·have F:(g==k)=true:=beq_iff_eq.mpr h;simp only [List.lookup,F,if_pos (h.trans R)]
   ·have F:(g==k)=false:=beq_eq_false_iff_ne.mpr h;simp only [List.lookup,F,if_neg (λe:g=f=>h (e.trans R.symm))]
  ·rw [if_neg R];by_cases h:g=k
   ·have F:(g==k)=true:=beq_iff_eq.mpr h;simp only [List.lookup,F,if_neg (λe:g=f=>R (h.symm.trans e))]
   ·have F:(g==k)=false:=beq_eq_false_iff_ne.mpr h;simp only [List.lookup,F];exact j
theorem m4 (f:Str)(v:V):∀fs:List (Str×V),f∈(putF f v fs).map (·.1)/\∀g,g∈fs.map (·.1)->g∈(putF f v fs).map (·.1)
 |[]=>⟨by simp [putF],λg h=>by simp at h⟩
 |(k,x)::r=>by
  obtain ⟨j,z⟩:=m4 f v r;rw [show putF f v ((k,x)::r)=(if k=f then (k,v)::r else (k,x)::putF f v r) from rfl];by_cases R:k=f
  ·rw [if_pos R];subst R;exact ⟨by simp,λg h=>by simpa using h⟩
  ·rw [if_neg R];rwa[⟨?_,λg h=> ?_⟩]
   ·rw [map_cons];exact mem_cons_of_mem _ j
   ·rw [map_cons] at h ⊢
    rcases mem_cons.mp h with e|e
    ·exact mem_cons.mpr (.inl e)
    ·exact mem_cons_of_mem _ (z g e)
theorem om (f:Str)(v:V):∀fs:List (Str×V),(putF f v fs).length<=fs.length+1
 |[]=>by simp [putF]
 |(k,x)::r=>by
  have j:=om f v r;rw [show putF f v ((k,x)::r)=(if k=f then (k,v)::r else (k,x)::putF f v r) from rfl];by_cases R:k=f
  ·rw [if_pos R,length_cons,length_cons];lia
  ·rw [if_neg R,length_cons,length_cons];lia
theorem jC.some_of {v:V}{o:Option Value}(r:jC @br o):∃u,o=some u/\aE v u:=by
 cases o with
 |none=>exact (show False from r).elim
 |some u=>exact ⟨u,rfl,r⟩
theorem jC.none_of {o:Option Value}(r:jC none o):o=none:=by
 cases o with
 |none=>rfl
 |some u=>exact (show False from r).elim
theorem Cz {v:V}{u:Value}(r:aE v u):W.handedIn u=true:=by
 cases v with
 |non=>cases (show u=Value.none from r);rfl
 |bl b=>cases (show u=Value.bool b from r);rfl
 |int i=>obtain ⟨t,e⟩:=(show ∃t,u=Value.int i t from r);cases e;rfl
 |str x=>obtain ⟨t,e⟩:=(show ∃t,u=Value.str x t from r);cases e;rfl
 |byt b=>obtain ⟨t,e⟩:=(show ∃t,u=Value.bytes b t from r);cases e;rfl
 |flt b=>obtain ⟨t,e⟩:=(show ∃t,u=Value.float b t from r);cases e;rfl
 |ref a=>cases (show u=Value.ref a from r);rfl
 |ty n=>cases (show u=Value.type n from r);rfl
section
variable {P:Program}{w:World}{H H':Hp}{h h':Heap}{a C dx:Addr}{fs fs':List (Str×V)}
theorem pA (ae:fH P w H h)(e:H a=some (.ins C dx fs)):∃mA,Ao h a dx C mA/\(∀f,jC @fy (mA f))/\PySem.Within mA (fs.map (·.1))/\fs.length<=1000/\H dx=some (.own a):=by
 obtain ⟨d,z,L,j,mA,n,r,q⟩:=(show br P w H h a (.ins C dx fs) from ae a _ e);exact ⟨mA,⟨j,n,L⟩,r,q,z,d⟩
end
structure tM (K:Fg)(C:Addr):Prop where
 pg:W.plainGet K C Str.empty=true
 hd:W.hasDictIn K C=true
 po:W.plainOver K C=true
 sa:W.findIn K (.ref C) "__setattr__"=some (some (.builtin "object.__setattr__"))
theorem tM.get {K:Fg}{C:Addr}(c:tM K C)(f:Str):W.plainGet K C f=true:=c.pg
def bw (K:Fg)(C:Addr)(f:Str):Prop:=W.findIn K (.ref C) f=some none
theorem bw.taker {K:Fg}{C:Addr}{f:Str}(n:bw K C f):W.takerIn K C f=some none:=by
 unfold W.takerIn;rw [show W.findIn K (.ref C) f=some none from n];rfl
structure Con (K:Fg)(C:Addr)(f:Str)(v:V)(u:Value):Prop where
 at_:W.findIn K (.ref C) f=some @dS
 rel:aE v u
 get:W.specialIn K u "__get__"=some none
 cp:W.copiedNames.contains f=false
structure Gq (K:Fg)(C:Addr)(m:Str)(f:Addr):Prop where
 at_:W.findIn K (.ref C) m=some @V
 fn:W.isFn K (.ref f)=true
 kp:W.keepIn K (.ref f)=true
section
variable {X:Cx}{pins:List (Addr×Obj)}{σ:St}{H:Hp}{s:Shared}{a C dx:Addr}{fs:List (Str×V)}{f:Str}{v:V}{A:Around}{E:Value->Shared->Prop}
theorem Ae {b:Bool}{Q:Value->Shared->Prop}(I:av X pins σ H s)(e:H a=some (.ins C dx fs))(c:tM X.K C)(n:bw X.K C f)(l:fs.lookup f=some v)
(h:∀u s',av X pins σ H s'->aE v u->Q u s'):wpAny @d A (getAttr (.ref a) f b) Q E s:=by
 obtain ⟨mA,O,r,_,_,_⟩:=pA I.hok e;obtain ⟨u,z,j⟩:=jC.some_of (v:=v) (o:=mA f) (by rw [<-l];exact r f);exact IZ I.kIn O (c.get f) c.hd n z (Cz j) (h u _ @eq j)
theorem Ad {m:Str}{g:Addr}{pl:Sem Bool}{Q:Value×List Value->Shared->Prop}(I:av X pins σ H s)(e:H a=some (.ins C dx fs))(c:tM X.K C)(k:Gq X.K C m g)(l:fs.lookup m=none)
(h:Q (.ref g,[.ref a]) s):wpAny @d A (getMethod (.ref a) m pl) Q E s:=by
 obtain ⟨mA,O,r,_,_,_⟩:=pA I.hok e;have z:mA m=none:=jC.none_of (by rw [<-l];exact r m);exact FE I.kIn O (c.get m) k.at_ k.fn z h
theorem yX {y:V}{u:Value}{Q:Unit->Shared->Prop}(I:av X pins σ H s)(e:H a=some (.ins C dx fs))(c:tM X.K C)(n:bw X.K C f)(U:fs.length<1000)(L:aE y u)
(h:∀s',av X pins σ @bP s'->Q () s'):wpAny @d A (setAttr (.ref a) f u) Q E s:=by
 obtain ⟨mA,O,r,wi,_,F⟩:=pA I.hok e
 have S:(fs.map (·.1)).length<=sizeLine:=by rw [length_map,sizeLine_eq];lia
 rwa[G2 I.kIn O c.sa c.po n.taker c.hd wi S λh' j G=>h _ ?_];have R:∃o,h'.get? dx=some o:=let ⟨o,_,_,e',_⟩:=j.ns;⟨o,e'⟩;rwa[I.write (x:=a) (e:=dx) (by rw [e];exact True.intro) (.inr F) (λb q J z=>(G.2 b J).trans z) R ?_];rwa[⟨by rw [ak O.ne];exact F,?_,O.ne,j.obj,_,j.ns,λg=> ?_,λg W=> ?_⟩]
 ·have:=om f y fs;lia
 ·show jC ((putF f y fs).lookup g) (if g=f then some u else mA g);rw [oj];by_cases q:g=f
  ·rw [if_pos q,if_pos q];exact L
  ·rw [if_neg q,if_neg q];exact r g
 ·by_cases q:g=f
  ·rw [q];exact (m4 f y fs).1
  ·rwa[(m4 f y fs).2 g (wi g λz=>W ?_)];show (if g=f then some u else mA g)=none;rw [if_neg q];exact z
theorem av.made (I:av X pins σ H s):av X pins σ (upd (upd H s.heap.objs.size (.own (s.heap.objs.size+1))) (s.heap.objs.size+1) (.ins C s.heap.objs.size []))
 {s with heap:=(s.heap.push W.emptyDict).push @bm}:=by
 have R:(s.heap.push W.emptyDict).get? s.heap.objs.size=some W.emptyDict:=Heap.get?_push_size s.heap rfl
 have O:((s.heap.push W.emptyDict).push @bm).get? (s.heap.objs.size+1)=some @bm:=by
  have:=Heap.get?_push_size (s.heap.push W.emptyDict) (o:=W.instObj C s.heap.objs.size) rfl;rwa [Heap.size_push] at this
 have z:(s.heap.push W.emptyDict).Ns s.heap.objs.size (λ_=>none):=⟨W.emptyDict,#[],_,R,rfl,(λe U=>absurd U @e),λ_=>rfl⟩;have F:=I.laid (a:=s.heap.objs.size) (o:= .own (s.heap.objs.size+1)) (h':=s.heap.push W.emptyDict) (t':=s.toks) (λb u q=>Heap.get?_push_of_some _ q) @f ⟨_,R⟩;rwa[F.laid (a:=s.heap.objs.size+1) (o:= .ins C s.heap.objs.size []) (t':=s.toks) (λb u q=>Heap.get?_push_of_some _ q) (Nat.le_of_eq (Heap.size_push _ _)) ?_];have L:s.heap.objs.size≠s.heap.objs.size+1:=Nat.ne_of_lt @cr;rwa[⟨by rw [ak L,af],Nat.zero_le _,L,O,λ_=>none,(Heap.Ns1.of_empty z).at λo q=>Heap.get?_push_of_some _ q,λ_=>True.intro,λy j=>absurd rfl j⟩]
theorem Jp {prog:Program}{w:World}{env:Env}{e:Expr}{f:Str}{pos:Pos}{s:Shared}{Q:Value->Shared->Prop}(F:attributeBase e f env (eval e env)=eval e env)
(h:wpAny @n A (eval e env) (λo s₁=>wpAny @n A (getAttr o f true) Q E s₁) E s):wpAny @n A (eval (.Attribute e f pos) env) Q E s:=
 Attribute_any_ h (by rw [arm_eval_Attribute,F])
end
section
variable {X:Cx}{pins:List (Addr×Obj)}{σ:St}{H:Hp}{s:Shared}{A:Around}{E:Value->Shared->Prop}{Q:Value->Shared->Prop}{c:Value}{b:Bool}
inductive iy (K:Fg)(H:Hp):V->Value->Prop where
 |non:iy K H .non (.type "NoneType")
 |bl (x:Bool):iy K H (.bl x) (.type "bool")
 |int (i:Int):iy K H (.int i) (.type "int")
 |str (x:Str):iy K H (.str x) (.type "str")
 |flt (x:UInt64):iy K H (.flt x) (.type "float")
 |lst {a:Addr} {xs:List V} (e:H a=some (.lst xs)):iy K H (.ref a) (.type "list")
 |frz {a:Addr} {o:Obj} {xs:List V} (e:H a=some (.frz o (.lst xs))):iy K H (.ref a) (.type "list")
 |tup {a:Addr} {xs:List V} (e:H a=some (.tup xs)):iy K H (.ref a) (.type "tuple")
 |dK {a:Addr} {kvs:List (cG×V)} (e:H a=some (.dK kvs)):iy K H (.ref a) (.type "dict")
 |dT {a:Addr} {kvs:List (List cG×V)} (e:H a=some (.dT kvs)):iy K H (.ref a) (.type "dict")
 |ins {a C dx:Addr} {fs:List (Str×V)} (e:H a=some (.ins C dx fs)) (cl:tM K C) (ha:W.findIn K (.ref C) "__class__"=some (some (.builtin "object.__class__")))
   (hn:W.specialIn K (.builtin "object.__class__") "__get__"=some (some (.builtin "getset_descriptor.__get__"))) (htk:W.takesIn K (.builtin "object.__class__")=some true)
   (hm:W.mroIn K C (.type "object")=some true):iy K H (.ref a) (.ref C)
theorem Cv {x:V}{u t:Value}(I:av X pins σ H s)(G:aE x u)(ty:iy X.K H x t)(e:W.kitOne X.K t c=some b)(h:∀tk,Q (.bool b) {s with toks:=tk}):
 wpAny @d A (call (.builtin "isinstance") [u,c]) Q E s:=by
 cases ty with
 |non=>cases (show u=Value.none from G);exact W.kia_one W.kitx_none I.kIn True.intro e (λz=>nomatch z) h
 |bl y=>cases (show u=Value.bool y from G);exact W.kia_one W.kitx_bool I.kIn True.intro e (λz=>nomatch z) h
 |int i=>obtain ⟨t,q⟩:=(show ∃t,u=Value.int i t from G);cases q;exact W.kia_one W.kitx_int I.kIn True.intro e (λz=>nomatch z) h
 |str y=>obtain ⟨t,q⟩:=(show ∃t,u=Value.str y t from G);cases q;exact W.kia_one W.kitx_str I.kIn True.intro e (λz=>nomatch z) h
 |flt y=>obtain ⟨t,q⟩:=(show ∃t,u=Value.float y t from G);cases q;exact W.kia_one W.kitx_float I.kIn True.intro e (λz=>nomatch z) h
 | @lst a xs ea=>
   cases (show u=Value.ref a from G);obtain ⟨_,_,n,_,h1⟩:=(show br X.prog X.w H s.heap a (.lst xs) from I.hok a _ ea);exact W.kia_one W.kitx_list I.kIn ⟨_,h1,rfl⟩ e (λz=>nomatch z) h
 | @frz a ob xs ea=>
   cases (show u=Value.ref a from G);obtain ⟨_,_,_,n,_,h1⟩:=(show br X.prog X.w H s.heap a (.frz ob (.lst xs)) from I.hok a _ ea);exact W.kia_one W.kitx_list I.kIn ⟨_,h1,rfl⟩ e (λz=>nomatch z) h
 | @tup a xs ea=>
   cases (show u=Value.ref a from G);obtain ⟨_,_,_,p⟩:=(show br X.prog X.w H s.heap a (.tup xs) from I.hok a _ ea);obtain ⟨o,h1,h2,_⟩:=p;exact W.kia_one W.kitx_tuple I.kIn ⟨o,h1,h2⟩ e (λz=>nomatch z) h
 | @dK a kvs ea=>
   cases (show u=Value.ref a from G);obtain ⟨_,_,R,_,p⟩:=(show br X.prog X.w H s.heap a (.dK kvs) from I.hok a _ ea);obtain ⟨o,es,F,h1,h2,_⟩:=p;exact W.kia_one W.kitx_dict I.kIn ⟨o,h1,h2.1⟩ e (λz=>nomatch z) h
 | @dT a kvs ea=>
   cases (show u=Value.ref a from G);obtain ⟨_,_,xs,_,o,es,F,h1,h2,_⟩:=(show br X.prog X.w H s.heap a (.dT kvs) from I.hok a _ ea);exact W.kia_one W.kitx_dict I.kIn ⟨o,h1,h2.1⟩ e (λz=>nomatch z) h
 | @ins a C dx fs ea cl ha hn htk hm=>
   cases (show u=Value.ref a from G);obtain ⟨mA,O,_⟩:=pA I.hok ea;obtain ⟨j,J,_⟩:=O.look;exact W.kia_one (W.kitx_own (cl.get _) cl.hd ha hn htk hm) I.kIn J e (λz=>nomatch z) h
end
structure bT (k:Nat)(A:Around):Prop where
 hd:A.handled=none
 dp:A.depth+3*k+5<recursionLimit
 un:A.units+16*k+200<cLine
theorem bT.mono {j k:Nat}{A:Around}(r:bT k A)(h:j<=k):bT j A:=⟨r.hd,by have:=r.dp;lia,by have:=r.un;lia⟩
theorem bT.deeper {k:Nat}{A:Around}(r:bT (k+1) A)(env:Env):bT k (A.deeper env):=
 ⟨r.hd,by have:=r.dp;show A.depth+1+3*k+5<_;lia,by have:=r.un;show A.units+3+16*k+200<_;lia⟩
theorem bT.in1 {k:Nat}{A:Around}(r:bT (k+1) A):bT k A.in1:=
 ⟨r.hd,by have:=r.dp;show A.depth+3*k+5<_;lia,by have:=r.un;show A.units+1+16*k+200<_;lia⟩
theorem zX {A:Around}{C:Addr}{us:List Value}{z:List (Str×Value)}:(A.under (.builtin "type.__call__" ⟨.ref C::us,z⟩)).depth=A.depth+1:=by
 first|rfl|simp [Around.under,Code.weight,Code.isCreation,Code.isGuard,Code.isCaller,Code.frames,Code.isFrame,guardIds]
theorem zW {A:Around}{C:Addr}{us:List Value}{z:List (Str×Value)}:(A.under (.builtin "type.__call__" ⟨.ref C::us,z⟩)).units=A.units+1:=by
 first|rfl|simp [Around.under,Code.cUnits,Code.frames,Code.isFrame]
theorem bT.make {k:Nat}{A:Around}(r:bT (k+1) A)(C:Addr)(us:List Value)(z:List (Str×Value)):bT k (A.under (.builtin "type.__call__" ⟨.ref C::us,z⟩)):=
 ⟨r.hd,by have:=r.dp;rw [zX];lia,by have:=r.un;rw [zW];lia⟩
theorem bT.depth {k:Nat}{A:Around}(r:bT k A):A.depth<recursionLimit:=by have:=r.dp;lia
theorem bT.units {k:Nat}{A:Around}(r:bT k A):A.units+64<cLine:=by have:=r.un;lia
def KC:TA:=λ_ H Q=>Q [] H
def Du (ta:TE)(tr:TA):TA:=λσ H Q=>ta σ H λx H1=>tr σ H1 λxs H2=>Q (x::xs) H2
section
variable {X:Cx}{e:Expr}{es:List Expr}{te:TE}{t:TA}{pos:Pos}
theorem am:PA X [] KC:=λ_ _ _ _ H Q I h=>Calls.spliced_nil ⟨[],H,I,.nil,h⟩
theorem Hz (j:PE X e te)(S:PA X es t)(hs:starEach (e::es) X.env=(false,eval e X.env)::starEach es X.env:=by rfl):PA X (e::es) (Du te t):=by
 intro pos pins s σ H Q I h;rw [hs];show wpAny _ _ (spliced ((false,eval e X.env)::backTo pos @z)) _ _ s;rwa[Calls.spliced_cons (bG @ck λu L ⟨x,H1,G,O,z⟩=> ?_)];exact bG (S pos pins L σ H1 _ G z) λR U ⟨xs,H2,F,J,W⟩=>⟨x::xs,H2,F,.cons O J,W⟩
def Qx (t:TA):TE:=λσ H Q=>t σ H λxs H1=>xs.length<=sizeLine/\∀p,H1 p=none->Q (.ref p) (upd H1 p (.tup xs))
def QC (t:TA):TE:=λσ H Q=>t σ H λxs H1=>xs.length<=sizeLine/\∀p,H1 p=none->Q (.ref p) (upd H1 p (.lst xs))
theorem Li {O}(h:PA X es t):PE X (.Tuple es O pos) (Qx t):=by
 intro pins s σ H Q I J;rwa[wpAny_Tuple_spliced (bG (h pos pins s σ H _ I J) λG L ⟨xs,H1,F,r,z,q⟩=>⟨by rw [<-r.length];exact z,?_⟩)];have j:H1 L.heap.objs.size=none:=F.hok.fresh @f;rwa[⟨.ref L.heap.objs.size,upd H1 L.heap.objs.size (.tup xs),F.laid (t':=L.toks) (λb u e=>Heap.get?_push_of_some _ e) @f ?_,rfl,q _ j⟩];exact ⟨z,G,r,⟨_,Heap.get?_push_size _ rfl,rfl,_,rfl⟩⟩
theorem Lj (h:PA X es t):PE X (.List es pos) (QC t):=by
 intro pins s σ H Q I J;rwa[wpAny_List_spliced (bG (h pos pins s σ H _ I J) λG L ⟨xs,H1,F,r,z,q⟩=>⟨by rw [<-r.length];exact z,?_⟩)];have j:H1 L.heap.objs.size=none:=F.hok.fresh @f;rwa[⟨.ref L.heap.objs.size,upd H1 L.heap.objs.size (.lst xs),F.laid (t':=L.toks) (λb u e=>Heap.get?_push_of_some _ e) @f ?_,rfl,q _ j⟩];exact ⟨z,G,0,r,Heap.get?_push_size _ rfl⟩
end
abbrev Sp:=List V->Hp->VK->XK->Prop
abbrev oH:=List Env->Hp->Shared->XK->Value->Shared->Prop
structure je (P:Program)(w:World)(K:Fg)(mg:Str->Option Value)(base:Heap)(A:Around)(outer:List Env)(s:Shared)(H:Hp):Prop where
 frames:A.frames=some outer
 mod:Mod K mg base
 bs:∀b o,base.get? b=some o->s.heap.get? b=some o/\H b=none
 bsz:base.objs.size<=s.heap.objs.size
 funs:s.heap.FunFrames base outer
 frf:∀b∈vX outer,H b=none
 hok:fH P w H s.heap
 bare:AllBare s.gens
def CE (outer:List Env)(P:Program)(w:World)(H:Hp)(s:Shared)(Q:VK)(u:Value)(s':Shared):Prop:=
 ∃v H',s'.os=s.os/\AllBare s'.gens/\Un (vX outer) [] H H' s.heap s'.heap/\fH P w H' s'.heap/\aE v u/\Q v H'
def CR (CX:oH)(outer:List Env)(P:Program)(w:World)(H:Hp)(s:Shared)(Q:VK)(E:XK)(r:Result)(s':Shared):Prop:=
 match r with
 | .ok (.ret u)=>CE outer P w H s Q u s'
 | .ok _=>False
 | .error e=>CX outer H s E e s'
structure au (P:Program)(w:World)(K:Fg)(mg:Str->Option Value)(base:Heap)(CX:oH)(k:Nat)(f:Addr)(fd:FuncData)(ps:List Str)(sp:Sp):Prop where
 len:∀vs H Q E,sp vs H Q E->vs.length=ps.length
 run:∀(A:Around) (outer:List Env) (s:Shared) (H:Hp) (args:Args) (us:List Value) (vs:List V) (Q:VK) (E:XK),bT k A->je P w K mg base A outer s H->BindsTo s fd args @bT->aL vs us->sp vs H Q E->
  codeAny @R A (.call (.ref f) args) (CR CX outer P w H s Q E) s
theorem au.mono {P:Program}{w:World}{K:Fg}{mg:Str->Option Value}{base:Heap}{CX:oH}{j k:Nat}{f:Addr}{fd:FuncData}{ps:List Str}{sp:Sp}(F:au P w K mg base CX j f fd ps sp)(h:j<=k):
 au P w K mg base CX k f fd ps sp:=⟨F.len,λA outer s H z G R Q E S=>F.run A outer s H z G R Q E (S.mono h)⟩
theorem au.imp {P:Program}{w:World}{K:Fg}{mg:Str->Option Value}{base:Heap}{CX:oH}{k:Nat}{f:Addr}{fd:FuncData}{ps:List Str}{sp j:Sp}(F:au P w K mg base CX k f fd ps sp)
(h:∀vs H Q E,j vs H Q E->sp vs H Q E):au P w K mg base CX k f fd ps j:=
 ⟨λvs H Q E q=>F.len vs H Q E (h _ _ _ _ q),λA outer s H z G vs Q E S U I Y hs=>F.run A outer s H z G vs Q E S U I Y (h _ _ _ _ hs)⟩
theorem je.make {P:Program}{w:World}{K:Fg}{mg:Str->Option Value}{base:Heap}{A:Around}{outer:List Env}{s:Shared}{H:Hp}(e:je P w K mg base A outer s H)(C:Addr)(us:List Value)(z:List (Str×Value)):
 je P w K mg base (A.under (.builtin "type.__call__" ⟨.ref C::us,z⟩)) outer s H:=⟨by first|exact e.frames|(simpa [Around.under,Code.envs,Code.isFrame,pushEnvs] using e.frames),e.mod,e.bs,e.bsz,e.funs,e.frf,e.hok,e.bare⟩
theorem je.in1 {P:Program}{w:World}{K:Fg}{mg:Str->Option Value}{base:Heap}{A:Around}{outer:List Env}{s:Shared}{H:Hp}(e:je P w K mg base A outer s H):
 je P w K mg base A.in1 outer s H:=⟨e.frames,e.mod,e.bs,e.bsz,e.funs,e.frf,e.hok,e.bare⟩
section
variable {X:Cx}{pins:List (Addr×Obj)}{σ:St}{H:Hp}{s s':Shared}
theorem av.env0 (I:av X pins σ H s):je X.prog X.w X.K X.mg X.base X.A X.stack s H:=
 ⟨I.ok.frames,I.ok.mod,I.bs,Nat.le_trans I.ok.bsz I.sz,I.stack,I.stkFree,I.hok,I.bare⟩
theorem av.after {Q:VK}{u:Value}(I:av X pins σ H s)(h:CE X.stack X.prog X.w H s Q u s'):EP X pins σ Q u s':=by
 obtain ⟨v,H',os,j,G,ae,r,q⟩:=h;obtain ⟨J,g,d,t,F⟩:=s';obtain rfl:F=s.os:=os;exact ⟨v,H',I.call (h':=J) (g':=g) (d':=d) (t':=t) (ch:=[]) G ae j (λb z=>absurd z @e),r,q⟩
end
def wO (sp:Sp)(dvs:List V)(E:XK)(t:TA):TE:=λσ H Q=>t σ H λvs H1=>sp (vs++dvs) H1 Q E
def N1 (C:Addr)(sp:Sp)(dvs:List V)(E:XK)(t:TA):TE:=λσ H Q=>t σ H λvs H1=>∀x dx,H1 x=none->H1 dx=none->dx≠x->
 sp (.ref x::(vs++dvs)) (upd (upd H1 dx (.own x)) x (.ins C dx [])) (λv H2=>v= .non/\Q (.ref x) H2) E
def d8 (K:Fg)(fd:FuncData)(ps:List Str)(ds:List Value):Prop:=
 ∀(s:Shared) (us:List Value),K.In s.heap->(us++ds).length=ps.length->BindsTo s fd ⟨us,[]⟩ (ps.zip (us++ds))
theorem d8.all {K:Fg}{fd:FuncData}{ps:List Str}(h:∀us:List Value,us.length=ps.length->bindArgs fd ⟨us,[]⟩=pure @bT):d8 K fd ps []:=λs us _ W=>by
 rw [append_nil] at W ⊢;exact .of_eq (h us W)
def ij (CX:oH)(X:Cx)(E:XK):Prop:=∀(pins:List (Addr×Obj)) (σ:St) (H:Hp) (s:Shared) (e:Value) (s':Shared),av X pins σ H s->CX X.stack H s E e s'->X.xe e s'
section
variable {X:Cx}{CX:oH}{k:Nat}{f C:Addr}{fd:FuncData}{ps:List Str}{sp:Sp}{dvs:List V}{ds:List Value}{E:XK}{x m:Str}{p pos apos:Pos}{e o:Expr}{es:List Expr}{ta:TE}{t:TA}
theorem Eb {pins:List (Addr×Obj)}{σ:St}{H:Hp}{s:Shared}{Q:VK}{us:List Value}{vs:List V}(F:au X.prog X.w X.K X.mg X.base CX k f fd ps sp)(S:bT k X.A)(j:d8 X.K fd ps ds)(L:aL dvs ds)(z:ij CX X E)
(I:av X pins σ H s)(r:aL vs us)(h:sp (vs++dvs) H Q E):wpAny @d X.A (call (.ref f) us) @t X.xe s:=by
 have J:aL (vs++dvs) (us++ds):=r.append L
 have W:(us++ds).length=ps.length:=by rw [<-J.length];exact F.len _ _ _ _ h
 rwa[wpAny_call (codeAny_mono (F.run X.A X.stack s H ⟨us,[]⟩ (us++ds) (vs++dvs) Q E S I.env0 (j s us I.kIn W) J h) λr s' G=> ?_)]
 cases r with
 |error e=>exact z pins σ H s e s' I G
 |ok fl=>
  cases fl with
  |ret u=>exact I.after G
  |next=>exact False.elim G
  |brk=>exact False.elim G
  |cont=>exact False.elim G
theorem AO (F:au X.prog X.w X.K X.mg X.base CX k f fd ps sp)(S:bT k X.A)(Y:Gl X x)(J:X.mg x=some (.ref f))(R:W.keepIn X.K (.ref f)=true)(Z:d8 X.K fd ps ds)(hd:aL dvs ds)(O:ij CX X E)
(L:PA X (e::es) t)(j:(x==("__debug__":Str))=false:=by decide)(U:starEach (e::es) X.env=(false,eval e X.env)::starEach es X.env:=by rfl)(z:(backTo pos @z).any (·.1)=false:=by rfl):
 PE X (.Call (.Name x p) (e::es) [] pos) (wO sp dvs E t):=by
 intro pins s σ H Q I h;rwa[wpAny_Call_Name_kw (pp I Y J ?_ j)];rwa[W.callWith_K (h₀:=X.base) I.ok.mod.kin R (bG (L pos pins s σ H _ I h) λus s1 ⟨vs,H1,G,r,q⟩=>⟨G.kIn,?_⟩) U z];exact Eb F S Z hd O G r q
structure Mk (K:Fg)(C f:Addr):Prop where
 makes:W.makesIn K C=true
 init:W.findIn K (.ref C) "__init__"=some @V
 fn:W.isFn K (.ref f)=true
 kp:W.keepIn K (.ref C)=true
theorem Ea {pins:List (Addr×Obj)}{σ:St}{H:Hp}{s:Shared}{Q:VK}{us:List Value}{vs:List V}(M:Mk X.K C f)(F:au X.prog X.w X.K X.mg X.base CX k f fd ps sp)(S:bT (k+1) X.A)(R:d8 X.K fd ps ds)(hd:aL dvs ds)
(O:ij CX X E)(I:av X pins σ H s)(r:aL vs us)
(h:∀x dx,H x=none->H dx=none->dx≠x->sp (.ref x::(vs++dvs)) (upd (upd H dx (.own x)) x (.ins C dx [])) (λv H2=>v= .non/\Q (.ref x) H2) E):
 wpAny @d X.A (call (.ref C) us) @t X.xe s:=by
 have G:=h (s.heap.objs.size+1) s.heap.objs.size (I.hok.fresh @eU) @bR (Nat.ne_of_lt @cr);have z:=av.made (C:=C) I;have J:aL (V.ref (s.heap.objs.size+1)::(vs++dvs)) (Value.ref (s.heap.objs.size+1)::(us++ds)):= .cons rfl (r.append hd)
 have W:(Value.ref (s.heap.objs.size+1)::us++ds).length=ps.length:=by
  have e:=J.length;rw [F.len _ _ _ _ G] at e;exact e.symm
 refine wpAny_call (Fh (f:=f) I.kIn M.makes M.init (beq_iff_eq.mp M.fn) (codeAny_mono (F.run _ X.stack _ _ ⟨Value.ref (s.heap.objs.size+1)::us,[]⟩ (Value.ref (s.heap.objs.size+1)::(us++ds)) _ _ E (S.make C us [])
  (z.env0.make C us []) (R _ (Value.ref (s.heap.objs.size+1)::us) z.kIn W) J G) λr s' j=> ?_))
 cases r with
 |error e=>exact O pins σ _ _ e s' z j
 |ok fl=>
  cases fl with
  |ret u=>
   obtain ⟨v,H',Z,U,L,Y⟩:=z.after j;subst L;exact ⟨U,⟨V.ref (s.heap.objs.size+1),H',Z,rfl,Y⟩⟩
  |next=>exact False.elim j
  |brk=>exact False.elim j
  |cont=>exact False.elim j
theorem Hu (M:Mk X.K C f)(F:au X.prog X.w X.K X.mg X.base CX k f fd ps sp)(S:bT (k+1) X.A)(R:Gl X x)(J:X.mg x=some (.ref C))(Y:d8 X.K fd ps ds)(Z:aL dvs ds)(O:ij CX X E)
(L:PA X (e::es) t)(j:(x==("__debug__":Str))=false:=by decide)(U:starEach (e::es) X.env=(false,eval e X.env)::starEach es X.env:=by rfl)(z:(backTo pos @z).any (·.1)=false:=by rfl):
 PE X (.Call (.Name x p) (e::es) [] pos) (N1 C sp dvs E t):=by
 intro pins s σ H Q I h;rwa[wpAny_Call_Name_kw (pp I R J ?_ j)];rwa[W.callWith_K (h₀:=X.base) I.ok.mod.kin M.kp (bG (L pos pins s σ H _ I h) λus s1 ⟨vs,H1,G,r,q⟩=>⟨G.kIn,?_⟩) U z];exact Ea M F S Y Z O G r q
end
section
variable {X:Cx}{CX:oH}{k:Nat}{f C:Addr}{fd:FuncData}{ps ks:List Str}{sp:Sp}{E:XK}{x m:Str}{p pos apos kpos:Pos}{e o:Expr}{es:List Expr}{kws:List Keyword}{te ta:TE}{t tk:TA}{nm:Option Str}
structure KBinds (K:Fg)(fd:FuncData)(ps ks:List Str)(g:List Value->List Value->List Value)(gV:List V->List V->List V):Prop where
 to:∀(s:Shared) (us ws:List Value),K.In s.heap->(g us ws).length=ps.length->BindsTo s fd ⟨us,ks.zip ws⟩ (ps.zip (g us ws))
 rel:∀ {vs:List V} {us:List Value} {zs:List V} {ws:List Value},aL vs us->aL zs ws->aL (gV vs zs) (g us ws)
variable {g:List Value->List Value->List Value}{gV:List V->List V->List V}
end
structure ai (N P:List Str)(sc:Scope):Prop where
 kind:sc.kind= .function
 co:sc.isCoroutine=false
 gen:sc.isGenerator=false
 nd:N.Nodup
 pre:N.take P.length=P
 par:∀x∈P,sc.names.lookup x=some .local\/sc.names.lookup x=some .cell
 nofree:∀y∈sc.names,y.2≠ .free
theorem uG {j:Str->Option NameKind}{x:Str}:∀ {binds:List (Str×Value)} {m:Str->Option Value},(∀v,(x,v)∉binds)->bindL j binds m x=m x
 |[],_,_=>rfl
 |(n,v)::r,m,h=>by
  unfold bindL;rw [uG λw z=>h w (mem_cons_of_mem _ z)];split
  ·have:x≠n:=by rintro rfl;exact h v mem_cons_self
   simp [this]
  ·rfl
theorem uI {j:Str->Option NameKind}{x:Str}:∀ {binds:List (Str×Value)} {m:Str->Option Value},(∀v,(x,v)∉binds)->bindC j binds m x=m x
 |[],_,_=>rfl
 |(n,v)::r,m,h=>by
  unfold bindC;rw [uI λw z=>h w (mem_cons_of_mem _ z)];split
  ·rfl
  ·have:x≠n:=by rintro rfl;exact h v mem_cons_self
   simp [this]
theorem uH {j:Str->Option NameKind}{x:Str}{v:Value}:∀ {P:List Str} {vs:List Value} {i:Nat} {m:Str->Option Value},P.Nodup->P[i]? =some x->vs[i]? =some v->j x=some .local->
 bindL j (P.zip vs) m x=some v
 |[],_,_,_,_,h,_,_=>by simp at h
 |_::_,[],_,_,_,_,h,_=>by simp at h
 |p::P,w::vs,0,m,nd,h1,h2,hk=>by
  simp at h1 h2;subst h1;subst h2;show bindL j ((p,w)::P.zip vs) m p=_;unfold bindL;rw [uG λv Y=>(nodup_cons.mp nd).1 (of_mem_zip Y).1,if_pos hk];simp
 |p::P,w::vs,i+1,m,nd,h1,h2,hk=>by
  show bindL j ((p,w)::P.zip vs) m x=_;unfold bindL;exact uH (i:=i) (nodup_cons.mp nd).2 (by simpa using h1) (by simpa using h2) hk
theorem uJ {j:Str->Option NameKind}{x:Str}{v:Value}:∀ {P:List Str} {vs:List Value} {i:Nat} {m:Str->Option Value},P.Nodup->P[i]? =some x->vs[i]? =some v->j x≠some .local->
 bindC j (P.zip vs) m x=some v
 |[],_,_,_,_,h,_,_=>by simp at h
 |_::_,[],_,_,_,_,h,_=>by simp at h
 |p::P,w::vs,0,m,nd,h1,h2,hk=>by
  simp at h1 h2;subst h1;subst h2;show bindC j ((p,w)::P.zip vs) m p=_;unfold bindC;rw [uI λv Y=>(nodup_cons.mp nd).1 (of_mem_zip Y).1,if_neg hk];simp
 |p::P,w::vs,i+1,m,nd,h1,h2,hk=>by
  show bindC j ((p,w)::P.zip vs) m x=_;unfold bindC;exact uJ (i:=i) (nodup_cons.mp nd).2 (by simpa using h1) (by simpa using h2) hk
def start (N:List Str)(vs:List V):St:=vs.map some++List.replicate (N.length - vs.length) none
noncomputable def lJ (CX:oH)(P:Program)(w:World)(K:Fg)(mg:Str->Option Value)(base:Heap)(N:List Str)(qual:Str)(scope:Scope)(f:Addr)(cd:Value)(A:Around)(outer:List Env)(s:Shared)(H:Hp)(E:XK):Cx where
 prog:=P
 w:=w
 K:=K
 mg:=mg
 base:=base
 A:=A.deeper @bA
 N:=N
 s₀:=s
 H₀:=H
 env:=envOfC qual scope s.heap.objs.size f cd
 outer:=outer
 stack:=envOfC qual scope s.heap.objs.size f cd::outer
 ex:=[]
 calm:=true
 fn:=λ_=>true
 pn:=[]
 xe:=λe s'=>wpAny @R (A.deeper @bA) (leaving @bA e) (λ_ s''=>CX outer H s E e s'') (λe' s''=>CX outer H s E e' s'') s'
theorem xV {j:Scope}{n:Nat}{x:Str}(h:j.names.lookup x=some .cell):∃c,(cellsFrom n j.names []).lookup x=some c:=by
 have q:=W.cellsFrom_some j.names n [] (.inl h);exact Option.isSome_iff_exists.mp q
theorem uo {CX:oH}{P:Program}{w:World}{K:Fg}{mg:Str->Option Value}{base:Heap}{N ps:List Str}{qual:Str}{scope:Scope}{f:Addr}{cd:Value}{A:Around}{outer:List Env}{s L:Shared}{H:Hp}{E:XK}{us:List Value}{vs:List V}
(S:ai N ps scope)(W:A.handled=none)(j:je P w K mg base A outer s H)(hl:vs.length=ps.length)(r:aL vs us)
(x:InCallC s s.heap.objs.size (bindL (envOfC qual scope s.heap.objs.size f cd).kindOf @bT λ_=>none) (cellsFrom (s.heap.objs.size+1) scope.names []) (bindC (envOfC qual scope s.heap.objs.size f cd).kindOf @bT λ_=>none) L):
 av (lJ CX P w K mg base N qual scope f cd A outer s H E) [] @cl H L:=by
 have Y:ps.length<=N.length:=by have:=congrArg List.length S.pre;rw [length_take] at this;lia
 obtain ⟨h1,tk,rfl,R⟩:=x.done;have F:∀b:Addr,b∉(lJ CX P w K mg base N qual scope f cd A outer s H E).ex:=λb z=>absurd (show b∈([]:List Addr) from z) @e
 refine ⟨⟨j.mod,S.kind,rfl,rfl,Nat.le_refl _,λy z c h1 h2=> ?_,λy O=> ?_,λy c _ h=> ?_,λ_=>W,Around.frames_deeper j.frames,.inr ⟨rfl,rfl⟩,λb z=>absurd z (F b),j.bs,j.bsz,λb _ _=>F b,λb z=>absurd z (F b),j.funs,j.frf⟩,
  rfl,j.bare,Un.kept R,⟨_,x.toInCall.ns,λi y v h1 h2 h3=> ?_⟩,λy c h=>⟨_,x.cell y c h⟩,j.hok.fresh @f,λy c h=> ?_,λp G=>absurd (show p∈([]:List (Addr×Obj)) from G) @e,j.hok.kept R,?_⟩
 ·exact name_of_addr x.apart (PySem.mem_of_lookup h1) (PySem.mem_of_lookup h2)
 ·have O:scope.names.lookup y=some .cell\/scope.names.lookup y=some .free:=O
  rcases O with O|O
  ·exact xV O
  ·exact absurd rfl (S.nofree _ (PySem.mem_of_lookup O))
 ·exact Nat.le_of_lt (x.above y c @dq)
 ·have hi:i<vs.length:=by
   unfold start at h2;by_cases hi:i<vs.length
   ·exact hi
   ·rw [getElem?_append_right (by simpa using hi)] at h2;rw [getElem?_replicate] at h2;split at h2<;>cases h2
  have U:vs[i]? =some v:=by
   unfold start at h2;rw [getElem?_append_left (by simpa using hi),getElem?_map] at h2
   cases e:vs[i]? with
   |none=>rw [e] at h2;cases h2
   |some a=>rw [e] at h2;cases h2;rfl
  obtain ⟨u,J,Z⟩:=r.get U
  have G:ps[i]? =some y:=by
   rw [<-S.pre,getElem?_take_of_lt @c];exact h1
  have I:ps.Nodup:=by rw [<-S.pre];exact S.nd.sublist (take_sublist _ _)
  rwa[⟨u,Z,?_⟩]
  rcases S.par y (mem_of_getElem? G) with k|k
  ·exact .inl ⟨k,uH I G J k⟩
  ·obtain ⟨c,e⟩:=xV (n:=s.heap.objs.size+1) k;rwa[.inr ⟨.inl k,c,e,?_⟩];have q:=x.cell y c e;rw [uJ I G J (by show scope.names.lookup y≠_;rw [k];decide)] at q;exact q
 ·exact j.hok.fresh (Nat.le_of_lt (x.above y c @dq))
 ·unfold start;show _=N.length;rw [length_append,length_map,length_replicate];lia
theorem FL {CX:oH}{P:Program}{w:World}{K:Fg}{mg:Str->Option Value}{base:Heap}{k:Nat}{f:Addr}{name qual:Str}{z:Arguments}{F:List Stmt}{scope:Scope}{dV kV U pm j ct oc:Value}{an od:Option Addr}
{aa:Array @B}{N ps:List Str}{sp:Sp}(lk:K.lookup f=some ⟨oc,od,.func (W.fnOf name qual z F scope dV kV U pm an j ct),aa⟩)(ac:W.codeIn K j qual=true)(S:ai N ps scope)
(O:∀vs H Q E,sp vs H Q E->vs.length=ps.length)
(G:∀(A:Around) (outer:List Env) (s:Shared) (H:Hp) (vs:List V) (Q:VK) (E:XK),bT k (A.deeper (envOfC qual scope s.heap.objs.size f j))->sp vs H Q E->
   ∃t,tH @bn F t/\t {nx:=λ_ H'=>Q .non H',rt:=Q} @cl H):
 au P w K mg base CX (k+1) f (W.fnOf name qual z F scope dV kV U pm an j ct) ps sp:=by
 rwa[⟨O,λA outer s H ad us vs Q E hr Y hb r R=> ?_⟩];have hl:=O _ _ _ _ R;have KX:K.In s.heap:=Y.mod.kin.keeps λb o e=>(Y.bs b o e).1;have ab:s.heap.NoLimit:=Y.mod.nolimit.keeps λb o e=>(Y.bs b o e).1
 have L:∀y∈ps.zip us,scope.names.lookup y.1=some .local\/(scope.names.lookup y.1=some .cell/\((cellsFrom (s.heap.objs.size+1) scope.names []).lookup y.1).isSome=true):=λ⟨n,v⟩ hy=>by
  rcases S.par n (of_mem_zip hy).1 with q|q
  ·exact .inl q
  ·exact .inr ⟨q,W.cellsFrom_some _ _ _ (.inl q)⟩
 rwa[codeAny_call_function hr.depth (KX _ _ lk) rfl S.co S.gen rfl (W.codeRec_of KX ac) (hb _ _ _ _ ?_)];rwa[wpAny_newFunctionEnv_cells S.kind L λae he s1 x=> ?_];subst he;rwa[⟨ab.keeps x.toInCall.keep,codeAny_func ?_⟩];obtain ⟨t,ht,hq⟩:=G A outer s H vs Q E (hr.deeper _) R;have I:av @bn [] @cl H s1:=uo S hr.hd Y hl r x;rwa[wpAny_mono (ht [] s1 @cl H _ I hq) (λfl s' hs=> ?_) λe s' hs=>hs]
 have Z:∀ {σ':St} {H':Hp} {v:V} {u:Value},av @bn [] σ' H' s'->aE v u->Q v H'->CE outer P w H s Q u s':=
  λ{σ' H' v u} J rv q=>⟨v,H',J.os,J.bare,J.base,J.hok,rv,q⟩
 cases fl with
 |ret u=>
  obtain ⟨v,σ',H',J,rv,q⟩:=hs;exact Z J rv q
 |next=>
  obtain ⟨σ',H',J,q⟩:=hs;exact Z (v:=V.non) (u:=Value.none) J rfl q
 |brk=>
  obtain ⟨_,_,_,q⟩:=hs;exact False.elim q
 |cont=>
  obtain ⟨_,_,_,q⟩:=hs;exact False.elim q
section
variable {X:Cx}{x:Str}{p pos:Pos}{e:Expr}{es:List Expr}{t:TA}{id T:String}{r:List V->Hp->VK->Prop}
def PK (r:List V->Hp->VK->Prop)(t:TA):TE:=λσ H Q=>t σ H λvs H1=>r vs H1 Q
theorem Ez (O:aW X (.builtin id) r)(Z:Gl X x)(F:X.mg x=none)(Y:bootBuiltins x=some (.builtin id))(J:PA X (e::es) t)(R:x≠"__name__":=by decide)(j:(x==("__debug__":Str))=false:=by decide)
(U:starEach (e::es) X.env=(false,eval e X.env)::starEach es X.env:=by rfl)(z:(backTo pos @z).any (·.1)=false:=by rfl):PE X (.Call (.Name x p) (e::es) [] pos) (PK r t):=by
 intro pins s σ H Q I h;rwa[wpAny_Call_Name_kw (gW I Z F Y ?_ R j)];exact PyProof.Rows.callWith_builtin1 (bG (J pos pins s σ H _ I h) λG L ⟨vs,H1,W,r1,S⟩=>O pins L σ H1 vs G Q W r1 S) U z
theorem BS (O:aW X (.type T) r)(Z:Gl X x)(F:X.mg x=none)(Y:bootBuiltins x=some (.type T))(J:PA X (e::es) t)(R:x≠"__name__":=by decide)(j:(x==("__debug__":Str))=false:=by decide)
(U:starEach (e::es) X.env=(false,eval e X.env)::starEach es X.env:=by rfl)(z:(backTo pos @z).any (·.1)=false:=by rfl):PE X (.Call (.Name x p) (e::es) [] pos) (PK r t):=by
 intro pins s σ H Q I h;rwa[wpAny_Call_Name_kw (gW I Z F Y ?_ R j)];exact PyProof.Rows.callWith_type1 (bG (J pos pins s σ H _ I h) λG L ⟨vs,H1,W,r1,S⟩=>O pins L σ H1 vs G Q W r1 S) U z
end
end L2
namespace HT
open PySem PyProof.Rows
section
variable {prog:Program}{w:World}{A:Around}{E:Value->Shared->Prop}{s:Shared}
theorem cat_tup {t b:Addr}{vs ws:List Value}{Q:Value->Shared->Prop}(ht:IsTup s.heap t vs.toArray)(hb:IsTup s.heap b ws.toArray)(Y:vs≠[])
(h1:ws=[]->Q (.ref t) s)(h2:ws≠[]->Q (.ref s.heap.objs.size) {s with heap:=s.heap.push {cls:= .type "tuple",data:= .seq (vs++ws).toArray}})
(hsz:vs.length+ws.length<=sizeLine):wpAny @n A (binaryOp .Add (.ref t) (.ref b)) Q E s:=by
 obtain ⟨⟨cls,Z,data,sl⟩,L,U,n,hd⟩:=id ht;obtain ⟨⟨S,z,R,G⟩,j,I,W,J⟩:=id hb;simp only at U hd I J;subst U hd I J
 have e:vs.toArray++ws.toArray=(vs++ws).toArray:=by simp
 by_cases O:ws=[]
 ·exact concat_meets ⟨_,L,rfl⟩ ⟨_,j,rfl⟩ noFill_tuple_add seq_tuple_add PySem.F.slot_tuple_add PySem.F.entry_tuple_add @cm
   (tuple_addW1 t b vs.toArray ws.toArray n W Z z sl G (by simpa using Y) (by simp [O])) ⟨L,j,h1 O⟩
 ·refine concat_meets ⟨_,L,rfl⟩ ⟨_,j,rfl⟩ noFill_tuple_add seq_tuple_add PySem.F.slot_tuple_add PySem.F.entry_tuple_add @cm
   (tuple_addW2 t b vs.toArray ws.toArray n W Z z sl G (by simpa using Y) (by simpa using O) (by rw [size_toArray,size_toArray];exact hsz)) ⟨L,j,?_⟩
  rw [e];exact h2 O
noncomputable def sIx (n d:Nat):Option Int->Nat
 |none=>d
 |some v=>if v<0 then (v+(n:Int)).toNat else min v.toNat n
theorem sIx_none (n d:Nat):sIx n d none=d:=rfl
theorem sIx_nat (n d k:Nat):sIx n d (some (k:Int))=min k n:=by
 show (if (k:Int)<0 then ((k:Int)+(n:Int)).toNat else min (k:Int).toNat n)=min k n;rw [if_neg @c,Int.toNat_natCast]
theorem K3 (n d:Nat)(J:d<=n)(o:Option Int):sIx n d o<=n:=by
 cases o with
 |none=>exact J
 |some v=>
  show (if v<0 then (v+(n:Int)).toNat else min v.toNat n)<=n;by_cases Y:v<0
  ·rw [if_pos Y];lia
  ·rw [if_neg Y];exact Nat.min_le_right _ _
theorem Ba (v:Int)(n d:Nat):(if v<0 then max (v+(n:Int)) 0 else min v (n:Int))=((sIx n d @br:Nat):Int):=by
 show (if v<0 then max (v+(n:Int)) 0 else min v (n:Int))=(((if v<0 then (v+(n:Int)).toNat else min v.toNat n):Nat):Int);by_cases Y:v<0
 ·simp only [if_pos Y];lia
 ·simp only [if_neg Y];lia
theorem Am (lo hi:Option Int)(n:Nat):Builtin.Slice.sliceAdjust lo hi 1 (n:Int)=(((sIx n 0 lo:Nat):Int),((sIx n n hi:Nat):Int)):=by
 have h1: ¬((1:Int)<0):=by lia
 unfold Builtin.Slice.sliceAdjust;simp only [h1,if_false];rwa[Prod.ext ?_ ?_]
 ·cases lo with
  |none=>rfl
  |some v=>exact Ba v n 0
 ·cases hi with
  |none=>rfl
  |some v=>exact Ba v n n
theorem zD (i j:Nat):Builtin.Slice.slicePlaces (i:Int) (j:Int) 1=j - i:=by
 unfold Builtin.Slice.slicePlaces
 have h1:(1:Int)>0:=by lia
 simp only [h1,if_true,Int.ediv_one];split<;>lia
theorem qa {v:Value}{o:Option Int}{Q:Option Int->Shared->Prop}(p:IsPart v o)(h:Q o s):wpAny @n A (Builtin.Slice.slicePartIndex v) Q E s:=by
 cases p with
 |none=>exact slicePart_none h
 |int i t=>exact slicePart_int h
theorem mv {sl:Addr}{G F:Value}{lo hi:Option Int}{n:Nat}{Q:Int×Int×Nat->Shared->Prop}(hs:s.heap.IsSliceOf sl G F .none)(pl:IsPart G lo)(J:IsPart F hi)
(h:Q (((sIx n 0 lo:Nat):Int),1,sIx n n hi - sIx n 0 lo) s):wpAny @n A (Builtin.Slice.sliceApplied (.ref sl) (pure (n:Int))) Q E s:=by
 obtain ⟨os,j,I,z⟩:=id hs;unfold Builtin.Slice.sliceApplied Builtin.Slice.sliceFields;rwa[wpAny_bind (wpAny_bind (wpAny_field j z (x:=G) rfl (wpAny_bind (wpAny_field j z (x:=F) rfl (wpAny_bind (wpAny_field j z (x:= .none) rfl @bF))))))];rwa[wpAny_bind (slicePart_none ?_)];show wpAny _ _ (if ((1:Int)==0)=true then _ else _) _ _ s;rw [if_neg @b];rwa[wpAny_bind (qa pl (wpAny_bind (qa J (wpAny_bind @bF))))];show wpAny _ _ (match Builtin.Slice.sliceAdjust lo hi 1 (n:Int) with|(lo,hi)=>pure (lo,(1:Int),Builtin.Slice.slicePlaces lo hi 1)) _ _ s;rw [Am lo hi n];show wpAny _ _ (pure (((sIx n 0 lo:Nat):Int),(1:Int),Builtin.Slice.slicePlaces ((sIx n 0 lo:Nat):Int) ((sIx n n hi:Nat):Int) 1)) _ _ s;rw [zD];exact wpAny_pure h
theorem Ep (xs:Array Value)(i k:Nat):((List.range k).filterMap λ(m:Nat)=>xs[((i:Int)+(m:Int)*1).toNat]?).toArray=((xs.toList.drop i).take k).toArray:=by
 have e:(λ(m:Nat)=>xs[((i:Int)+(m:Int)*1).toNat]?)=λm=>xs[i+m]? :=by
  funext m
  have:((i:Int)+(m:Int)*1).toNat=i+m:=by lia
  rw [this]
 rw [e];have:=pick_run xs i k;rw [filterMap_map] at this;have O:((λx=>xs[x]?)∘λx=>i+x)=λm=>xs[i+m]? :=rfl;rw [O] at this;rw [this]
theorem getItem_tuple_cut {t sl:Addr}{j:Array Value}{R O:Value}{lo hi:Option Int}{Q:Value->Shared->Prop}(J:IsTup s.heap t j)(hs:s.heap.IsSliceOf sl R O .none)(pl:IsPart R lo)(U:IsPart O hi)
(W: ¬(sIx j.size 0 lo=0/\sIx j.size j.size hi=j.size))
(h:Q (.ref s.heap.objs.size) {s with heap:=s.heap.push {cls:= .type "tuple",data:= .seq ((j.toList.drop @eF).take (sIx j.size j.size hi - sIx j.size 0 lo)).toArray}})
(hsz:j.size<=sizeLine):wpAny @n A (getItem (.ref t) (.ref sl)) Q E s:=by
 have z:sizeOk (.seq ((j.toList.drop @eF).take (sIx j.size j.size hi - sIx j.size 0 lo)).toArray):=by
  show ((j.toList.drop @eF).take (sIx j.size j.size hi - sIx j.size 0 lo)).toArray.size<=sizeLine;rw [size_toArray,length_take,length_drop,Array.length_toList];lia
 have Z:sIx j.size j.size hi<=j.size:=K3 _ _ @f hi;obtain ⟨os,F,I,S⟩:=id hs;have G:s.TypeIs (.ref sl) "slice":=⟨os,F,I⟩;unfold getItem
 try with_reducible refine wpAny_holding ?_
 first|refine wpAny_bind @bF|skip
 rwa[wpAny_bind (wpAny_sequenceKey J.typeIs @b ?_)]
 refine wpAny_bind (wpAny_callSpecial?_slot (name:=s!"__getitem__") J.typeIs PyProof.Rows.slot_tuple_getitem
  (wpAny_call_entry PyProof.Rows.slot_tuple_getitem J.typeIs entry_tuple_getitem ?_ (args_tuple_getitem _ _)))
 show wpAny _ _ (Builtin.Tuple.tupleItemsOf (.ref t)>>=_) _ _ s;rwa[wpAny_bind (tupleItemsOf_ J ?_)];rwa[wpAny_bind (wpAny_typeOf G ?_)];rw [if_pos @b];rwa[wpAny_bind (mv hs pl U ?_)]
 have L: ¬((((sIx j.size 0 lo:Nat):Int)==0&&(1:Int)==1&&(sIx j.size j.size hi - sIx j.size 0 lo)==j.size)=true):=by
  intro q;rw [Bool.and_eq_true,Bool.and_eq_true] at q;have Y:((sIx j.size 0 lo:Nat):Int)=0:=eq_of_beq q.1.1;have q2:sIx j.size j.size hi - sIx j.size 0 lo=j.size:=eq_of_beq q.2;exact W ⟨by lia,by lia⟩
 show wpAny _ _ (if (((sIx j.size 0 lo:Nat):Int)==0&&(1:Int)==1&&(sIx j.size j.size hi - sIx j.size 0 lo)==j.size)=true then _ else _) _ _ s;rw [if_neg L,Ep]
 first
  |exact wpAny_bind (m:=Builtin.Tuple.tupleExact _) (wpAny_newObj_type @bk z)
  |exact wpAny_bind (m:=Builtin.Tuple.tupleExact _) (wpAny_newObj_type (wpAny_bind (wpAny_pure @bk)) z)
  |exact wpAny_bind (wpAny_bind (m:=Builtin.Tuple.tupleExact _) (wpAny_newObj_type (wpAny_pure @bk) z))
  |exact wpAny_bind (wpAny_bind (m:=Builtin.Tuple.tupleExact _) (wpAny_newObj_type @bk z))
end
end HT
namespace L2
open PySem PySem.Spec PyProof.Rows
abbrev TO:=St->Hp->(Option Int->Hp->Prop)->Prop
def PO (X:Cx)(e:Option Expr)(t:TO):Prop:=
 ∀(pins:List (Addr×Obj)) (s:Shared) (σ:St) (H:Hp) (Q:Option Int->Hp->Prop),av X pins σ H s->t σ H Q->
  wpAny @d X.A (evalPart e X.env) (λu s'=>∃o H',av X pins σ H' s'/\IsPart u o/\Q o H') X.xe s
def GQ:TO:=λ_ H Q=>Q none H
section
variable {X:Cx}{e:Expr}{te:TE}{lo hi:Option Expr}{tl th:TO}{pos p2:Pos}
theorem o9:PO X none GQ:=by
 intro pins s σ H Q I h;rw [evalPart_none];exact wpAny_pure ⟨none,H,I,.none,h⟩
def MO (X:Cx)(r:V->Option Int->Option Int->Hp->VK->Prop):Prop:=
 ∀(pins:List (Addr×Obj)) (s:Shared) (σ:St) (H:Hp) (x:V) (v vl vu:Value) (lo hi:Option Int) (sl:Addr) (Q:VK),av X pins σ H s->aE x v->s.heap.IsSliceOf sl vl vu .none->IsPart vl lo->IsPart vu hi->r x lo hi H Q->
  ∃T id,typeLookup (.type T) "__getitem__"=pure (some (.builtin id))/\s.TypeIs v T/\wpAny @d X.A (getItem v (.ref sl)) @t X.xe s
def RH (r:V->Option Int->Option Int->Hp->VK->Prop)(te:TE)(tl th:TO):TE:=λσ H Q=>te σ H λx H1=>tl σ H1 λl H2=>th σ H2 λu H3=>r x l u H3 Q
theorem kZ {r:V->Option Int->Option Int->Hp->VK->Prop}(hr:MO X r)(he:PE X e te)(U:PO X lo tl)(Y:PO X hi th):PE X (.Subscript e (.Slice lo hi none p2) pos) (RH r te tl th):=by
 intro pins s σ H Q I h;rwa[Subscript_ (bG @dF λv L ⟨x,H1,I1,R,q1⟩=> ?_)];rwa[wpAny_Slice (bG (U pins L σ H1 _ I1 q1) λG S ⟨l,H2,j,pl,W⟩=>bG (Y pins S σ H2 _ j W) λF O ⟨u,z,Z,pu,q3⟩=> ?_)];rw [evalPart_none];rwa[wpAny_pure ?_];have I4:av X pins σ z {O with heap:=O.heap.push {cls:= .type "slice",data:= .fields #[G,F,.none]}}:=Z.kept (t':=O.toks) λb ob q=>Heap.get?_push_of_some _ q;obtain ⟨T,id,hT,J,hg⟩:=hr pins {O with heap:=O.heap.push {cls:= .type "slice",data:= .fields #[G,F,.none]}} σ z x v G F l u O.heap.objs.size Q I4 R (Heap.IsSliceOf.new ..) pl pu q3;show wpAny @d X.A (subscriptTail e (.Slice lo hi none p2) v (.ref O.heap.objs.size)) @t X.xe {O with heap:=O.heap.push {cls:= .type "slice",data:= .fields #[G,F,.none]}};exact tail_any (ops:=[.ref O.heap.objs.size,v]) J hT hg @Y
noncomputable def fV (xs:List V)(lo hi:Option Int):List V:=(xs.drop @dr).take (HT.sIx xs.length xs.length hi - HT.sIx xs.length 0 lo)
theorem oy (xs:List V)(lo hi:Option Int):(fV xs lo hi).length<=xs.length:=by
 unfold fV;rw [length_take,length_drop];lia
def QN (K:Fg):V->Option Int->Option Int->Hp->VK->Prop:=λx lo hi H Q=>∃a xs,x= .ref a/\aC K H a xs/\
 ¬(HT.sIx xs.length 0 lo=0/\HT.sIx xs.length xs.length hi=xs.length)/\∀p,H p=none->Q (.ref p) (upd H p (.tup @bt))
theorem KP:MO X (QN X.K):=by
 intro pins s σ H x v U S lo hi sl Q I G hs pl z h;obtain ⟨a,xs,rfl,O,L,q⟩:=h;cases G;obtain ⟨its,r,J,j⟩:=I.tuple O
 have F:its.toArray.size=xs.length:=by rw [size_toArray];exact r.length.symm
 rwa[⟨"tuple",_,PyProof.Rows.slot_tuple_getitem.lookup,J.typeIs,?_⟩];rwa[HT.getItem_tuple_cut J hs pl z (by rw [F];exact L) ?_ (by rw [F];exact j)];rw [F];rwa[⟨.ref s.heap.objs.size,_,I.laid (t':=s.toks) (o:= .tup @bt) (λb R q=>Heap.get?_push_of_some _ q) @f ?_,rfl,q _ @bR⟩];exact ⟨Nat.le_trans (oy xs lo hi) j,_,(r.drop @dr).take (HT.sIx xs.length xs.length hi - HT.sIx xs.length 0 lo),IsTup.new _ _⟩
def Oi (K:Fg):R2:=λx y H Q=>∃a b xs ys,x= .ref a/\y= .ref b/\aC K H a xs/\aC K H b ys/\xs≠[]/\xs.length+ys.length<=sizeLine/\
 (ys=[]->Q (.ref a) H)/\(ys≠[]->∀p,H p=none->Q (.ref p) (upd H p (.tup (xs++ys))))
theorem aL.nil_iff {xs:List V}{us:List Value}(r:aL xs us):us=[]↔xs=[]:=by
 cases r with
 |nil=>simp
 |cons _ _=>simp
theorem Ia:cU X @bu (Oi X.K):=by
 intro pins s σ H x y v u Q I O W h;obtain ⟨a,b,xs,ys,rfl,rfl,L,Y,U,F,R,Z⟩:=h;cases O;cases W;obtain ⟨its,G,S,_⟩:=I.tuple L;obtain ⟨j,J,p2,_⟩:=I.tuple Y;rwa[HT.cat_tup S p2 (λz=>U (G.nil_iff.mp z)) (λz=>⟨.ref a,H,I,rfl,R (J.nil_iff.mp z)⟩) @k (by rw [<-G.length,<-J.length];exact F)];rwa[⟨.ref s.heap.objs.size,_,I.laid (t':=s.toks) (o:= .tup (xs++ys)) (λb ob q=>Heap.get?_push_of_some _ q) @f ?_,rfl,Z (λw=>z (J.nil_iff.mpr w)) _ @bR⟩];exact ⟨by rw [length_append];exact F,_,G.append J,IsTup.new _ _⟩
end
def yt (n:Nat)(i:Int):Option Nat:=if 0<=i then (if i<n then some i.toNat else none) else if -(n:Int)<=i then some (i+n).toNat else none
def lU {α:Type}(xs:List α)(i:Int):Option α:=(yt xs.length i).bind λj=>xs[j]?
theorem AY {n:Nat}{i:Int}{j:Nat}(h:yt n i=some j):seqIndex? i n=some j/\j<n/\ -(n:Int)<=i/\i<n:=by
 unfold yt at h;by_cases F:0<=i
 ·rw [if_pos F] at h;by_cases h1:i<n
  ·rw [if_pos h1] at h;have e:i.toNat=j:=Option.some.inj h;exact ⟨by rw [seqIndex_of F h1,e],by lia,by lia,h1⟩
  ·rw [if_neg h1] at h;cases h
 ·rw [if_neg F] at h;by_cases h1: -(n:Int)<=i
  ·rw [if_pos h1] at h;have e:(i+n).toNat=j:=Option.some.inj h;exact ⟨by rw [seqIndex_neg @c h1,e],by lia,h1,by lia⟩
  ·rw [if_neg h1] at h;cases h
theorem wo {α:Type}{xs:List α}{i:Int}{v:α}(h:lU xs i=some v):∃j,seqIndex? i xs.length=some j/\xs[j]? =some v/\j<xs.length/\ -(xs.length:Int)<=i/\i<xs.length:=by
 unfold lU at h
 cases e:yt xs.length i with
 |none=>rw [e] at h;cases h
 |some j=>
  rw [e] at h;obtain ⟨h1,h2,L,z⟩:=AY e;exact ⟨j,h1,h,h2,L,z⟩
theorem bz {α:Type}{xs:List α}{j:Nat}{v:α}(h:xs[j]? =some v):lU xs (j:Int)=some v:=by
 have Z:j<xs.length:=(List.getElem?_eq_some_iff.mp h).1
 have e:yt xs.length (j:Int)=some j:=by
  unfold yt;rw [if_pos @c,if_pos @c];simp
 unfold lU;rw [e];exact h
def Jw (b:Expr):Prop:=∀o i,subscripted b false o i=operate [o,i] (getItem o i)
def C3 (X:Cx)(r:R2):Prop:=
 ∀(value slice:Expr) (pins:List (Addr×Obj)) (s:Shared) (σ:St) (H:Hp) (x y:V) (v u:Value) (Q:VK),av X pins σ H s->aE x v->aE y u->r x y H Q->
  subscripted slice false v u=operate [v,u] (getItem v u)->wpAny @d X.A (subscriptTail value slice v u) @t X.xe s
def yv (X:Cx)(id:String)(r:V->List V->Hp->VK->Prop):Prop:=
 ∀(pins:List (Addr×Obj)) (s:Shared) (σ:St) (H:Hp) (x:V) (xs:List V) (v:Value) (us:List Value) (Q:VK),av X pins σ H s->aE x v->aL xs us->r x xs H Q->
  wpAny @d X.A (call (.builtin id) (v::us)) @t X.xe s
section
variable {X:Cx}{a b:Expr}{ta tb:TE}{pos:Pos}
theorem cQ {r:R2}(S:C3 X r)(j:PE X a ta)(z:PE X b tb)(hs:Jw b):PE X (.Subscript a b pos) @eJ:=by
 intro pins s σ H Q I h;exact Subscript_ (MJ j z I h λv u R x y H2 F G L q=>S a b pins R σ H2 x y v u Q F G L q (hs _ _))
def QR (K:Fg):R2:=λx y H Q=>∃p xs i v,x= .ref p/\y= .int i/\aA K H p xs/\lU xs i=some v/\Q v H
def QP (K:Fg):R2:=λx y H Q=>∃p xs i v,x= .ref p/\y= .int i/\aC K H p xs/\lU xs i=some v/\Q v H
def QQ:R2:=λx y H Q=>∃z i c,x= .str z/\y= .int i/\z.length<=sizeLine/\lU z.cps.toList i=some c/\Q (.str ⟨#[c]⟩) H
theorem IU:C3 X (QR X.K):=by
 intro value J pins s σ H x y v u Q I R S h hs;obtain ⟨p,xs,i,z,rfl,rfl,Y,he,q⟩:=h;cases R;obtain ⟨t,rfl⟩:=S;obtain ⟨its,r,pl,hz⟩:=I.list Y;obtain ⟨j,h1,h2,h3,h4,U⟩:=wo he;obtain ⟨w,L,G⟩:=r.get h2;have W:=r.length;have hn:=kh;have F:EP X pins σ Q w s:=⟨z,H,I,G,q⟩;by_cases O:0<=i
 ·have Z:i.toNat=j:=by
   rw [seqIndex_of O U] at h1;exact Option.some.inj h1
  exact item_listR pl.isList O @c (by rw [Z];simpa using L) F hs
 ·have Z:(i+(its.toArray.size:Int)).toNat=j:=by
   rw [seqIndex_neg @c h4] at h1;rw [size_toArray,<-W];exact Option.some.inj h1
  exact subscriptTail_builtinR (x:=w) pl.isList.typeIs slot_list_getitem.lookup
   (wpAny_getItem_list_neg (Q:=λr s'=>r=w/\EP X pins σ Q r s') pl.isList @c (by rw [size_toArray]<;>lia) @c (by rw [Z];simpa using L) ⟨rfl,F⟩) hs
theorem Mj:C3 X (QP X.K):=by
 intro value J pins s σ H x y v u Q I O R h hs;obtain ⟨p,xs,i,z,rfl,rfl,L,U,q⟩:=h;cases O;obtain ⟨t,rfl⟩:=R;obtain ⟨its,r,pl,hz⟩:=I.tuple L;obtain ⟨j,h1,h2,Y,h4,h5⟩:=wo U;obtain ⟨w,S,G⟩:=r.get h2;have W:=r.length;have Z:=kh;have F:EP X pins σ Q w s:=⟨z,H,I,G,q⟩
 exact subscriptTail_builtinR (x:=w) pl.typeIs slot_tuple_getitem.lookup
  (getItem_tuple (j:=j) (Q:=λr s'=>r=w/\EP X pins σ Q r s') pl @c @c (by rw [size_toArray,<-W];exact h1) (by simpa using S) ⟨rfl,F⟩) hs
theorem Ml:C3 X QQ:=by
 intro value J pins s σ H x y v u Q I G L h hs;obtain ⟨z,i,c,rfl,rfl,hz,U,q⟩:=h;obtain ⟨t,rfl⟩:=G;obtain ⟨Y,rfl⟩:=L;obtain ⟨j,h1,h2,Z,F,O⟩:=wo U
 have W:z.cps.toList.length=z.length:=by simp [Str.length]
 rw [W] at h1 F O;have hn:=kh
 exact tail_any (typeIs_str s z t) slot_str_getitem.lookup (getItem_str (c:=c) (by
  have R:decide (i< -(2^63:Int))=false:=decide_eq_false @c;have S:decide (i≥2^63)=false:=decide_eq_false @c
  rw [R,S,Bool.or_false]) (by rw [h1];simpa using h2) ⟨.str ⟨#[c]⟩,H,I.tok _,⟨_,rfl⟩,q⟩) hs
theorem zV (its:List Value)(n j:Nat)(u:Value):Obj.mapSeq (·.setIfInBounds j u) {cls:= .type "list",data:= .seq its.toArray n}= {cls:= .type "list",data:= .seq (its.set j u).toArray n}:=by
 simp [Obj.mapSeq]
theorem av.lst {pins:List (Addr×Obj)}{σ:St}{H:Hp}{s:Shared}{p:Addr}{xs:List V}(I:av X pins σ H s)(h:H p=some (.lst xs)):
 ∃(its:List Value) (n:Nat),aL xs its/\s.heap.get? p=some {cls:= .type "list",data:= .seq its.toArray n}/\xs.length<=sizeLine:=by
 obtain ⟨z,its,n,r,e⟩:=I.hok p _ h;exact ⟨its,n,r,e,z⟩
theorem av.lstUpd {pins:List (Addr×Obj)}{σ:St}{H:Hp}{s:Shared}{p:Addr}{xs ys:List V}{its its':List Value}{n G:Nat}{f:Obj->Obj}(I:av X pins σ H s)(h:H p=some (.lst xs))
(j:s.heap.get? p=some {cls:= .type "list",data:= .seq its.toArray n})(F:f {cls:= .type "list",data:= .seq its.toArray n}= {cls:= .type "list",data:= .seq its'.toArray G})(r:aL ys its')(J:ys.length<=sizeLine)(t:Nat):
 av X pins σ @L {s with heap:=s.heap.update p f,toks:=t}:=by
 have e:(s.heap.update p f).get? p=some {cls:= .type "list",data:= .seq its'.toArray G}:=by
  rw [Heap.get?_update_self f j (by rw [F]<;>rfl),F]
 rwa[I.write (x:=p) (e:=p) (by rw [h];trivial) (.inl rfl) (λb u z q=>(Heap.get?_update_other _ _ (Ne.symm z)).trans q) ⟨_,e⟩ ?_];exact ⟨J,its',G,r,e⟩
def Oe:V->V->V->Hp->(Hp->Prop)->Prop:=λo i v H Q=>∃p xs k j,o= .ref p/\i= .int k/\H p=some (.lst xs)/\yt xs.length k=some j/\Q @bw
theorem DL:Gp X Oe:=by
 intro pins s σ H o i v ov iv u Q I ro ri U h;obtain ⟨p,xs,k,j,rfl,rfl,J,Z,q⟩:=h;cases ro;obtain ⟨t,rfl⟩:=ri;obtain ⟨its,n,r,z,Y⟩:=I.lst J;obtain ⟨h1,h2,L,O⟩:=AY Z;have F:=r.length;have hn:=kh
 have G:av X pins σ @bw {s with heap:=s.heap.update p (Obj.mapSeq (·.setIfInBounds j u))}:=
  I.lstUpd J z (zV its n j u) (r.set U j) (by rw [length_set];exact Y) s.toks
 by_cases S:0<=k
 ·have R:k.toNat=j:=by
   rw [seqIndex_of S O] at h1;exact Option.some.inj h1
  exact W.ki_setAt z S @c (by rw [size_toArray,<-F];exact O) (by rw [R];exact ⟨_,G,q⟩)
 ·have R:(k+(its.toArray.size:Int)).toNat=j:=by
   rw [seqIndex_neg @c L] at h1;rw [size_toArray,<-F];exact Option.some.inj h1
  exact W.ki_setBack z @c (by rw [size_toArray,<-F];exact L) @c (by rw [R];exact ⟨_,G,q⟩)
theorem u7 (lo hi:Option Int)(n:Nat):(sliceBounds lo hi none n).1=((HT.sIx n 0 lo:Nat):Int)/\(sliceBounds lo hi none n).2.1=((HT.sIx n n hi:Nat):Int)/\(sliceBounds lo hi none n).2.2=1:=by
 rwa[⟨?_,?_,rfl⟩]
 ·cases lo with
  |none=>simp [sliceBounds,HT.sIx]
  |some i=>
   simp only [sliceBounds,HT.sIx,Option.getD_none,show (1:Int)>0 by decide,if_true];by_cases h:i<0
   ·simp only [h,if_true]<;>lia
   ·simp only [h,if_false]<;>lia
 ·cases hi with
  |none=>simp [sliceBounds,HT.sIx]
  |some i=>
   simp only [sliceBounds,HT.sIx,Option.getD_none,show (1:Int)>0 by decide,if_true];by_cases h:i<0
   ·simp only [h,if_true]<;>lia
   ·simp only [h,if_false]<;>lia
theorem se (its:List Value)(lo hi:Option Int):slicePick its.toArray lo hi none=((its.drop (HT.sIx its.length 0 lo)).take (HT.sIx its.length its.length hi - HT.sIx its.length 0 lo)).toArray:=by
 obtain ⟨h1,h2,L⟩:=u7 lo hi its.toArray.size;unfold slicePick;rw [h1,h2,L];simp only [sliceRange_one,pick_run,size_toArray]<;>rfl
def QO (K:Fg):V->Option Int->Option Int->Hp->VK->Prop:=λx lo hi H Q=>∃a xs,x= .ref a/\aA K H a xs/\∀p,H p=none->Q (.ref p) (upd H p (.lst @bt))
theorem G1:MO X (QO X.K):=by
 intro pins s σ H x v S R lo hi sl Q I G hs pl j h;obtain ⟨a,xs,rfl,z,q⟩:=h;cases G;obtain ⟨its,r,J,L⟩:=I.list z;have F:=r.length;rwa[⟨"list",_,slot_list_getitem.lookup,J.isList.typeIs,?_⟩];rwa[wpAny_getItem_list_slice J.isList hs pl j .none @e ?_ (by rw [size_toArray]<;>lia)];rw [se,<-F];rwa[⟨.ref s.heap.objs.size,_,I.laid (t':=s.toks) (o:= .lst @bt) (λb O q=>Heap.get?_push_of_some _ q) @f ?_,rfl,q _ @bR⟩];exact ⟨Nat.le_trans (oy xs lo hi) L,_,0,(r.drop @dr).take (HT.sIx xs.length xs.length hi - HT.sIx xs.length 0 lo),Heap.get?_push_size _ rfl⟩
def c6:V->Bool
 | .non=>true
 | .bl _=>true
 | .int _=>true
 | .str _=>true
 |_=>false
noncomputable def Je:V->V->Bool
 | .non,.non=>true
 | .bl a,.bl b=>a==b
 | .bl a,.int b=>(if a then 1 else 0)==b
 | .int a,.bl b=>a==(if b then 1 else 0)
 | .int a,.int b=>a==b
 | .str a,.str b=>a==b
 |_,_=>false
theorem FQ {A:Around}{s:Shared}{y x:V}{u v:Value}(L:aE y u)(G:aE x v)(F:c6 y=true)(j:c6 x=true):SeqAt.EqAt A s u v (Je y x):=by
 cases y with
 |non=>
  cases L
  cases x with
  |non=>cases G;exact SeqAt.EqAt.same _
  |bl b=>cases G;exact SeqAt.EqAt.none_bool b
  |int b=>obtain ⟨t,rfl⟩:=G;exact SeqAt.EqAt.none_int b t
  |str b=>obtain ⟨t,rfl⟩:=G;exact SeqAt.EqAt.none_str b t
  |_=>exact absurd (show false=true from j) Bool.false_ne_true
 |bl a=>
  cases L
  cases x with
  |non=>cases G;exact SeqAt.EqAt.bool_none a
  |bl b=>cases G;exact SeqAt.EqAt.bool_bool a b
  |int b=>obtain ⟨t,rfl⟩:=G;exact SeqAt.EqAt.bool_int a b t
  |str b=>obtain ⟨t,rfl⟩:=G;exact SeqAt.EqAt.bool_str a b t
  |_=>exact absurd (show false=true from j) Bool.false_ne_true
 |int a=>
  obtain ⟨z,rfl⟩:=L
  cases x with
  |non=>cases G;exact SeqAt.EqAt.int_none a z
  |bl b=>cases G;exact SeqAt.EqAt.int_bool a z b
  |int b=>obtain ⟨t,rfl⟩:=G;exact SeqAt.EqAt.int_int a z b t
  |str b=>obtain ⟨t,rfl⟩:=G;exact SeqAt.EqAt.int_str a z b t
  |_=>exact absurd (show false=true from j) Bool.false_ne_true
 |str a=>
  obtain ⟨z,rfl⟩:=L
  cases x with
  |non=>cases G;exact SeqAt.EqAt.str_none a z
  |bl b=>cases G;exact SeqAt.EqAt.str_bool a z b
  |int b=>obtain ⟨t,rfl⟩:=G;exact SeqAt.EqAt.str_int a z b t
  |str b=>obtain ⟨t,rfl⟩:=G;exact SeqAt.EqAt.str_str a z b t
  |_=>exact absurd (show false=true from j) Bool.false_ne_true
 |_=>exact absurd (show false=true from F) Bool.false_ne_true
noncomputable def Ai (x:V)(u:Value):Bool:=match u with
 | .none=>Je .non x
 | .bool b=>Je (.bl b) x
 | .int i _=>Je (.int i) x
 | .str z _=>Je (.str z) x
 |_=>false
theorem FN {x y:V}{u:Value}(r:aE y u)(f:c6 y=true):Ai x u=Je y x:=by
 cases y with
 |non=>cases r;rfl
 |bl b=>cases r;rfl
 |int i=>obtain ⟨t,rfl⟩:=r;rfl
 |str z=>obtain ⟨t,rfl⟩:=r;rfl
 |_=>exact absurd (show false=true from f) Bool.false_ne_true
theorem lV {x:V}:∀ {xs:List V} {us:List Value},aL xs us->xs.all c6=true->us.any (Ai x)=xs.any λy=>Je y x
 |_,_,.nil,_=>rfl
 |y::xs,u::us,.cons r t,f=>by
  rw [all_cons,Bool.and_eq_true] at f;rw [any_cons,any_cons,FN r f.1,lV t f.2]
theorem iW {A:Around}{s:Shared}{x:V}{v:Value}(G:aE x v)(j:c6 x=true):∀ {xs:List V} {us:List Value},aL xs us->xs.all c6=true->∀u∈us,SeqAt.EqAt A s u v (Ai x u)
 |_,_,.nil,_=>λu z=>by cases z
 |y::xs,u::us,.cons r t,f=>λF z=>by
  rw [all_cons,Bool.and_eq_true] at f
  rcases mem_cons.mp z with rfl|z
  ·rw [FN r f.1];exact FQ r G f.1 j
  ·exact iW G j t f.2 F z
noncomputable def yu (x:V)(xs:List V):Bool:=xs.any λy=>Je y x
def PL (K:Fg)(neg:Bool):R2:=λx y H Q=>∃p xs,y= .ref p/\(aA K H p xs\/aC K H p xs)/\c6 x=true/\xs.all c6=true/\Q (.bl (if neg then !yu x xs else yu x xs)) H
theorem BV:cU X @dO (PL X.K false):=by
 intro pins s σ H x y v u Q I F L h;obtain ⟨p,xs,rfl,G,j,fs,q⟩:=h;cases L
 rcases G with G|G
 ·obtain ⟨its,r,pl,J⟩:=I.list G;rwa[SeqAt.in_listAt (Ai x) pl.isList (λw z=>iW F j r fs w (by simpa using z)) ⟨.bl _,H,I,rfl,?_⟩];rw [show its.toArray.any (Ai x)=its.any (Ai x) by simp,lV r fs];exact q
 ·obtain ⟨its,r,pl,J⟩:=I.tuple G;rwa[SeqAt.in_tupleAt (Ai x) pl (λw z=>iW F j r fs w (by simpa using z)) ⟨.bl _,H,I,rfl,?_⟩];rw [show its.toArray.any (Ai x)=its.any (Ai x) by simp,lV r fs];exact q
theorem vG:cU X @cY (PL X.K true):=by
 intro pins s σ H x y v u Q I F L h;obtain ⟨p,xs,rfl,G,j,fs,q⟩:=h;cases L
 rcases G with G|G
 ·obtain ⟨its,r,pl,J⟩:=I.list G;rwa[SeqAt.notIn_listAt (Ai x) pl.isList (λw z=>iW F j r fs w (by simpa using z)) ⟨.bl _,H,I,rfl,?_⟩];rw [show its.toArray.any (Ai x)=its.any (Ai x) by simp,lV r fs];exact q
 ·obtain ⟨its,r,pl,J⟩:=I.tuple G;rwa[SeqAt.notIn_tupleAt (Ai x) pl (λw z=>iW F j r fs w (by simpa using z)) ⟨.bl _,H,I,rfl,?_⟩];rw [show its.toArray.any (Ai x)=its.any (Ai x) by simp,lV r fs];exact q
theorem wb:aW X (.builtin "len") (λxs H Q=>∃p ys,xs=[.ref p]/\(aA X.K H p ys\/aC X.K H p ys)/\Q (.int ys.length) H):=by
 intro pins s σ H xs J Q I r h;obtain ⟨p,ys,rfl,G,q⟩:=h;obtain ⟨u,rfl,j⟩:=fX r;cases j;have L:=kh
 rcases G with G|G
 ·obtain ⟨its,R,pl,z⟩:=I.list G;have F:=R.length;exact Calls.call_len_list pl.isList (by simp only [size_toArray]<;>lia) ⟨.int ys.length,H,I.tok _,⟨s.toks+1,by rw [size_toArray,F]⟩,q⟩
 ·obtain ⟨its,R,pl,z⟩:=I.tuple G;have F:=R.length;exact len_tuple pl (by simp only [size_toArray]<;>lia) ⟨.int ys.length,H,I.tok _,⟨s.toks+1,by rw [size_toArray,F]⟩,q⟩
theorem wa:aW X (.builtin "len") (λxs H Q=>∃z,xs=[.str z]/\z.length<=sizeLine/\Q (.int z.length) H):=by
 intro pins s σ H xs F Q I r h;obtain ⟨z,rfl,G,q⟩:=h;obtain ⟨u,rfl,t,rfl⟩:=fX r;have j:=kh;exact len_str @c ⟨.int z.length,H,I.tok _,⟨_,rfl⟩,q⟩
theorem aW.or {f:Value}{r R:List V->Hp->VK->Prop}(h:aW X f r)(h':aW X f R):aW X f (λxs H Q=>r xs H Q\/R xs H Q):=by
 intro pins s σ H xs j Q I z q
 rcases q with q|q
 ·exact h pins s σ H xs j Q I z q
 ·exact h' pins s σ H xs j Q I z q
theorem v8:aW X (.type "list") (λxs H Q=>∃p ys,xs=[.ref p]/\(aA X.K H p ys\/aC X.K H p ys)/\∀l,H l=none->Q (.ref l) @bS):=by
 intro pins s σ H xs Y Q I r h;obtain ⟨p,ys,rfl,G,q⟩:=h;obtain ⟨u,rfl,W⟩:=fX r;cases W
 have J:∀(its:List Value),aL ys its->ys.length<=sizeLine->∀(h':Heap) (j:Nat),(∀b o',s.heap.get? b=some o'->h'.get? b=some o')->
  h'.get? s.heap.objs.size=some {cls:= .type "list",dict:=none,data:= .seq its.toArray j,slots:= #[]}->EP X pins σ Q (.ref s.heap.objs.size) {s with heap:=h'}:=λits R L h' j z e=>
  ⟨.ref s.heap.objs.size,_,I.laid (t':=s.toks) z @f (show br X.prog X.w _ h' _ (.lst ys) from ⟨L,its,j,R,e⟩),rfl,q _ @bR⟩
 rcases G with G|G
 ·obtain ⟨its,R,pl,L⟩:=I.list G;have F:=R.length;obtain ⟨o,S,O,n,U⟩:=pl.isList;exact call_list_seq p (.inl rfl) S O U (λh' j z e=>J its R L h' j z e) (by simp only [size_toArray]<;>lia)
 ·obtain ⟨its,R,pl,L⟩:=I.tuple G;have F:=R.length;obtain ⟨o,S,O,n,U⟩:=pl;exact call_list_seq p (.inr rfl) S O U (λh' j z e=>J its R L h' j z e) (by simp only [size_toArray]<;>lia)
theorem tx:aW X (.type "tuple") (λxs H Q=>∃p ys,xs=[.ref p]/\((aA X.K H p ys/\∀l,H l=none->Q (.ref l) @cB)\/(aC X.K H p ys/\Q (.ref p) H))):=by
 intro pins s σ H xs S Q I r h;obtain ⟨p,ys,rfl,h⟩:=h;obtain ⟨u,rfl,O⟩:=fX r;cases O
 rcases h with ⟨G,q⟩|⟨G,q⟩
 ·obtain ⟨its,R,pl,z⟩:=I.list G;have F:=R.length;rwa[call_tuple_list pl.isList (λh' L=> ?_) (by simp only [size_toArray]<;>lia)];have j:av X pins σ H {s with heap:=h'}:=I.kept (t':=s.toks) L
  have J:av X pins σ (upd H h'.objs.size (.tup ys)) {s with heap:=h'.push {cls:= .type "tuple",data:= .seq its.toArray}}:=
   j.laid (t':=s.toks) (λb o e=>Heap.get?_push_of_some _ e) @f (show br X.prog X.w _ _ _ (.tup ys) from ⟨z,its,R,IsTup.new _ _⟩)
  exact ⟨.ref h'.objs.size,_,J,rfl,q _ (j.hok.fresh @f)⟩
 ·obtain ⟨its,R,pl,z⟩:=I.tuple G;exact call_tuple_same pl ⟨.ref p,H,I,rfl,q⟩
def PF (K:Fg)(T:String)(x:V)(H:Hp):Prop:=match x with
 | .str _=>T="str"
 | .int _=>T="int"
 | .ref p=>(T="list"/\∃xs,aA K H p xs)\/(T="tuple"/\∃o,K.lookup p=some o/\o.cls= .type "tuple"/\o.dict=none)\/
    (T="dict"/\((∃kvs,H p=some (.dK kvs))\/∃kvs,H p=some (.dT kvs)))\/(T="set"/\∃S n,H p=some (.set S n))
 |_=>False
theorem Dn {pins:List (Addr×Obj)}{σ:St}{H:Hp}{s:Shared}{T:String}{x:V}{v:Value}(I:av X pins σ H s)(r:aE x v)(ty:PF X.K T x H):
 s.TypeIs v T/\∀a,v= .ref a->∃ob,s.heap.get? a=some ob/\ob.dict=none:=by
 cases x with
 |str z=>
  obtain ⟨t,rfl⟩:=r;cases (show T="str" from ty);exact ⟨typeIs_str s z t,λ_ e=>nomatch e⟩
 |int i=>
  obtain ⟨t,rfl⟩:=r;cases (show T="int" from ty);exact ⟨typeIs_int s i t,λ_ e=>nomatch e⟩
 |ref p=>
  cases r
  rcases ty with ⟨rfl,xs,G⟩|⟨rfl,o,R,F,J⟩|⟨rfl,R⟩|⟨rfl,S,n,R⟩
  ·obtain ⟨its,_,pl,_⟩:=I.list G;rwa[⟨pl.isList.typeIs,λa e=> ?_⟩];cases e;obtain ⟨o,n,e,c,J,_⟩:=pl;exact ⟨o,e,J⟩
  ·rwa[⟨⟨o,I.kIn p o R,F⟩,λa e=> ?_⟩];cases e;exact ⟨o,I.kIn _ o R,J⟩
  ·have z:∃o,s.heap.get? p=some o/\o.ExactDict:=by
    rcases R with ⟨j,R⟩|⟨j,R⟩
    ·obtain ⟨_,_,_,_,o,_,_,e,ex,_⟩:=I.hok p _ R;exact ⟨o,e,ex⟩
    ·obtain ⟨_,_,_,_,o,_,_,e,ex,_⟩:=I.hok p _ R;exact ⟨o,e,ex⟩
   obtain ⟨o,e,ex⟩:=z;rwa[⟨⟨o,e,ex.1⟩,λa O=> ?_⟩];cases O;exact ⟨o,e,ex.2.1⟩
  ·obtain ⟨o,_,_,_,e,ex,_⟩:=I.hok p _ R;rwa[⟨⟨o,e,ex.1⟩,λa O=> ?_⟩];cases O;exact ⟨o,e,ex.2.1⟩
 |_=>exact False.elim ty
variable {o e:Expr}{es:List Expr}{to:TE}{t:TA}{name:Str}{apos cpos:Pos}{T id:String}{r:V->List V->Hp->VK->Prop}
end
def Ry (X:Cx)(id:String)(r:V->List V->Hp->VK->Prop):Prop:=
 ∀(pins:List (Addr×Obj)) (s:Shared) (σ:St) (H:Hp) (x:V) (xs:List V) (v:Value) (us:List Value) (Q:VK),av X pins σ H s->aE x v->aL xs us->r x xs H Q->
  wpAny @d X.A (call (.builtin id) (v::us)) @t X.xe s
theorem aL.one:∀ {x:V} {us:List Value},aL [x] us->∃u,us=[u]/\aE x u
 |_,_,.cons r .nil=>⟨_,rfl,r⟩
section
variable {X:Cx}{pins:List (Addr×Obj)}{σ:St}{H:Hp}{s:Shared}{l b:Addr}{xs ys zs:List V}
theorem av.lset {its its':List Value}{n:Nat}{f:Array Value->Array Value}{t':Nat}(I:av X pins σ H s)(G:H l=some (.lst xs))
(e:s.heap.get? l=some {cls:= .type "list",data:= .seq its.toArray n})(F:f its.toArray=its'.toArray)(Y:aL ys its')(J:ys.length<=sizeLine):
 av X pins σ @bS {s with heap:=s.heap.update l (Obj.mapSeq f),toks:=t'}:=by
 have q:=PySem.IsL.update e f;rw [F] at q;rwa[I.write (x:=l) (e:=l) (by rw [G];exact trivial) (.inl rfl) (λL u j z=>(Heap.get?_update_other s.heap (Obj.mapSeq f) (Ne.symm j)).trans z) ⟨_,q⟩ ?_];exact ⟨J,its',_,Y,q⟩
theorem av.lnew {its:List Value}{t':Nat}(I:av X pins σ H s)(Y:aL ys its)(F:ys.length<=sizeLine):
 av X pins σ (upd H s.heap.objs.size (.lst ys)) {s with heap:=s.heap.push {cls:= .type "list",data:= .seq its.toArray},toks:=t'}:=
 I.laid (λ_ _ q=>Heap.get?_push_of_some _ q) @f ⟨F,its,0,Y,Heap.get?_push_size _ rfl⟩
theorem av.fresh (I:av X pins σ H s):H s.heap.objs.size=none:=I.hok.fresh @f
theorem av.lstM (I:av X pins σ H s)(G:H l=some (.lst xs)):xs.length<=sizeLine/\∃(its:List Value) (n:Nat),aL xs its/\xs.length=its.length/\s.heap.get? l=some {cls:= .type "list",data:= .seq its.toArray n}:=by
 obtain ⟨z,its,n,r,e⟩:=I.hok l _ G;exact ⟨z,its,n,r,r.length,e⟩
theorem qP {n:Nat}(h:n<=sizeLine):Builtin.List.listTooLong n=false:=by
 unfold Builtin.List.listTooLong;exact decide_eq_false @c
end
section
variable {X:Cx}
def Hk:V->List V->Hp->VK->Prop:=λx vs H Q=>∃l xs y,x= .ref l/\vs=[y]/\H l=some (.lst xs)/\xs.length<sizeLine/\Q .non (upd H l (.lst (xs++[y])))
theorem Cg:Ry X "list.append" Hk:=by
 intro pins s σ H x R v O Q I j J h;obtain ⟨l,xs,y,rfl,rfl,G,S,q⟩:=h;cases j;obtain ⟨u,rfl,L⟩:=J.one;obtain ⟨z,its,n,r,W,e⟩:=I.lstM G;rwa[call_meets F.slot_list_append ⟨_,e,rfl⟩ F.entry_list_append (F.args_list_append_2 _ _) (PySem.list_append l its.toArray n u (by rw [size_toArray];lia)) ⟨e,?_⟩];rwa[⟨.non,_,I.lset (its':=its++[u]) G e @e (r.append (.cons L .nil)) ?_,rfl,q⟩];rw [length_append,length_singleton];lia
def Hj:V->List V->Hp->VK->Prop:=λx vs H Q=>∃l b xs zs,x= .ref l/\vs=[.ref b]/\H l=some (.lst xs)/\H b=some (.lst zs)/\xs.length+zs.length<=sizeLine/\Q .non (upd H l (.lst (xs++zs)))
theorem Cf:Ry X "list.extend" Hj:=by
 intro pins s σ H x vs v us Q I O R h;obtain ⟨l,b,xs,zs,rfl,rfl,L,hB,hz,q⟩:=h;cases O;obtain ⟨u,rfl,S⟩:=R.one;cases S;obtain ⟨z,its,n,r,hl,e⟩:=I.lstM L;obtain ⟨z2,j,W,U,Y,Z⟩:=I.lstM hB
 have J:its.toArray.size+j.toArray.size<=sizeLine:=by rw [size_toArray,size_toArray];lia
 have G: ¬(!its.toArray.isEmpty&&Builtin.List.listTooLong (its.toArray.size+j.toArray.size))=true:=by
  rw [qP J,Bool.and_false];exact Bool.false_ne_true
 refine call_meets F.slot_list_extend ⟨_,e,rfl⟩ F.entry_list_extend (F.args_list_extend_2 _ _)
  (AutoSeq1.list_extend_list_list_0 l its.toArray n b j.toArray W G (by rw [size_toArray];lia) @c) ⟨e,Z,?_⟩
 rwa[⟨.non,_,I.lset (its':=its++j) L e @e (r.append U) ?_,rfl,q⟩];rw [length_append];lia
def QS:R2:=λx y H Q=>∃l b xs zs,x= .ref l/\y= .ref b/\H l=some (.lst xs)/\H b=some (.lst zs)/\xs.length+zs.length<=sizeLine/\∀p,H p=none->Q (.ref p) (upd H p (.lst (xs++zs)))
theorem Ls:cU X @bu QS:=by
 intro pins s σ H x y v u Q I G L h;obtain ⟨l,b,xs,zs,rfl,rfl,F,S,hz,q⟩:=h;cases G;cases L;obtain ⟨z,its,n,r,Z,e⟩:=I.lstM F;obtain ⟨U,j,W,J,Y,R⟩:=I.lstM S;rwa[PySem.P.add_list e R ?_ (by rw [size_toArray,size_toArray];lia)]
 have O:its.toArray++j.toArray=(its++j).toArray:=by simp
 rw [O];exact ⟨.ref _,_,I.lnew (t':=s.toks) (r.append J) (by rw [length_append];lia),rfl,q _ I.fresh⟩
end
end L2
namespace Att
open PySem PySem.W PySem.Calls PyProof.Rows
theorem oK {P:Params}{h:Heap}:∀(ns:List Int) (vs:List Value),WellAll P h vs @er->IntsAre vs ns:=by
 intro ns
 induction ns with
 |nil=>
  intro vs w;rw [map_nil] at w;cases w;exact .nil
 |cons n ns ih=>
  intro vs w;rw [map_cons] at w
  cases w with
  |cons a b=>
   cases a;exact .cons _ _ (ih _ b)
theorem Bw {l:OpenLaw}{n:Nat}(S:l.most=some n){P:Params}{h:Heap}{z:List WData}{j:List Value}
(F:l.row.toRowW.claim.pre z=true)(J:WellAll P h j z):
 ∃a vs ns,j=[Value.ref a]/\z=[WData.list @er]/\h.get? a=some {cls:= .type "list",data:= .seq vs.toArray}/\IntsAre vs ns/\ns.length<=n:=by
 have L:WShape.hasAll [] z [.list .int]=true:=(pre_splitW F).1;have O:l.pre.holds [] {args:=z}=true:=(pre_splitW F).2;obtain ⟨d,r,rfl,h1,h2⟩:=hasAllW_cons L;obtain rfl:=hasAllW_nil h2;obtain ⟨xs,rfl,R⟩:=hasW_list h1;obtain ⟨ns,rfl⟩:=items_int R
 have G:ns.length<=n:=by
  unfold OpenLaw.pre at O
  have I:(WTm.not (.lt (.lit (.int (n:Int))) (.len (.arg 0)))).holds [] {args:=[.list (ns.map .int)]}=true:=by
   have I:=(holds_andW O).1;rw [S] at I;exact I
  have U:=condW_of I (w_not (w_lt w_lit (w_len_list (w_arg rfl))));rw [length_map] at U;rwa[Nat.le_of_not_lt λq=> ?_]
  have W:(n:Int)<((ns.length:Nat):Int):=by lia
  first
   |(rw [decide_eq_true W] at U;exact absurd U @b)
   |(simp at U;lia)
 cases J with
 |cons w1 w2=>
  cases w2
  cases w1 with
  |list ho hall=>exact ⟨_,_,ns,rfl,rfl,ho,oK ns _ hall,G⟩
theorem BR (l:OpenLaw)(z:List WData):l.row.toRowW.claim.post z (.bool true) z=true:=
 postW_of (r:=l.row.toRowW) (X:=(true==true))
  (show WShape.has [] (.bool true) .bool=true by first|rfl|decide|simp [WShape.has,WShape.arms,WShape.armsAll])
  (show (WTm.eq .res (.lit (.bool true))).value [] {args:=z,res:=some (.bool true),after:=z}=some (.bool (true==true)) from w_eq_bool (w_res rfl) w_lit) rfl
end Att
namespace L2
open PySem PySem.Spec PyProof.Rows
theorem tT:∀ {vs:List Value} {ns:List Int},IntsAre vs ns->aL @bz vs
 |_,_,.nil=> .nil
 |_,_,.cons n t h=> .cons ⟨t,rfl⟩ (tT h)
def bI (s:Stmt):Arguments:=match s with
 | .FunctionDef _ a _ _ _ _ _ _ _ _=>a
 |_=> {posonlyargs:=[],args:=[],vararg:=none,kwonlyargs:=[],kw_defaults:=[],kwarg:=none,defaults:=[]}
def bh (s:Stmt):List Stmt:=match s with
 | .FunctionDef _ _ b _ _ _ _ _ _ _=>b
 |_=>[]
def ae (s:Stmt):Scope:=match s with
 | .FunctionDef _ _ _ _ _ _ sc _ _ _=>sc
 |_=> {kind:= .function,names:=[],isGenerator:=false,isCoroutine:=false}
abbrev aZ:oH:=λ_ _ _ _ _ _=>False
abbrev E0:XK:=λ_ _ _=>False
theorem iq {X:Cx}:ij aZ X E0:=λ_ _ _ _ _ _ _ h=>h.elim
structure bA (K:Fg)(x qual:Str)(st:Stmt)(f:Addr)(fd:FuncData):Prop where
 ex:∃(oc:Value) (od:Option Addr) (kV doc pm:Value) (an:Option Addr) (cdv ct:Value) (osl:Array @B),
  fd=W.fnOf x qual @dP @cG @bG .none kV doc pm an cdv ct/\K.lookup f=some ⟨oc,od,.func fd,osl⟩/\W.codeIn K cdv qual=true
 kp:W.keepIn K (.ref f)=true
section
variable {P:Program}{w:World}{K:Fg}{mg:Str->Option Value}{base:Heap}
theorem bA.ok {x qual:Str}{st:Stmt}{f:Addr}{fd:FuncData}{N ps:List Str}{k:Nat}{sp:Sp}(F:bA K x qual st f fd)(S:ai N ps @bG)(O:∀vs H Q E,sp vs H Q E->vs.length=ps.length)
(G:∀(cdv:Value) (A:Around) (outer:List Env) (s:Shared) (H:Hp) (vs:List V) (Q:VK) (E:XK),bT k (A.deeper (envOfC qual @bG s.heap.objs.size f cdv))->sp vs H Q E->
   ∃t,tH (lJ aZ P w K mg base N qual @bG f cdv A outer s H E).nox @cG t/\t {nx:=λ_ H'=>Q .non H',rt:=Q} @cl H):au P w K mg base aZ (k+1) f fd ps sp:=by
 obtain ⟨J,L,Z,U,pm,W,cdv,Y,aa,rfl,I,j⟩:=F.ex;rwa[FL I j S O λA outer s H vs Q E z R=> ?_];obtain ⟨t,h,q⟩:=G cdv A outer s H vs Q E z R;exact ⟨t,h.nox,q⟩
theorem bA.binds {x qual:Str}{st:Stmt}{f:Addr}{fd:FuncData}{ps:List Str}(F:bA K x qual st f fd)
(h:∀(kV doc pm:Value) (an:Option Addr) (cdv ct:Value) (us:List Value),us.length=ps.length->bindArgs (W.fnOf x qual @dP @cG @bG .none kV doc pm an cdv ct) ⟨us,[]⟩=pure @bT):d8 K fd ps []:=by
 obtain ⟨J,G,kV,doc,pm,an,cdv,ct,aa,rfl,I,j⟩:=F.ex;exact .all (h kV doc pm an cdv ct)
theorem m9 {x qual:Str}{st:Stmt}{f:Addr}{J:Value}{od z:Option Addr}{aa:Array @B}{Z U F j Y:Value}(l:K.lookup f=some ⟨J,od,.func (W.fnOf x qual @dP @cG @bG .none Z U F z j Y),aa⟩)
(c:W.codeIn K j qual=true)(k:W.keepIn K (.ref f)=true):bA K x qual st f (W.fnOf x qual @dP @cG @bG .none Z U F z j Y):=⟨⟨J,od,Z,U,F,z,j,Y,aa,rfl,l,c⟩,k⟩
end
theorem Fy {A:Around}{k:Nat}(S:bT k A):A.units+1<cLine:=Nat.lt_of_le_of_lt (Nat.add_le_add_left (by decide:1<=64) _) S.units
def aj (H H':Hp):Prop:=∀b o,H b=some o->H' b=some o
theorem aj.refl (H:Hp):aj H H:=λ_ _ h=>h
theorem aj.trans {H H1 H2:Hp}(a:aj H H1)(b:aj H1 H2):aj H H2:=λc o h=>b c o (a c o h)
theorem aj.free {H H':Hp}(e:aj H H'){l:Addr}(h:H' l=Option.none):H l=Option.none:=by
 cases q:H l with
 |none=>rfl
 |some o=>
  rw [e l o q] at h;cases h
theorem aj.seq {K:Fg}{H H':Hp}{a:Addr}{xs:List V}(e:aj H H')(h:aA K H a xs):aA K H' a xs:=by
 rcases h with (h|⟨o,h⟩)|h
 ·exact .inl (.inl (e _ _ h))
 ·exact .inl (.inr ⟨o,e _ _ h⟩)
 ·exact .inr h
noncomputable def dS (cells:List (Str×Addr)):List (Str×NameKind)->List (Str×Addr)->List (Str×Addr)
 |[],cs=>cs
 |(n,.free)::r,cs=>dS cells r (match cells.lookup n with|some a=>(n,a)::cs|none=>cs)
 |(_,_)::r,cs=>dS cells r cs
theorem nh {j:List (Str×Addr)}{n:Str}{r:List (Str×NameKind)}{cs:List (Str×Addr)}{a:Addr}(h:j.lookup n=some a):dS j ((n,.free)::r) cs=dS j r ((n,a)::cs):=by
 show dS j r (match j.lookup n with|some a=>(n,a)::cs|none=>cs)=_;rw [h]
theorem hZ {j:List (Str×Addr)}{n:Str}{k:NameKind}{r:List (Str×NameKind)}{cs:List (Str×Addr)}(h:k≠ .free):dS j ((n,k)::r) cs=dS j r cs:=by
 cases k<;>first|rfl|exact absurd rfl h
theorem lM {j:List (Str×Addr)}:∀ {l:List (Str×NameKind)} {cs:List (Str×Addr)},(∀p∈cs,j.lookup p.1=some p.2)->∀p∈dS j l cs,j.lookup p.1=some p.2
 |[],_,h=>h
 |(n,k)::r,cs,h=>by
  by_cases R:k= .free
  ·subst R
   cases e:j.lookup n with
   |none=>
    have:dS j ((n,.free)::r) cs=dS j r cs:=by
     show dS j r (match j.lookup n with|some a=>(n,a)::cs|none=>cs)=_;rw [e]
    rw [this];exact lM h
   |some a=>
    rw [nh e];rwa[lM λp G=> ?_]
    rcases mem_cons.mp G with rfl|G
    ·exact e
    ·exact h p G
  ·rw [hZ R];exact lM h
theorem ia {j:List (Str×Addr)}:∀ {l:List (Str×NameKind)} {cs:List (Str×Addr)} {p:Str×Addr},p∈cs->p∈dS j l cs
 |[],_,_,h=>h
 |(n,k)::r,cs,p,h=>by
  by_cases R:k= .free
  ·subst R;show p∈dS j r (match j.lookup n with|some a=>(n,a)::cs|none=>cs)
   cases e:j.lookup n with
   |none=>exact ia h
   |some a=>exact ia (mem_cons_of_mem _ h)
  ·rw [hZ R];exact ia h
theorem rB {j:List (Str×Addr)}{x:Str}{c:Addr}(I:j.lookup x=some c):∀ {l:List (Str×NameKind)} {cs:List (Str×Addr)},(x,NameKind.free)∈l->(x,c)∈dS j l cs
 |(n,k)::r,cs,h=>by
  rcases mem_cons.mp h with e|h2
  ·cases e;rw [nh I];exact ia mem_cons_self
  ·by_cases R:k= .free
   ·subst R;show (x,c)∈dS j r (match j.lookup n with|some a=>(n,a)::cs|none=>cs);exact rB I h2
   ·rw [hZ R];exact rB I h2
theorem jG {α β:Type}[BEq α][LawfulBEq α]{x:α}{c:β}:∀ {l:List (α×β)},(x,c)∈l->∃d,l.lookup x=some d
 |(n,a)::r,h=>by
  cases e:x==n with
  |true=>exact ⟨a,by simp only [lookup_cons,e]⟩
  |false=>
   rcases mem_cons.mp h with q|q
   ·cases q;simp at e
   ·obtain ⟨d,J⟩:=jG q;exact ⟨d,by simp only [lookup_cons,e];exact J⟩
theorem ng {j:List (Str×Addr)}{l:List (Str×NameKind)}{x:Str}{c:Addr}(h:(dS j l []).lookup x=some c):j.lookup x=some c:=
 lM (l:=l) (cs:=[]) (λ_ G=>absurd G @e) (x,c) @dq
theorem F5 {j:List (Str×Addr)}{l:List (Str×NameKind)}{x:Str}{c:Addr}(I:j.lookup x=some c)(h:(x,NameKind.free)∈l):(dS j l []).lookup x=some c:=by
 obtain ⟨d,J⟩:=jG (rB (cs:=[]) I h);rw [J,<-I,ng J]
theorem jM {scope:Scope}{env:Env}(h:∀n,(n,NameKind.free)∈scope.names->∃c,env.cells.lookup n=some c):closureFor scope env=pure @co:=by
 have z:∀(l:List (Str×NameKind)) (j:List (Str×Addr)),(∀n,(n,NameKind.free)∈l->∃c,env.cells.lookup n=some c)->
  (forIn l j (λ(x:Str×NameKind) (r:List (Str×Addr))=>match x with
    |(name,kind)=>if (kind==NameKind.free)=true then (do let c<-cellOf env name;pure (ForInStep.yield ((name,c)::r))) else (do pure PUnit.unit;pure (ForInStep.yield r))):Sem (List (Str×Addr)))=pure (dS env.cells l j):=by
  intro l
  induction l with
  |nil=>intro j _;rfl
  |cons p r ih=>
   intro j W;obtain ⟨n,k⟩:=p;have S:=ih;by_cases R:k= .free
   ·subst R;obtain ⟨c,I⟩:=W n mem_cons_self;rw [nh I];rw [<-ih ((n,c)::j) λm F=>W m (mem_cons_of_mem _ F)];rw [forIn_cons];simp only [cellOf,I,beq_self_eq_true,if_true];rfl
   ·rw [hZ R];rw [<-ih j λm F=>W m (mem_cons_of_mem _ F)];rw [forIn_cons]
    have G:(k==NameKind.free)=false:=by simpa using R
    simp only [G,Bool.false_eq_true,if_false];rfl
 have e:=z scope.names [] h;unfold closureFor
 first
  |exact congrArg (λm=>m>>=pure) e
  |(simp only [bind_pure];exact e)
  |(rw [show (pure @co:Sem (List (Str×Addr)))=(pure @co>>=pure) from rfl,<-e];rfl)
noncomputable def bq (X:Cx)(scope:Scope)(N':List Str)(C:Addr)(s:Shared)(H:Hp)(ex:List Addr):Cx where
 prog:=X.prog
 w:=X.w
 K:=X.K
 mg:=X.mg
 base:=X.base
 A:=X.A
 N:=N'
 s₀:=s
 H₀:=H
 env:=compEnvC scope @bc C X.env
 outer:=X.stack
 stack:=X.stack
 ex:=ex
 fn:=λ_=>false
 calm:=X.calm
 pn:=[]
 xe:=λ_ _=>False
structure cK (X:Cx)(scope:Scope)(N':List Str)(pk:List @y):Prop where
 kind:scope.kind= .function
 nocell:∀y∈scope.names,y.2≠ .cell
 loc:∀y∈scope.names,y.2= .local->scope.names.lookup y.1=some .local
 free:∀n,(n,NameKind.free)∈scope.names->X.env.kindOf n=some .cell\/X.env.kindOf n=some .free
 nofl:∀n,(n,NameKind.free)∈scope.names->scope.names.lookup n≠some .local
 pl:pk.length=N'.length
 pn:∀(j i:Nat) (x:Str),pk[j]? =some (some i)->N'[j]? =some x->X.N[i]? =some x/\(x,NameKind.free)∈scope.names
def cy (pk:List @y)(σ:St):St:=pk.map λo=>o.bind λi=>(σ[i]?).join
theorem qS {scope:Scope}{env:Env}{x:Str}(S:∀y∈scope.names,y.2≠ .cell)(h:(relabel scope env).names.lookup x=some .cell\/(relabel scope env).names.lookup x=some .free):(x,NameKind.free)∈scope.names:=by
 have J:∀k,(relabel scope env).names.lookup x=some k->(k= .cell\/k= .free)->(x,NameKind.free)∈scope.names:=λk e R=>by
  have m:=PySem.mem_of_lookup e;obtain ⟨p,G,O⟩:=mem_map.mp m;obtain ⟨n,F⟩:=p;dsimp only at O;by_cases I:(F==NameKind.free&&env.scope.kind== .function&&env.kindOf n==some .cell)=true
  ·rw [if_pos I] at O
   have z:F= .free:=by
    simp only [Bool.and_eq_true] at I;simpa using I.1.1
   have j:n=x:=(Prod.mk.inj O).1;rw [<-j,<-z];exact G
  ·rw [if_neg I] at O;have j:n=x:=(Prod.mk.inj O).1;have L:F=k:=(Prod.mk.inj O).2
   rcases R with R|R
   ·exact absurd (L.trans R) (S _ G)
   ·rw [<-j,<-R,<-L];exact G
 rcases h with h|h
 ·exact J _ h (.inl rfl)
 ·exact J _ h (.inr rfl)
section
variable {X:Cx}{pins:List (Addr×Obj)}{σ:St}{H:Hp}{s:Shared}{scope:Scope}{N':List Str}{pk:List @y}{fp:List Addr}
theorem Jk (I:av X pins σ H s)(S:cK X scope N' pk){C:Addr}(J:s.heap.objs.size<=C)(j:∀b∈fp,jd X pins H b)(G:∀b∈fp,b<s.heap.objs.size):(bq X scope N' C s H fp).Ok where
 mod:=I.ok.mod
 kind:=S.kind
 glob:=I.ok.glob
 blt:=I.ok.blt
 above:=J
 inj:=λx y c h1 h2=>I.ok.inj x y c (ng h1) (ng h2)
 has:=λx h=>by
  have m:(x,NameKind.free)∈scope.names:=qS S.nocell h;obtain ⟨c,L⟩:=I.ok.has x (S.free x m);exact ⟨c,F5 L m⟩
 cab:=λx c h _=>nomatch h
 hd:=I.ok.hd
 frames:=I.ok.frames
 stk:= .inl rfl
 exf:=λb F=>⟨Nat.ne_of_lt (Nat.lt_of_lt_of_le (G b F) J),λx c e=>(j b F).2.2.2.2.1 x c (ng e)⟩
 bs:=I.bs
 bsz:=Nat.le_trans I.ok.bsz I.sz
 noex:=λb o e F=>by
  rcases (j b F).2.2.2.1 with z|z
  ·exact I.ok.noex b o e z
  ·exact absurd (Nat.lt_of_lt_of_le @A (Nat.le_trans I.ok.bsz z)) @Z
 exfs:=λb F z=>by
  rcases mem_cons.mp @fk with e|e
  ·exact (j b F).2.1 e
  ·exact (j b F).2.2.1 e
 funs:=I.stack
 frf:=I.stkFree
theorem Eo {pk:List @y}{σ:St}{j:Nat}{v:V}(h:(cy pk σ)[j]? =some @br):∃i,pk[j]? =some (some i)/\σ[i]? =some @br:=by
 unfold cy at h;rw [getElem?_map] at h
 cases e:pk[j]? with
 |none=>rw [e] at h;cases h
 |some o=>
  rw [e] at h
  cases o with
  |none=>cases h
  |some i=>
   rwa[⟨i,rfl,?_⟩];have h':(σ[i]?).join=some v:=Option.some.inj h
   cases q:σ[i]? with
   |none=>rw [q] at h';cases h'
   |some z=>rw [q] at h';rw [show z=some v from h']
theorem FZ {J:Shared}{C D:Addr}{od:Obj}(I:av X pins σ H s)(S:cK X scope N' pk)(hC:s.heap.objs.size<=C)(hf:∀b∈fp,jd X pins H b)(ad:∀b∈fp,b<s.heap.objs.size)
(Y:J.os=s.os)(hg:J.gens=s.gens)(F:∀b o,s.heap.get? b=some o->J.heap.get? b=some o)(aa:J.heap.Ns C λ_=>none)(hD:s.heap.objs.size<=D)(ab:D≠C)(Z:J.heap.get? D=some od)(ac:∀v,od.data≠ .cell v):
 av @fp [(D,od)] @I H J where
 ok:=Jk I S hC hf ad
 os:=Y
 bare:=by rw [hg];exact I.bare
 base:=Un.kept F
 loc:=⟨_,aa,λj x v h1 h2 L=>by
  obtain ⟨i,e1,e2⟩:=Eo h2;obtain ⟨hN,W⟩:=S.pn j i x e1 h1;obtain ⟨m,hn,hl⟩:=I.loc;have hk:=S.free x W;obtain ⟨c,hc⟩:=I.ok.has x hk
  have hv:Pe X.env.scope x:=by
   rcases hk with k|k
   ·exact .inr (.inl k)
   ·exact .inr (.inr k)
  obtain ⟨u,r,l⟩:=hl i x v hN e2 hv;rwa[⟨u,r,.inr ⟨?_,c,F5 hc W,?_⟩⟩]
  ·rcases L with L|L|L
   ·exfalso;have R:(relabel scope X.env).names.lookup x=some .local:=L;obtain ⟨p,hp,e⟩:=mem_map.mp (PySem.mem_of_lookup R);obtain ⟨n,U⟩:=p;dsimp only at e;by_cases G:(U==NameKind.free&&X.env.scope.kind== .function&&X.env.kindOf n==some .cell)=true
    ·rw [if_pos G] at e;exact nomatch (Prod.mk.inj e).2
    ·rw [if_neg G] at e;have en:n=x:=(Prod.mk.inj e).1;have ek:U= .local:=(Prod.mk.inj e).2;have q:=S.loc _ hp ek;have q2:(relabel scope X.env).names.lookup x=some .local:=R;exact S.nofl x W (by rw [<-en];exact q)
   ·exact .inl L
   ·exact .inr L
  ·rcases l with ⟨k,_⟩|⟨_,c',e,z⟩
   ·rcases hk with U|U<;>(rw [U] at k;cases k)
   ·rw [hc] at e;cases e;obtain ⟨o,O,hd⟩:=z
    exact ⟨o,F _ _ O,hd⟩⟩
 cell:=λx c h=>by
  obtain ⟨v,o,O,hd⟩:=I.cell x c (ng h);exact ⟨v,o,F _ _ O,hd⟩
 free:=I.hok.fresh hC
 freeC:=λx c h=>I.freeC x c (ng h)
 pin:=λp hp=>by
  have e:p=(D,od):=by simpa using (show p∈([]:List (Addr×Obj))++[(D,od)] from hp)
  subst e;rwa[⟨Z,I.hok.fresh hD,ab,λz=> ?_,ac⟩];obtain ⟨_,o,O,_⟩:=I.stack.mem z;exact absurd (Nat.lt_of_lt_of_le (Heap.lt_size O) hD) @Z
 hok:=I.hok.kept F
 len:=by unfold cy;rw [length_map];exact S.pl
end
theorem Al {prog:Program}{w:World}{A:Around}{E:Value->Shared->Prop}{s:Shared}{l:Addr}{its:Array Value}{n:Nat}{x:Value}{Q:Value->Shared->Prop}
(e:s.heap.get? l=some {cls:= .type "list",data:= .seq its n})(hsz:its.size<=sizeLine)
(z:∀h' n',h'.get? l=some {cls:= .type "list",data:= .seq (its.push x) n'}->Heap.SameBut l s.heap h'->Q .none {s with heap:=h'}):
 wpAny @n A (call (.builtin "list.append") [.ref l,x]) Q E s:=by
 have W:s.heap.IsList l its:=PySem.IsL.isList e;rwa[wpAny_call_entry slot_list_append W.typeIs entry_list_append ?_ (args_list_append _ _)];show wpAny _ _ (updateSeq l (·.push x)>>=λ_=>ret .none) _ _ s;rwa[wpAny_bind ?_];have q:(s.heap.update l (Obj.mapSeq (·.push x))).get? l=some (Obj.mapSeq (·.push x) {cls:= .type "list",data:= .seq its n}):=Heap.get?_update_self _ e rfl;exact wpAny_updateSeq e rfl (wpAny_pure ⟨.none,rfl,z _ _ q (Heap.SameBut.update ..)⟩)
section
variable {X:Cx}{pins:List (Addr×Obj)}{σ:St}{H H':Hp}{s s':Shared}{scope:Scope}{N':List Str}{pk:List @y}{fp:List Addr}
theorem fH.track {P:Program}{w:World}{H:Hp}{h:Heap}{a:Addr}{o:HO}(x:fH P w H h)(z:H a=none)(j:br P w @bo h a o):fH P w @bo h:=λb u e=>by
 by_cases F:b=a
 ·subst F;rw [af] at e;cases e;exact j
 ·rw [ak F] at e
  exact (x b u e).stay (λc v _ q=>q) (λc q=>by rw [ak @ep];exact q) λc xs q=>by rw [ak @ep];exact q
theorem fH.but {P:Program}{w:World}{H:Hp}{h h':Heap}{a:Addr}(x:fH P w H h)(j:H a=none)(k:∀b o,b≠a->h.get? b=some o->h'.get? b=some o):fH P w H h':=λb u e=>
 (x b u e).stay (λc v I q=>k c v (by
   rcases I with rfl|I
   ·exact λz=>by rw [z,j] at e;cases e
   ·exact bB I j) q) @dJ λ_ _ q=>q
theorem FY {C D:Addr}{h':Heap}{ys:List V}{its:List Value}{n:Nat}{σ':St}{O:List (Addr×Obj)}(I:av X pins σ H s)(S:∀b∈fp,jd X pins H b)
(J:av @fp O σ' H' s')(W:s.heap.objs.size<=C)(Z:s.heap.objs.size<=D)(ab:D≠C)(j:H' D=none)(e:s'.heap.get? D=some {cls:= .type "list",data:= .seq its.toArray n})(r:aL ys its)
(hz:ys.length<=sizeLine)(Y:Heap.SameBut C s'.heap h'):av X pins σ @bL {s' with heap:=h'}:=by
 have u:Un @dL fp H H' s.heap s'.heap:=J.base;have L:∀b o,b≠C->s'.heap.get? b=some o->h'.get? b=some o:=λb o F q=>(Y.2 b F).trans q;have G:∀b o,s.heap.get? b=some o->b≠C/\b≠D:=λb o q=>⟨Nat.ne_of_lt (Nat.lt_of_lt_of_le @eM W),Nat.ne_of_lt (Nat.lt_of_lt_of_le @eM Z)⟩;have U:H' C=none:=J.free
 have ae:fH X.prog X.w @bL h':=by
  rwa[fH.but (a:=C) (fH.track (h:=s'.heap) J.hok j ⟨hz,its,n,r,e⟩) ?_ L];rw [ak (Ne.symm ab)];exact U
 rwa[I.call' (s':= {s' with heap:=h'}) (ch:=fp) J.os ?_ ae J.bare λb F=>⟨(S b F).2.2.2.1,(S b F).2.1,(S b F).2.2.2.2.1,(S b F).2.2.2.2.2⟩];rwa[⟨λb o q n F R=> ?_,λb o q n F R=> ?_,λb o q n R=> ?_,λb o q R=> ?_,λb xs q=> ?_,λb o xs q=> ?_,λb ps q=> ?_⟩]
 ·exact L b o (G b o q).1 (u.keep b o q n F R)
 ·obtain ⟨sl,z⟩:=u.slot b o q n F R;exact ⟨sl,L b _ (G b o q).1 z⟩
 ·rw [ak (G b o q).2];exact u.free b o q n R
 ·obtain ⟨o',z⟩:=u.there b o q R;exact ⟨o',L b o' (G b o q).1 z⟩
 ·have z:=u.tups b xs q;rw [ak (bB z j)];exact z
 ·have z:=u.frzs b o xs q;rw [ak (bB z j)];exact z
 ·obtain ⟨m,z⟩:=u.tbls b ps q;exact ⟨m,by rw [ak (bB z j)];exact z⟩
end
def GE (X:Cx)(es:List Expr)(t:TT):Prop:=
 ∀(pins:List (Addr×Obj)) (s:Shared) (σ:St) (H:Hp) (Q:Bool->Hp->Prop),av X pins σ H s->t σ H Q->
  wpAny @d X.A (forIn es true λc r=>if r=true then do let ok<-isTrue c X.env (eval c X.env);pure (ForInStep.yield ok) else pure (ForInStep.yield r)) @dz X.xe s
def NX:TT:=λ_ H Q=>Q true H
theorem bC {X:Cx}:GE X [] NX:=λpins s σ H Q I h=>wpAny_tests_nil ⟨H,I,h⟩
theorem dj {X:Cx}{c:Expr}{t:TT}(h:PT X c t):GE X [c] t:=λpins s σ H Q I G=>wpAny_tests_one (h pins s σ H Q I G)
def tF (σ σ':St):Prop:=σ'.length=σ.length/\∀(i:Nat) v,σ[i]? =some @br->σ'[i]? =some @br
def Dv (pk:List @y)(wi:TI)(g:TG)(tt:TT)(te:TE):TE:=λσ H Q=>wi σ H λJ H1=>∃W:Nat->Nat->List V->Hp->Prop,(∃m,W 0 m [] H1)/\∀i m ys H,W i m ys H->
 (J.stop i H/\ys.length<=sizeLine/\∀p,H p=none->Q (.ref p) @L)\/
 (J.go i H/\ys.length<sizeLine/\∃N:List V->Hp->Prop,(∀zs H',N zs H'->∃m',m'<m/\W (i+1) m' zs H')/\∀x H',J.yld i H x H'->g x @I H' λσ2 H2=>tF @I σ2/\tt σ2 H2 λb H3=>
   if b=true then te σ2 H3 λv H4=>N (ys++[v]) H4 else N ys H3)
structure Gm (P:Program)(w:World)(K:Fg)(A₀:Around)(c:Bool)(tg:Expr)(J:It)(fp:List Addr)(it:Addr)(tn:Nat->Heap->Prop):Prop where
 mem:it∈fp
 obj:∀i h,tn i h->∀b∈fp,∃o,h.get? b=some o/\∀v,o.data≠ .cell v
 keep:∀i h h',tn i h->(∀b∈fp,∀o,h.get? b=some o->h'.get? b=some o)->tn i h'
 item:∀(X:Cx),X.prog=P->X.w=w->X.K=K->X.A=A₀->X.calm=c->∀(i:Nat) (pins:List (Addr×Obj)) (s:Shared) (σ:St) (H:Hp) (E:Value->Shared->Prop),av X pins σ H s->(∀b∈fp,jd X pins H b)->tn i s.heap->J.go i H->
  wpAny @R X.A @cR (λr s1=>∃u,r=some u/\
   wpAny @R X.A @cc (λ_ s2=>∃x H',av X pins σ H' s2/\aE x u/\J.yld i H x H'/\tn (i+1) s2.heap/\∀b∈fp,H' b=none) E s1) E s
 done:∀(X:Cx),X.prog=P->X.w=w->X.K=K->X.A=A₀->X.calm=c->∀(i:Nat) (pins:List (Addr×Obj)) (s:Shared) (σ:St) (H:Hp) (E:Value->Shared->Prop),av X pins σ H s->(∀b∈fp,jd X pins H b)->tn i s.heap->J.stop i H->
  wpAny @R X.A @cR (λr s1=>r=none/\av X pins σ H s1) E s
 self:∀(A:Around) (i:Nat) (s:Shared) (Q:Value->Shared->Prop) (E:Value->Shared->Prop),tn i s.heap->Q (.ref it) s->wpAny @R A (pyIter (.ref it)) Q E s
theorem wq.toA {P:Program}{w:World}{K:Fg}{z:Around}{c:Bool}{tg:Expr}{J:It}{fp:List Addr}{it:Addr}{j:Nat->Heap->Prop}(T:wq P w K tg J fp it j)(I:c=true):Gm P w K z c tg J fp it j:=
 ⟨T.mem,T.obj,T.keep,λX h1 h2 L _ U=>T.item X h1 h2 L (U.trans I),λX h1 h2 L _ U=>T.done X h1 h2 L (U.trans I),T.self⟩
def Rn (X:Cx)(pins:List (Addr×Obj))(σ:St)(tg:Expr)(R:It->Hp->Prop)(itv:Value)(s2:Shared):Prop:=
 ∃(it:Addr) (fp:List Addr) (tn:Nat->Heap->Prop) (J:It) (H':Hp),itv= .ref it/\av X pins σ H' s2/\Gm X.prog X.w X.K X.A X.calm tg J fp it tn/\tn 0 s2.heap/\(∀b∈fp,jd X pins H' b)/\R J H'
def Rx (X:Cx)(tg iter:Expr)(t:TI):Prop:=
 ∀(pins:List (Addr×Obj)) (s:Shared) (σ:St) (H:Hp) (R:It->Hp->Prop),av X pins σ H s->t σ H R->
  wpAny @d X.A @eE (λv s1=>wpAny @d X.A (pyIter v) (Rn X pins σ tg R) X.xe s1) X.xe s
theorem PI.toA {X:Cx}{tg iter:Expr}{t:TI}(h:PI X tg iter t)(z:X.calm=true):Rx X tg iter t:=λpins s σ H R I q=>
 bG (h pins s σ H R I q) λv L h1=>bG h1 λag O ⟨G,fp,j,J,H2,e,F,T,r⟩=>⟨G,fp,j,J,H2,e,F,T.toA z,r⟩
set_option maxHeartbeats 4000000 in
theorem rq {X:Cx}{pins:List (Addr×Obj)}{σ:St}{H:Hp}{F:Shared}{scope:Scope}{N':List Str}{pk:List @y}{fp:List Addr}{tg elt iter:Expr}{ifs:List Expr}{pos:Pos}{g:TG}{tt:TT}{te:TE}
{J:It}{it:Addr}{tn:Nat->Heap->Prop}{R:Value->Addr->Result->Shared->Prop}{E:Value->Shared->Prop}{Q:VK}
(S:cK X scope N' pk)(hg:∀C s H ex,PG @m tg g)(ht:∀C s H ex,GE @m ifs tt)(he:∀C s H ex,PE @m elt te)
(I:av X pins σ H F)(T:Gm X.prog X.w X.K X.A X.calm tg J fp it tn)(st:tn 0 F.heap)(hf:∀b∈fp,jd X pins H b)
(hW:∃W:Nat->Nat->List V->Hp->Prop,(∃m,W 0 m [] H)/\∀i m ys H,W i m ys H->
   (J.stop i H/\ys.length<=sizeLine/\∀p,H p=none->Q (.ref p) @L)\/
   (J.go i H/\ys.length<sizeLine/\∃N:List V->Hp->Prop,(∀zs H',N zs H'->∃m',m'<m/\W (i+1) m' zs H')/\∀x H',J.yld i H x H'->g x @I H' λσ2 H2=>tF @I σ2/\tt σ2 H2 λb H3=>
     if b=true then te σ2 H3 λv H4=>N (ys++[v]) H4 else N ys H3))
(hR:∀(C D:Addr) (s':Shared) (ys:List V) (H':Hp),(∃m,s'.heap.Ns C m)->Q (.ref D) @bL->(∀h',Heap.SameBut C s'.heap h'->av X pins σ @bL {s' with heap:=h'})->F.heap.objs.size<=C->upd H' D (.lst ys) C=none->
   R (.ref D) C (.ok .next) s'):
 wpAny @d X.A (newList []) (λacc s₃=>wpAny @d X.A (newFunctionEnv scope X.env.globals @bc [] X.env.qual none .none (some X.env)) (λcenv s₄=>
  codeAny @d X.A (.compStart (.ListComp elt [⟨tg,iter,ifs,0⟩] scope pos) 0 (.ref it) acc {cenv with scope:=relabel scope X.env}) (R acc cenv.locals) s₄) E s₃) E F:=by
 obtain ⟨W,⟨m0,w0⟩,an⟩:=hW;rwa[wpAny_newObj_type (wpAny_newFunctionEnv S.nocell (by intro y hy;simp at hy) (λh₁ aa Y=> ?_) S.kind)];dsimp only at aa Y ⊢;generalize al:F.heap.push {cls:= .type "list",dict:=none,data:= .seq ([]:List Value).toArray}=H2 at aa Y ⊢
 have hC:H2.objs.size=F.heap.objs.size+1:=by rw [<-al,Heap.size_push]
 have ab:F.heap.objs.size≠H2.objs.size:=by rw [hC];exact Nat.ne_of_lt @cr
 have U:F.heap.objs.size<=H2.objs.size:=by rw [hC];exact Nat.le_succ _
 have aq:∀b o,F.heap.get? b=some o->h₁.get? b=some o:=λb o e=>
  Y.extBut b o (Nat.ne_of_lt (Nat.lt_of_lt_of_le @A U)) (Heap.get?_push_of_some _ (al▸Heap.get?_push_of_some _ e))
 have as:h₁.get? F.heap.objs.size=some {cls:= .type "list",data:= .seq ([]:List Value).toArray}:=
  Y.extBut _ _ ab (Heap.get?_push_of_some _ (al▸Heap.get?_push_size _ rfl))
 have aj:∀b∈fp,b<F.heap.objs.size:=λb L=>by
  obtain ⟨o,e,_⟩:=T.obj 0 _ st b L;exact Heap.lt_size e
 have ay:tn 0 h₁:=T.keep 0 _ _ st λb _ o e=>aq b o e;have aF:X.env.locals≠H2.objs.size:=Nat.ne_of_lt (Nat.lt_of_lt_of_le I.lt U);generalize aE:H2.objs.size=C at *;generalize am:F.heap.objs.size=D at *
 have Z:F.heap.objs.size<=D:=by rw [am];exact Nat.le_refl _
 have ad:F.heap.objs.size<=C:=by rw [am];exact U
 have af:∀s₃:Shared,s₃= {F with heap:=h₁,toks:=F.toks+([]:List (Str×Value)).length}->
  codeAny @d X.A (.compLoop (.ListComp elt [⟨tg,iter,ifs,0⟩] scope pos) 0 (.ref it) (.ref D) @cv) (R (.ref D) C) s₃:=by
  rintro s₃ rfl
  refine codeAny_loop rfl (λn s'=>∃i H' ys its k,av @J [(D,{cls:= .type "list",data:= .seq its k})] @I H' s'/\aL ys its.toList/\tn i s'.heap/\(∀b∈fp,H' b=none)/\W i n ys H') ?_ m0
   ⟨0,H,[],#[],0,FZ I S ad hf (λb L=>by rw [am];exact aj b L) rfl rfl aq (by simpa using aa) Z ab as (λv z=>nomatch z),.nil,ay,λb L=>(hf b L).1,w0⟩
  rintro n s3 ⟨i,H3,ys,its,k,I3,ae,ar,ap,w3⟩;show wpAny _ _ ((compTurn (.ListComp elt [⟨tg,iter,ifs,0⟩] scope pos) 0 (.ref it) (.ref D) @cv).onRaise (λx=>do noteFrame x @cv;theTreesLotGoes x)) _ _ s3;rwa[wpAny_noted ?_];rw [compTurn_list];have G:∀ {α:Type} {t:Sem α} {Q':α->Shared->Prop} {E':Value->Shared->Prop} {s':Shared},wpAny @d X.A t Q' @dB s'->wpAny @d X.A t Q' E' s':=λh=>wpAny_mono h (λ_ _ x=>x) λ_ _ x=>x.elim
  have ah:∀ {H':Hp} {j},(∀b∈fp,H' b=none)->(∀p∈j,p.1=D)->∀b∈fp,jd @J j H' b:=λ{H' j} hn hp b L=>
   ⟨hn b L,(I3.ok.exf b L).1,I3.ok.exfs b L,.inl L,(I3.ok.exf b L).2,λp az z=>by
     have aC:p∈j:=by simpa using (show p∈([]:List (Addr×Obj))++j from az)
     have q:=aj b L;rw [<-z,hp p aC] at q
     exact Nat.lt_irrefl _ q⟩
  have O:∀p∈[(D,({cls:= .type "list",data:= .seq its k}:Obj))],p.1=D:=λp hp=>by
   have e:p=(D,({cls:= .type "list",data:= .seq its k}:Obj)):=by simpa using hp
   rw [e]
  have ac:∀ {j:List (Addr×Obj)} {σ' H' s'},av @J j σ' H' s'->(D,({cls:= .type "list",data:= .seq its k}:Obj))∈j->s'.heap.get? D=some {cls:= .type "list",data:= .seq its k}/\H' D=none:=λ{j σ' H' s'} J hm=>by
   obtain ⟨a1,a2,_⟩:=J.pin _ (show (D,({cls:= .type "list",data:= .seq its k}:Obj))∈([]:List (Addr×Obj))++j by simpa using hm);exact ⟨a1,a2⟩
  rwa[wpAny_bind (wpAny_standAt @eT)]
  rcases an i n ys H3 w3 with ⟨ax,hz,qn⟩|⟨go,hz,N,hN,ao⟩
  ·rwa[G (bG (T.done @J rfl rfl rfl rfl rfl i _ s3 _ H3 @dB I3 (ah ap O) ar ax) λr s4 ⟨hr,I4⟩=> ?_)];subst hr;rwa[wpAny_pure ?_];obtain ⟨a1,a2⟩:=ac I4 @e;obtain ⟨mC,aA,_⟩:=I4.loc;exact hR C D s4 ys H3 ⟨mC,aA⟩ (qn D a2) (λh' sb=>FY I hf I4 ad Z ab a2 (its:=its.toList) (n:=k) (by simpa using a1) ae hz sb) U (by rw [ak (Ne.symm ab)];exact I4.free)
  ·rwa[G (bG (T.item @J rfl rfl rfl rfl rfl i _ s3 _ H3 @dB I3 (ah ap O) ar go) λr s4 ⟨u,hr,h4⟩=> ?_)];subst hr;rwa[wpAny_bind (G (bG h4 λ_ s5 ⟨x,H5,I5,r5,y5,ai,aD⟩=> ?_))];have I5':=I5.pinned (ah aD O) (T.obj _ _ ai);rwa[wpAny_bind (G (bG (hg C F H fp _ s5 _ H5 x u _ I5' r5 (ao x H5 y5)) λ_ s6 ⟨σ6,H6,I6,aw,q6⟩=> ?_))];rwa[wpAny_bind (G (bG (ht C F H fp _ s6 σ6 H6 _ I6 q6) λb s7 ⟨H7,I7,q7⟩=> ?_))]
   have ag:∀ {H':Hp} {s':Shared},av @J ([(D,{cls:= .type "list",data:= .seq its k})]++qI fp s5.heap) σ6 H' s'->
    av @J [(D,{cls:= .type "list",data:= .seq its k})] @I H' s'/\tn (i+1) s'.heap/\∀b∈fp,H' b=none:=λ{H' s'} I7=>by
    rwa[⟨I7.unpinned.weak aw.1.symm aw.2,T.keep _ _ _ ai λb L o e=>(I7.pin (b,o) @O).1,λb L=> ?_⟩];obtain ⟨o,e,d⟩:=T.obj _ _ ai b L;exact (I7.pin (b,o) @O).2.1
   cases b with
   |false=>
    rw [if_neg Bool.false_ne_true] at q7;obtain ⟨m',hm,w7⟩:=hN _ _ q7;obtain ⟨J7,t7,f7⟩:=ag I7;rw [if_neg Bool.false_ne_true]
    first
     |exact wpAny_pure ⟨rfl,m',hm,i+1,H7,ys,its,k,J7,ae,t7,f7,w7⟩
     |exact wpAny_bind (wpAny_pure (wpAny_pure ⟨rfl,m',hm,i+1,H7,ys,its,k,J7,ae,t7,f7,w7⟩))
   |true=>
    rw [if_pos rfl] at q7;rw [if_pos rfl];rwa[wpAny_bind (wpAny_bind (G (bG (he C F H fp _ s7 σ6 H7 _ I7 q7) λy s8 ⟨v,H8,I8,r8,n8⟩=> ?_)))];obtain ⟨m',hm,w8⟩:=hN _ _ n8;obtain ⟨J8,t8,f8⟩:=ag I8;obtain ⟨a1,a2⟩:=ac J8 @e
    have aB:its.size<=sizeLine:=by
     have e:=ae.length
     have e2:its.toList.length=its.size:=by simp
     lia
    rwa[wpAny_bind (Al a1 aB λh' k' e' sb=> ?_)]
    have J9:av @J [] @I H8 {s8 with heap:=h'}:=
     av.turned (t':=s8.toks) (it:=D) (J8.pins_of λp hp=>nomatch hp) (λb o L e=>(sb.2 b L).trans e) a2 ab (.inr Z) (λx c e z=>by
      obtain ⟨w',o,ho,hd⟩:=J8.cell x c e
      rw [z,a1] at ho;cases ho;cases hd) λp hp=>nomatch (show p∈([]:List (Addr×Obj))++[] from hp)
    have J10:av @J [(D,{cls:= .type "list",data:= .seq @gp k'})] @I H8 {s8 with heap:=h'}:=
     J9.pins_of λp hp=>by
      have e:p=(D,({cls:= .type "list",data:= .seq @gp k'}:Obj)):=by simpa using hp
      subst e;rwa[⟨e',a2,ab,λz=> ?_,λv z=>nomatch z⟩];obtain ⟨_,o,ho,_⟩:=I.stack.mem z;exact absurd (Nat.lt_of_lt_of_le (Heap.lt_size ho) Z) @Z
    have t9:tn (i+1) h':=T.keep _ _ _ t8 λb L o e=>(sb.2 b (λz=>Nat.lt_irrefl D (by have:=aj b L;rw [z] at this;exact this))).trans e
    have au:aL (ys++[v]) (its.push y).toList:=by
     rw [Array.toList_push];exact aL.append ae (.cons r8 .nil)
    first
     |exact wpAny_pure (wpAny_pure ⟨rfl,m',hm,i+1,H8,ys++[v],its.push y,k',J10,au,t9,f8,w8⟩)
     |exact wpAny_bind (wpAny_pure (wpAny_pure ⟨rfl,m',hm,i+1,H8,ys++[v],its.push y,k',J10,au,t9,f8,w8⟩))
 exact codeAny_compStart_list (af _ rfl) (T.self _ 0 _ _ _ ay (af _ rfl))
section
variable {X:Cx}{scope:Scope}{N':List Str}{pk:List @y}{tg elt iter:Expr}{ifs:List Expr}{pos:Pos}{wi:TI}{g:TG}{tt:TT}{te:TE}
theorem Ex (S:cK X scope N' pk)(hi:Rx X tg iter wi)(hg:∀C s H ex,PG @m tg g)(O:∀C s H ex,GE @m ifs tt)
(W:∀C s H ex,PE @m elt te)(hs:∀x,foldedSetIterable iter X.env x=pure x:=by intro _;rfl):PE X (.ListComp elt [⟨tg,iter,ifs,0⟩] scope pos) @es:=by
 intro pins s σ H Q I h;rw [eval_ListComp];rwa[wpAny_comprehension_free (use:=none) rfl hs (jM λn z=>I.ok.has n (S.free n z)) S.kind S.loc ?_];rwa[bG @dE λv s1 h1=>bG h1 λag s2 h2=> ?_];obtain ⟨it,fp,tn,J,H2,e,L,T,ae,U,F⟩:=h2;subst e;rwa[rq (R:=λj C=>compPost @d X.A X.xe none @t j C) S hg O W L T ae U F ?_];intro C D s' ys H' z q Y _ _;obtain ⟨m,G⟩:=z;exact ⟨m,G,λh' Z=>⟨.ref D,_,Y h' Z,rfl,q⟩⟩
theorem Hx (I:X.calm=true)(S:cK X scope N' pk)(hi:PI X tg iter wi)(W:∀C s H ex,PG @m tg g)(J:∀C s H ex,GE @m ifs tt)
(U:∀C s H ex,PE @m elt te)(hs:∀x,foldedSetIterable iter X.env x=pure x:=by intro _;rfl):PE X (.ListComp elt [⟨tg,iter,ifs,0⟩] scope pos) @es:=Ex S (hi.toA I) W J U hs
theorem Hl {i:Nat}{x:Str}{G j:Pos}(hc:X.calm=true)(hN:X.N.Nodup)(hx:X.N[i]? =some x)(hl:J0 X.env.scope x)(S:cK X scope N' pk)(hi:PI X tg iter wi)(hg:∀C s H ex,PG @m tg g)
(ht:∀C s H ex,GE @m ifs tt)(he:∀C s H ex,PE @m elt te)(hs:∀x,foldedSetIterable iter X.env x=pure x:=by intro _;rfl)
(aa:swapsWith (.ListComp elt [⟨tg,iter,ifs,0⟩] scope pos) (some (.Name x G)) j.line X.env=pure true:=by rfl)(hf:X.fn x=true\/X.env.scope.names.lookup x=some .local:=by first|exact .inl rfl|exact .inr rfl|assumption):
 PS X (.Assign [.Name x G] (.ListComp elt [⟨tg,iter,ifs,0⟩] scope pos) j) (Dw @es (jK i)):=by
 intro pins s σ H D0 I h;rw [exec_Assign_Name_used _ _ _ _ aa];rwa[wpAny_bind (wpAny_standAt @eT)];show wpAny _ _ (comprehension (.ListComp elt [⟨tg,iter,ifs,0⟩] scope pos) scope X.env (firstIterPos [⟨tg,iter,ifs,0⟩] pos) (newList []) false @eE (some @cH)>>=λ_=>pure ()) _ _ s;rwa[wpAny_bind (wpAny_comprehension_free (use:=some @cH) rfl hs (jM λn Z=>I.ok.has n (S.free n Z)) S.kind S.loc ?_)];rwa[bG ((hi.toA hc) pins s σ H _ I h) λv s1 h1=>bG h1 λag s2 h2=> ?_];obtain ⟨it,fp,tn,J,H2,e,F,T,ae,f2,hW⟩:=h2;subst e;rwa[rq (Q:=λx H1=>jK i x σ H1 D0.nx) (R:=λO C=>compPost @d X.A X.xe (some @cH) _ O C) S hg ht he F T ae f2 hW ?_];intro C D s' ys H' Z q hv U W;obtain ⟨m,hm⟩:=Z;have I':av X pins σ @bL s':=hv s'.heap (Heap.SameBut.refl ..);rwa[wpAny_assign_Name (tW (v:= .ref D) I' hN hx hl rfl (λab I'' ch=> ?_) hf)];obtain ⟨a,sb,L⟩:=ch
 have Y:C≠a:=by
  rcases L with L|L
  ·rw [L];exact Nat.ne_of_gt (Nat.lt_of_lt_of_le F.lt U)
  ·obtain ⟨v,z⟩:=F.cell x a L;exact Nat.ne_of_gt (Nat.lt_of_lt_of_le z.lt U)
 rwa[⟨m,hm.sameBut sb Y,λh' ac=>wpAny_pure (wpAny_pure ⟨_,_,?_,q⟩)⟩];rwa[av.turned (t':=ab.toks) (it:=C) I'' (λb o hb e=>(ac.2 b hb).trans e) W (Nat.ne_of_gt (Nat.lt_of_lt_of_le F.lt U)) (.inr (Nat.le_trans F.sz U)) (λy c e z=> ?_) λp hp z=> ?_]
 ·obtain ⟨v,q⟩:=F.cell y c e;exact absurd (Nat.lt_of_lt_of_le q.lt U) (by rw [z];exact Nat.lt_irrefl _)
 ·exact absurd (Nat.lt_of_lt_of_le (Heap.lt_size (F.pin p hp).1) U) (by rw [z];exact Nat.lt_irrefl _)
end
theorem bg {pk:List @y}{σ:St}{x:V}:tF (cy (none::pk) σ) ((cy (none::pk) σ).set 0 (some x)):=by
 rwa[⟨by simp,λi v h=> ?_⟩]
 cases i with
 |zero=>exact nomatch (show (none:Option V)=some v from Option.some.inj h)
 |succ i=>simpa [cy] using h
section
variable {X:Cx}
def cV:V->Option Value
 | .ty n=>some (.type n)
 | .ref C=>some (.ref C)
 |_=>none
theorem Gd {c:V}{t u:Value}(h:cV c=some t)(r:aE c u):u=t:=by
 cases c with
 |ty n=>cases h;exact r
 |ref C=>cases h;exact r
 |_=>cases h
theorem xY:aW X (.builtin "isinstance") (λxs H Q=>∃x c cv t b,xs=[x,c]/\cV c=some cv/\iy X.K H x t/\W.kitOne X.K t cv=some b/\Q (.bl b) H):=by
 intro pins s σ H xs z Q I r h;obtain ⟨x,c,cv,t,b,rfl,j,ty,e,q⟩:=h;obtain ⟨u,F,rfl,G,J⟩:=Az r;cases Gd j J;exact Cv I G ty e λtk=>⟨.bl b,H,I.tok _,rfl,q⟩
theorem yh {bs:List Bool}:∀ {us:List Value},aL @bh us->LSm.BoolsAre us bs:=by
 induction bs with
 |nil=>intro us r;rw [map_nil] at r;cases r;exact .nil
 |cons b bs ih=>
  intro us r;rw [map_cons] at r
  cases r with
  |cons r1 r2=>cases r1;exact .cons b (ih r2)
theorem CU (J:X.calm=true):aW X (.builtin "all") (λxs H Q=>∃(a:Addr) (bs:List Bool),xs=[.ref a]/\aA X.K H a @bh/\Q (.bl @fU) H):=by
 intro pins s σ H xs U Q I r h;obtain ⟨a,bs,rfl,G,q⟩:=h;obtain ⟨u,rfl,L⟩:=fX r;cases L;obtain ⟨its,S,pl,hz⟩:=I.list G;have W:s.heap.IsList a its.toArray:=pl.isList;have F:=yh S
 have z:a<s.heap.objs.size:=by obtain ⟨_,e,_⟩:=W;exact Heap.lt_size e
 rwa[call_all_walk (wpAny_pyIter_list W ?_)]
 refine ⟨s.heap.objs.size,[s.heap.objs.size,a],[s.heap.objs.size],its.toArray.size,_,_,λi=>(bs[i]?).getD true,rfl,Walks.list (A:=X.A.in1) @ee _ a (Nat.ne_of_lt z) its.toArray,
  ⟨⟨_,Heap.get?_push_size _ rfl,rfl,rfl⟩,W.push _⟩,λi v s' Y Z O j=> ?_,λh' tk R=> ?_⟩
 ·obtain ⟨b,e,rfl⟩:=F.get i v (by simpa using O);simp only [e,Option.getD_some] at j;exact wpAny_truthy_bool j
 ·have e:((List.range its.toArray.size).all λi=>(bs[i]?).getD true)=bs.all id:=by
   rw [size_toArray,F.length];exact LSm.range_all bs
  rw [e];exact ⟨.bl _,H,I.kept (LSm.kept_iter R),rfl,q⟩
def Pt (x:Str):It:=⟨λi _=>i<x.cps.size,λi H v H'=>H'=H/\∃c,x.cps[i]? =some c/\v= .str ⟨#[c]⟩,λi _=>x.cps.size<=i⟩
theorem tV {P:Program}{w:World}{K:Fg}{tg:Expr}{it:Addr}{x:Str}{t:Tok}{T:String}(L:T="str_ascii_iterator"\/T="str_iterator"):
 wq P w K tg (Pt x) [it] it (λi h=>i<=x.cps.size/\h.IsStrIter it T x t i) where
 mem:=by simp
 obj:=λi h st b F=>by
  have e:b=it:=by simpa using F
  subst e;obtain ⟨o,J,j,hd⟩:=st.2;exact ⟨o,J,λv z=>by rw [hd] at z;cases z⟩
 keep:=λi h h' st k=>⟨st.1,let ⟨o,J,r⟩:=st.2;⟨o,k it @e o J,r⟩⟩
 item:=by
  intro X hP hw U j i pins s σ H E I O st R;subst hP hw U;obtain ⟨Z,S,f2,f3,Y,f5⟩:=O it @e
  have W:Walks X.prog X.w X.A it [it] [it] x.cps.size (SignAt x) (λi h=>h.IsStrIter it T x t i):=by
   rcases L with rfl|rfl
   ·exact Walks.strAscii @eg it x t
   ·exact Walks.strWide @eg it x t
  rwa[W.item i s _ _ R st.2 λv h' tk hv G kk=> ?_];obtain ⟨c,u,hx,rfl⟩:=hv;have I1:av X pins σ H {s with heap:=h',toks:=tk}:=I.turned (λb o F e=>kk b o (by simpa using F) e) Z S f3 Y f5;obtain ⟨o,J,aa,hd⟩:=id G;exact ⟨_,rfl,A2 (s:= {s with heap:=h',toks:=tk}) J aa hd (by rcases L with rfl|rfl<;>decide) ⟨.str ⟨#[c]⟩,H,I1,⟨_,rfl⟩,⟨rfl,c,hx,rfl⟩,⟨R,G⟩,λb F=>(O b F).1⟩⟩
 done:=by
  intro X hP hw U j i pins s σ H E I O st R;subst hP hw U;obtain ⟨Z,S,f2,f3,Y,f5⟩:=O it @e
  have W:Walks X.prog X.w X.A it [it] [it] x.cps.size (SignAt x) (λi h=>h.IsStrIter it T x t i):=by
   rcases L with rfl|rfl
   ·exact Walks.strAscii @eg it x t
   ·exact Walks.strWide @eg it x t
  have e:i=x.cps.size:=Nat.le_antisymm st.1 R;subst e;exact W.done s _ _ st.2 λh' tk kk=>⟨rfl,I.turned (λb o F e=>kk b o (by simpa using F) e) Z S f3 Y f5⟩
 self:=λA i s Q E st h=>by
  rcases L with rfl|rfl
  ·exact wpAny_pyIter_striter_ascii st.2 h
  ·exact wpAny_pyIter_striter_wide st.2 h
theorem GU {ts:List Str}:∀ {us:List Value},aL @dd us->∃l:List (Str×Tok),us=strValues l/\l.map (·.1)=ts:=by
 induction ts with
 |nil=>intro us r;rw [map_nil] at r;cases r;exact ⟨[],rfl,rfl⟩
 |cons b bs ih=>
  intro us r;rw [map_cons] at r
  cases r with
  |cons r1 r2=>
   obtain ⟨t,rfl⟩:=r1;obtain ⟨l,rfl,e⟩:=ih r2;exact ⟨(b,t)::l,rfl,by rw [map_cons,e]⟩
theorem Fb:yv X "str.join" (λx xs H Q=>∃z a ts,x= .str z/\xs=[.ref a]/\aA X.K H a @dd/\(ts.toArray.foldl (· + ·.length+z.length) 0)<=sizeLine/\(Builtin.Str.glued z ts).length<=sizeLine/\Q (.str @bV) H):=by
 intro pins s σ H x xs v U Q I J S h;obtain ⟨z,a,ts,rfl,rfl,G,O,j,q⟩:=h;obtain ⟨t,rfl⟩:=J;obtain ⟨u,rfl,L⟩:=fX S;cases L;obtain ⟨its,R,pl,_⟩:=I.list G;obtain ⟨l,rfl,W⟩:=GU R;rwa[call_meets F.slot_str_join (typeIs_str s z t) F.entry_str_join (F.args_str_join_2 _ _) (meets_str_join_list z t a l ?_) ⟨pl.isList,?_⟩]
 ·rw [W];exact qP O
 ·subst W
  cases l with
  |nil=>exact ⟨j,.str _,H,I.tok _,⟨_,rfl⟩,q⟩
  |cons p r=>
   cases r with
   |nil=>exact ⟨.str _,H,I,⟨p.2,rfl⟩,q⟩
   |cons p2 r=>exact ⟨j,.str _,H,I.tok _,⟨_,rfl⟩,q⟩
theorem CP:aW X (.type "int") (λxs H Q=>∃x n,xs=[.str x]/\PySem.intText? x=some n/\x.length<=640/\Q (.int n) H):=by
 intro pins s σ H xs F Q I r h;obtain ⟨x,n,rfl,z,j,q⟩:=h;obtain ⟨u,rfl,t,rfl⟩:=fX r;exact PySem.W.KIN.call_text z j ⟨.int n,H,I.tok _,⟨_,rfl⟩,q⟩
theorem zH:cU X @dA (λx y H Q=>∃z n,x= .str z/\y= .int n/\1<n/\n<=1000/\0<z.length/\z.length<=1000/\Q (.str ⟨(List.replicate n.toNat z.cps).foldl (· ++ ·) #[]⟩) H):=by
 intro pins s σ H x y v u Q I L O h;obtain ⟨z,n,rfl,rfl,h1,h2,U,Y,q⟩:=h;obtain ⟨t,rfl⟩:=L;obtain ⟨S,rfl⟩:=O;have R:(z.length:Int)*n<=1000*1000:=Int.mul_le_mul @c h2 @c @b
 have W:z.length*n.toNat<=1000000:=by
  have e:((z.length*n.toNat:Nat):Int)=(z.length:Int)*n:=by rw [Int.natCast_mul,Int.toNat_of_nonneg @c]
  lia
 have hs:sizeLine=16777216:=sizeLine_eq;have G:(n==1)=false:=beq_eq_false_iff_ne.mpr @c;have F:(z.length==0)=false:=beq_eq_false_iff_ne.mpr @c;rwa[PySem.P.mul_str ?_ (λ_ _=> ?_) (λ_ _=>qP @c) ?_]
 ·rw [decide_eq_false @c,decide_eq_false @c];rfl
 ·have:=Int.le_ediv_of_mul_le (a:=(z.length:Int)) (b:=2^63 - 1) (c:=n) @c @c;lia
 ·rw [if_neg @c,G,F];rwa[⟨?_,.str _,H,I.tok _,⟨_,rfl⟩,q⟩];show ((List.replicate n.toNat z.cps).foldl (· ++ ·) #[]).size<=sizeLine
  have J:∀(k:Nat) (j:Array Nat),((List.replicate k z.cps).foldl (· ++ ·) j).size=j.size+z.length*k:=by
   intro k
   induction k with
   |zero=>intro j;simp
   |succ k ih=>
    intro j;rw [replicate_succ,foldl_cons,ih,Array.size_append,Nat.mul_succ];have e:z.cps.size=z.length:=rfl;lia
  rw [J];simp only [size_toArray,length_nil];lia
theorem IF:yv X "int.bit_length" (λx xs H Q=>∃i,x= .int i/\xs=[]/\Q (.int (Builtin.Int.intBits i)) H):=by
 intro pins s σ H x xs v j Q I G z h;obtain ⟨i,rfl,rfl,q⟩:=h;obtain ⟨t,rfl⟩:=G;cases z;exact call_int_bit_length ⟨.int _,H,I.tok _,⟨_,rfl⟩,q⟩
end
structure aR (P:Program)(w:World)(K:Fg)(mg:Str->Option Value)(base:Heap)(n:Nat)(x:Str)(ps:List Str)(sp:Sp):Prop where
 ex:∃f fd,au P w K mg base aZ n f fd ps sp/\d8 K fd ps []/\W.keepIn K (.ref f)=true/\mg x=some (.ref f)
section
variable {X:Cx}{x:Str}{p pos:Pos}{e:Expr}{es:List Expr}{t:TA}{ps:List Str}{sp:Sp}{n m:Nat}
theorem Oo (c:aR X.prog X.w X.K X.mg X.base n x ps sp)(S:bT m X.A)(J:n<=m)(W:Gl X x)(I:PA X (e::es) t)(j:(x==("__debug__":Str))=false:=by decide)
(U:starEach (e::es) X.env=(false,eval e X.env)::starEach es X.env:=by rfl)(z:(backTo pos @z).any (·.1)=false:=by rfl):
 PE X (.Call (.Name x p) (e::es) [] pos) (wO sp [] E0 t):=by
 obtain ⟨f,fd,F,b,k,G⟩:=c.ex;exact AO (F.mono J) S W G k b .nil iq I j U z
end
noncomputable def rz (sc:Scope)(N:List Str)(scope:Scope)(N':List Str)(pk:List @y):Bool:=
 (scope.kind== .function)&&scope.names.all (λy=>y.2 != .cell)&&scope.names.all (λy=> !(y.2== .local)||scope.names.lookup y.1==some .local)&&
 scope.names.all (λy=> !(y.2== .free)||((sc.names.lookup y.1==some .cell||sc.names.lookup y.1==some .free)&&scope.names.lookup y.1 != some .local))&&
 (pk.length==N'.length)&&(List.range pk.length).all λj=>match pk[j]?,N'[j]? with
   |some (some i),some x=>N[i]? ==some x&&scope.names.contains (x,NameKind.free)
   |_,_=>true
theorem ay {X:Cx}{scope:Scope}{N':List Str}{pk:List @y}(h:rz X.env.scope X.N scope N' pk=true):cK X scope N' pk:=by
 unfold rz at h;simp only [Bool.and_eq_true] at h;obtain ⟨⟨⟨⟨⟨h1,h2⟩,L⟩,G⟩,U⟩,I⟩:=h;rwa[⟨by simpa using h1,λy O=> ?_,λy O W=> ?_,λn F=> ?_,λn F=> ?_,by simpa using U,λj i x R J=> ?_⟩]
 ·have:=all_eq_true.mp h2 y O;simpa using this
 ·have:=all_eq_true.mp L y O;rw [W] at this;simpa using this
 ·have:=all_eq_true.mp G _ F;simp only [beq_self_eq_true,Bool.not_true,Bool.false_or,Bool.and_eq_true,Bool.or_eq_true] at this
  rcases this.1 with z|z
  ·exact .inl (show X.env.scope.names.lookup n=_ by simpa using z)
  ·exact .inr (show X.env.scope.names.lookup n=_ by simpa using z)
 ·have:=all_eq_true.mp G _ F;simp only [beq_self_eq_true,Bool.not_true,Bool.false_or,Bool.and_eq_true,Bool.or_eq_true] at this;simpa using this.2
 ·have Z:j<pk.length:=(List.getElem?_eq_some_iff.mp R).1;have:=all_eq_true.mp I j (mem_range.mpr Z);rw [R,J] at this;simp only [Bool.and_eq_true] at this;exact ⟨by simpa using this.1,by simpa using this.2⟩
section
variable {X:Cx}
theorem CM:aW X (.builtin "len") (λxs H Q=>∃x,xs=[x]/\((∃z,x= .str z/\z.length<=sizeLine/\Q (.int z.length) H)\/∃p,x= .ref p/\∃ys,(aA X.K H p ys\/aC X.K H p ys)/\Q (.int ys.length) H)):=by
 intro pins s σ H xs j Q I r h;obtain ⟨x,rfl,h⟩:=h
 rcases h with ⟨z,rfl,F,q⟩|⟨p,rfl,ys,G,q⟩
 ·exact wa pins s σ H _ j Q I r ⟨z,rfl,F,q⟩
 ·exact wb pins s σ H _ j Q I r ⟨p,ys,rfl,G,q⟩
def Og (K:Fg):R2:=λx y H Q=>∃i,y= .int i/\((∃z,x= .str z/\z.length<=sizeLine/\∃c,lU z.cps.toList i=some c/\Q (.str ⟨#[c]⟩) H)\/∃p,x= .ref p/\∃xs,(aA K H p xs\/aC K H p xs)/\∃v,lU xs i=some v/\Q v H)
theorem Mm:C3 X (Og X.K):=by
 intro value J pins s σ H x y v u Q I j L h hs;obtain ⟨i,rfl,h⟩:=h
 rcases h with ⟨z,rfl,R,c,O,q⟩|⟨p,rfl,xs,G|G,F,Y,q⟩
 ·exact Ml value J pins s σ H _ _ v u Q I j L ⟨z,i,c,rfl,rfl,R,O,q⟩ hs
 ·exact IU value J pins s σ H _ _ v u Q I j L ⟨p,xs,i,F,rfl,rfl,G,Y,q⟩ hs
 ·exact Mj value J pins s σ H _ _ v u Q I j L ⟨p,xs,i,F,rfl,rfl,G,Y,q⟩ hs
theorem Gg {R:List Int}{k:Int}(F:0<=k)(h1:k<R.length):lU @fA k=some (.int (R.getD k.toNat 0)):=by
 obtain ⟨j,rfl⟩:=Int.eq_ofNat_of_zero_le F;rwa[bz ?_]
 have Z:j<R.length:=by lia
 rw [getElem?_map,getElem?_eq_getElem Z];simp [List.getD,getElem?_eq_getElem Z]
def rA (J:It)(pk:List @y)(g:TG)(tt:TT)(te:TE)(σ:St)(H:Hp)(Q:VK):Prop:=∃W:Nat->Nat->List V->Hp->Prop,(∃m,W 0 m [] H)/\∀i m ys H,W i m ys H->
 (J.stop i H/\ys.length<=sizeLine/\∀p,H p=none->Q (.ref p) @L)\/
 (J.go i H/\ys.length<sizeLine/\∃N:List V->Hp->Prop,(∀zs H',N zs H'->∃m',m'<m/\W (i+1) m' zs H')/\∀x H',J.yld i H x H'->g x @I H' λσ2 H2=>tF @I σ2/\tt σ2 H2 λb H3=>
   if b=true then te σ2 H3 λv H4=>N (ys++[v]) H4 else N ys H3)
def Af (J:It)(g:TG)(tb:TS)(D:oQ)(σ:St)(H:Hp):Prop:=∃W:Nat->Nat->St->Hp->Prop,(∃m,W 0 m σ H)/\∀i m σ H,W i m σ H->
 (J.stop i H/\D.nx σ H)\/(J.go i H/\∃N:St->Hp->Prop,(∀σ' H',N σ' H'->∃m',m'<m/\W (i+1) m' σ' H')/\∀x H',J.yld i H x H'->g x σ H' λσ2 H2=>tb {D with nx:=N,ct:=N,bk:=D.nx} σ2 H2)
section
variable {K:Fg}{a:Addr}{xs:List V}{g:TG}{tb:TS}{D:oQ}{σ:St}{H:Hp}
theorem dM (j:Nat->St->Hp->Prop)(F:j 0 σ H)(W:∀i σ H,i<=xs.length->j i σ H->aA K H a xs)
(hs:∀i x σ H,xs[i]? =some x->j i σ H->g x σ H λσ2 H2=>tb {D with nx:=j (i+1),ct:=j (i+1),bk:=D.nx} σ2 H2)(J:∀σ H,j xs.length σ H->D.nx σ H):Af @gi g tb D σ H:=FJ j F W hs J
theorem xI (j:Nat->St->Hp->Prop)(F:j 0 σ H)(W:∀i σ H,i<=xs.length->j i σ H->aC K H a xs)
(hs:∀i x σ H,xs[i]? =some x->j i σ H->g x σ H λσ2 H2=>tb {D with nx:=j (i+1),ct:=j (i+1),bk:=D.nx} σ2 H2)(J:∀σ H,j xs.length σ H->D.nx σ H):Af @gj g tb D σ H:=Ja j F W hs J
theorem cB {lo:Int}{n:Nat}(j:Nat->St->Hp->Prop)(F:j 0 σ H)
(hs:∀i σ H,i<n->j i σ H->g (.int (lo+i)) σ H λσ2 H2=>tb {D with nx:=j (i+1),ct:=j (i+1),bk:=D.nx} σ2 H2)(J:∀σ H,j n σ H->D.nx σ H):Af @ge g tb D σ H:=CA j F hs J
end
theorem cE {lo:Int}{n:Nat}{pk:List @y}{g:TG}{tt:TT}{te:TE}{σ:St}{H:Hp}{Q:VK}(j:Nat->List V->Hp->Prop)(L:n<=sizeLine)(F:∀i ys H,j i ys H->ys.length<=i)(G:j 0 [] H)
(hs:∀i ys H,i<n->j i ys H->g (.int (lo+i)) @I H λσ2 H2=>tF @I σ2/\tt σ2 H2 λb H3=>if b=true then te σ2 H3 λv H4=>j (i+1) (ys++[v]) H4 else j (i+1) ys H3)
(J:∀ys H,j (n) ys H->∀p,H p=none->Q (.ref p) @L):
 rA @ge pk g tt te σ H Q:=by
 rwa[⟨λi m ys H=>m=n - i/\i<=n/\j i ys H,⟨n,by simp,Nat.zero_le _,G⟩,?_⟩];rintro i m ys H ⟨rfl,hi,p⟩;have W:=F _ _ _ p;by_cases z:i<n
 ·rwa[.inr ⟨z,by lia,j (i+1),λzs H' I=>⟨n - (i+1),by lia,rfl,z,I⟩,λx H' y=> ?_⟩];obtain ⟨e,y⟩:=y;subst e y;exact hs i ys _ z p
 ·have e:i=n:=by lia
  subst e;exact .inl ⟨Nat.le_refl _,by lia,J ys H p⟩
theorem bu {K:Fg}{a:Addr}{xs:List V}{pk:List @y}{g:TG}{tt:TT}{te:TE}{σ:St}{H:Hp}{Q:VK}(j:Nat->List V->Hp->Prop)(O:xs.length<=sizeLine)(F:∀i ys H,j i ys H->ys.length<=i)(I:j 0 [] H)(G:∀i ys H,i<=xs.length->j i ys H->aA K H a xs)
(hs:∀i x ys H,xs[i]? =some x->j i ys H->g x @I H λσ2 H2=>tF @I σ2/\tt σ2 H2 λb H3=>if b=true then te σ2 H3 λv H4=>j (i+1) (ys++[v]) H4 else j (i+1) ys H3)
(L:∀ys H,j @eV ys H->∀p,H p=none->Q (.ref p) @L):
 rA @gi pk g tt te σ H Q:=by
 rwa[⟨λi m ys H=>m=xs.length - i/\i<=xs.length/\j i ys H,⟨xs.length,by simp,Nat.zero_le _,I⟩,?_⟩];rintro i m ys H ⟨rfl,hi,p⟩;have W:=F _ _ _ p;by_cases z:i<xs.length
 ·rwa[.inr ⟨⟨xs,xs[i],G i ys H hi p,by simp [z]⟩,by lia,j (i+1),λzs H' J=>⟨xs.length - (i+1),by lia,rfl,z,J⟩,λx H' y=> ?_⟩];obtain ⟨e,y⟩:=y;subst e;exact hs i x ys _ (y xs (G i ys _ hi p)) p
 ·have e:i=xs.length:=by lia
  subst e;exact .inl ⟨⟨xs,G _ ys H @f p,Nat.le_refl _⟩,by lia,L ys H p⟩
theorem dB {K:Fg}{a:Addr}{xs:List V}{pk:List @y}{g:TG}{tt:TT}{te:TE}{σ:St}{H:Hp}{Q:VK}(j:Nat->List V->Hp->Prop)(O:xs.length<=sizeLine)(F:∀i ys H,j i ys H->ys.length<=i)(I:j 0 [] H)(G:∀i ys H,i<=xs.length->j i ys H->aC K H a xs)
(hs:∀i x ys H,xs[i]? =some x->j i ys H->g x @I H λσ2 H2=>tF @I σ2/\tt σ2 H2 λb H3=>if b=true then te σ2 H3 λv H4=>j (i+1) (ys++[v]) H4 else j (i+1) ys H3)
(L:∀ys H,j @eV ys H->∀p,H p=none->Q (.ref p) @L):
 rA @gj pk g tt te σ H Q:=by
 rwa[⟨λi m ys H=>m=xs.length - i/\i<=xs.length/\j i ys H,⟨xs.length,by simp,Nat.zero_le _,I⟩,?_⟩];rintro i m ys H ⟨rfl,hi,p⟩;have W:=F _ _ _ p;by_cases z:i<xs.length
 ·rwa[.inr ⟨⟨xs,xs[i],G i ys H hi p,by simp [z]⟩,by lia,j (i+1),λzs H' J=>⟨xs.length - (i+1),by lia,rfl,z,J⟩,λx H' y=> ?_⟩];obtain ⟨e,y⟩:=y;subst e;exact hs i x ys _ (y xs (G i ys _ hi p)) p
 ·have e:i=xs.length:=by lia
  subst e;exact .inl ⟨⟨xs,G _ ys H @f p,Nat.le_refl _⟩,by lia,L ys H p⟩
theorem xT {z:Str}{pk:List @y}{g:TG}{tt:TT}{te:TE}{σ:St}{H:Hp}{Q:VK}(j:Nat->List V->Hp->Prop)(R:z.cps.size<=sizeLine)(F:∀i ys H,j i ys H->ys.length<=i)(J:j 0 [] H)
(hs:∀i c ys H,z.cps[i]? =some c->j i ys H->g (.str ⟨#[c]⟩) @I H λσ2 H2=>tF @I σ2/\tt σ2 H2 λb H3=>if b=true then te σ2 H3 λv H4=>j (i+1) (ys++[v]) H4 else j (i+1) ys H3)
(O:∀ys H,j (z.cps.size) ys H->∀p,H p=none->Q (.ref p) @L):
 rA (Pt z) pk g tt te σ H Q:=by
 rwa[⟨λi m ys H=>m=z.cps.size - i/\i<=z.cps.size/\j i ys H,⟨z.cps.size,by simp,Nat.zero_le _,J⟩,?_⟩];rintro i m ys H ⟨rfl,hi,p⟩;have W:=F _ _ _ p;by_cases G:i<z.cps.size
 ·rwa[.inr ⟨G,by lia,j (i+1),λzs H' L=>⟨z.cps.size - (i+1),by lia,rfl,G,L⟩,λx H' y=> ?_⟩];obtain ⟨e,c,I,Y⟩:=y;subst e Y;exact hs i c ys _ I p
 ·have e:i=z.cps.size:=by lia
  subst e;exact .inl ⟨Nat.le_refl _,by lia,O ys H p⟩
end
section
variable {X:Cx}{K:Fg}
theorem zI (O:X.K=K):cU X @dO (PL K false):=O▸BV
theorem sq (O:X.K=K):cU X @cY (PL K true):=O▸vG
theorem IV (O:X.K=K):C3 X (Og K):=O▸Mm
def Of (K:Fg):List V->Hp->VK->Prop:=λxs H Q=>∃x,xs=[x]/\((∃z,x= .str z/\z.length<=sizeLine/\Q (.int z.length) H)\/∃p,x= .ref p/\∃ys,(aA K H p ys\/aC K H p ys)/\Q (.int ys.length) H)
theorem CN (O:X.K=K):aW X (.builtin "len") (Of K):=O▸CM
def Oh (K:Fg):List V->Hp->VK->Prop:=λxs H Q=>∃x c cv t b,xs=[x,c]/\cV c=some cv/\iy K H x t/\W.kitOne K t cv=some b/\Q (.bl b) H
theorem CO (O:X.K=K):aW X (.builtin "isinstance") (Oh K):=O▸xY
def Ol (K:Fg):List V->Hp->VK->Prop:=λxs H Q=>∃(a:Addr) (bs:List Bool),xs=[.ref a]/\aA K H a @bh/\Q (.bl @fU) H
theorem CT (O:X.K=K)(I:X.calm=true):aW X (.builtin "all") (Ol K):=O▸CU I
def Hi (K:Fg):List V->Hp->VK->Prop:=λxs H Q=>∃p ys,xs=[.ref p]/\(aA K H p ys\/aC K H p ys)/\∀l,H l=none->Q (.ref l) @bS
theorem Aj (O:X.K=K):aW X (.type "list") (Hi K):=O▸v8
def Ei (K:Fg):List V->Hp->VK->Prop:=λxs H Q=>∃p ys,xs=[.ref p]/\((aA K H p ys/\∀l,H l=none->Q (.ref l) @cB)\/(aC K H p ys/\Q (.ref p) H))
theorem xX (O:X.K=K):aW X (.type "tuple") (Ei K):=O▸tx
def K9 (K:Fg):V->List V->Hp->VK->Prop:=λx xs H Q=>∃z a ts,x= .str z/\xs=[.ref a]/\aA K H a @dd/\(ts.toArray.foldl (· + ·.length+z.length) 0)<=sizeLine/\(Builtin.Str.glued z ts).length<=sizeLine/\Q (.str @bV) H
theorem Fd (O:X.K=K):yv X "str.join" (K9 K):=O▸Fb
theorem Ht (O:X.K=K){es:List Expr}{k:Nat}{t:Bj}{n:Nat}{pos:Pos}(I:X.calm=true)(h:CW X es t)
(z:(assignEach es X.env).length=n:=by rfl)(j:(assignEach es X.env).findIdx? (·.1)=none:=by rfl):PG X (.Tuple es k pos) (OS K n t):=O▸Lh I h z j
end
theorem tF.refl (σ:St):tF σ σ:=⟨rfl,λ_ _ h=>h⟩
theorem tF.cons {σ j:St}{o o':Option V}(h:o=none\/o=o')(s:tF σ j):tF (o::σ) (o'::j):=by
 rwa[⟨by simp [s.1],λi v e=> ?_⟩]
 cases i with
 |zero=>
  rcases h with rfl|rfl
  ·exact nomatch (show (none:Option V)=some v from Option.some.inj e)
  ·exact e
 |succ i=>exact s.2 i v (by simpa using e)
theorem N6 {σ:St}{x:V}:tF (none::σ) (some x::σ):= .cons (.inl rfl) (.refl _)
def bx:Expr->Bool
 | .Starred _ _=>false
 |_=>true
theorem aQ {e:Expr}{es:List Expr}{env:Env}(h:bx e=true):starEach (e::es) env=(false,eval e env)::starEach es env:=by
 cases e<;>first|rfl|cases h
def aS:List Expr->Bool
 |[]=>true
 |e::es=>bx e&&aS es
theorem bF {pos:Pos}{env:Env}:∀ {es:List Expr},aS es=true->(backTo pos @bK).any (·.1)=false
 |[],_=>rfl
 |e::es,h=>by
  have h':(bx e&&aS es)=true:=h;rw [Bool.and_eq_true] at h';rw [aQ h'.1];show (false||(backTo pos @bK).any (·.1))=false;rw [bF h'.2];rfl
theorem mU {pos:Pos}{env:Env}:∀ {es:List Expr},aS es=true->(backTo pos @bK).all (λx=> !x.1)=true
 |[],_=>rfl
 |e::es,h=>by
  have h':(bx e&&aS es)=true:=h;rw [Bool.and_eq_true] at h';rw [aQ h'.1];show (true&&(backTo pos @bK).all (λx=> !x.1))=true;rw [mU h'.2];rfl
def gh:Expr->Bool
 | .Call _ [] [] _=>false
 |_=>true
theorem wm {o:Expr}{name:Str}{env:Env}{z:Sem Value}(h:gh o=true):attributeBase o name env z=z:=by
 unfold attributeBase;split
 ·cases h
 ·rfl
def uc:Expr->Bool
 | .UnaryOp _ _ _=>false
 | .BoolOp _ _ _=>false
 | .IfExp _ _ _ _=>false
 | .Compare _ _ _ _=>false
 |_=>true
theorem Fv {e:Expr}{env:Env}{z:Sem Value}(h:uc e=true):isTrue e env z=(do let v<-z;standAt e.pos;holding [v] (truthy v)):=by
 cases e<;>first|rfl|cases h
section
variable {X:Cx}{K:Fg}{x:Str}{p pos apos cpos:Pos}{e o a:Expr}{es:List Expr}{t:TA}{te to ta:TE}{ps:List Str}{sp:Sp}{n m:Nat}{id T:String}{r:List V->Hp->VK->Prop}{name:Str}{rm:V->List V->Hp->VK->Prop}
theorem aq (j:PE X e te)(S:PA X es t)(hs:bx e=true:=by rfl):PA X (e::es) (Du te t):=Hz j S (aQ hs)
theorem b7 (c:aR X.prog X.w X.K X.mg X.base n x ps sp)(S:bT m X.A)(F:n<=m)(W:Gl X x)(z:PA X (e::es) t)(j:(x==("__debug__":Str))=false:=by decide)(G:aS (e::es)=true:=by rfl):
 PE X (.Call (.Name x p) (e::es) [] pos) (wO sp [] E0 t):=by
 have h':(bx e&&aS es)=true:=G;rw [Bool.and_eq_true] at h';exact Oo c S F W z j @et @eu
theorem aY (I:aW X (.builtin id) r)(W:Gl X x)(F:X.mg x=none)(Y:bootBuiltins x=some (.builtin id))(z:PA X (e::es) t)(J:x≠"__name__":=by decide)(j:(x==("__debug__":Str))=false:=by decide)
(G:aS (e::es)=true:=by rfl):PE X (.Call (.Name x p) (e::es) [] pos) (PK r t):=by
 have h':(bx e&&aS es)=true:=G;rw [Bool.and_eq_true] at h';exact Ez I W F Y z J j @et @eu
theorem aI (I:aW X (.type T) r)(W:Gl X x)(F:X.mg x=none)(Y:bootBuiltins x=some (.type T))(z:PA X (e::es) t)(J:x≠"__name__":=by decide)(j:(x==("__debug__":Str))=false:=by decide)
(G:aS (e::es)=true:=by rfl):PE X (.Call (.Name x p) (e::es) [] pos) (PK r t):=by
 have h':(bx e&&aS es)=true:=G;rw [Bool.and_eq_true] at h';exact BS I W F Y z J j @et @eu
end
def su (b:Bool)(A B:Prop):Prop:=if b=true then A else B
theorem q9 {b:Bool}{A B:Prop}(h1:b=true->A)(h2:b=false->B):su b A B:=by
 cases b with
 |true=>exact h1 rfl
 |false=>exact h2 rfl
theorem bL {b:Bool}{A B:Prop}(e:b=true)(h:A):su b A B:=by subst e;exact h
theorem be {b:Bool}{A B:Prop}(e:b=false)(h:B):su b A B:=by subst e;exact h
theorem eh {c:Prop}[Decidable c]{A B:Prop}(h1:c->A)(h2: ¬c->B):su (decide c) A B:=q9 (λh=>h1 (of_decide_eq_true h)) (λh=>h2 (of_decide_eq_false h))
theorem jA {c:Prop}[Decidable c]{A B:Prop}(I:c)(h:A):su (decide c) A B:=bL (decide_eq_true I) h
theorem dF {c:Prop}[Decidable c]{A B:Prop}(I: ¬c)(h:B):su (decide c) A B:=be (decide_eq_false I) h
theorem Rt {c:Prop}[Decidable c]{A B:Prop}(h1: ¬c->A)(h2:c->B):su (!decide c) A B:=by
 by_cases h:c
 ·rw [decide_eq_true h];exact be rfl (h2 h)
 ·rw [decide_eq_false h];exact bL rfl (h1 h)
theorem PE.imp {X:Cx}{e:Expr}{t t':TE}(h:PE X e t)(i:∀σ H Q,t' σ H Q->t σ H Q):PE X e t':=λpins s σ H Q I q=>h pins s σ H Q I (i σ H Q q)
theorem cU.imp {X:Cx}{f:Value->Value->Sem Value}{r R:R2}(h:cU X f r)(i:∀x y H Q,R x y H Q->r x y H Q):cU X f R:=λpins s σ H x y v u Q I G L q=>h pins s σ H x y v u Q I G L @fB
theorem C3.imp {X:Cx}{r R:R2}(h:C3 X r)(i:∀x y H Q,R x y H Q->r x y H Q):C3 X R:=λvalue J pins s σ H x y v u Q I G L q=>h value J pins s σ H x y v u Q I G L @fB
theorem aW.imp {X:Cx}{f:Value}{r R:List V->Hp->VK->Prop}(h:aW X f r)(i:∀xs H Q,R xs H Q->r xs H Q):aW X f R:=λpins s σ H xs j Q I G q=>h pins s σ H xs j Q I G (i _ _ _ q)
theorem yv.imp {X:Cx}{id:String}{r R:V->List V->Hp->VK->Prop}(h:yv X id r)(i:∀x xs H Q,R x xs H Q->r x xs H Q):yv X id R:=λpins s σ H x xs v j Q I G z q=>h pins s σ H x xs v j Q I G z @fB
def Di (i:Nat):TE:=λσ H Q=>match σ[i]? with|some @br=>Q v H|_=>False
theorem wv {X:Cx}(i:Nat){x:Str}{pos:Pos}(z:X.N[i]? =some x:=by rfl)(Y:Pe X.env.scope x:=by first|exact Or.inl rfl|exact Or.inr @q|exact Or.inr @dQ)(J:(x==("__debug__":Str))=false:=by decide)
(F:(x==("__classdict__":Str))=false:=by decide):PE X (.Name x pos) (Di i):=
 (Et z Y J F).imp λσ H Q h=>by
   unfold Di at h
   cases e:σ[i]? with
   |none=>rw [e] at h;exact h.elim
   |some o=>
    cases o with
    |none=>rw [e] at h;exact h.elim
    |some v=>rw [e] at h;exact ⟨v,e,h⟩
def wI (g:Int->Int->V):R2:=λx y H Q=>match x,y with| .int i,.int j=>Q @cF H|_,_=>False
def wC (C:Int->Int->Prop)(g:Int->Int->V):R2:=λx y H Q=>match x,y with| .int i,.int j=>C i j/\Q @cF H|_,_=>False
theorem jQ {g:Int->Int->V}:∀x y H Q,wI g x y H Q->Ej g x y H Q:=λx y H Q h=>by
 cases x with
 |int i=>cases y with
  |int j=>exact ⟨i,j,rfl,rfl,h⟩
  |_=>exact False.elim h
 |_=>exact False.elim h
theorem uO {C:Int->Int->Prop}{g:Int->Int->V}:∀x y H Q,wC C g x y H Q->rI C g x y H Q:=λx y H Q h=>by
 cases x with
 |int i=>cases y with
  |int j=>exact ⟨i,j,rfl,rfl,h⟩
  |_=>exact False.elim h
 |_=>exact False.elim h
section
variable {X:Cx}{K:Fg}
theorem JA:cU X (binaryOp .Sub) (wI λi j=> .int (i - j)):=Lm.imp jQ
theorem Km:cU X (binaryOp .FloorDiv) (wC C1 λi j=> .int (i / j)):=HH.imp uO
def Qi:R2:=λx y H Q=>match x,y with| .int i,.int j=>0<j/\Q (.int (i% j)) H|_,_=>False
theorem JD:cU X (binaryOp .Mod) Qi:=Lq.imp λx y H Q h=>uO (C:=λ_ j=>0<j) (g:=λi j=> .int (i% j)) x y H Q (by
 cases x with
 |int i=>cases y with
  |int j=>exact h
  |_=>exact False.elim h
 |_=>exact False.elim h)
theorem JB:cU X (binaryOp .Pow) (wC As λi j=> .int (i^j.toNat)):=Lo.imp uO
theorem Ni:cU X (binaryOp .LShift) (wC As λi j=> .int (i*2^j.toNat)):=Ln.imp uO
theorem Np:cU X (binaryOp .BitAnd) (wI λi j=> .int (Builtin.bitAnd i j)):=Lu.imp jQ
theorem P8:cU X (binaryOp .BitOr) (wI λi j=> .int (Builtin.bitOr i j)):=Oq.imp jQ
theorem w_lt:cU X (compareOp .Lt) (wI λi j=> .bl (decide (i<j))):=Ot.imp jQ
theorem Dg:cU X (compareOp .LtE) (wI λi j=> .bl (decide (i<=j))):=Ou.imp jQ
theorem Nn:cU X (compareOp .Gt) (wI λi j=> .bl (decide (j<i))):=Ov.imp jQ
theorem No:cU X (compareOp .GtE) (wI λi j=> .bl (decide (j<=i))):=Ow.imp jQ
def Jn (p q:Addr)(H:Hp)(Q:VK):Prop:=∃xs ys,H p=some (.lst xs)/\H q=some (.lst ys)/\xs.length+ys.length<=sizeLine/\∀l,H l=none->Q (.ref l) (upd H l (.lst (xs++ys)))
def Qu:R2:=λx y H Q=>match x,y with
 | .int i,.int j=>Q (.int (i+j)) H
 | .str a,.str b=>a.length+b.length<=sizeLine/\Q (.str (a++b)) H
 | .ref p,.ref q=>Jn p q H Q
 |_,_=>False
theorem Nr:cU X @bu Qu:=(Lv.or (zJ.or Ls)).imp λx y H Q h=>by
 cases x with
 |int i=>cases y with
  |int j=>exact .inl ⟨i,j,rfl,rfl,h⟩
  |_=>exact False.elim h
 |str a=>cases y with
  |str b=>exact .inr (.inl ⟨a,b,rfl,rfl,h⟩)
  |_=>exact False.elim h
 |ref p=>cases y with
  |ref q=>obtain ⟨xs,ys,h1,h2,L,z⟩:=h;exact .inr (.inr ⟨p,q,xs,ys,rfl,rfl,h1,h2,L,z⟩)
  |_=>exact False.elim h
 |_=>exact False.elim h
def Qh:R2:=λx y H Q=>match x,y with
 | .int i,.int j=>wu i j/\Q (.int (i*j)) H
 | .str z,.int n=>(1<n/\n<=1000/\0<z.length/\z.length<=1000)/\Q (.str ⟨(List.replicate n.toNat z.cps).foldl (· ++ ·) #[]⟩) H
 |_,_=>False
theorem Nj:cU X @dA Qh:=(Lp.or zH).imp λx y H Q h=>by
 cases x with
 |int i=>cases y with
  |int j=>exact .inl ⟨i,j,rfl,rfl,h⟩
  |_=>exact False.elim h
 |str z=>cases y with
  |int n=>exact .inr ⟨z,n,rfl,rfl,h.1.1,h.1.2.1,h.1.2.2.1,h.1.2.2.2,h.2⟩
  |_=>exact False.elim h
 |_=>exact False.elim h
def Qg:V->Hp->VK->Prop:=λx H Q=>match x with| .int i=>Q (.int (-i)) H|_=>False
theorem JC:M7 X (unaryOp .USub) Qg:=λpins s σ H x v Q I G h=>by
 cases x with
 |int i=>exact Ku pins s σ H _ v Q I G ⟨i,rfl,h⟩
 |_=>exact False.elim h
noncomputable def OX:V->V->Option Bool
 | .non,.non=>some true
 | .int i,.int j=>some (decide (i=j))
 | .str a,.str b=>some (decide (a=b))
 | .bl a,.bl b=>some (decide (a=b))
 | .non,.int _=>some false| .int _,.non=>some false| .non,.str _=>some false| .str _,.non=>some false| .non,.bl _=>some false| .bl _,.non=>some false
 | .int _,.str _=>some false| .str _,.int _=>some false| .bl _,.str _=>some false| .str _,.bl _=>some false
 |_,_=>none
theorem FO {x y:V}{b:Bool}(h:OX x y=some b):KW x y=true/\decide (x=y)=b:=by
 cases x<;>cases y<;>first|cases h|skip
 all_goals first
  |exact ⟨rfl,by simp⟩
  |(refine ⟨rfl,?_⟩;simp)
def Ql (neg:Bool):R2:=λx y H Q=>match y with
 | .non=>(match x with| .non=>Q (.bl (!neg)) H|_=>Q (.bl neg) H)
 |_=>False
theorem JE:cU X (compareOp .Is) (Ql false):=Lr.imp λx y H Q h=>by
 cases y with
 |non=>cases x<;>exact ⟨rfl,h⟩
 |_=>exact False.elim h
def ua (K:Fg)(neg:Bool)(x:V)(p:Addr)(H:Hp)(Q:VK):Prop:=∃xs,(aA K H p xs\/aC K H p xs)/\c6 x=true/\xs.all c6=true/\Q (.bl (if neg then !yu x xs else yu x xs)) H
def ik (a b:Str):Bool:= !(Builtin.Str.occurrences b a 0 b.length 1).isEmpty
def Qn (K:Fg)(neg:Bool):R2:=λx y H Q=>match y with
 | .str b=>(match x with| .str a=>Q (.bl (if neg then !ik a b else ik a b)) H|_=>False)
 | .ref p=>ua K neg x p H Q
 |_=>False
theorem Nm (O:X.K=K):cU X @dO (Qn K false):=(BU.or (zI O)).imp λx y H Q h=>by
 cases y with
 |str b=>cases x with
  |str a=>exact .inl ⟨a,b,rfl,rfl,h⟩
  |_=>exact False.elim h
 |ref p=>obtain ⟨xs,h1,h2,L,j⟩:=h;exact .inr ⟨p,xs,rfl,h1,h2,L,j⟩
 |_=>exact False.elim h
theorem oS (O:X.K=K):cU X @cY (Qn K true):=(vF.or (sq O)).imp λx y H Q h=>by
 cases y with
 |str b=>cases x with
  |str a=>exact .inl ⟨a,b,rfl,rfl,h⟩
  |_=>exact False.elim h
 |ref p=>obtain ⟨xs,h1,h2,L,j⟩:=h;exact .inr ⟨p,xs,rfl,h1,h2,L,j⟩
 |_=>exact False.elim h
def iM (K:Fg)(p:Addr)(i:Int)(H:Hp)(Q:VK):Prop:=∃xs,(aA K H p xs\/aC K H p xs)/\∃v,lU xs i=some v/\Q v H
def u9 (z:Str)(i:Int)(H:Hp)(Q:VK):Prop:=z.length<=sizeLine/\∃c,lU z.cps.toList i=some c/\Q (.str ⟨#[c]⟩) H
def RC (K:Fg):R2:=λx y H Q=>match x,y with
 | .str z,.int i=>u9 z i H Q
 | .ref p,.int i=>iM K p i H Q
 |_,_=>False
theorem fI (O:X.K=K):C3 X (RC K):=(IV O).imp λx y H Q h=>by
 cases x with
 |str z=>cases y with
  |int i=>obtain ⟨h1,h2⟩:=h;exact ⟨i,rfl,.inl ⟨z,rfl,h1,h2⟩⟩
  |_=>exact False.elim h
 |ref p=>cases y with
  |int i=>obtain ⟨xs,h1,h2⟩:=h;exact ⟨i,rfl,.inr ⟨p,rfl,xs,h1,h2⟩⟩
  |_=>exact False.elim h
 |_=>exact False.elim h
def iL (K:Fg)(p:Addr)(H:Hp)(Q:VK):Prop:=∃ys,(aA K H p ys\/aC K H p ys)/\Q (.int ys.length) H
def Qk (K:Fg):List V->Hp->VK->Prop:=λxs H Q=>match xs with
 |[.str z]=>z.length<=sizeLine/\Q (.int z.length) H
 |[.ref p]=>iL K p H Q
 |_=>False
theorem tR (O:X.K=K):aW X (.builtin "len") (Qk K):=(CN O).imp λxs H Q h=>by
 match xs,h with
 |[.str z],h=>exact ⟨_,rfl,.inl ⟨z,rfl,h⟩⟩
 |[.ref p],h=>exact ⟨_,rfl,.inr ⟨p,rfl,h⟩⟩
def AZ (x:Str)(H:Hp)(Q:VK):Prop:=∃n,PySem.intText? x=some n/\x.length<=640/\Q (.int n) H
def Qm:List V->Hp->VK->Prop:=λxs H Q=>match xs with
 |[.int i]=>Q (.int i) H
 |[.bl k]=>Q (.int (if k then 1 else 0)) H
 |[.str x]=>AZ x H Q
 |_=>False
theorem JF:aW X (.type "int") Qm:=(CQ.or CP).imp λxs H Q h=>by
 match xs,h with
 |[.int i],h=>exact .inl (.inl ⟨i,rfl,h⟩)
 |[.bl k],h=>exact .inl (.inr ⟨k,rfl,h⟩)
 |[.str x],h=>obtain ⟨n,h1,h2,L⟩:=h;exact .inr ⟨x,n,rfl,h1,h2,L⟩
noncomputable def IW:V->String->Option Bool
 | .non,T=>some (T=="NoneType")
 | .bl _,T=>some (T=="bool"||T=="int")
 | .int _,T=>some (T=="int")
 | .str _,T=>some (T=="str")
 |_,_=>none
def km (K:Fg)(x c:V)(H:Hp)(Q:VK):Prop:=∃cv t b,cV c=some cv/\iy K H x t/\W.kitOne K t cv=some b/\Q (.bl b) H
noncomputable def vE (T:String):Bool:=T=="int"||T=="str"||T=="bool"||T=="list"||T=="tuple"||T=="dict"
def Kq (K:Fg):List V->Hp->VK->Prop:=λxs H Q=>match xs with
 |[x,.ty T]=>(match IW x T with|some b=>vE T=true/\Q (.bl b) H|none=>km K x (.ty T) H Q)
 |[x,c]=>km K x c H Q
 |_=>False
end
theorem Cr {K:Fg}{H:Hp}{x:V}{T:String}{b:Bool}(h:IW x T=some b)(G:vE T=true):∃t,iy K H x t/\W.kitOne K t (.type T)=some b:=by
 have I:T="int"\/T="str"\/T="bool"\/T="list"\/T="tuple"\/T="dict":=by
  unfold vE at G;simp only [Bool.or_eq_true,beq_iff_eq] at G
  rcases G with ((((h|h)|h)|h)|h)|h<;>simp [h]
 cases x with
 |non=>refine ⟨_,.non,?_⟩;rcases I with rfl|rfl|rfl|rfl|rfl|rfl<;>(cases h;rfl)
 |bl y=>refine ⟨_,.bl y,?_⟩;rcases I with rfl|rfl|rfl|rfl|rfl|rfl<;>(cases h;rfl)
 |int y=>refine ⟨_,.int y,?_⟩;rcases I with rfl|rfl|rfl|rfl|rfl|rfl<;>(cases h;rfl)
 |str y=>refine ⟨_,.str y,?_⟩;rcases I with rfl|rfl|rfl|rfl|rfl|rfl<;>(cases h;rfl)
 |_=>cases h
section
variable {X:Cx}{K:Fg}{a b c e:Expr}{ta tb te:TE}{tA tB':TT}{dJ:List Expr}{pos:Pos}
theorem Nl (O:X.K=K):aW X (.builtin "isinstance") (Kq K):=(CO O).imp λxs H Q h=>by
 have j:∀x c,km K x c H Q->Oh K [x,c] H Q:=λx c ⟨z,t,b,h1,h2,L,F⟩=>⟨x,c,z,t,b,rfl,h1,h2,L,F⟩
 match xs,h with
 |[x,.ty T],h=>
  have h':(match IW x T with|some b=>vE T=true/\Q (.bl b) H|none=>km K x (.ty T) H Q):=h
  cases e:IW x T with
  |none=>rw [e] at h';exact j _ _ h'
  |some b=>
   rw [e] at h';obtain ⟨t,h1,h2⟩:=Cr (K:=K) (H:=H) e h'.1;exact ⟨x,.ty T,_,t,b,rfl,rfl,h1,h2,h'.2⟩
 |[x,.ref C],h=>exact j _ _ h
 |[x,.non],h=>exact j _ _ h
 |[x,.bl _],h=>exact j _ _ h
 |[x,.int _],h=>exact j _ _ h
 |[x,.str _],h=>exact j _ _ h
 |[x,.byt _],h=>exact j _ _ h
 |[x,.flt _],h=>exact j _ _ h
def Nv (t:TE):TT:=λσ H Q=>t σ H λx H'=>match x with| .bl k=>Q k H'|_=>False
theorem ck {j:CmpOp}{r:R2}(O:cU X @fz r)(U:PE X a ta)(hb:PE X b tb)(G:behindInMarks j b=false):PT X (.Compare a [j] [b] pos) (Nv @eJ):=by
 intro pins s σ H Q I h
 refine wpAny_isTrue_Compare1 (bG @bs λv L ⟨x,H1,I1,R,q1⟩=>bG (hb pins L σ H1 _ I1 q1) λu S ⟨y,H2,J,r2,W⟩=>
  bG (O pins S σ H2 x y v u _ J R r2 W) λcv s3 ⟨z,F,Z,r3,Y⟩=> ?_) G
 cases z with
 |bl k=>cases r3;exact wpAny_truthy_bool ⟨F,Z,Y⟩
 |_=>exact False.elim Y
def qd (K:Fg)(p:Addr)(H:Hp)(Q:Bool->Hp->Prop):Prop:=(∃xs,(aA K H p xs\/aC K H p xs)/\Q (!xs.isEmpty) H)\/∃kvs,H p=some (.dK kvs)/\Q (!kvs.isEmpty) H
def Nu (K:Fg)(ta:TE):TT:=λσ H Q=>ta σ H λx H'=>match x with
 | .bl k=>Q k H'
 | .non=>Q false H'
 | .int i=>Q (i != 0) H'
 | .str y=>y.length<=sizeLine/\Q ((y.length:Int) != 0) H'
 | .ref p=>qd K p H' Q
 |_=>False
theorem iA (S:X.K=K)(R:PE X a ta)(O:uc a=true:=by rfl):PT X a (Nu K ta):=by
 subst S;intro pins s σ H Q I h;rwa[isTrue_plain (bG @dN λv L ⟨x,H1,F,G,J⟩=> ?_) (Fv O)]
 cases x with
 |bl k=>exact iI pins L σ H1 _ v Q F G ⟨k,rfl,J⟩
 |non=>exact iI pins L σ H1 _ v Q F G ⟨false,rfl,J⟩
 |int i=>exact iI pins L σ H1 _ v Q F G ⟨_,rfl,J⟩
 |str y=>exact iI pins L σ H1 _ v Q F G ⟨_,⟨J.1,rfl⟩,J.2⟩
 |ref p=>
  rcases J with ⟨xs,j|j,q⟩|⟨z,j,q⟩
  ·exact iI pins L σ H1 _ v Q F G ⟨_,.inl ⟨xs,j,rfl⟩,q⟩
  ·exact iI pins L σ H1 _ v Q F G ⟨_,.inr (.inl ⟨xs,j,rfl⟩),q⟩
  ·exact iI pins L σ H1 _ v Q F G ⟨_,.inr (.inr ⟨z,j,rfl⟩),q⟩
 |_=>exact False.elim J
def Qt (t u:TT):TT:=λσ H Q=>t σ H λc H1=>su c (u σ H1 Q) (Q false H1)
def RB (t u:TT):TT:=λσ H Q=>t σ H λc H1=>su c (Q true H1) (u σ H1 Q)
theorem yy (j:PT X a tA)(F:PW X (.BoolOp .And (b::dJ) pos) tB'):PW X (.BoolOp .And (a::b::dJ) pos) (Qt tA tB'):=La j F
theorem tO (j:PT X a tA)(F:PW X (.BoolOp .Or (b::dJ) pos) tB'):PW X (.BoolOp .Or (a::b::dJ) pos) (RB tA tB'):=Om j F
def NO (ta tb:TE):TE:=λσ H Q=>ta σ H λx H1=>match x with| .bl c=>su c @fN (Q (.bl false) H1)|_=>False
def Qe (ta tb:TE):TE:=λσ H Q=>ta σ H λx H1=>match x with| .bl c=>su c (Q (.bl true) H1) @fN|_=>False
theorem yB (z:PE X a ta)(j:PE X (.BoolOp .And (b::dJ) pos) tb):PE X (.BoolOp .And (a::b::dJ) pos) (NO ta tb):=by
 intro pins s σ H Q I h;rwa[BoolOp_and (bG (z pins s σ H _ I h) λv L ⟨x,H1,F,G,J⟩=> ?_)]
 cases x with
 |bl c=>
  cases G;rwa[wpAny_truthy_bool ?_]
  cases c with
  |true=>exact j pins L σ H1 Q F J
  |false=>exact ⟨.bl false,H1,F,rfl,J⟩
 |_=>exact False.elim J
theorem Ng (z:PE X a ta)(j:PE X (.BoolOp .Or (b::dJ) pos) tb):PE X (.BoolOp .Or (a::b::dJ) pos) (Qe ta tb):=by
 intro pins s σ H Q I h;rwa[BoolOp_or (bG (z pins s σ H _ I h) λv L ⟨x,H1,F,G,J⟩=> ?_)]
 cases x with
 |bl c=>
  cases G;rwa[wpAny_truthy_bool ?_]
  cases c with
  |false=>exact j pins L σ H1 Q F J
  |true=>exact ⟨.bl true,H1,F,rfl,J⟩
 |_=>exact False.elim J
def Qf (K:Fg)(ta:TE):TE:=λσ H Q=>ta σ H λx H'=>match x with
 | .bl k=>Q (.bl (!k)) H'
 | .non=>Q (.bl true) H'
 | .int i=>Q (.bl (!(i != 0))) H'
 | .str y=>y.length<=sizeLine/\Q (.bl (!((y.length:Int) != 0))) H'
 | .ref p=>qd K p H' λk H2=>Q (.bl (!k)) H2
 |_=>False
theorem C7 (R:X.K=K)(O:PE X a ta):PE X (.UnaryOp .Not a pos) (Qf K ta):=by
 subst R;intro pins s σ H Q I h;rwa[UnaryOp_ (bG (O pins s σ H _ I h) λv L ⟨x,H1,S,U,J⟩=> ?_)]
 have z:(∃k,Pg X.K x H1 k/\Q (.bl (!k)) H1)->wpAny @d X.A (unaryOp .Not v) @t X.xe L:=λh=>
  not_of (bG (iI pins L σ H1 x v (λk H2=>Q (.bl (!k)) H2) S U h) λk Y ⟨H2,F,W⟩=>⟨.bl (!k),H2,F,rfl,W⟩)
 cases x with
 |bl k=>exact z ⟨k,rfl,J⟩
 |non=>exact z ⟨false,rfl,J⟩
 |int i=>exact z ⟨_,rfl,J⟩
 |str y=>exact z ⟨_,⟨J.1,rfl⟩,J.2⟩
 |ref p=>
  rcases J with ⟨xs,G|G,q⟩|⟨j,G,q⟩
  ·exact z ⟨_,.inl ⟨xs,G,rfl⟩,q⟩
  ·exact z ⟨_,.inr (.inl ⟨xs,G,rfl⟩),q⟩
  ·exact z ⟨_,.inr (.inr ⟨j,G,rfl⟩),q⟩
 |_=>exact False.elim J
def Qp (t:TT)(ta tb:TE):TE:=λσ H Q=>t σ H λc H1=>su c (ta σ H1 Q) @fN
theorem Av (I:PT X c tA)(j:PE X a ta)(F:PE X b tb):PE X (.IfExp c a b pos) (Qp tA ta tb):=Ev I j F
def Qo (c:TT)(t u:TS):TS:=λD σ H=>c σ H λb H1=>su b (t D σ H1) (u D σ H1)
theorem aB {t u:TS}{p q:List Stmt}(I:PT X c tA)(j:tH X p t)(F:tH X q u):PS X (.If c p q pos) (Qo tA t u):=On I j F
def nQ (K:Fg)(p:Addr)(lo hi:Option Int)(H:Hp)(Q:VK):Prop:=(∃xs,aA K H p xs/\∀l,H l=none->Q (.ref l) (upd H l (.lst @bt)))\/
 ∃xs,aC K H p xs/\ ¬(HT.sIx xs.length 0 lo=0/\HT.sIx xs.length xs.length hi=xs.length)/\∀l,H l=none->Q (.ref l) (upd H l (.tup @bt))
def RA (K:Fg):V->Option Int->Option Int->Hp->VK->Prop:=λx lo hi H Q=>match x with| .ref p=>nQ K p lo hi H Q|_=>False
theorem P7 (O:X.K=K):MO X (RA K):=by
 subst O;intro pins s σ H x v G F lo hi sl Q I j hs pl J h
 cases x with
 |ref p=>
  rcases h with ⟨xs,h1,h2⟩|⟨xs,h1,h2,L⟩
  ·exact G1 pins s σ H _ v G F lo hi sl Q I j hs pl J ⟨p,xs,rfl,h1,h2⟩
  ·exact KP pins s σ H _ v G F lo hi sl Q I j hs pl J ⟨p,xs,rfl,h1,h2,L⟩
 |_=>exact False.elim h
def NA (t:TE):TO:=λσ H Q=>t σ H λx H1=>match x with| .int i=>Q (some i) H1|_=>False
theorem oR (h:PE X e te):PO X (some e) (NA te):=by
 intro pins s σ H Q I z;rw [evalPart_some];rwa[bG (h pins s σ H _ I z) λu L ⟨x,H1,F,G,J⟩=> ?_]
 cases x with
 |int i=>obtain ⟨t,rfl⟩:=G;exact ⟨some i,H1,F,.int i t,J⟩
 |_=>exact False.elim J
def Dj (K:Fg)(T:String)(x:V)(H:Hp)(P:Prop):Prop:=match x with
 | .str _=>T="str"/\P
 | .int _=>T="int"/\P
 | .ref _=>PF K T x H/\P
 |_=>False
def RE (K:Fg)(T:String)(r:V->List V->Hp->VK->Prop)(to:TE)(t:TA):TE:=λσ H Q=>to σ H λx H1=>Dj K T x H1 (t σ H1 λxs H2=>r x xs H2 Q)
end
section
variable {X:Cx}{K:Fg}{o e:Expr}{es:List Expr}{to:TE}{t:TA}{name:Str}{apos cpos:Pos}{T id:String}{r:V->List V->Hp->VK->Prop}
theorem wH {x:V}{H:Hp}{P:Prop}(h:Dj K T x H P):PF K T x H/\P:=by
 cases x with
 |str z=>exact h
 |int i=>exact h
 |ref p=>exact h
 |_=>exact False.elim h
theorem fu (hK:X.K=K)(pa:PlainAttrs T)(U:Slot T name id)(G:typeOf (.builtin id)=pure (.type "method_descriptor"))(W:yv X id r)(ho:PE X o to)(ha:PA X (e::es) t)
(hb:gh o=true:=by rfl)(R:aS (e::es)=true:=by rfl)(hl:(e::es).length<29:=by decide)(z:(apos.endLine==cpos.line)=true:=by rfl):
 PE X (.Call (.Attribute o name apos) (e::es) [] cpos) (RE K T r to t):=by
 subst hK;have h':(bx e&&aS es)=true:=R;rw [Bool.and_eq_true] at h';have hs:starEach (e::es) X.env=(false,eval e X.env)::starEach es X.env:=aQ h'.1;have j:(backTo cpos @z).any (·.1)=false:=bF h'.2
 have F:((backTo cpos (starEach (e::es) X.env)).all (λx=> !x.1)&&(backToKw cpos @ds).all @eh
  &&decide ((e::es).length+([]:List Keyword).length+(if ([]:List Keyword).isEmpty then 0 else 1)<30))=true:=by
  rw [mU R,arm_keywordEach_nil];show (true&&true&&decide ((e::es).length+0+0<30))=true;rw [decide_eq_true @c];rfl
 intro pins s σ H Q I h;rwa[wpAny_Call_method_late (wm hb) F z rfl (bG (ho pins s σ H _ I h) λv Y ⟨x,H1,S,O,J⟩=> ?_)];obtain ⟨ty,J⟩:=wH J;obtain ⟨h1,h2⟩:=Dn S O ty;rwa[⟨T,id,pa,U,G,h1,h2,?_⟩];have L:=ha cpos pins Y σ H1 _ S J;rw [hs] at L ⊢;rwa[Calls.callWith_builtin (by show (false||(backTo cpos @z).any (·.1))=false;rw [j]<;>rfl) (Calls.evalArgs_plain ?_)];exact bG L λus s2 ⟨vs,H2,Z,r2,q2⟩=>W pins s2 σ H2 x vs v us Q Z O r2 q2
def Qs (K:Fg)(T:String)(r:V->List V->Hp->VK->Prop)(to:TE):TE:=λσ H Q=>to σ H λx H1=>Dj K T x H1 (r x [] H1 Q)
theorem C8 (R:X.K=K)(Y:PlainAttrs T)(U:Slot T name id)(G:typeOf (.builtin id)=pure (.type "method_descriptor"))(L:yv X id r)(S:PE X o to)
(W:gh o=true:=by rfl)(z:(apos.endLine==cpos.line)=true:=by rfl):PE X (.Call (.Attribute o name apos) [] [] cpos) (Qs K T r to):=by
 subst R;intro pins s σ H Q I h;rwa[wpAny_Call_method0_late (wm W) z (bG (S pins s σ H _ I h) λv O ⟨x,H1,F,j,J⟩=> ?_)];obtain ⟨ty,J⟩:=wH J;obtain ⟨h1,h2⟩:=Dn F j ty;exact ⟨T,id,Y,U,G,h1,h2,Calls.callWith_builtin rfl (PySem.evalArgs_none (L pins O σ H1 x [] v [] Q F j .nil J))⟩
def A3 (z y:Str):Int:=match Builtin.Str.occurrences z y 0 z.length 1 with|i::_=>(i:Int)|[]=> -1
def xx (K:Fg)(z:Str)(a:Addr)(H:Hp)(Q:VK):Prop:=∃ts:List Str,aA K H a @dd/\(ts.toArray.foldl (· + ·.length+z.length) 0)<=sizeLine/\(Builtin.Str.glued z ts).length<=sizeLine/\Q (.str @bV) H
def NJ (K:Fg):V->List V->Hp->VK->Prop:=λx xs H Q=>match x,xs with| .str z,[.ref a]=>xx K z a H Q|_,_=>False
theorem yC (O:X.K=K):yv X "str.join" (NJ K):=(Fd O).imp λx xs H Q h=>by
 match x,xs,h with
 | .str z,[.ref a],h=>obtain ⟨j,h1⟩:=h;exact ⟨z,a,j,rfl,rfl,h1⟩
def NM:V->List V->Hp->VK->Prop:=λx xs H Q=>match x,xs with| .int i,[]=>Q (.int (Builtin.Int.intBits i)) H|_,_=>False
theorem Dh:yv X "int.bit_length" NM:=IF.imp λx xs H Q h=>by
 match x,xs,h with
 | .int i,[],h=>exact ⟨i,rfl,rfl,h⟩
def Jq (a:Addr)(y:V)(H:Hp)(Q:VK):Prop:=∃xs,H a=some (.lst xs)/\xs.length<sizeLine/\Q .non (upd H a (.lst (xs++[y])))
def GP:V->List V->Hp->VK->Prop:=λx xs H Q=>match x,xs with| .ref a,[y]=>Jq a y H Q|_,_=>False
theorem iF:yv X "list.append" GP:=by
 intro pins s σ H x xs v j Q I G z h
 match x,xs,h with
 | .ref a,[y],h=>
   obtain ⟨ys,h1,h2,L⟩:=h;exact Cg pins s σ H _ _ v j Q I G z ⟨a,ys,y,rfl,rfl,h1,h2,L⟩
def Ju (K:Fg)(a:Addr)(H:Hp)(Q:VK):Prop:=∃bs:List Bool,aA K H a @bh/\Q (.bl (bs.all _root_.id)) H
def NP (K:Fg):List V->Hp->VK->Prop:=λxs H Q=>match xs with|[.ref a]=>Ju K a H Q|_=>False
theorem Nq (O:X.K=K)(I:X.calm=true):aW X (.builtin "all") (NP K):=(CT O I).imp λxs H Q h=>by
 match xs,h with
 |[.ref a],h=>obtain ⟨j,h1⟩:=h;exact ⟨a,j,rfl,h1⟩
def xu (K:Fg)(p:Addr)(H:Hp)(Q:VK):Prop:=∃ys,(aA K H p ys\/aC K H p ys)/\∀l,H l=none->Q (.ref l) @bS
def NH (K:Fg):List V->Hp->VK->Prop:=λxs H Q=>match xs with|[.ref a]=>xu K a H Q|_=>False
theorem iE (O:X.K=K):aW X (.type "list") (NH K):=(Aj O).imp λxs H Q h=>by
 match xs,h with
 |[.ref a],h=>obtain ⟨ys,h1⟩:=h;exact ⟨a,ys,rfl,h1⟩
def Dr (K:Fg)(p:Addr)(H:Hp)(Q:VK):Prop:=∃ys,(aA K H p ys/\∀l,H l=none->Q (.ref l) @cB)\/(aC K H p ys/\Q (.ref p) H)
def Ko (K:Fg):List V->Hp->VK->Prop:=λxs H Q=>match xs with|[.ref a]=>Dr K a H Q|_=>False
theorem dP (O:X.K=K):aW X (.type "tuple") (Ko K):=(xX O).imp λxs H Q h=>by
 match xs,h with
 |[.ref a],h=>obtain ⟨ys,h1⟩:=h;exact ⟨a,ys,rfl,h1⟩
def xz (K:Fg)(p:Addr)(H:Hp)(R:It->Hp->Prop):Prop:=(∃xs,aA K H p xs/\R (Gv K p) H)\/∃xs,aC K H p xs/\R (Gu K p) H
def Qc (K:Fg)(te:TE):TI:=λσ H R=>te σ H λx H1=>match x with| .str z=>R (Pt z) H1| .ref p=>xz K p H1 R|_=>False
end
theorem lY {X:Cx}{K:Fg}(W:X.K=K){tg e:Expr}{te:TE}(Y:PE X e te):PI X tg e (Qc K te):=by
 subst W;intro pins s σ H R I h;rwa[bG @dR λv L ⟨x,H1,F,O,q⟩=> ?_];have U:∀ {t:TE},True:=λ{_}=>trivial
 have J:((∃z,x= .str z/\R (Pt z) H1)\/(∃a,x= .ref a/\(∃xs,aA X.K H1 a xs)/\R (Gv X.K a) H1)\/(∃a,x= .ref a/\(∃xs,aC X.K H1 a xs)/\R (Gu X.K a) H1))->
  wpAny @d X.A (pyIter v) @ef X.xe L:=λq=>by
  rcases q with ⟨z,rfl,q⟩|⟨a,rfl,⟨xs,G⟩,q⟩|⟨a,rfl,⟨xs,G⟩,q⟩
  ·obtain ⟨t,rfl⟩:=O
   have fp:∀b∈[L.heap.objs.size],jd X pins H1 b:=λb j=>by
    have e:b=L.heap.objs.size:=by simpa using j
    subst e;exact F.fpOk @f @cq
   cases S:z.cps.all (· <128)
   ·exact wpAny_pyIter_wide S ⟨L.heap.objs.size,[L.heap.objs.size],_,_,H1,rfl,F.kept (t':=L.toks) λb o e=>Heap.get?_push_of_some _ e,tV (.inr rfl),⟨Nat.zero_le _,_,Heap.get?_push_size _ rfl,rfl,rfl⟩,fp,q⟩
   ·exact wpAny_pyIter_ascii S ⟨L.heap.objs.size,[L.heap.objs.size],_,_,H1,rfl,F.kept (t':=L.toks) λb o e=>Heap.get?_push_of_some _ e,tV (.inl rfl),⟨Nat.zero_le _,_,Heap.get?_push_size _ rfl,rfl,rfl⟩,fp,q⟩
  ·cases O;obtain ⟨its,Z,p,hz⟩:=F.list G;rwa[wpAny_pyIter_list p.isList ?_];rwa[⟨L.heap.objs.size,[L.heap.objs.size],_,_,H1,rfl,F.kept (t':=L.toks) λb o e=>Heap.get?_push_of_some _ e,Bp a _,⟨_,Heap.get?_push_size _ rfl,rfl,rfl⟩,λb j=> ?_,q⟩]
   have e:b=L.heap.objs.size:=by simpa using j
   subst e;exact F.fpOk @f @cq
  ·cases O;obtain ⟨its,Z,p,hz⟩:=F.tuple G;rwa[wpAny_pyIter_tuple (show L.heap.IsTuple a its.toArray from p) ?_];rwa[⟨L.heap.objs.size,[L.heap.objs.size],_,_,H1,rfl,F.kept (t':=L.toks) λb o e=>Heap.get?_push_of_some _ e,yF a _,⟨_,Heap.get?_push_size _ rfl,rfl,rfl⟩,λb j=> ?_,q⟩]
   have e:b=L.heap.objs.size:=by simpa using j
   subst e;exact F.fpOk @f @cq
 cases x with
 |str z=>exact J (.inl ⟨z,rfl,q⟩)
 |ref p=>
  rcases q with ⟨xs,h1,h2⟩|⟨xs,h1,h2⟩
  ·exact J (.inr (.inl ⟨p,rfl,⟨xs,h1⟩,h2⟩))
  ·exact J (.inr (.inr ⟨p,rfl,⟨xs,h1⟩,h2⟩))
 |_=>exact False.elim q
section
variable {X:Cx}{tg:Expr}
def Nz (ta:TA):TI:=λσ H R=>ta σ H λvs H1=>match vs with|[.int j]=>(-4611686018427387904<=j/\j<4611686018427387904)/\R (GF 0 j.toNat) H1|_=>False
def Ny (ta:TA):TI:=λσ H R=>ta σ H λvs H1=>match vs with|[.int i,.int j]=>(-4611686018427387904<=i/\i<4611686018427387904/\ -4611686018427387904<=j/\j<4611686018427387904)/\R (GF i (j - i).toNat) H1|_=>False
theorem bE {a:Expr}{ta:TA}{p pos:Pos}(W:Gl X "range")(F:X.mg "range"=none)(z:PA X [a] ta)(hs:bx a=true:=by rfl):PI X tg (.Call (.Name "range" p) [a] [] pos) (Nz ta):=by
 intro pins s σ H R I h;rwa[Call_ (gW I W F boot_range (PyProof.Rows.callWith_type1 (bG (z pos pins s σ H _ I h) λU S ⟨O,H1,G,L,J⟩=> ?_) (aQ hs) rfl))]
 match O,J with
 |[.int j],J=>
  cases L with
  |cons r rr=>
   cases rr;obtain ⟨t,rfl⟩:=r;have h1: -4611686018427387904<=j:=J.1.1;have h2:j<4611686018427387904:=J.1.2;exact call_range_1 (xk G @c @c @c @c (by simpa using J.2))
theorem Bn {a b:Expr}{ta:TA}{p pos:Pos}(W:Gl X "range")(F:X.mg "range"=none)(G:PA X [a,b] ta)(hs:bx a=true:=by rfl)(z:bx b=true:=by rfl):
 PI X tg (.Call (.Name "range" p) [a,b] [] pos) (Ny ta):=by
 intro pins s σ H R I h;rwa[Call_ (gW I W F boot_range (PyProof.Rows.callWith_type1 (bG (G pos pins s σ H _ I h) λY U ⟨S,H1,L,O,J⟩=> ?_) (aQ hs) (bF (by show (bx b&&true)=true;rw [z];rfl))))]
 match S,J with
 |[.int i,.int j],J=>
  cases O with
  |cons r rr=>
   cases rr with
   |cons r' rr=>
    cases rr;obtain ⟨t,rfl⟩:=r;obtain ⟨Z,rfl⟩:=r';obtain ⟨⟨h1,h2,h3,h4⟩,q⟩:=J;exact call_range_2 (xk L @c @c @c @c q)
def setL (p:Addr)(k:Int)(v:V)(H:Hp)(Q:Hp->Prop):Prop:=∃xs j,H p=some (.lst xs)/\yt xs.length k=some j/\Q @bw
def Qb:V->V->V->Hp->(Hp->Prop)->Prop:=λo i v H Q=>match o,i with| .ref p,.int k=>setL p k v H Q|_,_=>False
theorem nO:Gp X Qb:=by
 intro pins s σ H o i v O z u Q I F G J h
 match o,i,h with
 | .ref p,.int k,h=>
   obtain ⟨xs,j,h1,h2,L⟩:=h;exact DL pins s σ H _ _ v O z u Q I F G J ⟨p,xs,k,j,rfl,rfl,h1,h2,L⟩
def Bo (K:Fg)(n:Nat)(a:Addr)(H:Hp)(P:List V->Prop):Prop:=∃xs,aC K H a xs/\xs.length=n/\P xs
def P9 (K:Fg)(n:Nat)(t:Bj):TG:=λv σ H Q=>match v with| .ref a=>Bo K n a H λxs=>t xs σ H Q|_=>False
def yz (t:TG)(u:Bj):Bj:=λvs σ H Q=>match vs with|v::r=>t v σ H λσ' H'=>u r σ' H' Q|[]=>False
def Jz:Bj:=λvs σ H Q=>match vs with|[]=>Q σ H|_=>False
theorem de:CW X [] Jz:=λpins s σ H R j Q I r h=>by
 match R,h with
 |[],h=>exact Hr pins s σ H [] j Q I r ⟨rfl,h⟩
theorem aF {e:Expr}{es:List Expr}{t:TG}{u:Bj}(h1:PG X e t)(h2:CW X es u)(hs:bx e=true:=by rfl):CW X (e::es) (yz t u):=λpins s σ H R j Q I r h=>by
 match R,h with
 |v::vr,h=>exact Er h1 h2 (by cases e<;>first|rfl|cases hs) pins s σ H _ j Q I r ⟨v,vr,rfl,h⟩
theorem eS {K:Fg}(O:X.K=K){es:List Expr}{k:Nat}{t:Bj}{n:Nat}{pos:Pos}(F:X.calm=true)(h:CW X es t)
(z:(assignEach es X.env).length=n:=by rfl)(j:(assignEach es X.env).findIdx? (·.1)=none:=by rfl):PG X (.Tuple es k pos) (P9 K n t):=λpins s σ H v u Q I r q=>by
 match v,q with
 | .ref a,⟨xs,h1,h2,h3⟩=>exact Ht O F h z j pins s σ H _ u Q I r ⟨a,xs,rfl,h1,h2,h3⟩
end
def JI (pk:List @y)(wi:TI)(g:TG)(tt:TT)(te:TE):TE:=λσ H Q=>wi σ H λJ H1=>rA J pk g tt te σ H1 Q
def Qq (wi:TI)(g:TG)(tb:TS):TS:=λD σ H=>wi σ H λJ H1=>Af J g tb D σ H1
section
variable {X:Cx}{scope:Scope}{N':List Str}{pk:List @y}{tg elt iter:Expr}{ifs:List Expr}{pos:Pos}{wi:TI}{g:TG}{tt:TT}{te:TE}
def vI:Expr->Bool
 | .Set _ _ _=>false
 |_=>true
theorem iY {e:Expr}{env:Env}(h:vI e=true)(x:Value):foldedSetIterable e env x=pure x:=by
 unfold foldedSetIterable
 cases e<;>first|rfl|cases h
theorem bb (I:X.calm=true)(S:cK X scope N' pk)(hi:PI X tg iter wi)(W:∀C s H ex,PG @m tg g)(J:∀C s H ex,GE @m ifs tt)
(U:∀C s H ex,PE @m elt te)(hs:vI iter=true:=by rfl):PE X (.ListComp elt [⟨tg,iter,ifs,0⟩] scope pos) (JI pk wi g tt te):=
 Hx I S hi W J U (iY hs)
theorem gE {i:Nat}{x:Str}{G j:Pos}(I:X.calm=true)(z:X.N.Nodup)(L:X.N[i]? =some x)(O:J0 X.env.scope x)(S:cK X scope N' pk)(hi:PI X tg iter wi)(W:∀C s H ex,PG @m tg g)
(J:∀C s H ex,GE @m ifs tt)(U:∀C s H ex,PE @m elt te)(hs:vI iter=true:=by rfl)
(aa:swapsWith (.ListComp elt [⟨tg,iter,ifs,0⟩] scope pos) (some (.Name x G)) j.line X.env=pure true:=by rfl)(F:X.fn x=true\/X.env.scope.names.lookup x=some .local:=by first|exact .inl rfl|exact .inr rfl|assumption):
 PS X (.Assign [.Name x G] (.ListComp elt [⟨tg,iter,ifs,0⟩] scope pos) j) (Dw (JI pk wi g tt te) (jK i)):=
 Hl I z L O S hi W J U (iY hs) aa F
theorem cm {S:List Stmt}{tb:TS}(G:PassesOwn @d X.A X.env X.xe)(I:X.calm=true)(hi:PI X tg iter wi)(W:PG X tg g)(F:tH X S tb)
(hs:vI iter=true:=by rfl):PS X (.For tg iter S [] pos) (Qq wi g tb):=Ld G I hi W F (iY hs)
end
def GR (t u:TS):TS:=λD σ H=>∃M:St->Hp->Prop,t {D with nx:=M} σ H/\∀σ' H',M σ' H'->u D σ' H'
theorem fA {X:Cx}{st:Stmt}{dJ:List Stmt}{t u:TS}(h1:PS X st t)(h2:tH X dJ u):tH X (st::dJ) (GR t u):=by
 intro pins s σ H D I h;obtain ⟨M,J,z⟩:=h;rwa[wpAny_execs_cons (bG (h1 pins s σ H {D with nx:=M} I J) λf L q=> ?_)]
 cases f with
 |next=>
  obtain ⟨j,H',F,q⟩:=q;exact h2 pins L j H' D F (z j H' q)
 |ret v=>exact q
 |brk=>exact q
 |cont=>exact q
theorem xR {t u:TS}{D:oQ}{σ:St}{H:Hp}(M:St->Hp->Prop)(h1:t {D with nx:=M} σ H)(h2:∀σ' H',M σ' H'->u D σ' H'):GR t u D σ H:=⟨M,h1,h2⟩
section
variable {K:Fg}{H:Hp}{p q:Addr}{xs ys:List V}{Q:VK}
theorem b6 (h:aA K H p ys)(g:Q (.int ys.length) H):iL K p H Q:=⟨ys,.inl h,g⟩
theorem cI (h:aC K H p ys)(g:Q (.int ys.length) H):iL K p H Q:=⟨ys,.inr h,g⟩
theorem aN {i:Int}{v:V}(h:aA K H p xs)(e:lU xs i=some v)(g:Q v H):iM K p i H Q:=⟨xs,.inl h,v,e,g⟩
theorem ag {i:Int}{v:V}(h:aC K H p xs)(e:lU xs i=some v)(g:Q v H):iM K p i H Q:=⟨xs,.inr h,v,e,g⟩
theorem u8 {z:Str}{i:Int}{c:Nat}(F:z.length<=sizeLine)(e:lU z.cps.toList i=some c)(g:Q (.str ⟨#[c]⟩) H):u9 z i H Q:=⟨F,c,e,g⟩
theorem yY {x:V}(h:aA K H p xs)(h1:c6 x=true)(h2:xs.all c6=true)(g:Q (.bl (yu x xs)) H):ua K false x p H Q:=⟨xs,.inl h,h1,h2,g⟩
theorem tZ {x:V}(h:aA K H p xs)(h1:c6 x=true)(h2:xs.all c6=true)(g:Q (.bl (!yu x xs)) H):ua K true x p H Q:=⟨xs,.inl h,h1,h2,g⟩
theorem Bv {x:V}(h:aC K H p xs)(h1:c6 x=true)(h2:xs.all c6=true)(g:Q (.bl (!yu x xs)) H):ua K true x p H Q:=⟨xs,.inr h,h1,h2,g⟩
theorem Mo {x:Str}{n:Int}(e:PySem.intText? x=some n)(W:x.length<=640)(g:Q (.int n) H):AZ x H Q:=⟨n,e,W,g⟩
theorem G3 {R:Bool->Hp->Prop}(h:aA K H p xs)(g:R (!xs.isEmpty) H):qd K p H R:= .inl ⟨xs,.inl h,g⟩
theorem KR {lo hi:Option Int}(h:aA K H p xs)(g:∀l,H l=none->Q (.ref l) (upd H l (.lst @bt))):nQ K p lo hi H Q:= .inl ⟨xs,h,g⟩
theorem KQ {lo hi:Option Int}(h:aC K H p xs)(z: ¬(HT.sIx xs.length 0 lo=0/\HT.sIx xs.length xs.length hi=xs.length))(g:∀l,H l=none->Q (.ref l) (upd H l (.tup @bt))):nQ K p lo hi H Q:= .inr ⟨xs,h,z,g⟩
theorem Fs {z:Str}{ts:List Str}(h:aA K H p @dd)(h1:(ts.toArray.foldl (· + ·.length+z.length) 0)<=sizeLine)(h2:(Builtin.Str.glued z ts).length<=sizeLine)(g:Q (.str @bV) H):xx K z p H Q:=⟨ts,h,h1,h2,g⟩
theorem gB {y:V}(h:H p=some (.lst xs))(F:xs.length<sizeLine)(g:Q .non (upd H p (.lst (xs++[y])))):Jq p y H Q:=⟨xs,h,F,g⟩
theorem Pd {bs:List Bool}(h:aA K H p @bh)(g:Q (.bl @fU) H):Ju K p H Q:=⟨bs,h,g⟩
theorem NV (h:aA K H p ys)(g:∀l,H l=none->Q (.ref l) @cB):Dr K p H Q:=⟨ys,.inl ⟨h,g⟩⟩
theorem bK {R:It->Hp->Prop}(h:aA K H p xs)(g:R (Gv K p) H):xz K p H R:= .inl ⟨xs,h,g⟩
theorem fg {R:It->Hp->Prop}(h:aC K H p xs)(g:R (Gu K p) H):xz K p H R:= .inr ⟨xs,h,g⟩
theorem nW {k:Int}{j:Nat}{v:V}{R:Hp->Prop}(h:H p=some (.lst xs))(Z:yt xs.length k=some j)(g:R @bw):setL p k v H R:=⟨xs,j,h,Z,g⟩
theorem kz {n:Nat}{P:List V->Prop}(h:aC K H p xs)(W:xs.length=n)(g:P xs):Bo K n p H P:=⟨xs,h,W,g⟩
end
theorem cZ {i j:Int}(h1: -18446744073709551616<i)(h2:i<18446744073709551616):wu i j:= .inl ⟨h1,h2⟩
theorem hV {i j:Int}(h1: -18446744073709551616<j)(h2:j<18446744073709551616):wu i j:= .inr ⟨h1,h2⟩
theorem JW {i j:Int}(h1:0<j)(h2:j<1073741824):C1 i j:=⟨h1,h2⟩
theorem xS {i j:Int}(h1:0<=j)(h2:j<=1000000)(L:i.natAbs<18446744073709551616):As i j:=⟨h1,h2,L⟩
theorem gq (x:Str):x.cps.toList.length=x.length:=by simp [Str.length]
theorem DJ {n:Nat}(h:n<=640):n<=sizeLine:=by rw [sizeLine_eq];lia
theorem AJ {n:Nat}(h:n<=9000):n<sizeLine:=by rw [sizeLine_eq];lia
def Rl (K:Fg)(H:Hp)(a:Addr)(ns:List Int):Prop:=aA K H a @bz/\ns.length<=63
inductive D where
 |non|bl (b:Bool)|int (i:Int)|str (x:Str)|lst (ds:List D)|tup (ds:List D)
mutual
def tm:D->D->Bool
 | .non,.non=>true
 | .bl a,.bl b=>a==b
 | .bl a,.int b=>(if a then 1 else 0)==b
 | .int a,.bl b=>a==(if b then 1 else 0)
 | .int a,.int b=>a==b
 | .str a,.str b=>a==b
 | .lst xs,.lst ys=>eqDs xs ys
 | .tup xs,.tup ys=>eqDs xs ys
 |_,_=>false
def eqDs:List D->List D->Bool
 |[],[]=>true
 |x::xs,y::ys=>tm x y&&eqDs xs ys
 |_,_=>false
end
mutual
theorem lF:∀d:D,tm d d=true
 | .non=>rfl
 | .bl a=>by simp [tm]
 | .int a=>by simp [tm]
 | .str a=>by simp [tm]
 | .lst xs=>by rw [tm];exact eqDs_refl xs
 | .tup xs=>by rw [tm];exact eqDs_refl xs
theorem eqDs_refl:∀ds:List D,eqDs ds ds=true
 |[]=>rfl
 |d::ds=>by rw [eqDs,lF d,eqDs_refl ds];rfl
end
theorem fh:∀ {xs ys:List D},xs.length≠ys.length->eqDs xs ys=false
 |[],[],h=>absurd rfl h
 |[],_::_,_=>by simp [eqDs]
 |_::_,[],_=>by simp [eqDs]
 |x::xs,y::ys,h=>by
  rw [eqDs,fh (xs:=xs) (ys:=ys) (by simpa using h),Bool.and_false]
theorem fj:∀ {xs ys:List D},xs.length=ys.length->((List.range xs.length).all λj=>tm (xs.getD j .non) (ys.getD j .non))=eqDs xs ys
 |[],[],_=>rfl
 |[],_::_,h=>by simp at h
 |_::_,[],h=>by simp at h
 |x::xs,y::ys,h=>by
  have z:=fj (xs:=xs) (ys:=ys) (by simpa using h);rw [eqDs,<-z,length_cons,range_succ_eq_map,all_cons,all_map];rfl
inductive bH (K:Fg)(H:Hp):V->D->Prop
 |non:bH K H .non .non
 |bl (b:Bool):bH K H (.bl b) (.bl b)
 |int (i:Int):bH K H (.int i) (.int i)
 |str (x:Str):bH K H (.str x) (.str x)
 |lst {a:Addr} {xs:List V} {ds:List D} (h:aA K H a xs) (hl:xs.length=ds.length) (hi:∀(i:Nat) x d,xs[i]? =some x->ds[i]? =some d->bH K H x d):bH K H (.ref a) (.lst ds)
 |tup {a:Addr} {xs:List V} {ds:List D} (h:aC K H a xs) (hl:xs.length=ds.length) (hi:∀(i:Nat) x d,xs[i]? =some x->ds[i]? =some d->bH K H x d):bH K H (.ref a) (.tup ds)
mutual
def rf:D->Nat
 | .lst ds=>deps ds+1
 | .tup ds=>deps ds+1
 |_=>0
def deps:List D->Nat
 |[]=>0
 |d::ds=>max (rf d) (deps ds)
end
theorem ko:∀ {ds:List D} {i:Nat} {d:D},ds[i]? =some d->rf d<=deps ds
 |[],_,_,h=>by simp at h
 |d::ds,0,_,h=>by simp at h;subst h;rw [deps];exact Nat.le_max_left _ _
 |d::ds,i+1,e,h=>by
  have:=ko (ds:=ds) (i:=i) (d:=e) (by simpa using h);rw [deps];exact Nat.le_trans this (Nat.le_max_right _ _)
section
variable {X:Cx}{pins:List (Addr×Obj)}{σ:St}{H:Hp}{s:Shared}
theorem xp {a:Addr}{xs ys:List V}(I:av X pins σ H s)(h:aA X.K H a xs)(h':aC X.K H a ys):False:=by
 obtain ⟨its,_,p,_⟩:=I.list h;obtain ⟨F,_,p2,_⟩:=I.tuple h';obtain ⟨o,e,c,_⟩:=p.isList;obtain ⟨o',j,z,_⟩:=p2;rw [e] at j;cases j;rw [c] at z;injection z with c2;exact absurd c2 @b
theorem bH.inj (I:av X pins σ H s){x:V}{d e:D}(h:bH X.K H x d)(h':bH X.K H x e):d=e:=by
 induction h generalizing e with
 |non=>cases h';rfl
 |bl b=>cases h';rfl
 |int i=>cases h';rfl
 |str z=>cases h';rfl
 | @lst a xs ds hq hl hi ih=>
   cases h' with
   | @lst _ ys es hq' hl' hi'=>
     have j:=I.list_inj hq hq';subst j;congr 1;rwa[ext_getElem @c λi h1 h2=> ?_];exact ih i xs[i] _ @e (by simp [h1]) (hi' i xs[i] _ @e (by simp [h2]))
   |tup hq' _ _=>exact (xp I hq hq').elim
 | @tup a xs ds hq hl hi ih=>
   cases h' with
   | @tup _ ys es hq' hl' hi'=>
     have j:=I.tuple_inj hq hq';subst j;congr 1;rwa[ext_getElem @c λi h1 h2=> ?_];exact ih i xs[i] _ @e (by simp [h1]) (hi' i xs[i] _ @e (by simp [h2]))
   |lst hq' _ _=>exact (xp I hq' hq).elim
open PySem.SeqAt in
theorem lG (I:av X pins σ H s){x:V}{d:D}(h:bH X.K H x d):∀ {y:V} {e:D} {u v:Value} {A:Around},bH X.K H y e->aE x u->aE y v->A.units+rf d<cLine->EqAt A s u v (tm d e):=by
 have F:∀ {x y:V} {u v:Value} {A:Around},c6 x=true->c6 y=true->aE x u->aE y v->EqAt A s u v (Je x y):=λf1 f2 Y Z=>FQ Y Z f1 f2
 induction h with
 |non=>
  intro y e u v A U L G hu
  cases U with
  |non=>exact F (x:= .non) (y:= .non) rfl rfl L G
  |bl b=>exact F (x:= .non) (y:= .bl b) rfl rfl L G
  |int i=>exact F (x:= .non) (y:= .int i) rfl rfl L G
  |str z=>exact F (x:= .non) (y:= .str z) rfl rfl L G
  |lst hq _ _=>cases L;cases G;obtain ⟨_,_,p,_⟩:=I.list hq;exact EqAt.none_list p.isList @c
  |tup hq _ _=>cases L;cases G;obtain ⟨_,_,p,_⟩:=I.tuple hq;exact EqAt.none_tuple p @c
 |bl b=>
  intro y e u v A U L G hu
  cases U with
  |non=>exact F (x:= .bl b) (y:= .non) rfl rfl L G
  |bl c=>exact F (x:= .bl b) (y:= .bl c) rfl rfl L G
  |int i=>exact F (x:= .bl b) (y:= .int i) rfl rfl L G
  |str z=>exact F (x:= .bl b) (y:= .str z) rfl rfl L G
  |lst hq _ _=>cases L;cases G;obtain ⟨_,_,p,_⟩:=I.list hq;exact EqAt.bool_list b p.isList @c
  |tup hq _ _=>cases L;cases G;obtain ⟨_,_,p,_⟩:=I.tuple hq;exact EqAt.bool_tuple b p @c
 |int i=>
  intro y e u v A U L G hu
  cases U with
  |non=>exact F (x:= .int i) (y:= .non) rfl rfl L G
  |bl c=>exact F (x:= .int i) (y:= .bl c) rfl rfl L G
  |int j=>exact F (x:= .int i) (y:= .int j) rfl rfl L G
  |str z=>exact F (x:= .int i) (y:= .str z) rfl rfl L G
  |lst hq _ _=>obtain ⟨t,rfl⟩:=L;cases G;obtain ⟨_,_,p,_⟩:=I.list hq;exact EqAt.int_list i t p.isList @c
  |tup hq _ _=>obtain ⟨t,rfl⟩:=L;cases G;obtain ⟨_,_,p,_⟩:=I.tuple hq;exact EqAt.int_tuple i t p @c
 |str z=>
  intro y e u v A U L G hu
  cases U with
  |non=>exact F (x:= .str z) (y:= .non) rfl rfl L G
  |bl c=>exact F (x:= .str z) (y:= .bl c) rfl rfl L G
  |int j=>exact F (x:= .str z) (y:= .int j) rfl rfl L G
  |str z'=>exact F (x:= .str z) (y:= .str z') rfl rfl L G
  |lst hq _ _=>obtain ⟨t,rfl⟩:=L;cases G;obtain ⟨_,_,p,_⟩:=I.list hq;exact EqAt.str_list z t p.isList @c
  |tup hq _ _=>obtain ⟨t,rfl⟩:=L;cases G;obtain ⟨_,_,p,_⟩:=I.tuple hq;exact EqAt.str_tuple z t p @c
 | @lst a xs ds hq hl hi ih=>
   intro y e u v A U L G hu
   have aa:rf (.lst ds)=deps ds+1:=by rw [rf]
   cases L
   obtain ⟨its,Y,S,z1⟩:=I.list hq
   cases U with
   |non=>cases G;exact EqAt.list_none S.isList @c
   |bl b=>cases G;exact EqAt.list_bool b S.isList @c
   |int j=>obtain ⟨t,rfl⟩:=G;exact EqAt.list_int j t S.isList @c
   |str z=>obtain ⟨t,rfl⟩:=G;exact EqAt.list_str z t S.isList @c
   | @lst b ys es hq' hl' hi'=>
     cases G
     by_cases R:a=b
     ·subst R
      have e:=bH.inj I (.lst hq hl hi) (.lst hq' hl' hi')
      rw [<-e,lF]
      exact EqAt.same _
     obtain ⟨J,Z,p2,z2⟩:=I.list hq'
     rw [tm]
     have l1:=Y.length
     have l2:=Z.length
     by_cases O:ds.length=es.length
     ·rw [<-fj O]
      have ac:ds.length=its.toArray.size:=by rw [size_toArray];lia
      rw [ac]
      rwa[EqAt.of_refs R (RcAt.lists S.isList p2.isList (by simp only [size_toArray];lia) @c λj h1 h2=> ?_)]
      have j1:j<xs.length:=by rw [size_toArray] at h1;lia
      have j2:j<ys.length:=by rw [size_toArray] at h2;lia
      obtain ⟨w1,W,q1⟩:=Y.get (i:=j) (x:=xs[j]) @e
      obtain ⟨w2,e2,q2⟩:=Z.get (i:=j) (x:=ys[j]) @e
      have k1:its.toArray[j]=w1:=by
       have:its[j]? =some its.toArray[j]:=by simp
       rw [this] at W;exact Option.some.inj W
      have k2:J.toArray[j]=w2:=by
       have:J[j]? =some J.toArray[j]:=by simp
       rw [this] at e2;exact Option.some.inj e2
      rw [k1,k2]
      have d1:ds[j]? =some @bi:=by simp [List.getD,getElem?_eq_getElem (show j<ds.length by lia)]
      have d2:es[j]? =some @bj:=by simp [List.getD,getElem?_eq_getElem (show j<es.length by lia)]
      have ab:=ko d1
      rwa[ih j xs[j] _ @e d1 (hi' j ys[j] _ @e d2) q1 q2 ?_]
      have:A.in1.units=A.units+1:=rfl
      lia
     ·rw [fh O]
      exact EqAt.of_refs R (RcAt.lists_lengths S.isList p2.isList (by simp only [size_toArray];rw [bne_iff_ne];lia) @c)
   |tup hq' _ _=>cases G;obtain ⟨_,_,p2,_⟩:=I.tuple hq';exact EqAt.list_tuple S.isList p2 @c
 | @tup a xs ds hq hl hi ih=>
   intro y e u v A U L G hu
   have aa:rf (.tup ds)=deps ds+1:=by rw [rf]
   cases L
   obtain ⟨its,Y,S,z1⟩:=I.tuple hq
   cases U with
   |non=>cases G;exact EqAt.tuple_none S @c
   |bl b=>cases G;exact EqAt.tuple_bool b S @c
   |int j=>obtain ⟨t,rfl⟩:=G;exact EqAt.tuple_int j t S @c
   |str z=>obtain ⟨t,rfl⟩:=G;exact EqAt.tuple_str z t S @c
   |lst hq' _ _=>cases G;obtain ⟨_,_,p2,_⟩:=I.list hq';exact EqAt.tuple_list S p2.isList @c
   | @tup b ys es hq' hl' hi'=>
     cases G
     by_cases R:a=b
     ·subst R
      have e:=bH.inj I (.tup hq hl hi) (.tup hq' hl' hi')
      rw [<-e,lF]
      exact EqAt.same _
     obtain ⟨J,Z,p2,z2⟩:=I.tuple hq'
     rw [tm]
     have l1:=Y.length
     have l2:=Z.length
     have ad:eqDs ds es=((List.range @bM).all @ei&&its.toArray.size==J.toArray.size):=by
      by_cases O:ds.length=es.length
      ·have W:its.toArray.size=ds.length:=by rw [size_toArray];lia
       have e2:J.toArray.size=ds.length:=by rw [size_toArray];lia
       rw [W,e2,Nat.min_self,fj O];simp
      ·rw [fh O]
       have:(its.toArray.size==J.toArray.size)=false:=beq_eq_false_iff_ne.mpr (by simp only [size_toArray];lia)
       rw [this,Bool.and_false]
     rw [ad]
     rwa[EqAt.of_refs R (RcAt.tuples S p2 @c λj h1 h2=> ?_)]
     have j1:j<xs.length:=by rw [size_toArray] at h1;lia
     have j2:j<ys.length:=by rw [size_toArray] at h2;lia
     obtain ⟨w1,W,q1⟩:=Y.get (i:=j) (x:=xs[j]) @e
     obtain ⟨w2,e2,q2⟩:=Z.get (i:=j) (x:=ys[j]) @e
     have k1:its.toArray[j]=w1:=by
      have:its[j]? =some its.toArray[j]:=by simp
      rw [this] at W;exact Option.some.inj W
     have k2:J.toArray[j]=w2:=by
      have:J[j]? =some J.toArray[j]:=by simp
      rw [this] at e2;exact Option.some.inj e2
     rw [k1,k2]
     have d1:ds[j]? =some @bi:=by simp [List.getD,getElem?_eq_getElem (show j<ds.length by lia)]
     have d2:es[j]? =some @bj:=by simp [List.getD,getElem?_eq_getElem (show j<es.length by lia)]
     have ab:=ko d1
     rwa[ih j xs[j] _ @e d1 (hi' j ys[j] _ @e d2) q1 q2 ?_]
     have:A.in1.units=A.units+1:=rfl
     lia
end
def xN (K:Fg)(x y:V)(H:Hp)(P:Bool->Prop):Prop:=∃d e,bH K H x d/\bH K H y e/\rf d<=60/\P (tm d e)
theorem FP {K:Fg}{x y:V}{H:Hp}{P:Bool->Prop}{d:D}(h1:bH K H x d)(h2:bH K H y d)(J:rf d<=60)(g:P true):xN K x y H P:=⟨d,d,h1,h2,J,by rw [lF];exact g⟩
def NL (K:Fg):R2:=λx y H Q=>match OX x y with|some b=>Q (.bl b) H|none=>xN K x y H λb=>Q (.bl b) H
def NB (K:Fg):R2:=λx y H Q=>match OX x y with|some b=>Q (.bl (!b)) H|none=>xN K x y H λb=>Q (.bl (!b)) H
section
variable {X:Cx}{K:Fg}{m:Nat}
theorem wK {d:D}(S:bT m X.A)(J:rf d<=60):X.A.units+rf d<cLine:=by have:=S.un;lia
open PySem.SeqAt in
theorem tS (hK:X.K=K)(hr:bT m X.A):cU X (compareOp .Eq) (NL K):=by
 subst hK
 intro pins s σ H x y v u Q I R L h
 unfold NL at h
 cases e:OX x y with
 |some b=>
  rw [e] at h
  obtain ⟨h1,h2⟩:=FO e
  exact Ox pins s σ H x y v u Q I R L ⟨h1,by rw [h2];exact h⟩
 |none=>
  rw [e] at h
  obtain ⟨d,e',h1,h2,hd,q⟩:=h
  have F:EP X pins σ Q (.bool (tm d e')) s:=⟨.bl _,H,I,rfl,q⟩
  have hu:=wK (X:=X) hr hd
  have G:X.A.units<cLine:=by lia
  cases h1 with
  | @lst a xs ds hq hl hi=>
    have D1:bH X.K H (.ref a) (.lst ds):= .lst hq hl hi
    cases R
    obtain ⟨its,Z,S,z1⟩:=I.list hq
    cases h2 with
    |non=>cases L;exact RcAt.list_none S.isList G _ _ _ _ F
    |bl b=>cases L;exact RcAt.list_bool b S.isList G _ _ _ _ F
    |int j=>obtain ⟨t,rfl⟩:=L;exact RcAt.list_int j t S.isList G _ _ _ _ F
    |str z=>obtain ⟨t,rfl⟩:=L;exact RcAt.list_str z t S.isList G _ _ _ _ F
    |tup hq' _ _=>cases L;obtain ⟨_,_,p2,_⟩:=I.tuple hq';exact RcAt.list_tuple S.isList p2 G _ _ _ _ F
    | @lst b ys es hq' hl' hi'=>
      cases L
      obtain ⟨J,r2,p2,z2⟩:=I.list hq'
      have aa:rf (.lst ds)=deps ds+1:=by rw [rf]
      rw [tm] at F
      have l1:=Z.length
      have l2:=r2.length
      by_cases O:ds.length=es.length
      ·rw [<-fj O,show ds.length=its.toArray.size by rw [size_toArray];lia] at F
       rwa[RcAt.lists S.isList p2.isList (by simp only [size_toArray];lia) G @cT _ _ _ _ F]
       have j1:j<xs.length:=by rw [size_toArray] at g1;lia
       have j2:j<ys.length:=by rw [size_toArray] at g2;lia
       obtain ⟨w1,U,q1⟩:=Z.get (i:=j) (x:=xs[j]) @e
       obtain ⟨w2,W,q2⟩:=r2.get (i:=j) (x:=ys[j]) @e
       have k1:its.toArray[j]=w1:=by
        have:its[j]? =some its.toArray[j]:=by simp
        rw [this] at U;exact Option.some.inj U
       have k2:J.toArray[j]=w2:=by
        have:J[j]? =some J.toArray[j]:=by simp
        rw [this] at W;exact Option.some.inj W
       rw [k1,k2]
       have Y:ds[j]? =some @bi:=by simp [List.getD,getElem?_eq_getElem (show j<ds.length by lia)]
       have d2:es[j]? =some @bj:=by simp [List.getD,getElem?_eq_getElem (show j<es.length by lia)]
       have ab:=ko Y
       rwa[lG I (hi j xs[j] _ @e Y) (hi' j ys[j] _ @e d2) q1 q2 ?_]
       have:X.A.in1.units=X.A.units+1:=rfl
       lia
      ·rw [fh O] at F
       exact RcAt.lists_lengths S.isList p2.isList (by simp only [size_toArray];rw [bne_iff_ne];lia) G _ _ _ _ F
  | @tup a xs ds hq hl hi=>
    cases R
    obtain ⟨its,Z,S,z1⟩:=I.tuple hq
    cases h2 with
    |non=>cases L;exact RcAt.tuple_none S G _ _ _ _ F
    |bl b=>cases L;exact RcAt.tuple_bool b S G _ _ _ _ F
    |int j=>obtain ⟨t,rfl⟩:=L;exact RcAt.tuple_int j t S G _ _ _ _ F
    |str z=>obtain ⟨t,rfl⟩:=L;exact RcAt.tuple_str z t S G _ _ _ _ F
    |lst hq' _ _=>cases L;obtain ⟨_,_,p2,_⟩:=I.list hq';exact RcAt.tuple_list S p2.isList G _ _ _ _ F
    | @tup b ys es hq' hl' hi'=>
      cases L
      obtain ⟨J,r2,p2,z2⟩:=I.tuple hq'
      have aa:rf (.tup ds)=deps ds+1:=by rw [rf]
      rw [tm] at F
      have l1:=Z.length
      have l2:=r2.length
      have ad:eqDs ds es=((List.range @bM).all @ei&&its.toArray.size==J.toArray.size):=by
       by_cases O:ds.length=es.length
       ·have U:its.toArray.size=ds.length:=by rw [size_toArray];lia
        have W:J.toArray.size=ds.length:=by rw [size_toArray];lia
        rw [U,W,Nat.min_self,fj O];simp
       ·rw [fh O]
        have:(its.toArray.size==J.toArray.size)=false:=beq_eq_false_iff_ne.mpr (by simp only [size_toArray];lia)
        rw [this,Bool.and_false]
      rw [ad] at F
      rwa[RcAt.tuples S p2 G @cT _ _ _ _ F]
      have j1:j<xs.length:=by rw [size_toArray] at g1;lia
      have j2:j<ys.length:=by rw [size_toArray] at g2;lia
      obtain ⟨w1,U,q1⟩:=Z.get (i:=j) (x:=xs[j]) @e
      obtain ⟨w2,W,q2⟩:=r2.get (i:=j) (x:=ys[j]) @e
      have k1:its.toArray[j]=w1:=by
       have:its[j]? =some its.toArray[j]:=by simp
       rw [this] at U;exact Option.some.inj U
      have k2:J.toArray[j]=w2:=by
       have:J[j]? =some J.toArray[j]:=by simp
       rw [this] at W;exact Option.some.inj W
      rw [k1,k2]
      have Y:ds[j]? =some @bi:=by simp [List.getD,getElem?_eq_getElem (show j<ds.length by lia)]
      have d2:es[j]? =some @bj:=by simp [List.getD,getElem?_eq_getElem (show j<es.length by lia)]
      have ab:=ko Y
      rwa[lG I (hi j xs[j] _ @e Y) (hi' j ys[j] _ @e d2) q1 q2 ?_]
      have:X.A.in1.units=X.A.units+1:=rfl
      lia
  |non=>cases h2 with
   |lst hq _ _=>cases R;cases L;obtain ⟨_,_,p,_⟩:=I.list hq;exact RcAt.none_list p.isList G _ _ _ _ F
   |tup hq _ _=>cases R;cases L;obtain ⟨_,_,p,_⟩:=I.tuple hq;exact RcAt.none_tuple p G _ _ _ _ F
   |_=>cases e
  |bl b=>cases h2 with
   |lst hq _ _=>cases R;cases L;obtain ⟨_,_,p,_⟩:=I.list hq;exact RcAt.bool_list b p.isList G _ _ _ _ F
   |tup hq _ _=>cases R;cases L;obtain ⟨_,_,p,_⟩:=I.tuple hq;exact RcAt.bool_tuple b p G _ _ _ _ F
   |int j=>cases R;obtain ⟨t,rfl⟩:=L;exact RcAt.bool_int b j t _ _ _ _ F
   |_=>cases e
  |int i=>cases h2 with
   |lst hq _ _=>obtain ⟨t,rfl⟩:=R;cases L;obtain ⟨_,_,p,_⟩:=I.list hq;exact RcAt.int_list i t p.isList G _ _ _ _ F
   |tup hq _ _=>obtain ⟨t,rfl⟩:=R;cases L;obtain ⟨_,_,p,_⟩:=I.tuple hq;exact RcAt.int_tuple i t p G _ _ _ _ F
   |bl b=>obtain ⟨t,rfl⟩:=R;cases L;exact RcAt.int_bool i t b _ _ _ _ F
   |_=>cases e
  |str z=>cases h2 with
   |lst hq _ _=>obtain ⟨t,rfl⟩:=R;cases L;obtain ⟨_,_,p,_⟩:=I.list hq;exact RcAt.str_list z t p.isList G _ _ _ _ F
   |tup hq _ _=>obtain ⟨t,rfl⟩:=R;cases L;obtain ⟨_,_,p,_⟩:=I.tuple hq;exact RcAt.str_tuple z t p G _ _ _ _ F
   |_=>cases e
open PySem.SeqAt in
theorem wG (hK:X.K=K)(hr:bT m X.A):cU X (compareOp .NotEq) (NB K):=by
 subst hK
 intro pins s σ H x y v u Q I R L h
 unfold NB at h
 cases e:OX x y with
 |some b=>
  rw [e] at h
  obtain ⟨h1,h2⟩:=FO e
  exact Os pins s σ H x y v u Q I R L ⟨h1,by rw [h2];exact h⟩
 |none=>
  rw [e] at h
  obtain ⟨d,e',h1,h2,hd,q⟩:=h
  have F:EP X pins σ Q (.bool (!tm d e')) s:=⟨.bl _,H,I,rfl,q⟩
  have hu:=wK (X:=X) hr hd
  have G:X.A.units<cLine:=by lia
  cases h1 with
  | @lst a xs ds hq hl hi=>
    have D1:bH X.K H (.ref a) (.lst ds):= .lst hq hl hi
    cases R
    obtain ⟨its,Z,S,z1⟩:=I.list hq
    cases h2 with
    |non=>cases L;exact RcNeAt.list_none S.isList G _ _ _ _ F
    |bl b=>cases L;exact RcNeAt.list_bool b S.isList G _ _ _ _ F
    |int j=>obtain ⟨t,rfl⟩:=L;exact RcNeAt.list_int j t S.isList G _ _ _ _ F
    |str z=>obtain ⟨t,rfl⟩:=L;exact RcNeAt.list_str z t S.isList G _ _ _ _ F
    |tup hq' _ _=>cases L;obtain ⟨_,_,p2,_⟩:=I.tuple hq';exact RcNeAt.list_tuple S.isList p2 G _ _ _ _ F
    | @lst b ys es hq' hl' hi'=>
      cases L
      obtain ⟨J,r2,p2,z2⟩:=I.list hq'
      have aa:rf (.lst ds)=deps ds+1:=by rw [rf]
      rw [tm] at F
      have l1:=Z.length
      have l2:=r2.length
      by_cases O:ds.length=es.length
      ·rw [<-fj O,show ds.length=its.toArray.size by rw [size_toArray];lia] at F
       rwa[RcNeAt.lists S.isList p2.isList (by simp only [size_toArray];lia) G @cT _ _ _ _ F]
       have j1:j<xs.length:=by rw [size_toArray] at g1;lia
       have j2:j<ys.length:=by rw [size_toArray] at g2;lia
       obtain ⟨w1,U,q1⟩:=Z.get (i:=j) (x:=xs[j]) @e
       obtain ⟨w2,W,q2⟩:=r2.get (i:=j) (x:=ys[j]) @e
       have k1:its.toArray[j]=w1:=by
        have:its[j]? =some its.toArray[j]:=by simp
        rw [this] at U;exact Option.some.inj U
       have k2:J.toArray[j]=w2:=by
        have:J[j]? =some J.toArray[j]:=by simp
        rw [this] at W;exact Option.some.inj W
       rw [k1,k2]
       have Y:ds[j]? =some @bi:=by simp [List.getD,getElem?_eq_getElem (show j<ds.length by lia)]
       have d2:es[j]? =some @bj:=by simp [List.getD,getElem?_eq_getElem (show j<es.length by lia)]
       have ab:=ko Y
       rwa[lG I (hi j xs[j] _ @e Y) (hi' j ys[j] _ @e d2) q1 q2 ?_]
       have:X.A.in1.units=X.A.units+1:=rfl
       lia
      ·rw [fh O] at F
       exact RcNeAt.lists_lengths S.isList p2.isList (by simp only [size_toArray];rw [bne_iff_ne];lia) G _ _ _ _ F
  | @tup a xs ds hq hl hi=>
    cases R
    obtain ⟨its,Z,S,z1⟩:=I.tuple hq
    cases h2 with
    |non=>cases L;exact RcNeAt.tuple_none S G _ _ _ _ F
    |bl b=>cases L;exact RcNeAt.tuple_bool b S G _ _ _ _ F
    |int j=>obtain ⟨t,rfl⟩:=L;exact RcNeAt.tuple_int j t S G _ _ _ _ F
    |str z=>obtain ⟨t,rfl⟩:=L;exact RcNeAt.tuple_str z t S G _ _ _ _ F
    |lst hq' _ _=>cases L;obtain ⟨_,_,p2,_⟩:=I.list hq';exact RcNeAt.tuple_list S p2.isList G _ _ _ _ F
    | @tup b ys es hq' hl' hi'=>
      cases L
      obtain ⟨J,r2,p2,z2⟩:=I.tuple hq'
      have aa:rf (.tup ds)=deps ds+1:=by rw [rf]
      rw [tm] at F
      have l1:=Z.length
      have l2:=r2.length
      have ad:eqDs ds es=((List.range @bM).all @ei&&its.toArray.size==J.toArray.size):=by
       by_cases O:ds.length=es.length
       ·have U:its.toArray.size=ds.length:=by rw [size_toArray];lia
        have W:J.toArray.size=ds.length:=by rw [size_toArray];lia
        rw [U,W,Nat.min_self,fj O];simp
       ·rw [fh O]
        have:(its.toArray.size==J.toArray.size)=false:=beq_eq_false_iff_ne.mpr (by simp only [size_toArray];lia)
        rw [this,Bool.and_false]
      rw [ad] at F
      rwa[RcNeAt.tuples S p2 G @cT _ _ _ _ F]
      have j1:j<xs.length:=by rw [size_toArray] at g1;lia
      have j2:j<ys.length:=by rw [size_toArray] at g2;lia
      obtain ⟨w1,U,q1⟩:=Z.get (i:=j) (x:=xs[j]) @e
      obtain ⟨w2,W,q2⟩:=r2.get (i:=j) (x:=ys[j]) @e
      have k1:its.toArray[j]=w1:=by
       have:its[j]? =some its.toArray[j]:=by simp
       rw [this] at U;exact Option.some.inj U
      have k2:J.toArray[j]=w2:=by
       have:J[j]? =some J.toArray[j]:=by simp
       rw [this] at W;exact Option.some.inj W
      rw [k1,k2]
      have Y:ds[j]? =some @bi:=by simp [List.getD,getElem?_eq_getElem (show j<ds.length by lia)]
      have d2:es[j]? =some @bj:=by simp [List.getD,getElem?_eq_getElem (show j<es.length by lia)]
      have ab:=ko Y
      rwa[lG I (hi j xs[j] _ @e Y) (hi' j ys[j] _ @e d2) q1 q2 ?_]
      have:X.A.in1.units=X.A.units+1:=rfl
      lia
  |non=>cases h2 with
   |lst hq _ _=>cases R;cases L;obtain ⟨_,_,p,_⟩:=I.list hq;exact RcNeAt.none_list p.isList G _ _ _ _ F
   |tup hq _ _=>cases R;cases L;obtain ⟨_,_,p,_⟩:=I.tuple hq;exact RcNeAt.none_tuple p G _ _ _ _ F
   |_=>cases e
  |bl b=>cases h2 with
   |lst hq _ _=>cases R;cases L;obtain ⟨_,_,p,_⟩:=I.list hq;exact RcNeAt.bool_list b p.isList G _ _ _ _ F
   |tup hq _ _=>cases R;cases L;obtain ⟨_,_,p,_⟩:=I.tuple hq;exact RcNeAt.bool_tuple b p G _ _ _ _ F
   |int j=>cases R;obtain ⟨t,rfl⟩:=L;exact RcNeAt.bool_int b j t _ _ _ _ F
   |_=>cases e
  |int i=>cases h2 with
   |lst hq _ _=>obtain ⟨t,rfl⟩:=R;cases L;obtain ⟨_,_,p,_⟩:=I.list hq;exact RcNeAt.int_list i t p.isList G _ _ _ _ F
   |tup hq _ _=>obtain ⟨t,rfl⟩:=R;cases L;obtain ⟨_,_,p,_⟩:=I.tuple hq;exact RcNeAt.int_tuple i t p G _ _ _ _ F
   |bl b=>obtain ⟨t,rfl⟩:=R;cases L;exact RcNeAt.int_bool i t b _ _ _ _ F
   |_=>cases e
  |str z=>cases h2 with
   |lst hq _ _=>obtain ⟨t,rfl⟩:=R;cases L;obtain ⟨_,_,p,_⟩:=I.list hq;exact RcNeAt.str_list z t p.isList G _ _ _ _ F
   |tup hq _ _=>obtain ⟨t,rfl⟩:=R;cases L;obtain ⟨_,_,p,_⟩:=I.tuple hq;exact RcNeAt.str_tuple z t p G _ _ _ _ F
   |_=>cases e
end
structure MM (h:Heap)(a T:Addr)(cls:Value)(dd:Option Addr)(fl:Value):Prop where
 ex:∃oe vs oT ts,h.get? a=some oe/\oe.cls=cls/\oe.dict=dd/\oe.data= .fields vs/\vs[1]? =some (.ref T)/\vs[2]? =some .none/\T≠a/\h.get? T=some oT/\oT.data= .fields ts/\ts[3]? =some fl
structure Pass (fs:List Addr)(ch:List Addr)(h h':Heap):Prop where
 keep:∀b o,b∉ch->b∉fs->h.get? b=some o->h'.get? b=some o
 slot:∀b o,b∉ch->h.get? b=some o->∃sl,h'.get? b=some {o with slots:=sl}
theorem IM {o:Obj}{vs:Array Value}(J:o.data= .fields vs)(f:Array Value->Array Value):Obj.mapFields f o= {o with data:= .fields (f vs)}:=by
 obtain ⟨c,d,j,sl⟩:=o;cases J;rfl
section
variable {M:Model}{A:Around}{E:Value->Shared->Prop}{s:Shared}
theorem uw {base:Heap}{env:Env}{outer:List Env}{L e:Addr}{R:Obj}{vs:Array Value}{G:Value}{F:Bool}{Q:Unit->Shared->Prop}
(ac:A.frames=some (env::outer))(hl:s.heap.FunFrames base (env::outer))(hf:env.frame=some L)(he:s.heap.get? e=some R)(hd:R.data= .fields vs)(hsz:1<vs.size)(h2:vs[2]? =some .none)
(h:∀h' T,Pass (vX (env::outer)) [e] s.heap h'->s.heap.get? T=none->MM h' e T R.cls R.dict (rawInt L)->Q () {s with heap:=h'}):
 wpAny M A (do let a<-frameOf env;let pl<-entryPlaceOf L F;let b<-EntryCells.newEntry G a .none (rawInt L) .none pl;setField (.ref e) 1 b) Q E s:=by
 have aa:e∉(env::outer).filterMap (·.frame):=λhm=>by
  obtain ⟨_,o,U,ai⟩:=hl.mem hm;rw [he] at U;cases U;exact ai vs hd
 rwa[wpAny_bind (wpAny_frameOf_fun ac hl hf λj I=>wpAny_bind (wpAny_entryPlaceOf λpl Y=> ?_))];unfold EntryCells.newEntry newFields;rwa[wpAny_bind (wpAny_newObj_type ?_ (Y.sizeOk5 _ _ _ _ _))];have ab:j.get? e=some R:=(I.2.1 e aa).trans he;generalize U:({cls:= .type "traceback",dict:=none,data:= .fields ([G,.ref L,.none,rawInt L,.none]++(if pl.isEmpty then List.replicate 6 Value.none else pl)).toArray}:Obj)=o
 have aj:o.data= .fields ([G,.ref L,.none,rawInt L,.none]++(if pl.isEmpty then List.replicate 6 Value.none else pl)).toArray:=by rw [<-U]
 have ah:o.isFreed=false:=by rw [<-U];rfl
 have Z:=Heap.get?_push_of_some (h:=j) o ab;rwa[wpAny_setField Z hd hsz ?_];have S:j.objs.size≠e:=Nat.ne_of_gt (Heap.lt_size ab);have W:=Obj.data_mapFields hd (·.setIfInBounds 1 @cd);have ad:=Heap.get?_update_self (Obj.mapFields (·.setIfInBounds 1 @cd)) Z (Obj.isFreed_of_fields W);have ag:=(Heap.get?_update_other (j.push o) (Obj.mapFields (·.setIfInBounds 1 @cd)) (Ne.symm S)).trans (Heap.get?_push_size j ah)
 have J:∀b u,b≠e->j.get? b=some u->((j.push o).update e (Obj.mapFields (·.setIfInBounds 1 @cd))).get? b=some u:=λb u af hb=>by
  rw [Heap.get?_update_other _ _ (Ne.symm af)];exact Heap.get?_push_of_some _ hb
 rwa[h _ j.objs.size ⟨λb u hb ae O=> ?_,λb u hb O=> ?_⟩ (Heap.get?_none_of_le (by rw [I.1];exact Nat.le_refl _)) ⟨_,_,o,_,ad,?_,?_,W,by simp [hsz],by rw [Array.getElem?_setIfInBounds_ne @b];exact h2,S,ag,aj,?_⟩]
 ·exact J b u (λz=>hb (by simp [z])) ((I.2.1 b ae).trans O)
 ·obtain ⟨sl,hs⟩:=I.2.2 b u O;exact ⟨sl,J b _ (λz=>hb (by simp [z])) hs⟩
 ·exact Obj.cls_mapFields _ _
 ·rw [IM hd]
 ·first|(simp;done)|(rcases Y with rfl|⟨_,_,_,_,_,_,_,rfl⟩<;>simp)
theorem Ag {a T:Addr}{F fl:Value}{dd:Option Addr}{f:Option Addr}{Q:Unit->Shared->Prop}(x:MM s.heap a T F dd fl)
(h:∀h',Pass [] [T] s.heap h'->MM h' a T F dd (f.elim .none λf=>rawInt f)->Q () {s with heap:=h'}):wpAny M A (setFlight (.ref a) f) Q E s:=by
 obtain ⟨Y,vs,oT,ts,h1,h2,Z,W,U,L,S,R,I,h9⟩:=x.ex;have J:3<ts.size:=(Array.getElem?_eq_some_iff.mp h9).1;unfold setFlight;rwa[wpAny_bind (wpAny_field h1 W U ?_)];rw [if_pos (show (Value.ref T != Value.none)=true from by simp)];have j:∀b,b≠T->∀g,(s.heap.update T g).get? b=s.heap.get? b:=λb G g=>Heap.get?_update_other _ _ (Ne.symm G);rwa[wpAny_setField R I J (h _ ⟨λb o G _ O=>(j b (λz=>G (by simp [z])) _).trans O,λb o G O=>⟨o.slots,(j b (λz=>G (by simp [z])) _).trans O⟩⟩ ?_)];exact ⟨Y,vs,_,_,(j a (Ne.symm S) _).trans h1,h2,Z,W,U,L,S,Heap.get?_update_self _ R (Obj.isFreed_of_fields (Obj.data_mapFields I _)),Obj.data_mapFields I _,by simp [J]⟩
end
theorem Pass.more {fs fs' ch:List Addr}{h h1:Heap}(a:Pass fs ch h h1)(hs:∀b∈fs,b∈fs'):Pass fs' ch h h1:=⟨λb o j F e=>a.keep b o j (λz=>F (hs b z)) e,a.slot⟩
def Nw (X:Cx)(pins:List (Addr×Obj))(H:Hp)(b:Addr):Prop:=H b=none/\b≠X.env.locals/\b∉X.fs/\(b∈X.ex\/X.s₀.heap.get? b=none)/\(∀x c,X.env.cells.lookup x=some c->c≠b)/\∀p∈X.pn++pins,p.1≠b
theorem br.here {P:Program}{w:World}{H:Hp}{h:Heap}{a:Addr}{o:HO}(x:br P w H h a o):∃u,h.get? a=some u:=by
 cases o with
 |lst xs=>obtain ⟨_,_,_,_,e⟩:=x;exact ⟨_,e⟩
 |tup xs=>obtain ⟨_,_,_,o,e,_⟩:=x;exact ⟨_,e⟩
 |dK kvs=>obtain ⟨_,_,_,_,o,_,_,e,_⟩:=x;exact ⟨_,e⟩
 |dT kvs=>obtain ⟨_,_,_,_,o,_,_,e,_⟩:=x;exact ⟨_,e⟩
 |set S n=>obtain ⟨o,_,_,_,e,_⟩:=x;exact ⟨_,e⟩
 |ins C dx fs=>obtain ⟨_,_,_,e,_⟩:=x;exact ⟨_,e⟩
 |own y=>obtain ⟨_,e⟩:=x;exact ⟨_,e⟩
 |xd fs=>obtain ⟨_,⟨_,_,_,e,_⟩,_⟩:=x;exact ⟨_,e⟩
 |rng lo hi=>obtain ⟨_,_,_,e⟩:=x;exact ⟨_,e⟩
 |frz ob u=>obtain ⟨e,_⟩:=x;exact ⟨_,e⟩
 |tbl ps=>exact ⟨_,show h.get? a=some _ from x⟩
 |met f y=>exact ⟨_,show h.get? a=some _ from x⟩
 |ext φ=>obtain ⟨_,e,_⟩:=x;exact e
theorem fH.none_of {P:Program}{w:World}{H:Hp}{h:Heap}{a:Addr}(x:fH P w H h)(e:h.get? a=none):H a=none:=by
 cases q:H a with
 |none=>rfl
 |some o=>obtain ⟨u,z⟩:=(x a o q).here;rw [e] at z;cases z
section
variable {X:Cx}{pins:List (Addr×Obj)}{σ:St}{H:Hp}{s:Shared}
theorem av.nw {H':Hp}{b:Addr}(I:av X pins σ H s)(F:s.heap.get? b=none)(L:H' b=none):Nw X pins H' b:=by
 rwa[⟨L,λz=> ?_,λz=> ?_,?_,λx c e z=> ?_,λp J z=> ?_⟩]
 ·obtain ⟨m,⟨o,_,_,j,_⟩,_⟩:=I.loc;rw [<-z,F] at j;cases j
 ·obtain ⟨_,o,j,_⟩:=I.funs.mem z;rw [F] at j;cases j
 ·by_cases G:b∈X.ex
  ·exact .inl G
  ·rwa[.inr ?_]
   cases q:X.s₀.heap.get? b with
   |none=>rfl
   |some o=>obtain ⟨o',e⟩:=I.base.there b o q G;rw [F] at e;cases e
 ·obtain ⟨v,o,j,_⟩:=I.cell x c e;rw [z,F] at j;cases j
 ·have e:=(I.pin p J).1;rw [z,F] at e;cases e
theorem av.pass {ch:List Addr}{h':Heap}(I:av X pins σ H s)(p:Pass @dL ch s.heap h')(G:∀b∈ch,Nw X pins H b):av X pins σ H {s with heap:=h'}:=by
 have O:∀b u,H b=some u->b∉ch:=λb u e z=>by rw [(G b z).1] at e;cases e
 have L:∀b u,H b=some u->b∉vX X.stack:=λb u e z=>by rw [I.stkFree b z] at e;cases e
 have S:∀b o,X.s₀.heap.get? b=some o->b∉X.ex->b∉ch:=λb o e j F=>by
  rcases (G b F).2.2.2.1 with z|z
  ·exact j z
  ·rw [e] at z;cases z
 have ac:∀b o,X.s₀.heap.get? b=some o->b≠X.env.locals:=λb o e=>Nat.ne_of_lt @W
 have ab:∀b o,X.s₀.heap.get? b=some o->b∉X.fs->b∉vX X.stack:=λb o e F z=>by
  rcases mem_cons.mp @fk with q|q
  ·exact ac b o e q
  ·exact F q
 have aa:X.env.locals∉ch:=λz=>(G _ z).2.1 rfl;have Y:∀x c,X.env.cells.lookup x=some c->c∉ch:=λx c e z=>(G c z).2.2.2.2.1 x c e rfl
 have J:∀x c,X.env.cells.lookup x=some c->∀v,s.heap.IsCell c v->h'.IsCell c v:=λx c e v ⟨o,Z,hd⟩=>by
  obtain ⟨sl,q⟩:=p.slot c o (Y x c e) Z;exact ⟨_,q,hd⟩
 rwa[⟨I.ok,I.os,I.bare,⟨λb o e n F j=> ?_,λb o e n F j=> ?_,I.base.free,λb o e j=> ?_,I.base.tups,I.base.frzs,I.base.tbls⟩,?_,λx c e=> ?_,I.free,I.freeC,λq hq=> ?_,λb u e=> ?_,I.len⟩]
 ·exact p.keep b o @cE (ab b o e F) (I.base.keep b o e n F j)
 ·obtain ⟨sl,R⟩:=I.base.slot b o e n F j;obtain ⟨af,U⟩:=p.slot b _ @cE R;exact ⟨af,U⟩
 ·obtain ⟨o',R⟩:=I.base.there b o e j;obtain ⟨af,U⟩:=p.slot b _ @cE R;exact ⟨_,U⟩
 ·obtain ⟨m,⟨o,es,ep,Z,r⟩,hl⟩:=I.loc;obtain ⟨sl,hL⟩:=p.slot _ o aa Z;rwa[⟨m,⟨_,es,ep,hL,r⟩,λi x v R U e3=> ?_⟩];obtain ⟨u,rv,l⟩:=hl i x v R U e3;rwa[⟨u,rv,?_⟩]
  rcases l with l|⟨k,c,e,z⟩
  ·exact .inl l
  ·exact .inr ⟨k,c,e,J x c e _ z⟩
 ·obtain ⟨v,z⟩:=I.cell x c e;exact ⟨v,J x c e v z⟩
 ·obtain ⟨e,n,ne,nf,d⟩:=I.pin q hq;rwa[⟨p.keep q.1 q.2 (λz=>(G _ z).2.2.2.2.2 q hq rfl) @k e,n,ne,nf,d⟩]
  rcases mem_cons.mp (I.stkSub _ z) with y|y
  ·exact ne y
  ·exact nf y
 ·rwa[(I.hok b u e).stay (λc v W q=>p.keep c v ?_ ?_ q) @dJ λ_ _ q=>q]
  ·rcases W with z|z
   ·rw [z];exact O b u e
   ·exact O c _ z
  ·rcases W with z|z
   ·rw [z];exact L b u e
   ·exact L c _ z
def M6 (X:Cx)(pins:List (Addr×Obj))(H:Hp)(h:Heap)(a:Addr)(cls:Value)(dd:Option Addr):Prop:=Nw X pins H a/\
 ((∃oe vs,h.get? a=some oe/\oe.cls=cls/\oe.dict=dd/\oe.data= .fields vs/\vs[1]? =some .none/\vs[2]? =some .none)\/∃T fl,MM h a T cls dd fl/\Nw X pins H T/\(fl= .none\/∃L,X.env.frame=some L/\fl=rawInt L))
theorem E8 {A:Around}{M:Model}{E:Value->Shared->Prop}{a:Addr}{S:Value}{dd:Option Addr}{Q:Unit->Shared->Prop}{L:Addr}(I:av X pins σ H s)(x:M6 X pins H s.heap a S dd)
(hA:A.frames=some X.stack)(F:X.stack=X.env::X.outer)(hf:X.env.frame=some L)
(h:∀h' T,av X pins σ H {s with heap:=h'}->Nw X pins H T->MM h' a T S dd (rawInt L)->Q () {s with heap:=h'}):wpAny M A (noteFrame (.ref a) X.env) Q E s:=by
 obtain ⟨fa,x⟩:=x
 have ac:A.frames=some (X.env::X.outer):=by rw [<-F];exact hA
 have hl:s.heap.FunFrames X.base (X.env::X.outer):=by rw [<-F];exact I.stack
 unfold noteFrame;simp only [hf]
 rcases x with ⟨oe,vs,h1,h2,h3,Y,U,G⟩|⟨T,fl,x,fT,aa⟩
 ·rwa[wpAny_bind (wpAny_field h1 Y U ?_)];rw [if_neg @b];rwa[uw ac hl hf h1 Y (Array.getElem?_eq_some_iff.mp U).1 G λh' T p W x=> ?_];rw [<-F] at p;have J:=I.pass p (by simpa using fa);exact h h' T J (I.nw W (I.hok.none_of W)) (by rw [<-h2,<-h3];exact x)
 ·obtain ⟨oe,vs,oT,ts,h1,h2,h3,Y,U,G,h6,h7,h8,h9⟩:=id x.ex;rwa[wpAny_bind (wpAny_field h1 Y U ?_)];rw [if_pos (show (Value.ref T != Value.none)=true from by simp)];rwa[wpAny_bind (wpAny_field h7 h8 h9 ?_)]
  rcases aa with rfl|⟨L',R,rfl⟩
  ·rw [if_neg (show ¬((Value.none==rawInt L)=true) from by simp [rawInt])];have ab:3<ts.size:=(Array.getElem?_eq_some_iff.mp h9).1;rwa[wpAny_bind (wpAny_setField h7 h8 ab ?_)];have j:∀b,b≠T->∀g,(s.heap.update T g).get? b=s.heap.get? b:=λb Z g=>Heap.get?_update_other _ _ @fT
   have p1:Pass @dL [T] s.heap (s.heap.update T (Obj.mapFields (·.setIfInBounds 3 Value.none))):=
    ⟨λb o Z _ O=>(j b (λz=>Z (by simp [z])) _).trans O,λb o Z O=>⟨o.slots,(j b (λz=>Z (by simp [z])) _).trans O⟩⟩
   have J1:=I.pass p1 (by simpa using fT);rwa[uw (s:= {s with heap:=s.heap.update T (Obj.mapFields (·.setIfInBounds 3 Value.none))}) ac (base:=X.base) (by rw [<-F];exact J1.stack) hf ((j a (Ne.symm h6) _).trans h1) Y (Array.getElem?_eq_some_iff.mp U).1 G λh' T' p W x'=> ?_];rw [<-F] at p;have J:=J1.pass p (by simpa using fa);exact h h' T' J (J1.nw W (J1.hok.none_of W)) (by rw [<-h2,<-h3];exact x')
  ·rw [hf] at R;cases R;rw [if_pos (show (rawInt L==rawInt L)=true from by simp)];exact wpAny_pure (h s.heap T I fT x)
theorem Cp {A:Around}{M:Model}{E:Value->Shared->Prop}{a:Addr}{F:Value}{dd:Option Addr}{Q:Unit->Shared->Prop}{L:Addr}(I:av X pins σ H s)(x:M6 X pins H s.heap a F dd)
(S:A.frames=some X.stack)(j:X.stack=X.env::X.outer)(O:X.env.frame=some L)
(h:∀h' T,av X pins σ H {s with heap:=h'}->Nw X pins H T->MM h' a T F dd .none->Q () {s with heap:=h'}):wpAny M A (leaving X.env (.ref a)) Q E s:=by
 unfold leaving;rwa[wpAny_bind (E8 I x S j O λh1 T J G U=>Ag (s:= {s with heap:=h1}) U λh2 p R=> ?_)];exact h h2 T (J.pass (p.more λ_ z=>nomatch z) (by simpa using G)) G R
end
def Ar (P:Program)(w:World):oH:=λouter H s E e s'=>∃(a T:Addr) (cls:Value) (dd:Option Addr) (H':Hp),e= .ref a/\s'.os=s.os/\AllBare s'.gens/\Un (vX outer) [] H H' s.heap s'.heap/\fH P w H' s'.heap/\
 s.heap.get? a=none/\s.heap.get? T=none/\H' a=none/\H' T=none/\MM s'.heap a T cls dd .none/\E cls dd H'
def Fl (X:Cx)(E:XK):Prop:=∀(pins:List (Addr×Obj)) (σ:St) (H:Hp) (s:Shared) (a:Addr) (cls:Value) (dd:Option Addr),av X pins σ H s->M6 X pins H s.heap a cls dd->E cls dd H->X.xe (.ref a) s
theorem av.afterE {X:Cx}{pins:List (Addr×Obj)}{σ:St}{H:Hp}{s s':Shared}{E:XK}{e:Value}(I:av X pins σ H s)(h:Ar X.prog X.w X.stack H s E e s'):
 ∃a cls dd H',e= .ref a/\av X pins σ H' s'/\M6 X pins H' s'.heap a cls dd/\E cls dd H':=by
 obtain ⟨a,T,cls,dd,H',rfl,os,j,G,ae,J,L,F,O,x,q⟩:=h;rwa[⟨a,cls,dd,H',rfl,I.call' os G ae j (λb z=>nomatch z),⟨I.nw J F,.inr ⟨T,_,x,I.nw L O,.inl rfl⟩⟩,q⟩]
theorem Fl.passes {X:Cx}{E:XK}(f:Fl X E):ij (Ar X.prog X.w) X E:=λpins σ H s e s' I h=>by
 obtain ⟨a,F,Z,H',rfl,J,x,q⟩:=I.afterE h;exact f pins σ H' s' a F Z J x q
section
variable {P:Program}{w:World}{K:Fg}{mg:Str->Option Value}{base:Heap}{N:List Str}{qual:Str}{scope:Scope}{f:Addr}{cd:Value}{A:Around}{outer:List Env}{s:Shared}{H:Hp}{E:XK}
theorem lD:Fl (lJ @ch P w K mg base N qual scope f cd A outer s H E) E:=by
 intro pins σ H' s' a F Z I x q;show wpAny _ _ _ _ _ _;rwa[Cp I x I.ok.frames rfl rfl λh' T J G L=> ?_];have j:=x.1;rwa[⟨a,T,F,Z,H',rfl,J.os,J.bare,J.base,J.hok,?_,?_,j.1,G.1,L,q⟩]
 ·rcases j.2.2.2.1 with z|z
  ·exact absurd (show a∈([]:List Addr) from z) @e
  ·exact z
 ·rcases G.2.2.2.1 with z|z
  ·exact absurd (show T∈([]:List Addr) from z) @e
  ·exact z
end
theorem bA.okX {P:Program}{w:World}{K:Fg}{mg:Str->Option Value}{base:Heap}{x qual:Str}{st:Stmt}{f:Addr}{fd:FuncData}{N ps:List Str}{k:Nat}{sp:Sp}(F:bA K x qual st f fd)(S:ai N ps @bG)(O:∀vs H Q E,sp vs H Q E->vs.length=ps.length)
(G:∀(cdv:Value) (A:Around) (outer:List Env) (s:Shared) (H:Hp) (vs:List V) (Q:VK) (E:XK),bT k (A.deeper (envOfC qual @bG s.heap.objs.size f cdv))->sp vs H Q E->
   ∃t,tH (lJ @ch P w K mg base N qual @bG f cdv A outer s H E) @cG t/\t {nx:=λ_ H'=>Q .non H',rt:=Q} @cl H):au P w K mg base @ch (k+1) f fd ps sp:=by
 obtain ⟨J,L,Z,U,pm,W,cdv,Y,aa,rfl,I,j⟩:=F.ex;exact FL I j S O λA outer s H vs Q E z R=>G cdv A outer s H vs Q E z R
structure C0 (P:Program)(w:World)(K:Fg)(mg:Str->Option Value)(base:Heap)(n:Nat)(x:Str)(ps:List Str)(sp:Sp):Prop where
 ex:∃f fd,au P w K mg base @ch n f fd ps sp/\d8 K fd ps []/\W.keepIn K (.ref f)=true/\mg x=some (.ref f)
section
variable {X:Cx}{x:Str}{p pos:Pos}{e:Expr}{es:List Expr}{t:TA}{ps:List Str}{sp:Sp}{n m:Nat}{E:XK}
theorem Ew (fl:Fl X E)(c:C0 X.prog X.w X.K X.mg X.base n x ps sp)(S:bT m X.A)(J:n<=m)(W:Gl X x)(I:PA X (e::es) t)(j:(x==("__debug__":Str))=false:=by decide)
(G:aS (e::es)=true:=by rfl):PE X (.Call (.Name x p) (e::es) [] pos) (wO sp [] E t):=by
 obtain ⟨f,fd,F,b,k,z⟩:=c.ex;have h':(bx e&&aS es)=true:=G;rw [Bool.and_eq_true] at h';exact AO (F.mono J) S W z k b .nil fl.passes I j @et @eu
end
theorem Jc {K:Fg}{h:Heap}{C:Addr}{bmB:List Value}{newId:String}(X:K.In h)(q:W.excIn K C bmB newId=true):
 ∃bm N nm q bs hdct sn sub ab col dd k0 k1 k2 k3 k5 mN,h.get? C=some (excClassObj nm q C N bs bm hdct sn sub ab col dd k0 k1 k2 k3 k5 newId)/\h.Ns N mN/\mN "__init__"=none/\OwnTail h bmB bm:=by
 unfold W.excIn at q;split at q
 case h_2=>cases q
 case h_1 dd cd sl ho=>
  split at q
  case h_2=>cases q
  case h_1 C' bm k0 k1 k2 k3 n k5 hm hs=>
   simp only [Bool.and_eq_true,beq_iff_eq,Bool.not_eq_true'] at q;obtain ⟨⟨⟨⟨⟨R,O⟩,j⟩,J⟩,ae⟩,z⟩:=q;subst R O;obtain ⟨nm,bs,L,I,F,S,sn,sub,ab,col,G⟩:=cd;dsimp only at hm j ae z;subst hm j;obtain ⟨l⟩:=sl;simp only at hs;subst hs;exact ⟨bm,I,nm,F,bs,S,sn,sub,ab,col,dd,k0,k1,k2,k3,k5,_,X _ _ ho,.of_isNs (W.isNs_of_in X ae),W.nsMap_none_of_in X ae z,W.tail_of_in X J⟩
def KA (C:Addr)(E:XK)(t:TA):TS:=λ_ σ H=>t σ H λvs H1=>vs.length<=sizeLine/\E (.ref C) none H1
section
variable {X:Cx}{C:Addr}{bmB:List Value}{B newId initId:String}{x:Str}{np cpos pos:Pos}{e:Expr}{es:List Expr}{t:TA}{E:XK}
theorem av.made' {pins:List (Addr×Obj)}{σ:St}{H:Hp}{s:Shared}{h':Heap}{a:Addr}{vs:List Value}(I:av X pins σ H s)(m:Heap.MadeExcOf s.heap h' a (.ref C) vs):
 av X pins σ H {s with heap:=h'}/\M6 X pins H h' a (.ref C) none:=by
 obtain ⟨t,h1,_⟩:=m.there;exact ⟨I.kept (t':=s.toks) m.keeps,I.nw m.new (I.hok.none_of m.new),.inl ⟨_,_,h1,rfl,rfl,rfl,rfl,rfl⟩⟩
theorem qG (fl:Fl X E)(hc:X.calm=true)(O:W.excIn X.K C bmB newId=true)(Z:ExcBaseFacts B newId initId bmB)(hg:Gl X x)(hm:X.mg x=some (.ref C))(ha:PA X (e::es) t)
(hp:aS (e::es)=true:=by rfl)(S:(x==("__debug__":Str))=false:=by decide):PS X (.Raise (some (.Call (.Name x np) (e::es) [] cpos)) none pos) (KA C E t):=by
 intro pins s σ H D I h;have h':(bx e&&aS es)=true:=hp;rw [Bool.and_eq_true] at h';have he:=aQ (env:=X.env) (es:=es) h'.1;have R:(backTo cpos @z).any (·.1)=false:=bF h'.2;obtain ⟨bm,N,nm,q,bs,j,sn,G,ab,U,dd,k0,k1,k2,k3,k5,mN,hC,hN,L,T⟩:=Jc I.ok.mod.kin O
 refine wpAny_Raise_call_subT (C:=C) (nm:=nm) (q:=q) (N:=N) (bs:=bs) (bm:=bm) (hdct:=j) (sn:=sn) (sub:=G) (ab:=ab) (col:=U) (dd:=dd) (k0:=k0) (k1:=k1) (k2:=k2) (k3:=k3) (k5:=k5)
  Z (mN:=mN) (T.hasType Z.hasBase) @bv (by rw [he];show (false||(backTo cpos @z).any (·.1))=false;rw [R];rfl) L (pp I hg hm ⟨rfl,?_⟩ S)
 have Y:=ha cpos pins s σ H _ I h;rw [he] at Y ⊢;rwa[Calls.evalArgs_plain (bG Y λus s2 ⟨vs,H2,F,r,z,q2⟩=>⟨rfl,by rw [<-r.length];exact z,F.bk _ _ hC,hN.keeps F.bk,T.keeps F.bk,λh' a m=> ?_⟩)];obtain ⟨J,x⟩:=F.made' m;exact fl pins σ H2 _ a _ _ J x q2
end
structure Exc0 (K:Fg)(C:Addr):Prop where
 ex:∃bmB newId,W.excIn K C bmB newId=true/\bmB.contains (.type "BaseException")=true
noncomputable def Cx.mk' (X:Cx)(a:Addr):Cx:= {X with A:=X.A.mark (some (.ref a)),calm:=false,xe:=λ_ _=>False}
def XP (X:Cx)(pins:List (Addr×Obj))(σ:St)(E:XK)(e:Value)(s':Shared):Prop:=∃a cls dd H',e= .ref a/\av X pins σ H' s'/\M6 X pins H' s'.heap a cls dd/\E cls dd H'
open PySem.W
section
variable {prog:Program}{w:World}{A:Around}{E:Value->Shared->Prop}{s:Shared}{K:Frag}{x D:Addr}{ox:Obj}{odo:Option Obj}{name:Str}
theorem Mt {R:Result->Shared->Prop}{tk:Tok}(X:K.In s.heap)(I:PySem.W.InstAt s.heap x ox D odo)
(aa:findIn K (.ref D) "__class__"=some (some (.builtin "object.__class__")))(z:mroIn K D (.type "BaseException")=some true)(G:mroIn K D (.type "object")=some true)
(h:R (.ok (.ret (.ref D))) s):codeAny @n A (.call (.builtin "BaseException.__getattribute__") ⟨[.ref x,.str "__class__" tk],[]⟩) R s:=by
 obtain ⟨O,g,d,t,os⟩:=s;have J:=I.type (M:=model prog w);have S:=looks_findIn (M:=model prog w) X aa;have U:=looks_mroIn (M:=model prog w) X z;rwa[codeAny_call_builtin PySem.F.attr_ValueError.ga.plain PySem.F.entry_bexc_ga ?_]
 have L:builtinKind "BaseException.__getattribute__"=some .slot:=by decide+kernel
 have j:splitId "BaseException.__getattribute__"=some ("BaseException","__getattribute__"):=by decide+kernel
 have Y:=PySem.F.args_bexc_ga (.ref x) (.str "__class__" tk);simp only [checkBuiltinCall,L,j];rwa[wpAny_bind ?_];unfold isInstance;rwa[wpAny_bind (J.at (U.at ?_))];have f5:=KF.type_class;have Z:=PySem.F.slot_gs_get.lookup;have f7:=PySem.F.slot_gs_set.lookup
 repeat (any_goals (first|assumption|with_reducible refine J.at ?_|with_reducible refine S.at ?_|wp_step))
 rwa[class_get (s:=⟨O,g,d,t,os⟩) (ox:=ox) (od:=odo) X I G ?_]
 repeat (any_goals (first|assumption|wp_step))
theorem Jd {Q:Option Value->Shared->Prop}(X:K.In s.heap)(I:PySem.W.InstAt s.heap x ox D odo)(j:findIn K (.ref D) "__getattribute__"=some (some (.builtin "BaseException.__getattribute__")))
(G:findIn K (.ref D) "__getattr__"=some none)(aa:findIn K (.ref D) "__class__"=some (some (.builtin "object.__class__")))(z:mroIn K D (.type "BaseException")=some true)(J:mroIn K D (.type "object")=some true)
(h:Q (some (.ref D)) {s with toks:=s.toks+1}):wpAny @n A (getAttr? (.ref x) "__class__") Q E s:=by
 obtain ⟨S,g,d,t,os⟩:=s;have L:=I.type (M:=model prog w);have O:=looks_findIn (M:=model prog w) X j;have L2':=looks_findIn (M:=model prog w) X G;have U:=looks_findIn (M:=model prog w) X aa;have Y:=looks_mroIn (M:=model prog w) X z;have Z:=PySem.F.attr_ValueError.ga.bind (.ref x);unfold getAttr? getAttrBy? getAttrBy;rwa[wpAny_bind (wpAny_mkText (wpAny_bind (wpAny_attempt (wpAny_holding (wpAny_bind (L.at (wpAny_bind (O.at ?_))))))))]
 have R:(Value.builtin "BaseException.__getattribute__"==Value.builtin "object.__getattribute__")=false:=by decide+kernel
 repeat (any_goals (first|assumption|wp_step))
 rwa[L2'.at ?_]
 repeat (any_goals (first|assumption|wp_step))
 rwa[Mt X I aa z J ?_];exact handed_on rfl (wpAny_pure h)
end
def Mu (a:Addr)(cls:Value)(dd:Option Addr):HO:= .ext λh=>∃oe vs,h.get? a=some oe/\oe.cls=cls/\oe.dict=dd/\oe.data= .fields vs/\vs[2]? =some .none
structure Px (K:Frag)(D:Addr):Prop where
 ga:findIn K (.ref D) "__getattribute__"=some (some (.builtin "BaseException.__getattribute__"))
 gr:findIn K (.ref D) "__getattr__"=some none
 cl:findIn K (.ref D) "__class__"=some (some (.builtin "object.__class__"))
 mB:mroIn K D (.type "BaseException")=some true
 mO:mroIn K D (.type "object")=some true
theorem xw {K:Frag}{x D:Addr}{ox:Obj}{odo:Option Obj}(k:Px K D):KitX K (.ref x) (.ref D) (λh=>PySem.W.InstAt h x ox D odo) where
 ty:=λ_ _ _ I=>I.type
 it:=λM h X _=>by
  obtain ⟨cd,j,_⟩:=Option.bind_eq_some_iff.mp k.mO;unfold clsIn at j;split at j
  ·rename_i R O F af J;intro A' U Z s' L q;unfold isType loadHead;exact wpAny_bind (wpAny_loadPart (L _ _ (X _ _ J)) (wpAny_pure q))
  ·cases j
 ne:=λh S Y its n sl X G=>by
  obtain ⟨cd,j,_⟩:=Option.bind_eq_some_iff.mp k.mO;rwa[Bool.eq_false_iff.mpr λq=> ?_];have e:D=S:=Value.ref.inj (beq_iff_eq.mp q);subst e;unfold clsIn at j;split at j
  ·rename_i R O F af J;have z:=(X _ _ J).symm.trans G;cases z
  ·cases j
 ca:=λX I q=>Jd X I k.ga k.gr k.cl k.mB k.mO q
section
variable {X:Cx}
def Ab (K:Fg)(a:Addr)(c:V)(H:Hp)(Q:VK):Prop:=∃D dd cv b,H a=some (Mu a (.ref D) dd)/\Px K D/\(dd=none\/∃d fs,dd=some d/\H d=some (.xd fs))/\cV c=some cv/\W.kitOne K (.ref D) cv=some b/\Q (.bl b) H
end
structure Ph (k:Nat)(A:Around)(a:Addr):Prop where
 hd:A.handled=some (.ref a)
 dp:A.depth+3*k+5<recursionLimit
 un:A.units+16*k+200<cLine
structure Pw (P:Program)(w:World)(K:Fg)(mg:Str->Option Value)(base:Heap)(k:Nat)(f:Addr)(fd:FuncData)(ps:List Str)(sp:Addr->Sp):Prop where
 len:∀a vs H Q E,sp a vs H Q E->vs.length=ps.length
 run:∀(a:Addr) (A:Around) (outer:List Env) (s:Shared) (H:Hp) (args:Args) (us:List Value) (vs:List V) (Q:VK) (E:XK),Ph k A a->je P w K mg base A outer s H->BindsTo s fd args @bT->aL vs us->sp a vs H Q E->
  codeAny @R A (.call (.ref f) args) @de s
structure CalH (P:Program)(w:World)(K:Fg)(mg:Str->Option Value)(base:Heap)(n:Nat)(x:Str)(ps:List Str)(sp:Addr->Sp):Prop where
 ex:∃f fd,Pw P w K mg base n f fd ps sp/\d8 K fd ps []/\W.keepIn K (.ref f)=true/\mg x=some (.ref f)
def m5 (K:Fg)(a:Addr)(c:V)(H:Hp)(Q:VK):Prop:=km K (.ref a) c H Q\/Ab K a c H Q
def Dl (K:Fg):List V->Hp->VK->Prop:=λxs H Q=>match xs with
 |[.ref a,c]=>m5 K a c H Q
 |xs=>Kq K xs H Q
theorem yD {X:Cx}{K:Fg}(O:X.K=K):aW X (.builtin "isinstance") (Dl K):=by
 intro pins s σ H xs G Q I r h;have F:Kq K xs H Q->wpAny @d X.A (call (.builtin "isinstance") G) @t X.xe s:=λh=>Nl O pins s σ H xs G Q I r h
 match xs,h with
 |[.ref a,c],h=>
  rcases h with h|⟨D,dd,Z,b,e,k,j,hc,U,q⟩
  ·subst O;obtain ⟨Z,t,b,h1,h2,h3,h4⟩:=h;exact xY pins s σ H _ G Q I r ⟨.ref a,c,Z,t,b,rfl,h1,h2,h3,h4⟩
  ·subst O;obtain ⟨u,w',rfl,r1,r2⟩:=Az r;cases Gd hc r2;obtain rfl:u=Value.ref a:=r1;obtain ⟨⟨R,vs,L,J,Y,S,k5⟩,_,_⟩:=I.hok a _ e
   rcases j with rfl|⟨d,fs,rfl,ed⟩
   ·rwa[W.kia_one (xw (ox:=R) (odo:=none) k) I.kIn ⟨L,J,?_,?_⟩ U (λz=>nomatch z) λtk=>⟨.bl b,H,I.tok _,rfl,q⟩]
    ·unfold W.notCls;rw [S]
    ·rw [Y];trivial
   ·obtain ⟨mA,⟨od,es,ep,e',_⟩,_⟩:=I.hok d _ ed;rwa[W.kia_one (xw (ox:=R) (odo:=some od) k) I.kIn ⟨L,J,?_,?_⟩ U (λz=>nomatch z) λtk=>⟨.bl b,H,I.tok _,rfl,q⟩]
    ·unfold W.notCls;rw [S]
    ·rw [Y];exact e'
 |[],h=>exact F h
 |[.non],h=>exact F h
 |[.bl _],h=>exact F h
 |[.int _],h=>exact F h
 |[.str _],h=>exact F h
 |[.byt _],h=>exact F h
 |[.flt _],h=>exact F h
 |[.ty _],h=>exact F h
 |[.ref _],h=>exact F h
 |[.non,c],h=>exact F h
 |[.bl _,c],h=>exact F h
 |[.int _,c],h=>exact F h
 |[.str _,c],h=>exact F h
 |[.byt _,c],h=>exact F h
 |[.flt _,c],h=>exact F h
 |[.ty _,c],h=>exact F h
 |x::y::z::r,h=>exact F (by cases x<;>exact h)
theorem vR {K:Fg}{H:Hp}{a:Addr}{c:V}{z t:Value}{b:Bool}{Q:VK}(h1:cV c=some z)(h2:iy K H (.ref a) t)(L:W.kitOne K t z=some b)(g:Q (.bl b) H):m5 K a c H Q:= .inl ⟨z,t,b,h1,h2,L,g⟩
theorem Ch {M:Model}{A:Around}{E:Value->Shared->Prop}{s:Shared}{env:Env}{o:Expr}{m:Str}{apos pos:Pos}{es:List Expr}{Q:Value->Shared->Prop}(j:gh o=true)(G:aS es=true)(W:es.length<29)(z:(apos.endLine==pos.line)=true)
(h:wpAny M A (eval o env) (λov s₁=>wpAny M A (getMethod ov m (do return (<-importBound o env).getD true)) (λfx s₂=>wpAny M A (callWith pos fx.1 fx.2 @gb (backToKw pos (keywordEach [] env))) Q E s₂) E s₁) E s):
 wpAny M A (eval (.Call (.Attribute o m apos) es [] pos) env) Q E s:=by
 have F:methodCallForm (es.length+([]:List Keyword).length) @gb (backToKw pos (keywordEach [] env))=true:=by
  unfold methodCallForm;rw [mU G,arm_keywordEach_nil];show (true&&true&&decide (es.length+0+0<30))=true;rw [decide_eq_true @c];rfl
 rw [arm_eval_Call,wm j];rwa[wpAny_bind (bG h λov L h1=>wpAny_bind (wpAny_standAt ?_))];unfold methodCall;rw [F];rwa[wpAny_bind (wpAny_holding ?_)];unfold calleeOf;rw [if_pos rfl];rwa[bG h1 λfx R h2=> ?_];rwa[wpAny_bind ?_];unfold methodCallPos;rw [z];exact wpAny_pure h2
structure oP (P:Program)(w:World)(K:Fg)(mg:Str->Option Value)(base:Heap)(CX:oH)(n:Nat)(m:Str)(C:Addr)(sp:Sp):Prop where
 ex:∃f fd ps,tM K C/\Gq K C m f/\au P w K mg base CX n f fd ps sp/\d8 K fd ps []
def vJ (P:Program)(w:World)(K:Fg)(mg:Str->Option Value)(base:Heap)(CX:oH)(n:Nat)(m:Str)(a:Addr)(E:XK)(H:Hp)(k:Sp->Prop):Prop:=∃C dx fs sp,H a=some (.ins C dx fs)/\fs.lookup m=none/\oP P w K mg base CX n m C sp/\k sp
def ND (P:Program)(w:World)(K:Fg)(mg:Str->Option Value)(base:Heap)(CX:oH)(n:Nat)(m:Str)(E:XK)(to:TE)(t:TA):TE:=λσ H Q=>to σ H λx H1=>match x with
 | .ref a=>vJ P w K mg base CX n m a E H1 λsp=>t σ H1 λvs H2=>sp (.ref a::vs) H2 Q E
 |_=>False
section
variable {X:Cx}{CX:oH}{o e:Expr}{es:List Expr}{to:TE}{t:TA}{m:Str}{apos pos:Pos}{n k:Nat}{E:XK}
theorem kx (hx:ij CX X E)(hr:bT k X.A)(U:n<=k)(Y:PE X o to)(ha:PA X (e::es) t)(hb:gh o=true:=by rfl)(J:aS (e::es)=true:=by rfl)(hl:(e::es).length<29:=by decide)
(z:(apos.endLine==pos.line)=true:=by rfl):PE X (.Call (.Attribute o m apos) (e::es) [] pos) (ND X.prog X.w X.K X.mg X.base CX n m E to t):=by
 have h':(bx e&&aS es)=true:=J;rw [Bool.and_eq_true] at h';intro pins s σ H Q I h;rwa[Ch hb J hl z (bG @dR λu O ⟨x,H1,L,R,q⟩=> ?_)]
 match x,q with
 | .ref a,⟨C,dx,fs,sp,ea,l,c,q⟩=>
   obtain rfl:u=Value.ref a:=R;obtain ⟨f,fd,ps,S,j,F,b⟩:=c.ex;rwa[Ad L ea S j l ?_];rwa[W.callWith_K (first:=[.ref a]) (h₀:=X.base) I.ok.mod.kin j.kp (bG (ha pos pins O σ H1 _ L q) λus s2 ⟨vs,H2,G,r,Z⟩=>⟨G.kIn,?_⟩) @et @eu];exact Eb (us:= .ref a::us) (vs:= .ref a::vs) (F.mono U) hr b .nil hx G (.cons rfl r) (by rw [append_nil];exact Z)
def xK (K:Fg)(f:Str)(a:Addr)(H:Hp)(Q:VK):Prop:=∃C dx fs v,H a=some (.ins C dx fs)/\tM K C/\bw K C f/\fs.lookup f=some v/\Q v H
def Qr (K:Fg)(f:Str)(to:TE):TE:=λσ H Q=>to σ H λx H1=>match x with| .ref a=>xK K f a H1 Q|_=>False
theorem Kk {K:Fg}{f:Str}(O:X.K=K)(j:PE X o to)(J:gh o=true:=by rfl):PE X (.Attribute o f pos) (Qr K f to):=by
 subst O;intro pins s σ H Q I h;rwa[Jp (wm J) (bG @ck λu R ⟨x,H1,z,G,q⟩=> ?_)]
 match x,q with
 | .ref a,⟨C,dx,fs,v,ea,c,n,l,q⟩=>
   obtain rfl:u=Value.ref a:=G;exact Ae z ea c n l λU S F L=>⟨v,H1,F,L,q⟩
def putAt (K:Fg)(f:Str)(a:Addr)(y:V)(H:Hp)(R:Hp->Prop):Prop:=∃C dx fs,H a=some (.ins C dx fs)/\tM K C/\bw K C f/\fs.length<1000/\R @bP
def Qd (K:Fg)(f:Str)(to tv:TE):TS:=λD σ H=>tv σ H λy H1=>to σ H1 λx H2=>match x with| .ref a=>putAt K f a y H2 λH3=>D.nx σ H3|_=>False
theorem cL {K:Fg}{f:Str}{value:Expr}{tv:TE}{pos':Pos}(O:X.K=K)(j:PE X o to)(Y:PE X value tv)(hs:swapsWith value (some (.Attribute o f pos')) pos.line X.env=pure false:=by rfl):PS X (.Assign [.Attribute o f pos'] value pos) (Qd K f to tv):=by
 subst O;intro pins s σ H D I h;rwa[plainObj_wpAny_Assign_Attribute (bG @dR λu L ⟨y,H1,z,J,q⟩=>bG (j pins L σ H1 _ z q) λR U ⟨x,H2,F,G,W⟩=> ?_) hs]
 match x,W with
 | .ref a,⟨C,dx,fs,ea,c,n,l,q⟩=>
   obtain rfl:R=Value.ref a:=G;exact yX F ea c n l J λS Z=>⟨σ,_,Z,q⟩
theorem lq {P:Program}{w:World}{K:Fg}{mg:Str->Option Value}{base:Heap}{a C dx:Addr}{fs:List (Str×V)}{sp:Sp}{H:Hp}{L:Sp->Prop}(h1:H a=some (.ins C dx fs))(h2:fs.lookup m=none)(j:oP P w K mg base CX n m C sp)(g:L sp):vJ P w K mg base CX n m a E H L:=⟨C,dx,fs,sp,h1,h2,j,g⟩
theorem fS {K:Fg}{f:Str}{a C dx:Addr}{fs:List (Str×V)}{v:V}{H:Hp}{Q:VK}(h1:H a=some (.ins C dx fs))(h2:tM K C)(L:bw K C f)(j:fs.lookup f=some v)(g:Q v H):xK K f a H Q:=⟨C,dx,fs,v,h1,h2,L,j,g⟩
theorem cO {K:Fg}{f:Str}{a C dx:Addr}{fs:List (Str×V)}{y:V}{H:Hp}{R:Hp->Prop}(h1:H a=some (.ins C dx fs))(h2:tM K C)(L:bw K C f)(j:fs.length<1000)(g:R @bP):putAt K f a y H R:=⟨C,dx,fs,h1,h2,L,j,g⟩
end
structure jO (P:Program)(w:World)(K:Fg)(mg:Str->Option Value)(base:Heap)(CX:oH)(n:Nat)(x:Str)(C:Addr)(sp:Sp):Prop where
 ex:∃f fd ps,Mk K C f/\au P w K mg base CX n f fd ps sp/\d8 K fd ps []/\mg x=some (.ref C)
section
variable {X:Cx}{CX:oH}{e:Expr}{es:List Expr}{t:TA}{x:Str}{p pos:Pos}{n k:Nat}{E:XK}{C:Addr}{sp:Sp}
def iU (C:Addr)(sp:Sp)(E:XK)(vs:List V)(H:Hp)(Q:VK):Prop:=∀a dx,H a=none->H dx=none->dx≠a->sp (.ref a::(vs++[])) @u (λv H2=>v= .non/\Q (.ref a) H2) E
def NE (C:Addr)(sp:Sp)(E:XK)(t:TA):TE:=λσ H Q=>t σ H λvs H1=>iU C sp E vs H1 Q
theorem gH (c:jO X.prog X.w X.K X.mg X.base CX n x C sp)(L:ij CX X E)(S:bT k X.A)(J:n+1<=k)(W:Gl X x)(I:PA X (e::es) t)(j:(x==("__debug__":Str))=false:=by decide)(G:aS (e::es)=true:=by rfl):
 PE X (.Call (.Name x p) (e::es) [] pos) (NE C sp E t):=by
 obtain ⟨f,fd,ps,M,F,b,z⟩:=c.ex;have h':(bx e&&aS es)=true:=G;rw [Bool.and_eq_true] at h';rwa[(Hu M F (S.mono J) W z b .nil L I j @et @eu).imp λσ H Q h=> ?_];exact h
end
section
variable {X:Cx}{K:Fg}{a b c:Expr}{ta tb tc:TE}{pos:Pos}
def CK (K:Fg)(p q:Addr)(H:Hp)(Q:VK):Prop:=Jn p q H Q\/∃xs ys,aC K H p xs/\aC K H q ys/\xs≠[]/\xs.length+ys.length<=sizeLine/\(ys=[]->Q (.ref p) H)/\(ys≠[]->∀l,H l=none->Q (.ref l) (upd H l (.tup (xs++ys))))
def NR (K:Fg):R2:=λx y H Q=>match x,y with
 | .int i,.int j=>Q (.int (i+j)) H
 | .str a,.str b=>a.length+b.length<=sizeLine/\Q (.str (a++b)) H
 | .ref p,.ref q=>CK K p q H Q
 |_,_=>False
theorem Kn (O:X.K=K):cU X @bu (NR K):=by
 subst O;rwa[(Nr.or Ia).imp λx y H Q h=> ?_]
 cases x with
 |int i=>cases y with
  |int j=>exact .inl h
  |_=>exact False.elim h
 |str a=>cases y with
  |str b=>exact .inl h
  |_=>exact False.elim h
 |ref p=>cases y with
  |ref q=>
   rcases h with h|⟨xs,ys,h1,h2,L,z,U,I⟩
   ·exact .inl h
   ·exact .inr ⟨p,q,xs,ys,rfl,rfl,h1,h2,L,z,U,I⟩
  |_=>exact False.elim h
 |_=>exact False.elim h
theorem O7 {p q:Addr}{H:Hp}{Q:VK}{xs ys:List V}(h1:H p=some (.lst xs))(h2:H q=some (.lst ys))(F:xs.length+ys.length<=sizeLine)(g:∀l,H l=none->Q (.ref l) (upd H l (.lst (xs++ys)))):CK K p q H Q:= .inl ⟨xs,ys,h1,h2,F,g⟩
theorem O6 {p q:Addr}{H:Hp}{Q:VK}{xs ys:List V}(h1:aC K H p xs)(h2:aC K H q ys)(j:xs≠[])(O:ys≠[])(F:xs.length+ys.length<=sizeLine)(g:∀l,H l=none->Q (.ref l) (upd H l (.tup (xs++ys)))):CK K p q H Q:=
 .inr ⟨xs,ys,h1,h2,j,F,λz=>absurd z O,λ_=>g⟩
def GN (r r':R2)(ta tb tc:TE):TT:=λσ H Q=>ta σ H λx H1=>tb σ H1 λy H2=>r x y H2 λz H3=>match z with| .bl k=>su k (tc σ H3 λw' H4=>r' y w' H4 λv H5=>match v with| .bl c=>Q c H5|_=>False) (Q false H3)|_=>False
theorem wE {F j:CmpOp}{r R:R2}(ho:cU X (compareOp F) r)(J:cU X @fz R)(ha:PE X a ta)(hb:PE X b tb)(hc:PE X c tc)
(S:lastMarks [F,j] [b,c]=false:=by with_unfolding_all rfl):PT X (.Compare a [F,j] [b,c] pos) (GN r R ta tb tc):=by
 intro pins s σ H Q I h
 refine isTrue_chain (bG (ha pins s σ H _ I h) λv U ⟨x,H1,I1,r1,q1⟩=>test_link (bG (hb pins U σ H1 _ I1 q1) λu s2 ⟨y,H2,W,O,q2⟩=>
  bG (ho pins s2 σ H2 x y v u _ W r1 O q2) λd s3 ⟨z,L,Z,r3,Y⟩=> ?_)) S
 match z,Y with
 | .bl k,Y=>
   cases r3;rwa[wpAny_truthy_bool ?_]
   cases k with
   |false=>exact ite_ff ⟨L,Z,Y⟩
   |true=>
    rwa[ite_tt (test_last (bG (hc pins s3 σ L _ Z Y) λw' s4 ⟨z',H4,I4,r4,q4⟩=>bG (J pins s4 σ H4 y z' u w' _ I4 O r4 q4) λd' s5 ⟨z2,H5,I5,r5,G⟩=> ?_))]
    match z2,G with
    | .bl c,G=>
      cases r5;exact wpAny_truthy_bool ⟨H5,I5,G⟩
def Jb (a b:Addr)(H:Hp)(Q:VK):Prop:=∃xs zs,H a=some (.lst xs)/\H b=some (.lst zs)/\xs.length+zs.length<=sizeLine/\Q .non (upd H a (.lst (xs++zs)))
def GO:V->List V->Hp->VK->Prop:=λx xs H Q=>match x,xs with| .ref a,[.ref b]=>Jb a b H Q|_,_=>False
theorem pH:yv X "list.extend" GO:=by
 intro pins s σ H x xs v j Q I G z h
 match x,xs,h with
 | .ref a,[.ref b],⟨ys,zs,h1,h2,h3,h4⟩=>exact Cf pins s σ H _ _ v j Q I G z ⟨a,b,ys,zs,rfl,rfl,h1,h2,h3,h4⟩
theorem JU {a b:Addr}{H:Hp}{Q:VK}{xs zs:List V}(h:H a=some (.lst xs))(h2:H b=some (.lst zs))(F:xs.length+zs.length<=sizeLine)(g:Q .non (upd H a (.lst (xs++zs)))):Jb a b H Q:=⟨xs,zs,h,h2,F,g⟩
def Nx:List V->Hp->VK->Prop:=λxs H Q=>match xs with|[.int i]=>i.natAbs.log2<1920/\Q (.str @fM) H|_=>False
theorem Kl:aW X (.type "str") Nx:=v7.imp λxs H Q h=>by
 match xs,h with
 |[.int i],h=>exact ⟨i,rfl,h⟩
def Qj:List V->Hp->VK->Prop:=λxs H Q=>match xs with|[.int i,.int j]=>Q (.int (if j>i then j else i)) H|_=>False
theorem Nk (I:X.calm=true):aW X (.builtin "max") Qj:=(CL I).imp λxs H Q h=>by
 match xs,h with
 |[.int i,.int j],h=>exact ⟨i,j,rfl,h⟩
end
open Builtin Builtin.Str
section
variable {X:Cx}{K:Fg}
theorem GV {l:List (Str×Tok)}:aL ((l.map (·.1)).map V.str) (strValues l):=by
 induction l with
 |nil=>exact .nil
 |cons p r ih=>exact .cons ⟨p.2,rfl⟩ ih
def Kp:V->List V->Hp->VK->Prop:=λx xs H Q=>match x,xs with
 | .str z,[.str y]=>((y.length==0)=false/\z.length+2<=sizeLine)/\∀l,H l=none->Q (.ref l) (upd H l (.lst ((Txt.split z y).map V.str)))
 |_,_=>False
theorem GL:yv X "str.split" Kp:=by
 intro pins s σ H x xs v R Q I G L h
 match x,xs,h with
 | .str x,[.str y],⟨⟨hy,hsz⟩,q⟩=>
   obtain ⟨t,rfl⟩:=G
   cases L with
   |cons r rr=>
    cases rr;obtain ⟨u,rfl⟩:=r
    have J:(partsBetween x (occurrences x y 0 x.length (x.length+1)) y.length).length<=sizeLine:=by
     have Y:=StrLaws.occ_length_le x y 0 x.length (x.length+1);rw [length_partsBetween];lia
    have z:∀(l:List (Str×Tok)) (k:Nat),l.map (·.1)=Txt.split x y->l.length<=sizeLine->EP X pins σ Q (.ref s.heap.objs.size) {s with heap:=s.heap.push {cls:= .type "list",data:= .seq (strValues l).toArray},toks:=k}:=λl k e W=>by
     rwa[⟨.ref s.heap.objs.size,_,I.laid (t':=k) (o:= .lst ((Txt.split x y).map V.str)) (λb S q=>Heap.get?_push_of_some _ q) @f ?_,rfl,q _ @bR⟩];rw [<-e];exact ⟨by simpa using W,strValues l,0,GV,Heap.get?_push_size _ rfl⟩
    have U:1<=sizeLine:=by lia
    cases h1:(decide (x.length<y.length)||decide (strKind x<strKind y))
    ·cases j:(occurrences x y 0 x.length (x.length+1)).isEmpty
     ·rwa[call_meets F.slot_str_split @ev F.entry_str_split @di (meets_str_split_sep x y t u h1 hy j @c J) ?_];show wants _ _ _ {s with toks:=_,heap:=s.heap.push {cls:= .type "list",data:= .seq (strsFrom s.toks (partsBetween x (occurrences x y 0 x.length (x.length+1)) y.length)).toArray}};rw [strsFrom_eq];have e:(numbered s.toks (partsBetween x (occurrences x y 0 x.length (x.length+1)) y.length)).map (·.1)=Txt.split x y:=(numbered_texts _ _).trans ((if_neg (ne_true_of_eq_false h1)).trans (if_neg (ne_true_of_eq_false j))).symm;rwa[z _ _ e ?_];have O:=congrArg List.length (numbered_texts s.toks (partsBetween x (occurrences x y 0 x.length (x.length+1)) y.length));rw [length_map] at O;lia
     ·exact call_meets F.slot_str_split @ev F.entry_str_split @di (meets_str_split_not_found x y t u h1 hy j)
       (z [(x,t)] s.toks ((if_neg (ne_true_of_eq_false h1)).trans (if_pos j)).symm U)
    ·exact call_meets F.slot_str_split @ev F.entry_str_split @di (meets_str_split_cannot_occur x y t u h1)
      (z [(x,t)] s.toks (if_pos h1).symm U)
def Qa (K:Fg):V->Option Int->Option Int->Hp->VK->Prop:=λx lo hi H Q=>match x with
 | .ref p=>nQ K p lo hi H Q
 | .str z=>z.length<=sizeLine/\Q (.str (Txt.slice z lo hi)) H
 |_=>False
theorem Ax (U:X.K=K):MO X (Qa K):=by
 intro pins s σ H x v W S lo hi sl Q I R hs pl O h
 cases x with
 |ref p=>exact P7 U pins s σ H _ v W S lo hi sl Q I R hs pl O h
 |str z=>
  obtain ⟨t,rfl⟩:=R;obtain ⟨J,q⟩:=h;rwa[⟨"str",_,F.slot_str_getitem.lookup,typeIs_str _ _ _,?_⟩];have G:∀L k,EP X pins σ Q (.str (Txt.slice z lo hi) L) {s with toks:=k}:=λL k=>⟨.str _,H,I.tok k,⟨L,rfl⟩,q⟩
  cases pl with
  |none=>cases O with
   |none=>exact wpAny_getItem_str_slice (l:=none) (u:=none) (st:=none) hs rfl @G
   |int j tj=>exact wpAny_getItem_str_slice (l:=none) (u:=some (j,tj)) (st:=none) hs rfl @G
  |int i ti=>cases O with
   |none=>exact wpAny_getItem_str_slice (l:=some (i,ti)) (u:=none) (st:=none) hs rfl @G
   |int j tj=>exact wpAny_getItem_str_slice (l:=some (i,ti)) (u:=some (j,tj)) (st:=none) hs rfl @G
 |_=>exact False.elim h
theorem pi {x:Str}{C:Addr}{pos:Pos}(W:Gl X x)(F:X.mg x=some (.ref C))(j:(x==("__debug__":Str))=false:=by decide):PE X (.Name x pos) (tC (.ref C)):=AN (v:=V.ref C) W F rfl j
end
theorem aj.seqT {K:Fg}{H H':Hp}{a:Addr}{xs:List V}(e:aj H H')(h:aC K H a xs):aC K H' a xs:=by
 rcases h with (h|⟨o,h⟩)|h
 ·exact .inl (.inl (e _ _ h))
 ·exact .inl (.inr ⟨o,e _ _ h⟩)
 ·exact .inr h
theorem aj.upd {H:Hp}{p:Addr}{o:HO}(G:H p=none):aj H @eW:=λb u z=>by rw [ak (bB z G)];exact z
theorem aj.any {K:Fg}{H H':Hp}{a:Addr}{xs:List V}(e:aj H H')(h:aA K H a xs\/aC K H a xs):aA K H' a xs\/aC K H' a xs:=h.imp e.seq e.seqT
section
variable {K:Fg}{H H':Hp}{x:V}
theorem JP {α β:Type}{F:α->β->Prop}:∀ {xs:List α} {ds:List β} {i:Nat} {x:α},Paired F xs ds->xs[i]? =some x->∃d,ds[i]? =some d/\F x d
 |_,_,0,_,.cons r _,h=>⟨_,rfl,by simp at h;exact h▸r⟩
 |_,_,i+1,_,.cons _ t,h=>by simpa using JP t (by simpa using h)
 |_,_,i,_,.nil,h=>by simp at h
theorem JO {α β:Type}{F:α->β->Prop}:∀ {xs:List α} {ds:List β} {i:Nat} {d:β},Paired F xs ds->ds[i]? =some d->∃x,xs[i]? =some x/\F x d
 |_,_,0,_,.cons r _,h=>⟨_,rfl,by simp at h;exact h▸r⟩
 |_,_,i+1,_,.cons _ t,h=>by simpa using JO t (by simpa using h)
 |_,_,i,_,.nil,h=>by simp at h
theorem _root_.PySem.Paired.len {α β:Type}{F:α->β->Prop}{xs:List α}{ds:List β}(h:Paired F xs ds):xs.length=ds.length:=by
 induction h with
 |nil=>rfl
 |cons _ _ ih=>simp [ih]
theorem Rs {α β:Type}{F:α->β->Prop}:∀ {xs:List α} {ds:List β},xs.length=ds.length->(∀(i:Nat) x d,xs[i]? =some x->ds[i]? =some d->F x d)->Paired F xs ds
 |[],[],_,_=> .nil
 |x::xs,d::ds,hl,h=> .cons (h 0 x d rfl rfl) (Rs (by simpa using hl) λi y e h1 h2=>h (i+1) y e (by simpa using h1) (by simpa using h2))
 |[],_::_,hl,_=>by simp at hl
 |_::_,[],hl,_=>by simp at hl
theorem _root_.PySem.Paired.get1 {α β:Type}{F:α->β->Prop}{xs:List α}{ds:List β}{i:Nat}{x:α}(h:Paired F xs ds)(e:xs[i]? =some x):∃d,ds[i]? =some d/\F x d:=JP h e
theorem _root_.PySem.Paired.get2 {α β:Type}{F:α->β->Prop}{xs:List α}{ds:List β}{i:Nat}{d:β}(h:Paired F xs ds)(e:ds[i]? =some d):∃x,xs[i]? =some x/\F x d:=JO h e
theorem _root_.PySem.Paired.of {α β:Type}{F:α->β->Prop}{xs:List α}{ds:List β}(W:xs.length=ds.length)(h:∀(i:Nat) x d,xs[i]? =some x->ds[i]? =some d->F x d):Paired F xs ds:=Rs W h
theorem _root_.PySem.Paired.app {α β:Type}{F:α->β->Prop}{xs j:List α}{ds z:List β}(h:Paired F xs ds)(h':Paired F j z):Paired F (xs++j) (ds++z):=by
 induction h with
 |nil=>exact h'
 |cons r _ ih=>exact .cons r ih
abbrev ax (K:Fg)(H:Hp):List V->List D->Prop:=Paired (bH K H)
theorem hI {a:Addr}{xs:List V}{ds:List D}(h:aC K H a xs)(p:ax K H xs ds):bH K H (.ref a) (.tup ds):=
 .tup h p.len λi x d h1 h2=>by obtain ⟨e,L,r⟩:=p.get1 h1;rw [h2] at L;cases L;exact r
theorem O3 {a:Addr}{xs:List V}{ds:List D}(h:aA K H a xs)(p:ax K H xs ds):bH K H (.ref a) (.lst ds):=
 .lst h p.len λi x d h1 h2=>by obtain ⟨e,L,r⟩:=p.get1 h1;rw [h2] at L;cases L;exact r
theorem bH.outT {ds:List D}(h:bH K H x (.tup ds)):∃a xs,x= .ref a/\aC K H a xs/\ax K H xs ds:=by
 cases h with
 |tup h hl hi=>exact ⟨_,_,rfl,h,PySem.Paired.of hl hi⟩
theorem bH.isInt {i:Int}(h:bH K H x (.int i)):x= .int i:=by cases h;rfl
theorem bH.isStr {i:Str}(h:bH K H x (.str i)):x= .str i:=by cases h;rfl
theorem bH.same {d:D}(h:bH K H x d)(s:aj H H'):bH K H' x d:=by
 induction h with
 |non=>exact .non
 |bl b=>exact .bl b
 |int i=>exact .int i
 |str z=>exact .str z
 |lst h hl hi ih=>exact .lst (s.seq h) hl ih
 |tup h hl hi ih=>exact .tup (s.seqT h) hl ih
theorem ax.same {xs:List V}{ds:List D}(h:ax K H xs ds)(s:aj H H'):ax K H' xs ds:=Paired.imp' (λ_ _ z=>bH.same z s) h
mutual
def noL:D->Bool
 | .lst _=>false
 | .tup ds=>noLs ds
 |_=>true
def noLs:List D->Bool
 |[]=>true
 |d::ds=>noL d&&noLs ds
end
theorem gk:∀ {ds:List D} {i:Nat} {d:D},noLs ds=true->ds[i]? =some d->noL d=true
 |[],_,_,_,h=>by simp at h
 |e::ds,0,d,hn,h=>by
  rw [noLs,Bool.and_eq_true] at hn;simp at h;exact h▸hn.1
 |e::ds,i+1,d,hn,h=>by
  rw [noLs,Bool.and_eq_true] at hn;exact gk hn.2 (by simpa using h)
theorem aC.noL {a p:Addr}{xs zs:List V}{o:HO}(h:aC K H a xs)(G:H p=some (.lst zs)):aC K @eW a xs:=by
 rcases h with (h|⟨u,h⟩)|h
 ·exact .inl (.inl (by rw [ak (λz=>by rw [z,G] at h;cases h)];exact h))
 ·exact .inl (.inr ⟨u,by rw [ak (λz=>by rw [z,G] at h;cases h)];exact h⟩)
 ·exact .inr h
theorem bH.noL {d:D}{p:Addr}{zs:List V}{o:HO}(h:bH K H x d)(j:L2.noL d=true)(G:H p=some (.lst zs)):bH K (L2.upd H p o) x d:=by
 induction h with
 |non=>exact .non
 |bl b=>exact .bl b
 |int i=>exact .int i
 |str z=>exact .str z
 |lst h hl hi ih=>rw [L2.noL] at j;cases j
 |tup h hl hi ih=>
  rw [L2.noL] at j;exact .tup (h.noL G) hl λi x d h1 h2=>ih i x d h1 h2 (gk j h2)
theorem dA {xs zs:List V}{ds:List D}{p:Addr}{o:HO}(h:ax K H xs ds)(z:noLs ds=true)(G:H p=some (.lst zs)):ax K @eW xs ds:=
 PySem.Paired.of h.len λi x d h1 h2=>by
  obtain ⟨e,L,r⟩:=h.get1 h1;rw [h2] at L;cases L;exact r.noL (gk z h2) G
theorem G4 {p:Addr}{ys:List V}{Q:VK}(h:aA K H p ys\/aC K H p ys)(g:Q (.int ys.length) H):iL K p H Q:=⟨ys,h,g⟩
theorem DM {p:Addr}{ys:List V}{Q:VK}{i:Int}{v:V}(h:aA K H p ys\/aC K H p ys)(e:lU ys i=some v)(g:Q v H):iM K p i H Q:=⟨ys,h,v,e,g⟩
theorem L9 {p:Addr}{ys:List V}{Q:VK}(h:aA K H p ys\/aC K H p ys)(g:∀l,H l=none->Q (.ref l) @bS):xu K p H Q:=⟨ys,h,g⟩
end
section
variable {K:Fg}{H H':Hp}{x:V}{Q:VK}
theorem aj.get {b:Addr}{o:HO}(s:aj H H')(h:H b=some o):H' b=some o:=s b o h
def LV (xs:List V)(H:Hp)(Q:VK):Prop:=xs.length<=sizeLine/\∀p,H p=none->Q (.ref p) (upd H p (.tup xs))
def PN (xs:List V)(H:Hp)(Q:VK):Prop:=xs.length<=sizeLine/\∀p,H p=none->Q (.ref p) (upd H p (.lst xs))
def Nt (t:TA):TE:=λσ H Q=>t σ H λxs H1=>LV xs H1 Q
def NG (t:TA):TE:=λσ H Q=>t σ H λxs H1=>PN xs H1 Q
theorem eX {X:Cx}{es:List Expr}{t:TA}{pos:Pos}{O}(h:PA X es t):PE X (.Tuple es O pos) (Nt t):=Li h
theorem yA {X:Cx}{es:List Expr}{t:TA}{pos:Pos}(h:PA X es t):PE X (.List es pos) (NG t):=Lj h
theorem bX {xs:List V}(F:xs.length<=sizeLine)(g:∀p H',aj H H'->H p=none->H' p=some (.tup xs)->Q (.ref p) H'):LV xs H Q:=
 ⟨F,λp n=>g p _ (.upd n) n af⟩
theorem gm {xs:List V}(F:xs.length<=sizeLine)(g:∀p H',aj H H'->H p=none->H' p=some (.lst xs)->Q (.ref p) H'):PN xs H Q:=
 ⟨F,λp n=>g p _ (.upd n) n af⟩
theorem fJ {p:Addr}{ys:List V}(h:aA K H p ys)(g:∀p H',aj H H'->H p=none->H' p=some (.tup ys)->Q (.ref p) H'):Dr K p H Q:=NV h λp n=>g p _ (.upd n) n af
theorem fC {p:Addr}{ys:List V}(h:aA K H p ys\/aC K H p ys)(g:∀p H',aj H H'->H p=none->H' p=some (.lst ys)->Q (.ref p) H'):xu K p H Q:=L9 h λp n=>g p _ (.upd n) n af
theorem o0 {p:Addr}{xs:List V}{lo hi:Option Int}(h:aA K H p xs)(g:∀p H',aj H H'->H p=none->H' p=some (.lst @bt)->Q (.ref p) H'):nQ K p lo hi H Q:=KR h λp n=>g p _ (.upd n) n af
theorem gK {p:Addr}{xs:List V}{lo hi:Option Int}(h:aC K H p xs)(z: ¬(HT.sIx xs.length 0 lo=0/\HT.sIx xs.length xs.length hi=xs.length))(g:∀p H',aj H H'->H p=none->H' p=some (.tup @bt)->Q (.ref p) H'):nQ K p lo hi H Q:=KQ h z λp n=>g p _ (.upd n) n af
theorem ax.via {xs:List V}{ds:List D}(s:aj H H')(h:ax K H xs ds):ax K H' xs ds:=ax.same h s
theorem bt {n:Nat}(h:n<=1000000):n<=sizeLine:=by rw [sizeLine_eq];lia
theorem aD {α:Type}{f:α->D}{xs:List V}{j:List α}(h:ax K H xs (j.map f)):xs.length=j.length:=by rw [h.len];simp
theorem bc {α:Type}{f:α->D}{xs:List V}{j:List α}{i:Nat}{x:V}(h:ax K H xs (j.map f))(e:xs[i]? =some x):∃a,j[i]? =some a/\bH K H x (f a):=by
 obtain ⟨d,J,dx⟩:=h.get1 e;rw [getElem?_map] at J
 cases z:j[i]? with
 |none=>rw [z] at J;cases J
 |some l=>rw [z] at J;exact ⟨l,rfl,Option.some.inj J▸dx⟩
end
end L2
local macro_rules | `(tactic| walk_at "l3sq") => `(tactic| first
  | assumption
  | (show L2.aC _ _ _ _; first | exact L2.aC.of (by assumption) | exact L2.aj.seqT (by assumption) (by walk_at "l3sq"))
  | (show L2.aA _ _ _ _; first | exact L2.aA.of (by assumption) | exact L2.aj.seq (by assumption) (by walk_at "l3sq"))
  | (show L2.Rl _ _ _ _; exact L2.Rl.via (by assumption) (by walk_at "l3sq"))
  | (show L2.ax _ _ _ _; exact L2.ax.via (by assumption) (by walk_at "l3sq"))
  | (show L2.bH _ _ _ _; exact L2.bH.via (by assumption) (by walk_at "l3sq"))
  | (show _ = some _; exact L2.aj.get (by assumption) (by walk_at "l3sq")))
namespace L2
theorem Q4 {c:Prop}[Decidable c]{A B:Prop}(I: ¬c)(h:A):su (!decide c) A B:=Rt (λ_=>h) (λz=>absurd z I)
theorem Q5 {c:Prop}[Decidable c]{A B:Prop}(I:c)(h:B):su (!decide c) A B:=Rt (λz=>absurd I z) (λ_=>h)
end L2
set_option hygiene false in
local macro_rules|`(tactic|walk_at "l3gs")=>do
 let r←("gr gs gt;gu gv gw;gx gy;gz gA;gB gC gD;gE gF gG gH gI gJ gK;gL gM;gN gO;gP gQ".splitOn ";").toArray.mapM λx=>do let i:Array Lean.Term:=(x.splitOn " ").toArray.map λs=>⟨Lean.mkIdent (.mkSimple s)⟩;let p:=i[0]!;let e:=i.extract 1 i.size;`(Lean.Parser.Tactic.tacticSeq|(show @$p;first $[|refine @$e]*))
 `(tactic|((conv=>whnf);first $[|$r]*))
local macro_rules | `(tactic| walk_at "l3go") => `(tactic| ((repeat (walk_at "l3gs")); conv => whnf))
local macro_rules | `(tactic| walk_at "l3gc") => `(tactic| (walk_at "l3go"; refine L2.cutE (by walk_at "l3go"; exact ⟨rfl, rfl⟩) ?_))
local macro_rules | `(tactic| walk_at "l3gr") => `(tactic| first | refine L2.be rfl ?_ | refine L2.bL rfl ?_)
namespace L2
open PySem PySem.Spec PyProof.Rows
section
variable {X:Cx}{K:Fg}{H:Hp}{Q:VK}
theorem F6 {prog:Program}{w:World}{A:Around}{E:Value->Shared->Prop}{s:Shared}{t b:Addr}{ws:List Value}{Q:Value->Shared->Prop}(ht:IsTup s.heap t (#[]:Array Value))(hb:IsTup s.heap b ws.toArray)(h:Q (.ref b) s):wpAny @n A (binaryOp .Add (.ref t) (.ref b)) Q E s:=by
 obtain ⟨⟨Y,dd,U,sl⟩,O,L,n,W⟩:=id ht;obtain ⟨⟨S,z,R,G⟩,j,I,Z,J⟩:=id hb;simp only at L W I J;subst L W I J;exact concat_meets ⟨_,O,rfl⟩ ⟨_,j,rfl⟩ noFill_tuple_add seq_tuple_add PySem.F.slot_tuple_add PySem.F.entry_tuple_add @cm (tuple_addW0 t b #[] ws.toArray n Z dd z sl G @e) ⟨O,j,h⟩
def Oj (K:Fg):R2:=λx y H Q=>∃a b ys,x= .ref a/\y= .ref b/\aC K H a []/\aC K H b ys/\Q (.ref b) H
theorem Ib:cU X @bu (Oj X.K):=by
 intro pins s σ H x y v u Q I G L h;obtain ⟨a,b,ys,rfl,rfl,z,J,q⟩:=h;cases G;cases L;obtain ⟨its,F,S,_⟩:=I.tuple z;obtain ⟨j,O,p2,_⟩:=I.tuple J;cases F;exact F6 S p2 ⟨.ref b,H,I,rfl,q⟩
def F8 (K:Fg)(p q:Addr)(H:Hp)(Q:VK):Prop:=CK K p q H Q\/∃ys,aC K H p []/\aC K H q ys/\Q (.ref q) H
def NQ (K:Fg):R2:=λx y H Q=>match x,y with
 | .int i,.int j=>Q (.int (i+j)) H
 | .str a,.str b=>a.length+b.length<=sizeLine/\Q (.str (a++b)) H
 | .ref p,.ref q=>F8 K p q H Q
 |_,_=>False
theorem dI (O:X.K=K):cU X @bu (NQ K):=by
 subst O;rwa[((Kn rfl).or Ib).imp λx y H Q h=> ?_]
 cases x with
 |int i=>cases y with
  |int j=>exact .inl h
  |_=>exact False.elim h
 |str a=>cases y with
  |str b=>exact .inl h
  |_=>exact False.elim h
 |ref p=>cases y with
  |ref q=>
   rcases h with h|⟨ys,h1,h2,L⟩
   ·exact .inl h
   ·exact .inr ⟨p,q,ys,rfl,rfl,h1,h2,L⟩
  |_=>exact False.elim h
 |_=>exact False.elim h
theorem F7 {p q:Addr}{xs ys:List V}(h1:H p=some (.lst xs))(h2:H q=some (.lst ys))(F:xs.length+ys.length<=sizeLine)(g:∀l H',aj H H'->H l=none->H' l=some (.lst (xs++ys))->Q (.ref l) H'):F8 K p q H Q:= .inl (O7 h1 h2 F λl n=>g l _ (.upd n) n af)
theorem uA {p q:Addr}{xs ys:List V}(h1:aC K H p xs)(h2:H q=some (.tup ys))(O:ys≠[])(F:xs.length+ys.length<=sizeLine)(g:∀l H',aj H H'->H' l=some (.tup (xs++ys))->Q (.ref l) H'):F8 K p q H Q:=by
 by_cases z:xs=[]
 ·subst z;exact .inr ⟨ys,h1,aC.of h2,g q H (.refl _) h2⟩
 ·exact .inl (O6 h1 (aC.of h2) z O F λl n=>g l _ (.upd n) af)
theorem uz (x:V)(xs:List V):fV (x::xs) (some 1) none=xs:=by
 unfold fV
 have e:HT.sIx (x::xs).length 0 (some 1)=1:=by
  rw [show (some (1:Int))=some ((1:Nat):Int) from rfl,HT.sIx_nat,length_cons];lia
 rw [e,HT.sIx_none,length_cons];simp
theorem kB {pk:List @y}{σ:St}{x y:V}:tF (cy (none::none::pk) σ) (((cy (none::none::pk) σ).set 0 (some x)).set 1 (some y)):=
 tF.cons (.inl rfl) (.cons (.inl rfl) (.refl _))
theorem pK {pk:List @y}{σ:St}{x y z u:V}:tF (cy (none::none::none::none::pk) σ) (((((cy (none::none::none::none::pk) σ).set 0 (some x)).set 1 (some y)).set 2 (some z)).set 3 @dS):=
 tF.cons (.inl rfl) (.cons (.inl rfl) (.cons (.inl rfl) (.cons (.inl rfl) (.refl _))))
end
abbrev TJ:=Str->St->Hp->(Str->Hp->Prop)->Prop
section
variable {X:Cx}{es:List Expr}{t:TJ}{te:TE}{e:Expr}{pos:Pos}
def PJ (X:Cx)(es:List Expr)(t:TJ):Prop:=∀(pins:List (Addr×Obj)) (s:Shared) (σ:St) (H:Hp) (acc:Str) (Q:Str->Hp->Prop),av X pins σ H s->t acc σ H Q->
 Joins @d X.A X.xe (evalEach es X.env) acc (λout s1=>∃H1,av X pins σ H1 s1/\Q out H1) s
def Q2:TJ:=λacc σ H Q=>Q acc H
theorem En:PJ X [] Q2:=λpins s σ H j Q I h=>⟨H,I,h⟩
def Q0 (c:Str)(t:TJ):TJ:=λacc σ H Q=>(acc++c).length<=sizeLine/\t (acc++c) σ H Q
theorem El {c:Str}{k:Nat}(h:PJ X es t):PJ X (.Constant (.str c) k pos::es) (Q0 c t):=λpins s σ H j Q I ⟨F,q⟩=>
 Joins_cons (Calls.Constant_str ⟨c,_,rfl,F,h pins _ σ H _ Q @eq q⟩)
def Q1 (te:TE)(t:TJ):TJ:=λacc σ H Q=>te σ H λx H1=>match x with
 | .str y=>(reprText y).length<=sizeLine/\(acc++reprText y).length<=sizeLine/\t (acc++reprText y) σ H1 Q
 |_=>False
theorem Em (G:PE X e te)(h:PJ X es t):PJ X (.FormattedValue e 114 none pos::es) (Q1 te t):=λpins s σ H z Q I q=>by
 rwa[Joins_cons (wpAny_FormattedValue_repr (bG (G pins s σ H _ I q) λv O ⟨x,H1,F,L,J⟩=> ?_))]
 cases x with
 |str y=>
  obtain ⟨tk,rfl⟩:=L;obtain ⟨j,U,W⟩:=J;rwa[wpAny_pyReprObj_str ?_ j];exact wpAny_formatField_str ⟨_,_,rfl,U,h pins _ σ H1 _ Q (F.tok _) W⟩ ⟨_,_,rfl,U,h pins _ σ H1 _ Q ((F.tok _).tok _) W⟩ j
 |_=>exact False.elim J
def N2 (t:TJ):TE:=λσ H Q=>t Str.empty σ H λout H1=>out.length<=sizeLine/\Q (.str out) H1
theorem qW {M:Model}{A:Around}{E:Value->Shared->Prop}{Q j:Str->Shared->Prop}(i:∀o s,Q o s->j o s):∀(ps:List (Sem Value)) (acc:Str) (s:Shared),Joins M A E ps acc Q s->Joins M A E ps acc j s
 |[],acc,s,h=>i acc s h
 |x::dJ,acc,s,h=>bG (show wpAny M A x _ E s from h) λv L ⟨y,t,e,z,r⟩=>⟨y,t,e,z,qW i dJ (acc++y) L r⟩
theorem tQ {j F:Expr}(h:PJ X (j::F::es) t):PE X (.JoinedStr (j::F::es) pos) (N2 t):=λpins s σ H Q I q=>
 wpAny_JoinedStr (qW (λo L ⟨H1,G,z,J⟩=>⟨z,.str o,H1,G.tok _,⟨_,rfl⟩,J⟩) _ _ _ (h pins s σ H Str.empty _ I q))
end
def PB (x:Str):Prop:=∀c∈x.cps.toList,c<128
theorem Eg:∀c,c<128->(Builtin.Str.reprChar 39 c).length<=4/\(Builtin.Str.reprChar 34 c).length<=4:=by decide+kernel
theorem K7 (x:Str):reprQuote x=39\/reprQuote x=34:=by
 unfold reprQuote;split
 ·exact .inr rfl
 ·exact .inl rfl
theorem ub (q:Nat)(h:∀c,c<128->(Builtin.Str.reprChar q c).length<=4):∀(cs:List Nat) (n:Nat),(∀c∈cs,c<128)->cs.foldl (λn c=>n+(Builtin.Str.reprChar q c).length) n<=n+4*cs.length
 |[],n,_=>Nat.le_refl _
 |c::cs,n,hc=>by
  have h1:=h c (hc c (.head _));have h2:=ub q h cs (n+(Builtin.Str.reprChar q c).length) λd J=>hc d (.tail _ J);rw [foldl_cons,length_cons];lia
theorem Ef {x:Str}(h:PB x):(reprText x).length<=4*x.length+2:=by
 rw [<-reprLen_eq,<-Array.foldl_toList];have h2:=ub (reprQuote x) (λc I=>by rcases K7 x with e|e<;>rw [e];exact (Eg c I).1;exact (Eg c I).2) x.cps.toList 2 h
 have:x.cps.toList.length=x.length:=by simp [Str.length]
 lia
section
variable {X:Cx}{K:Fg}
theorem BQ (bs:List Bool):((List.range bs.length).any λi=>(bs[i]?).getD true)=bs.any id:=by
 rw [Bool.eq_iff_iff,any_eq_true,any_eq_true];constructor
 ·rintro ⟨i,hi,e⟩;have hi:=mem_range.mp hi;rw [getElem?_eq_getElem hi] at e;exact ⟨_,getElem_mem hi,e⟩
 ·rintro ⟨b,F,e⟩;obtain ⟨i,hi,rfl⟩:=mem_iff_getElem.mp F;exact ⟨i,mem_range.mpr hi,by rw [getElem?_eq_getElem hi];exact e⟩
theorem CS (J:X.calm=true):aW X (.builtin "any") (λxs H Q=>∃(a:Addr) (bs:List Bool),xs=[.ref a]/\aA X.K H a @bh/\Q (.bl (bs.any id)) H):=by
 intro pins s σ H xs U Q I r h;obtain ⟨a,bs,rfl,G,q⟩:=h;obtain ⟨u,rfl,L⟩:=fX r;cases L;obtain ⟨its,S,pl,hz⟩:=I.list G;have W:s.heap.IsList a its.toArray:=pl.isList;have F:=yh S
 have z:a<s.heap.objs.size:=by obtain ⟨_,e,_⟩:=W;exact Heap.lt_size e
 rwa[call_any_walk (wpAny_pyIter_list W ?_)]
 refine ⟨s.heap.objs.size,[s.heap.objs.size,a],[s.heap.objs.size],its.toArray.size,_,_,λi=>(bs[i]?).getD true,rfl,Walks.list (A:=X.A.in1) @ee _ a (Nat.ne_of_lt z) its.toArray,
  ⟨⟨_,Heap.get?_push_size _ rfl,rfl,rfl⟩,W.push _⟩,λi v s' Y Z O j=> ?_,λh' tk R=> ?_⟩
 ·obtain ⟨b,e,rfl⟩:=F.get i v (by simpa using O);simp only [e,Option.getD_some] at j;exact wpAny_truthy_bool j
 ·have e:((List.range its.toArray.size).any λi=>(bs[i]?).getD true)=bs.any id:=by
   rw [size_toArray,F.length];exact BQ bs
  rw [e];exact ⟨.bl _,H,I.kept (LSm.kept_iter R),rfl,q⟩
def Jr (K:Fg)(a:Addr)(H:Hp)(Q:VK):Prop:=∃bs:List Bool,aA K H a @bh/\Q (.bl (bs.any _root_.id)) H
def NN (K:Fg):List V->Hp->VK->Prop:=λxs H Q=>match xs with|[.ref a]=>Jr K a H Q|_=>False
theorem JG (O:X.K=K)(I:X.calm=true):aW X (.builtin "any") (NN K):=by
 subst O;rwa[(CS I).imp λxs H Q h=> ?_];unfold NN at h;split at h
 ·obtain ⟨j,h1,h2⟩:=h;exact ⟨_,j,rfl,h1,h2⟩
 ·exact h.elim
theorem JY {K:Fg}{p:Addr}{H:Hp}{Q:VK}{bs:List Bool}(h:aA K H p @bh)(g:Q (.bl (bs.any id)) H):Jr K p H Q:=⟨bs,h,g⟩
end
def lK:Stmt->Nat->Stmt
 | .ClassDef _ _ _ body _ _ _ _ _ _ _,j=>body.getD j (.Pass ⟨0,0,0,0⟩)
 |s,_=>s
structure tJ (K:Fg)(C:Addr):Prop where
 cl:tM K C
 ha:W.findIn K (.ref C) "__class__"=some (some (.builtin "object.__class__"))
 hn:W.specialIn K (.builtin "object.__class__") "__get__"=some (some (.builtin "getset_descriptor.__get__"))
 htk:W.takesIn K (.builtin "object.__class__")=some true
 hm:W.mroIn K C (.type "object")=some true
structure Mk0 (K:Fg)(C:Addr):Prop where
 makes:W.makesIn K C=true
 init:W.findIn K (.ref C) "__init__"=some (some (.builtin "object.__init__"))
 kp:W.keepIn K (.ref C)=true
theorem fY {H:Hp}{a dx:Addr}{o:HO}(h1:H a=none)(h2:H dx=none):aj H (upd (upd H dx (.own a)) a o):=λb u z=>by
 rw [ak (λe=>by rw [e,h1] at z;cases z),ak (λe=>by rw [e,h2] at z;cases z)];exact z
section
variable {X:Cx}{x:Str}{p pos:Pos}{e:Expr}{es:List Expr}{t:TA}{ps:List Str}{sp:Sp}{n m:Nat}{E:XK}{C:Addr}
def RN:XK:=λ_ _ _=>False
theorem Hy:ij (Ar X.prog X.w) X RN:=λpins σ H s e s' I h=>by
 obtain ⟨a,T,F,Z,H',_,_,_,_,_,_,_,_,_,_,q⟩:=h;exact q.elim
end
open PySem.W
noncomputable def Q9 (K:Frag)(C:Addr)(bmB:List Value)(newId:String):Bool:=match K.lookup C with
 |some ⟨.type "type",_,.cls cd,sl⟩=>(match cd.mro,sl.toList with
  | .ref C'::bm,[_,_,_,_,some (.builtin n),_]=>C'==C&&n==newId&& !cd.hasDel&&tailIn K bmB bm&&nsOkIn K cd.ns&&cd.hasDict
  |_,_=>false)
 |_=>false
abbrev RT:List Value:=[.type "ValueError",.type "Exception",.type "BaseException",.type "object"]
def OW (a:Addr)(cls:Value)(dd:Option Addr):HO:= .ext λh=>∃oe vs,h.get? a=some oe/\oe.cls=cls/\oe.dict=dd/\oe.data= .fields vs/\vs[1]? =some .none/\vs[2]? =some .none
structure BaseI (K:Frag)(B:Addr):Prop where
 rd:readsIn K B (.type "type")=true
 at_:findCls K (.ref B) (.type "type") "__init__"=some (.val (.builtin "ValueError.__init__"))
 ga:specialIn K (.ref B) "__getattribute__"=some (some (.builtin "type.__getattribute__"))
inductive QJ (C:Addr)(fld:Str)(vs:List V)(H:Hp)(Q:VK)(_e:XK):Prop
 |mk (a v:_) (_:vs=[.ref a,v]) (_:H a=some (OW a (.ref C) none)) (_:∀d,H d=none->d≠a->Q .non (upd (upd H a (OW a (.ref C) (some d))) d (.xd [(fld,v)])))
structure XI (K:Frag)(C f:Addr):Prop where
 j:Q9 K C RT "ValueError.__new__"=true
 init:findIn K (.ref C) "__init__"=some @V
 fn:isFn K (.ref f)=true
 kp:keepIn K (.ref C)=true
structure XMk (P:Program)(w:World)(K:Frag)(mg:Str->Option Value)(base:Heap)(n:Nat)(x:Str)(C:Addr)(fld:Str):Prop where
 ex:∃f fd ps,XI K C f/\au P w K mg base aZ n f fd ps (QJ C fld)/\d8 K fd ps []/\mg x=some (.ref C)
open PySem.Calls Att
theorem rW {i:Int}{n:Nat}(h:WData.weight (.int i)<=n):Builtin.Int.intBits i<=n:=by
 unfold WData.weight at h;unfold Builtin.Int.intBits;exact h
theorem oE:∀ {ns:List Int} {n:Nat},WData.weightAll @er<=n->∀i∈ns,Builtin.Int.intBits i<=n
 |[],_,_,_,hi=>nomatch hi
 |a::r,n,h,i,hi=>by
  have h':WData.weight (.int a)+1+WData.weightAll (r.map WData.int)<=n:=by simpa [WData.weightAll] using h
  rcases mem_cons.mp hi with rfl|hi
  ·exact rW @c
  ·exact oE @c i hi
theorem yj {R:List Int}(h:WData.layableAll [WData.list (List.map WData.int R)]=true):∀i∈R,Builtin.Int.intBits i<=2^20:=by
 have h1:WData.layable (WData.list (List.map WData.int R))=true:=by simpa [WData.layableAll] using h
 unfold WData.layable at h1;rw [Bool.and_eq_true,Bool.and_eq_true] at h1;have h2:=of_decide_eq_true h1.2;rwa[oE ?_];simpa [WData.weight] using h2
theorem wn {l:OpenLaw}{n:Nat}{q:Program}{j:List Str}{XP:(Str->Option Value)->Heap->Prop}{YP:World->Heap->Prop}{d:DefRec}
(hn:l.most=some n)(W:d.params.defaults=[])
(O:∀(w:World) (s₀ s₁:Shared) (mg mb:Str->Option Value) (fa:Addr) (o:Obj) (pm cd doc:Value) (a:Addr) (vs:List Value) (ns:List Int),
   Ground q j [] XP w s₀ mg mb s₁.heap->YP w s₁.heap->
   s₁.heap.get? fa=some o->o.data= .func (docDef d.name d.params d.body d.scope pm cd doc)->s₁.heap.CodeRec cd d.name->mg d.name=some (.ref fa)->
   s₁.heap.get? a=some {cls:= .type "list",data:= .seq vs.toArray}->IntsAre vs ns->ns.length<=n->(∀i∈ns,Builtin.Int.intBits i<=2^20)->s₁.gens= #[]->
   codeAny (model l.prog w) callerA (.call (.ref fa) ⟨[.ref a],[]⟩) (λr s'=>r= .ok (.ret (.bool true))/\OldK s₁.heap s'.heap/\s'.os=s₁.os/\AllBare s'.gens) s₁):
 WalkO q j XP YP l.row.toRowW d [] @cI:=by
 intro w s₀ s₁ mg mb G Y fa o pm cd doc dV kV ho hd R hD U hg aa Z as F J ab S ac;obtain rfl:dV= .none:=Dflts.none hD W;obtain rfl:kV= .none:=Dflts.noKw hD;obtain ⟨a,vs,ns,rfl,rfl,I,z,L⟩:=Bw hn F S;rwa[enter_call (codeAny_mono (O w s₀ s₁ mg mb fa o pm cd doc a vs ns G Y ho (fd_plain hd) R U I z L (yj J) hg) λr s' hq=> ?_)];obtain ⟨rfl,h2,h3,h4⟩:=hq;exact ⟨.inl ⟨.bool true,.bool true,[],rfl,λ_=>rfl,.bool true,BR l _,λ_=>⟨List.Pairwise.nil,λ_ hm=>(nomatch hm)⟩⟩,h2,h3,h4⟩
def NC:R2:=λx y H Q=>match x,y with
 | .int i,.int j=>IntMulOk i j/\Q (.int (i*j)) H
 |_,_=>False
theorem uN {X:Cx}:cU X @dA NC:=(M4 (C:=IntMulOk) (g:=λi j=>i*j) λ_ _ _ _ _ _ _ I q=>mul_int q I).imp λx y H Q h=>by
 match x,y,h with
 | .int i,.int j,h=>exact ⟨i,j,rfl,rfl,h⟩
theorem FA {i k:Int}(h:Builtin.Int.intBits i<=2^20)(k0:0<=k)(k1:k<1000):IntMulOk (i*48271+7919*k*k+11) (2305843009213693951^4):=by
 have R:7919*k*k+11<=7919*1000*1000+11:=by
  have:7919*k*k<=7919*1000*1000:=Int.mul_le_mul @c @c k0 @b;lia
 have j:0<=7919*k*k+11:=by
  have:0<=7919*k*k:=Int.mul_nonneg @c k0;lia
 rw [Int.add_assoc];rwa[IntMulOk.of_le (m:=2^21) (n:=300) ?_ @g @b];rwa[Nat.le_trans (PyProof.Rows.bits_add (PyProof.Rows.bits_mul h (PySem.intBits_le_64 @b @b)) (PySem.intBits_le_64 @c @c)) @b]
open PySem.StrLaws Builtin.Str
def jn (sp:List Nat):List @fq->List Nat
 |[]=>[]
 |[p]=>p
 |p::q::r=>p++sp++jn sp (q::r)
theorem kj (y:Str):∀ps:List Str,(Str.join y ps).cps.toList=jn y.cps.toList @cs
 |[]=>rfl
 |[p]=>rfl
 |p::q::r=>by
  show (p++y++Str.join y (q::r)).cps.toList=p.cps.toList++y.cps.toList++jn _ ((q::r).map λp=>p.cps.toList);rw [<-kj y (q::r)];simp [Str.cps_append]
theorem qY {c:Nat}{ts:List Nat}(I:c∉ts):∀ps:List @fq,ps≠[]->(jn (c::ts) ps).count c+1=(ps.map (·.count c)).sum+ps.length
 |[],h=>absurd rfl h
 |[p],_=>by simp [jn]
 |p::q::r,_=>by
  have j:=qY I (q::r) @e;have J:ts.count c=0:=List.count_eq_zero.mpr I;simp only [jn,List.count_append,List.count_cons_self,J,map_cons,sum_cons,length_cons] at j ⊢;lia
theorem Mi {c:Nat}{ts:List Nat}:∀(ps qs:List @fq),ps≠[]->qs≠[]->(∀p∈ps,c∉p)->(∀q∈qs,c∉q)->jn (c::ts) ps=jn (c::ts) qs->ps=qs:=by
 have F:∀(p q a b:List Nat),c∉p->c∉q->p++c::a=q++c::b->p=q/\a=b:=by
  intro p
  induction p with
  |nil=>
   intro q a b _ G e
   cases q with
   |nil=>exact ⟨rfl,by simpa using e⟩
   |cons z q=>simp only [nil_append,cons_append,List.cons.injEq] at e;exact absurd (by rw [e.1];exact .head _) G
  |cons z p ih=>
   intro q a b j G e
   cases q with
   |nil=>simp only [nil_append,cons_append,List.cons.injEq] at e;exact absurd (by rw [<-e.1];exact .head _) j
   |cons z' q=>
    simp only [cons_append,List.cons.injEq] at e;obtain ⟨h1,h2⟩:=ih q a b (λz=>j (.tail _ z)) (λz=>G (.tail _ z)) e.2;exact ⟨by rw [e.1,h1],h2⟩
 intro ps
 induction ps with
 |nil=>intro qs h;exact absurd rfl h
 |cons p ps ih=>
  intro qs _ I j G e
  cases qs with
  |nil=>exact absurd rfl I
  |cons q qs=>
   have O:=j p (.head _);have L:=G q (.head _)
   cases ps with
   |nil=>
    cases qs with
    |nil=>simp only [jn] at e;rw [e]
    |cons q2 qs=>
     simp only [jn] at e;exact absurd (by rw [e];simp) O
   |cons p2 ps=>
    cases qs with
    |nil=>
     simp only [jn] at e;exact absurd (by rw [<-e];simp) L
    |cons q2 qs=>
     simp only [jn,append_assoc,cons_append] at e;obtain ⟨h1,h2⟩:=F p q _ _ O L e;have R:=List.append_cancel_left h2;rw [h1,ih (q2::qs) @e @e (λz J=>j z (.tail _ J)) (λz J=>G z (.tail _ J)) R]
theorem Ft {c:Nat}{ts:List Nat}(I:c∉ts):∀(ps:List @fq),(∀p∈ps,c∉p)->∀i,(jn (c::ts) ps)[i]? =some c->∃r,(jn (c::ts) ps).drop i=(c::ts)++r
 |[],_,i,h=>by simp [jn] at h
 |[p],hp,i,h=>by
  simp only [jn] at h;exact absurd (mem_of_getElem? h) (hp p (.head _))
 |p::q::r,hp,i,h=>by
  simp only [jn,append_assoc] at h ⊢;by_cases h1:i<p.length
  ·rw [getElem?_append_left h1] at h;exact absurd (mem_of_getElem? h) (hp p (.head _))
  ·rw [getElem?_append_right @c] at h;rw [List.drop_append,List.drop_eq_nil_of_le @c,nil_append];generalize i - p.length=j at h ⊢;by_cases h2:j<(c::ts).length
   ·rw [getElem?_append_left h2] at h
    cases j with
    |zero=>exact ⟨_,rfl⟩
    |succ j=>
     rw [List.getElem?_cons_succ] at h;exact absurd (mem_of_getElem? h) I
   ·rw [getElem?_append_right @c] at h;obtain ⟨R,e⟩:=Ft I (q::r) (λz F=>hp z (.tail _ F)) _ h;rwa[⟨R,?_⟩];rw [List.drop_append,List.drop_eq_nil_of_le @c,nil_append];exact e
theorem kb (s sub:Str)(hi F:Nat)(O:∀i j,At s sub hi i->At s sub hi j->i<j->i+sub.length<=j):
 ∀(l:List Nat) (st:Array Nat×Nat),l.Pairwise (· < ·)->(∀i∈l,At s sub hi i->st.2<=i)->st.1.size+l.length<=F->
  (forIn l st (occBody s sub hi F)).run.fst.toList.length=st.1.size+(l.filter λi=>decide (i+sub.length<=hi)&&subAt s sub i).length
 |[],st,_,_,_=>by simp
 |a::l,st,hl,hf,hz=>by
  rw [forIn_cons];unfold occBody;have I:=List.pairwise_cons.mp hl;simp only [length_cons] at hz;split
  ·rename_i L;have R:At s sub hi a:=⟨L.1.2,L.2⟩;have h:=kb s sub hi F O l (st.fst.push a,a+sub.length) I.2 (λi G J=>O a i R J (I.1 i G)) (by simp;lia);rwa[Eq.trans h ?_];rw [filter_cons_of_pos (by rw [decide_eq_true L.1.2,L.2];rfl)];simp;lia
  ·rename_i L;have R: ¬At s sub hi a:=λz=>L ⟨⟨⟨by lia,hf a (.head _) z⟩,z.1⟩,z.2⟩;have h:=kb s sub hi F O l st I.2 (λi G J=>hf i (.tail _ G) J) @c;rwa[Eq.trans h ?_]
   rw [filter_cons_of_neg (by
    intro z;rw [Bool.and_eq_true,decide_eq_true_eq] at z
    exact R z)]
theorem v6 (c:Nat):∀(L:List Nat) (n:Nat),L.length<=n->((List.range n).filter λi=>decide (L[i]? =some c)).length=L.count c:=by
 intro L
 induction L with
 |nil=>
  intro n _;rw [List.count_nil,length_eq_zero_iff,List.filter_eq_nil_iff];intro i _;simp
 |cons a L ih=>
  intro n j
  cases n with
  |zero=>simp at j
  |succ n=>
   have ah:L.length<=n:=by simpa using j
   rw [range_succ_eq_map]
   have e:(List.map Nat.succ (List.range n)).filter (λi=>decide ((a::L)[i]? =some c))=((List.range n).filter λi=>decide (L[i]? =some c)).map Nat.succ:=by
    rw [List.filter_map];rfl
   rw [filter_cons,e];by_cases z:a=c
   ·subst z;simp [ih n ah]
   ·rw [if_neg (by simp [z]),length_map,ih n ah,List.count_cons_of_ne z]
theorem wP:∀ {l:List Nat},(∀z∈l,z=0)->l.sum=0
 |[],_=>rfl
 |a::l,h=>by rw [sum_cons,h a (.head _),wP λz F=>h z (.tail _ F)]
theorem Fn:∀ {l:List Nat} {z:Nat},z∈l->z<=l.sum
 |a::l,z,h=>by
  rw [sum_cons]
  rcases mem_cons.mp h with rfl|h
  ·lia
  ·have:=Fn h;lia
theorem yK {y:Str}{c:Nat}{ts:List Nat}(U:y.cps.toList=c::ts)(R:c∉ts)(hk:Builtin.Str.strKind y=1){ps:List Str}(Y:ps≠[])(hp:∀p∈ps,c∉p.cps.toList):Txt.split (Str.join y ps) y=ps:=by
 generalize W:Str.join y ps=x
 have I:x.cps.toList=jn (c::ts) @cs:=by rw [<-W,kj,U]
 have G:∀p∈ps.map (λp=>p.cps.toList),c∉p:=λp az=>by
  obtain ⟨q,hq,rfl⟩:=mem_map.mp az;exact hp q hq
 have ae:y.length=(c::ts).length:=by rw [<-U];simp [Str.length]
 have ag:x.length=x.cps.toList.length:=by simp [Str.length]
 have O:∀i,At x y x.length i↔x.cps.toList[i]? =some c:=λi=>by
  unfold At;rw [subAt_eq,U,ae];constructor
  ·intro z;have z2:=eq_of_beq z.2
   have:((x.cps.toList.drop i).take (c::ts).length)[0]? =some c:=by rw [z2];rfl
   rw [getElem?_take_of_lt @e,getElem?_drop] at this;simpa using this
  ·intro z;rw [I] at z;obtain ⟨r,e⟩:=Ft R _ G i z;rw [<-I] at e
   have hl:i+(c::ts).length<=x.length:=by
    have:=congrArg List.length e;rw [length_drop,length_append] at this
    have hi:i<x.cps.toList.length:=by
     rw [I];exact (List.getElem?_eq_some_iff.mp z).1
    lia
   rwa[⟨hl,?_⟩];rw [e,List.take_left];exact beq_self_eq_true _
 have ap:∀i j,At x y x.length i->At x y x.length j->i<j->i+y.length<=j:=λi j hi hj af=>by
  rwa[Nat.le_of_not_lt λL=> ?_];have zi:=(O i).mp hi;have zj:=(O j).mp hj;rw [I] at zi;obtain ⟨r,e⟩:=Ft R _ G i zi;rw [<-I] at e
  have e2:x.cps.toList[j]? =((c::ts)++r)[j - i]? :=by
   rw [<-e,getElem?_drop];congr 1;lia
  rw [e2,getElem?_append_left @c] at zj;obtain ⟨k,ab⟩:∃k,j - i=k+1:=⟨j - i - 1,by lia⟩;rw [ab,List.getElem?_cons_succ] at zj;exact R (mem_of_getElem? zj)
 have ad:(occurrences x y 0 x.length (x.length+1)).length=x.cps.toList.count c:=by
  rw [occ_eq];rwa[(kb x y x.length (x.length+1) ap (List.range' 0 (x.length+1 - 0)) (#[],0) List.pairwise_lt_range' (λi _ _=>Nat.zero_le _) @e).trans ?_];rw [show (#[]:Array Nat).size=0 from rfl,Nat.zero_add,Nat.sub_zero,<-List.range_eq_range',<-v6 c x.cps.toList (x.length+1) @c];congr 1;rwa[List.filter_congr λi _=> ?_];rwa[Bool.eq_iff_iff.mpr ?_];rw [Bool.and_eq_true,decide_eq_true_eq,decide_eq_true_eq];exact O i
 have F:=qY R @cs (by simpa using Y)
 have aa:((ps.map λp=>p.cps.toList).map (·.count c)).sum=0:=by
  rw [map_map];rwa[wP λz hz=> ?_];obtain ⟨p,az,rfl⟩:=mem_map.mp hz;exact List.count_eq_zero.mpr (hp p az)
 rw [<-I,aa,length_map] at F
 have J:(Txt.split x y).length=ps.length:=by
  unfold Txt.split
  have k1: ¬Builtin.Str.strKind x<Builtin.Str.strKind y:=by
   rw [hk];unfold Builtin.Str.strKind;split
   ·lia
   ·split<;>lia
  rw [decide_eq_false k1,Bool.or_false];split
  ·rename_i L;have L:=of_decide_eq_true L;show 1=ps.length
   match ps,Y,F,W with
   |[_],_,_,_=>rfl
   |a::b::r,_,F,W=>
    have e:x.length=a.length+y.length+(Str.join y (b::r)).length:=by
     rw [<-W];show (a++y++Str.join y (b::r)).length=_;rw [Str.length_append,Str.length_append]
    lia
  ·split
   ·rename_i he
    have:(occurrences x y 0 x.length (x.length+1)).length=0:=by rw [List.isEmpty_iff.mp he];rfl
    show 1=ps.length;lia
   ·rw [length_partsBetween,ad];lia
 have hj:=join_split x y
 have S:Txt.split x y≠[]:=λz=>by
  rw [z] at J;exact Y (length_eq_zero_iff.mp J.symm)
 have hQ:x.cps.toList=jn (c::ts) ((Txt.split x y).map λp=>p.cps.toList):=by rw [<-U,<-kj,hj]
 have Z:=qY R ((Txt.split x y).map λp=>p.cps.toList) (by simpa using S);rw [<-hQ,length_map,J] at Z
 have ah:(((Txt.split x y).map λp=>p.cps.toList).map (·.count c)).sum=0:=by lia
 have ac:∀q∈(Txt.split x y).map (λp=>p.cps.toList),c∉q:=λq hq z=>by
  have h1:q.count c<=(((Txt.split x y).map λp=>p.cps.toList).map (·.count c)).sum:=Fn (mem_map_of_mem hq);have h2:=List.count_pos_iff.mpr z;lia
 have:=Mi _ _ (by simpa using Y) (by simpa using S) G ac (I.symm.trans hQ);rwa[(List.map_inj_right (f:=λp:Str=>p.cps.toList) λa b e=> ?_).mp this.symm];exact Str.ext' (Array.toList_inj.mp e)
structure FunD (K:Fg)(x qual:Str)(st:Stmt)(T f:Addr)(fd:FuncData):Prop where
 ex:∃(oc:Value) (od:Option Addr) (kV doc pm:Value) (an:Option Addr) (cdv ct:Value) (osl:Array @B),
  fd=W.fnOf x qual @dP @cG @bG (.ref T) kV doc pm an cdv ct/\K.lookup f=some ⟨oc,od,.func fd,osl⟩/\W.codeIn K cdv qual=true
structure CalD (P:Program)(w:World)(K:Fg)(mg:Str->Option Value)(base:Heap)(n:Nat)(x:Str)(ps:List Str)(dvs:List V)(sp:Sp):Prop where
 ex:∃f fd ds,au P w K mg base @ch n f fd ps sp/\d8 K fd ps ds/\aL dvs ds/\W.keepIn K (.ref f)=true/\mg x=some (.ref f)
def Rp (P:Program)(w:World)(K:Fg)(mg:Str->Option Value)(base:Heap)(n:Nat)(f:Addr)(ps:List Str)(sp:Sp):Prop:=
 ∃fd,au P w K mg base aZ n f fd ps sp/\d8 K fd ps []/\W.keepIn K (.ref f)=true
theorem aR.fnv {P:Program}{w:World}{K:Fg}{mg:Str->Option Value}{base:Heap}{n:Nat}{x:Str}{ps:List Str}{sp:Sp}(c:aR P w K mg base n x ps sp):∃f,mg x=some (.ref f)/\Rp P w K mg base n f ps sp:=by
 obtain ⟨f,fd,F,b,k,j⟩:=c.ex;exact ⟨f,j,fd,F,b,k⟩
def jf (base:Heap)(mg:Str->Option Value):Prop:=∃bm o,mg "__builtins__"=some (.ref bm)/\bm≠builtinsNs/\bm≠mainGlobals/\base.get? bm=some o/\o.cls= .type "module"/\o.dict=some builtinsNs/\o.data= .plain
theorem Cq {P:Program}{w:World}{K:Frag}{mg mb:Str->Option Value}{CX:oH}{k:Nat}{fa a:Addr}{fd:FuncData}{x:Str}{sp:Sp}{j:Shared}{vs:List Value}{ns:List Int}{tabs:List (Addr×Addr)}
(W:∀q∈tabs,CodeHd j.heap q.1 q.2/\j.heap.get? q.2=some (tabObj #[]))(aj:noTabs K=true)(ak:jf j.heap mg)
(KX:K.In j.heap)(ac:j.heap.Ns mainGlobals mg)(O:j.heap.Ns builtinsNs mb)(am:∀x:Str,x≠"__name__"->mb x=bootBuiltins x)(ai:j.heap.NoLimit)(hg:j.gens= #[])
(ha:j.heap.get? a=some {cls:= .type "list",data:= .seq vs.toArray})(hi:IntsAre vs ns)(hl:ns.length<=sizeLine)(hr:bT k callerA)
(F:∀base:Heap,K.In base->base.Ns mainGlobals mg->jf base mg->au P w K mg base CX k fa fd [x] sp)(ab:∀(s:Shared) (u:Value),BindsTo s fd ⟨[u],[]⟩ [(x,u)])
(an:∀H:Hp,(∀q∈tabs,H q.2=some (.tbl #[]))->aA K H a @bz->sp [.ref a] H (λv _=>v= .bl true) λ_ _ _=>False)
(ap:∀H e s',CX [] H j @ew e s'->False):
 codeAny @R callerA (.call (.ref fa) ⟨[.ref a],[]⟩) (λr s'=>r= .ok (.ret (.bool true))/\OldK j.heap s'.heap/\s'.os=j.os/\AllBare s'.gens) j:=by
 have rv:=tT hi;have ad:=hi.length
 have ta:∀q∈tabs,q.2≠a:=λq I z=>by have:=(W q I).2;rw [z,ha] at this;cases this
 have aa:∀H:Hp,aA K H a @bz->fH P w H j.heap->(∀q∈tabs,H q.2=some (.tbl #[]))->(∀b u,H b=some u->(∃q∈tabs,b=q.2)\/(b=a/\K.lookup a=none/\∃ob xs,u= .frz ob (.lst xs)))->
  codeAny @R callerA (.call (.ref fa) ⟨[.ref a],[]⟩) (λr s'=>r= .ok (.ret (.bool true))/\OldK j.heap s'.heap/\s'.os=j.os/\AllBare s'.gens) j:=by
  intro H hS af ag hA;have G:∀ {b:Addr} {o:Obj},j.heap.get? b=some o->H b=none->(sO j.heap H).get? b=some o:=λe n=>Fz e n
  have ao:∀ {b:Addr} {o:Obj},j.heap.get? b=some o->o.cls≠ .none->o.cls≠ .type "list"->H b=none:=λ{b o} e d1 d2=>by
   cases q:H b with
   |none=>rfl
   |some u=>
    rcases hA b u q with ⟨t,R,rfl⟩|⟨rfl,_,_⟩
    ·rw [(W t R).2] at e;cases e;exact absurd rfl d1
    ·rw [ha] at e;cases e;exact absurd rfl d2
  have al:∀ {b:Addr} {o:Obj} {es:Array DictEntry} {ep:Nat},j.heap.get? b=some o->o.data= .dict es ep->H b=none:=λ{b o es ep} e d=>by
   cases q:H b with
   |none=>rfl
   |some u=>
    rcases hA b u q with ⟨t,R,rfl⟩|⟨rfl,_,_⟩
    ·rw [(W t R).2] at e;cases e;cases d
    ·rw [ha] at e;cases e;cases d
  have S:∀ {b:Addr} {m:Str->Option Value},j.heap.Ns b m->(sO j.heap H).Ns b m:=λ{b m} ⟨o,es,ep,e,d,r⟩=>⟨o,es,ep,G e (al e d),d,r⟩
  have ae:K.In @ex:=λb o e=>G (KX b o e) (by
   cases q:H b with
   |none=>rfl
   |some u=>
    rcases hA b u q with ⟨t,R,rfl⟩|⟨rfl,hk,_⟩
    ·have e2:=KX _ _ e;rw [(W t R).2] at e2;have h2:=all_eq_true.mp aj (t.2,o) (mem_of_lookupK e);cases e2;exact absurd (show false=true from h2) Bool.false_ne_true
    ·rw [hk] at e;cases e)
  have hM:Mod K mg @ex:=⟨ae,S ac,⟨mb,S O,am⟩,let ⟨mc,h1,h2⟩:=ai;⟨mc,S h1,h2⟩⟩;have hB:jf @ex mg:=let ⟨bm,o,h1,h2,h3,h4,h5,h6,h7⟩:=ak;⟨bm,o,h1,h2,h3,G h4 (ao h4 (by rw [h5];simp) (by rw [h5];simp)),h5,h6,h7⟩;have e0:je P w K mg @ex callerA [] j H:=⟨rfl,hM,λb o e=>ID e,Nat.le_of_eq (Cy _ _),trivial,λb O=>absurd (show b∈([]:List Addr) from O) @e,af,.of_eq hg⟩;rwa[codeAny_mono ((F _ ae (S ac) hB).run callerA [] j H ⟨[.ref a],[]⟩ [.ref a] [.ref a] _ _ hr e0 (ab j (.ref a)) (.cons rfl .nil) (an H ag hS)) λr s' h=> ?_]
  cases r with
  |error e=>exact (ap H e s' h).elim
  |ok fl=>
   cases fl with
   |next=>exact False.elim h
   |brk=>exact False.elim h
   |cont=>exact False.elim h
   |ret u=>
    obtain ⟨v,H',os,ah,un,Y,r',q⟩:=h;have q':v= .bl true:=q;subst q';obtain rfl:u=Value.bool true:=r';rwa[⟨rfl,⟨λb o e=> ?_,λb o e=>un.there b o e @e⟩,os,ah⟩]
    cases q:H b with
    |none=>exact .inl (un.keep b o e q (by intro z;exact absurd (show b∈([]:List Addr) from z) @e) @e)
    |some u=>
     rcases hA b u q with ⟨t,R,rfl⟩|⟨rfl,hk,ob,xs,rfl⟩
     ·obtain ⟨Z,e2⟩:=un.tbls _ _ (ag t R);have e3:s'.heap.get? t.2=some (tabObj (#[]++Z)):=Y _ _ e2;have e4:=(W t R).2;rw [e4] at e;cases e;exact .inr (.inl ⟨((W t R).1.tab e4).isCodeTable,rfl,#[],Z,rfl,e3⟩)
     ·have U:=un.frzs b ob _ q;obtain ⟨e1,_⟩:=af b _ q;obtain ⟨e2,_⟩:=Y b _ U;rw [e] at e1;cases e1;exact .inl e2
 have aq:∀(H:Hp),(∀b u,H b=some u->u= .tbl #[]->∃q∈tabs,b=q.2)->∀b,H b=some (.tbl #[])->br P w H j.heap b (.tbl #[]):=λH z b e=>by
  obtain ⟨q,I,rfl⟩:=z b _ e rfl;exact (W q I).2
 cases hk:K.lookup a with
 |some o=>
  have e:=KX a o hk;rw [ha] at e;cases e;rwa[aa (λb=>if b∈tabs.map (·.2) then some (.tbl #[]) else none) (.inr ⟨_,vs.toArray,_,hk,rfl,rfl,rfl,by rw [size_toArray,ad];exact hl,by simpa using rv⟩) @dt (λq I=>if_pos (mem_map_of_mem I)) @dt]
  ·by_cases J:b∈tabs.map (·.2)
   ·have L:=(if_pos J).symm.trans z;cases L;obtain ⟨q,I,rfl⟩:=mem_map.mp J;exact (W q I).2
   ·have L:=(if_neg J).symm.trans z;cases L
  ·by_cases J:b∈tabs.map (·.2)
   ·obtain ⟨q,I,rfl⟩:=mem_map.mp J;exact .inl ⟨q,I,rfl⟩
   ·have L:=(if_neg J).symm.trans z;cases L
 |none=>
  have na:a∉tabs.map (·.2):=λz=>by obtain ⟨q,I,e⟩:=mem_map.mp z;exact ta q I e
  rwa[aa (λb=>if b∈tabs.map (·.2) then some (.tbl #[]) else if b=a then some (.frz {cls:= .type "list",data:= .seq vs.toArray} (.lst @bz)) else none) (.inl (.inr ⟨{cls:= .type "list",data:= .seq vs.toArray},(if_neg na).trans (if_pos rfl)⟩)) @dt (λq I=>if_pos (mem_map_of_mem I)) @dt]
  ·by_cases J:b∈tabs.map (·.2)
   ·have L:=(if_pos J).symm.trans z;cases L;obtain ⟨q,I,rfl⟩:=mem_map.mp J;exact (W q I).2
   ·have L:=(if_neg J).symm.trans z;by_cases O:b=a
    ·have U:=(if_pos O).symm.trans L;cases U;subst O;exact ⟨ha,by rw [length_map];exact hl,vs,_,rv,ha⟩
    ·have U:=(if_neg O).symm.trans L;cases U
  ·by_cases J:b∈tabs.map (·.2)
   ·obtain ⟨q,I,rfl⟩:=mem_map.mp J;exact .inl ⟨q,I,rfl⟩
   ·have L:=(if_neg J).symm.trans z;by_cases O:b=a
    ·have U:=(if_pos O).symm.trans L;cases U;exact .inr ⟨O,hk,_,_,rfl⟩
    ·have U:=(if_neg O).symm.trans L;cases U
theorem Df {l:OpenLaw}{n k:Nat}{q:Program}{I:List Str}{XP:(Str->Option Value)->Heap->Prop}{YP:World->Heap->Prop}{d:DefRec}{K:Params->Frag}{CX:World->oH}{sp:World->Sp}{x:Str}{tabs:World->List (Addr×Addr)}
(hn:l.most=some n)(aa:n<=sizeLine)(W:d.params.defaults=[])(hr:bT k callerA)
(hY:∀(w:World) (h:Heap),YP w h->(K w.params).In h/\∀t∈tabs w,h.get? t.2=some (tabObj #[]))(aj:∀w:World,noTabs @bH=true)(R:∀w:World,∀t∈tabs w,codeHdIn @bH t.1 t.2=true)
(F:∀(w:World) (mg:Str->Option Value) (fa:Addr) (h:Heap),(K w.params).In h->h.Ns mainGlobals mg->mg d.name=some (.ref fa)->
   ∃fd:FuncData,(∀(s:Shared) (u:Value),BindsTo s fd ⟨[u],[]⟩ [(x,u)])/\
    ∀base:Heap,(K w.params).In base->base.Ns mainGlobals mg->jf base mg->au l.prog w @bH mg base (CX w) k fa fd [x] (sp w))
(ab:∀(w:World) (H:Hp) (a:Addr) (ns:List Int),ns.length<=n->(∀i∈ns,Builtin.Int.intBits i<=2^20)->(∀t∈tabs w,H t.2=some (.tbl #[]))->aA @bH H a @bz->sp w [.ref a] H (λv _=>v= .bl true) λ_ _ _=>False)
(ap:∀(w:World) (H:Hp) (s:Shared) (e:Value) (s':Shared),CX w [] H s @ew e s'->False):
 WalkO q I XP YP l.row.toRowW d [] @cI:=by
 rwa[wn hn W λw s₀ s₁ mg mb fa o pm cd ad a vs ns G Y ho hd ac U O L j J hg=> ?_];obtain ⟨Z,hT⟩:=hY w _ Y;obtain ⟨fd,hb,hF⟩:=F w mg fa _ Z G.T.g U
 have ak:jf s₁.heap mg:=by
  obtain ⟨bm,ob,h1,h2,S,h4,h5,h6⟩:=G.T.bmain;rwa[⟨bm,ob,h1,h2,λz=> ?_,S,h4,h5,h6⟩];obtain ⟨o',es,ep,e',d',_⟩:=G.T.g;rw [z,e'] at S;cases S;rw [d'] at h6;cases h6
 exact Cq (tabs:=tabs w) (λt ht=>⟨codeHd_of_K Z (R w t ht),hT t ht⟩) (aj w) ak Z G.T.g G.T.b G.T.builtins G.T.nolimit hg O L (Nat.le_trans j aa) hr hF hb (λH ag hS=>ab w H a ns j J ag hS) λH e s'=>ap w H s₁ e s'
def nK (c:Addr)(q:Str):HO:= .ext λh=>h.CodeRec (.ref c) q
def nF (a:Addr)(o:Obj):HO:= .ext λh=>h.get? a=some o
def yo (c:Addr)(v:V):HO:= .ext λh=>∃u,aE v u/\h.IsCell c @dS
section
variable {P:Program}{w:World}{H:Hp}{h:Heap}
theorem Jl {c:Addr}{q:Str}(e:h.CodeRec (.ref c) q):br P w H h c (nK c q):=by
 obtain ⟨S,J,vs,W,I,ae,Y,Z⟩:=id e;cases I
 exact ⟨e,⟨J,ae⟩,λh1 h2 z k=>by
  obtain ⟨c1,F,L,j,R,U,G,O⟩:=z;cases R
  exact ⟨_,F,L,j,rfl,k _ U,G,O⟩⟩
theorem AW {a:Addr}{o:Obj}(e:h.get? a=some o):br P w H h a (nF a o):=⟨e,⟨o,e⟩,λh1 h2 z k=>k _ z⟩
theorem Jm {c:Addr}{v:V}{u:Value}(r:aE v u)(e:h.IsCell c @dS):br P w H h c (yo c v):=by
 obtain ⟨o,I,J⟩:=id e
 exact ⟨⟨u,r,e⟩,⟨o,I⟩,λh1 h2 z k=>by
  obtain ⟨F,R,o',j,U⟩:=z
  exact ⟨F,R,o',k _ j,U⟩⟩
end
def bM (H:Hp)(P:Addr)(q:Str):Prop:=∃ps,H P=some (.tbl ps)/\TriplesOk ps.toList/\∀pos cv,codeAmong pos ps.toList=some cv->∃c',cv= .ref c'/\H c'=some @eX
def dD (P:Addr)(H H':Hp):Prop:=∀b o,b≠P->H b=some o->H' b=some o
def aP (H H':Hp):Prop:=∀b o,(∀ps,o≠ .tbl ps)->H b=some o->H' b=some o
theorem aP.refl (H:Hp):aP H H:=λ_ _ _ e=>e
theorem aP.trans {H H1 H2:Hp}(a:aP H H1)(b:aP H1 H2):aP H H2:=λc o n e=>b c o n (a c o n e)
theorem aj.nt {H H':Hp}(s:aj H H'):aP H H':=λb o _ e=>s b o e
theorem dD.nt {P:Addr}{H H':Hp}{ps:Array Value}(s:dD P H H')(O:H P=some (.tbl ps)):aP H H':=λb o n e=>s b o (λz=>by rw [z,O] at e;cases e;exact n _ rfl) e
theorem bM.same {H H':Hp}{P:Addr}{q:Str}(t:bM H P q)(s:aj H H'):bM H' P q:=
 let ⟨ps,h1,h2,h3⟩:=t;⟨ps,s _ _ h1,h2,λpos z e=>let ⟨c',a,b⟩:=h3 pos z e;⟨c',a,s _ _ b⟩⟩
theorem bM.sameP {H H':Hp}{P F:Addr}{q:Str}{j:Array Value}(t:bM H P q)(s:dD F H H')(G:H F=some (.tbl j))(J:P≠F):bM H' P q:=
 let ⟨ps,h1,h2,h3⟩:=t;⟨ps,s _ _ J h1,h2,λpos I e=>let ⟨c',a,b⟩:=h3 pos I e;⟨c',a,s _ _ (λz=>by rw [z,G] at b;cases b) b⟩⟩
theorem kA {a b:Int}{t u:Tok}{c:Value}:∀ {l:List Value},TriplesOk l->TriplesOk (l++[.int a t,.int b u,c])
 |[],_=>trivial
 | .int _ _:: .int _ _::_::r,h=>kA (l:=r) h
theorem rX {a b:Int}{t u:Tok}{c:Value}{pos:Pos}{j:Value}:∀ {l:List Value},TriplesOk l->codeAmong pos (l++[.int a t,.int b u,c])=some j->codeAmong pos l=some j\/j=c
 |[],_,h=>by
  simp only [nil_append,codeAmong] at h;split at h
  ·cases h;exact .inr rfl
  ·cases h
 | .int x _:: .int y _::z::r,ok,h=>by
   have h:(if x==pos.line&&y==pos.col then some z else codeAmong pos (r++[.int a t,.int b u,c]))=some j:=h;show (if x==pos.line&&y==pos.col then some z else codeAmong pos r)=some j\/_;by_cases F:(x==pos.line&&y==pos.col)=true
   ·rw [if_pos F] at h ⊢;exact .inl h
   ·rw [if_neg F] at h ⊢;exact rX (l:=r) ok h
def QD (P:Addr)(q:Str)(mk:Addr->Value->Obj):TE:=λσ H Q=>bM H P q/\∀f c' ctv H',dD P H H'->H f=none->H' f=some (nF f (mk c' ctv))->H' c'=some @eX->bM H' P q->Q (.ref f) H'
theorem zG {X:Cx}{c P:Addr}{j:Arguments}{S:Expr}{scope:Scope}{clos:List (Str×Addr)}{pos:Pos}(L:X.env.code= .ref c)(C:CodeHd X.base c P)(hB:jf X.base X.mg)(aa:defaultsOf j X.env=([],[]))(ae:closureFor scope X.env=pure clos):
 PE X (.Lambda j S scope pos) (QD P (X.env.qual++"<lambda>") λc' ctv=>kla_obj "<lambda>" (X.env.qual++"<lambda>") j S scope clos ((X.mg "__name__").getD .none) c' ctv):=by
 intro pins s σ H Q I ⟨T,h⟩;rwa[kla_eval aa ?_];obtain ⟨ps,O,ht,hc⟩:=id T;have ac:s.heap.get? P=some (tabObj ps):=I.hok P _ O;have C':=C.keeps I.bk;have hg:s.heap.Ns mainGlobals X.mg:=I.ok.mod.glob.keeps I.bk
 have nb:∀ {b:Addr} {o:Obj},X.base.get? b=some o->b≠P:=λ{b o} e z=>by have:=(I.bs b o e).2;rw [z,O] at this;cases this
 have ag:mainGlobals≠P:=by
  obtain ⟨o,es,ep,e,_⟩:=I.ok.mod.glob;exact nb e
 have hb:s.heap.BuiltinsAt X.mg P:=by
  obtain ⟨bm,o,h1,h2,h3,h4,h5,h6,h7⟩:=hB;exact ⟨bm,o,h1,h2,h3,nb h4,I.bk _ _ h4,h5,h6,h7⟩
 cases hm:codeAmong pos ps.toList with
 |none=>
  rwa[kla_makeFunction ae I.ok.glob hg L C' ac ht hm ag hb λc' ctv h' tk hx G ad ab W=> ?_];generalize Y:kla_obj "<lambda>" (X.env.qual++"<lambda>") j S scope clos ((X.mg "__name__").getD .none) c' ctv=F;generalize Z:ps++ #[rawInt pos.line,rawInt pos.col,.ref c']=R at W;have J:s.heap.objs.size<=h'.objs.size:=Nat.le_trans G (Nat.le_of_lt ad);have lt:∀ {b:Addr} {u:HO},H b=some u->b<s.heap.objs.size:=λe=>I.hok.lt e;have ai:c'≠P:=Nat.ne_of_gt (Nat.lt_of_lt_of_le (lt O) G);have ah:h'.objs.size≠P:=Nat.ne_of_gt (Nat.lt_of_lt_of_le (lt O) J);have an:h'.objs.size≠c':=Nat.ne_of_gt ad;have ao:H c'=none:=I.hok.fresh G;have U:H h'.objs.size=none:=I.hok.fresh J
  let H':Hp:=upd (upd (upd H P (.tbl R)) c' (nK c' (X.env.qual++"<lambda>"))) h'.objs.size (nF h'.objs.size F)
  have ne:∀ {b:Addr} {u:HO},b≠P->H b=some u->H' b=some u:=λ{b u} nP e=>by
   have l:=lt e;show upd @bx h'.objs.size _ b=_;rw [ak (Nat.ne_of_lt (Nat.lt_of_lt_of_le l J)),ak (Nat.ne_of_lt (Nat.lt_of_lt_of_le l G)),ak nP];exact e
  have eP:H' P=some (.tbl R):=by
   show upd @bx h'.objs.size _ P=_;rw [ak ah.symm,ak ai.symm];exact af
  have ec:H' c'=some (nK c' (X.env.qual++"<lambda>")):=by
   show upd @bx h'.objs.size _ c'=_;rw [ak an.symm];exact af
  have ef:H' h'.objs.size=some (nF h'.objs.size F):=af;have kp:∀b o,b≠P->s.heap.get? b=some o->(h'.push F).get? b=some o:=λb o nP e=>Heap.get?_push_of_some _ (hx b o nP e);have tP:(h'.push F).get? P=some (tabObj R):=Heap.get?_push_of_some _ W
  have nP:∀ {b:Addr},H b=none->b≠P:=λ{b} n z=>by rw [z,O] at n;cases n
  have un:Un X.fs [] H H' s.heap (h'.push F):=by
   rwa[⟨λb o e n _ _=>kp b o (nP n) e,λb o e n _ _=>⟨o.slots,kp b o (nP n) e⟩,λb o e n _=> ?_,λb o e _=> ?_,λb xs e=>ne (λz=>by rw [z,O] at e;cases e) e,λb o u e=>ne (λz=>by rw [z,O] at e;cases e) e,λb qs e=> ?_⟩]
   ·have l:=Heap.lt_size e;show upd @bx h'.objs.size _ b=_;rw [ak (Nat.ne_of_lt (Nat.lt_of_lt_of_le l J)),ak (Nat.ne_of_lt (Nat.lt_of_lt_of_le l G)),ak (nP n)];exact n
   ·by_cases z:b=P
    ·exact ⟨_,by rw [z];exact tP⟩
    ·exact ⟨o,kp b o z e⟩
   ·by_cases z:b=P
    ·rw [z,O] at e;cases e;exact ⟨#[rawInt pos.line,rawInt pos.col,.ref c'],by rw [z,eP,<-Z]⟩
    ·exact ⟨#[],by rw [ne z e];simp⟩
  have al:fH X.prog X.w H' (h'.push F):=by
   intro b u e;by_cases z1:b=h'.objs.size
   ·rw [z1,ef] at e;cases e;rw [z1];exact AW (Heap.get?_push_size _ (by rw [<-Y];rfl))
   by_cases z2:b=c'
   ·rw [z2,ec] at e;cases e;rw [z2];exact Jl (ab.keeps λb o e=>Heap.get?_push_of_some _ e)
   by_cases z3:b=P
   ·rw [z3,eP] at e;cases e;rw [z3];exact tP
   ·have e':H b=some u:=by
     have e:upd @bx h'.objs.size _ b=some u:=e;rw [ak z1,ak z2,ak z3] at e;exact e
    rwa[(I.hok b u e').stay (λd v hd r=> ?_) (λd r=>ne (λz=>by rw [z,O] at r;cases r) r) λd xs r=>ne (λz=>by rw [z,O] at r;cases r) r];rwa[kp d v @k r]
    rcases hd with hd|hd
    ·exact z3 (hd.symm.trans z)
    ·rw [z,O] at hd;cases hd
  rwa[⟨.ref h'.objs.size,H',I.un (t':=tk) un al,rfl,h _ c' ctv H' (λb o n e=>ne n e) U (by rw [<-Y] at ef;exact ef) ec ⟨R,eP,?_,λpos' cv e=> ?_⟩⟩]
  ·rw [<-Z,Array.toList_append];exact kA ht
  ·rw [<-Z,Array.toList_append] at e
   rcases rX ht e with z|z
   ·obtain ⟨d,e1,e2⟩:=hc pos' cv z;exact ⟨d,e1,ne (λy=>by rw [y,O] at e2;cases e2) e2⟩
   ·exact ⟨c',z,ec⟩
 |some cv=>
  obtain ⟨c',rfl,am⟩:=hc pos cv hm;rwa[kla_makeFunctionHit ae I.ok.glob hg L C' ac ht hm hb λctv h' tk hk J=> ?_];have k2:∀b o,s.heap.get? b=some o->(h'.push (kla_obj "<lambda>" (X.env.qual++"<lambda>") j S scope clos ((X.mg "__name__").getD .none) c' ctv)).get? b=some o:=λb o e=>Heap.get?_push_of_some _ (hk b o e);have U:H h'.objs.size=none:=I.hok.fresh J;have sm:aj H (upd H h'.objs.size (nF h'.objs.size (kla_obj "<lambda>" (X.env.qual++"<lambda>") j S scope clos ((X.mg "__name__").getD .none) c' ctv))):= .upd U;exact ⟨.ref h'.objs.size,_,I.laid (t':=tk) k2 J (AW (Heap.get?_push_size _ rfl)),rfl,h _ c' ctv _ (λb o _ e=>sm b o e) U af (sm _ _ am) (T.same sm)⟩
structure dZ (ps fs:List Str)(sc:Scope):Prop where
 kind:sc.kind= .function
 co:sc.isCoroutine=false
 gen:sc.isGenerator=false
 nd:(ps++fs).Nodup
 par:∀x∈ps,sc.names.lookup x=some .local
 fre:∀x∈fs,sc.names.lookup x=some .free
 nocell:∀x∈sc.names,x.2≠ .cell
 only:∀y∈sc.names,y.2= .free->y.1∈fs
noncomputable def M5 (P:Program)(w:World)(K:Frag)(mg:Str->Option Value)(base:Heap)(N:List Str)(qual:Str)(scope:Scope)(f:Addr)(cd:Value)(cl:List (Str×Addr))(A:Around)(outer:List Env)(s:Shared)(H:Hp):Cx where
 prog:=P
 w:=w
 K:=K
 mg:=mg
 base:=base
 A:=A.deeper (envX qual scope s.heap.objs.size f cd cl)
 N:=N
 s₀:=s
 H₀:=H
 env:=envX qual scope s.heap.objs.size f cd cl
 outer:=outer
 stack:=envX qual scope s.heap.objs.size f cd cl::outer
 ex:=[]
 calm:=true
 fn:=λ_=>false
 pn:=[]
 xe:=λ_ _=>False
theorem z0 {ps:List Str}{us:List Value}{i:Nat}{x:Str}{u:Value}(J:ps.Nodup)(h1:ps[i]? =some x)(h2:us[i]? =some u):(ps.zip us).reverse.lookup x=some u:=by
 have L:(ps.zip us)[i]? =some (x,u):=by rw [getElem?_zip_eq_some];exact ⟨h1,h2⟩
 have G:(x,u)∈(ps.zip us).reverse:=mem_reverse.mpr (mem_of_getElem? L)
 have z:∀v,(x,v)∈(ps.zip us).reverse->v=u:=λv Y=>by
  obtain ⟨j,Z⟩:=mem_iff_getElem?.mp (mem_reverse.mp Y);obtain ⟨I,F⟩:=getElem?_zip_eq_some.mp Z;have:j=i:=qQ J I h1;subst this;rw [h2] at F;exact (Option.some.inj F).symm
 cases e:(ps.zip us).reverse.lookup x with
 |none=>
  have:=lookup_eq_none_iff.mp e (x,u) G;simp at this
 |some v=>rw [z v (PySem.mem_of_lookup e)]
theorem AU {P:Program}{w:World}{K:Frag}{mg:Str->Option Value}{base:Heap}{k:Nat}{f c':Addr}{name qual:Str}{F:Arguments}{G:Expr}{scope:Scope}{L:List (Str×Addr)}{pm ctv:Value}{ps fs:List Str}{A:Around}{outer:List Env}{s:Shared}{H:Hp}{us:List Value}{vs fvs:List V}{Q:VK}{E:XK}
(S:dZ ps fs scope)(hf:s.heap.get? f=some (kla_obj name qual F G scope L pm c' ctv))(ah:s.heap.CodeRec (.ref c') qual)(hr:bT (k+1) A)(R:je P w K mg base A outer s H)
(ab:bindArgs (kla_fn name qual F G scope L pm (.ref c') ctv) ⟨us,[]⟩=pure @bT)(r:aL vs us)(hl:vs.length=ps.length)(ak:fvs.length=fs.length)
(j:∀(i:Nat) x v,fs[i]? =some x->fvs[i]? =some v->∃c u,L.lookup x=some c/\aE v u/\s.heap.IsCell c @dS)(af:∀x c,L.lookup x=some c->x∈fs)
(ae:∀x y c,L.lookup x=some c->L.lookup y=some c->x=y)(aa:∀x c,L.lookup x=some c->H c=none)
(Z:bT k (A.deeper (envX qual scope s.heap.objs.size f (.ref c') L))->∃t,PE (M5 P w K mg base (ps++fs) qual scope f (.ref c') L A outer s H) G t/\t ((vs++fvs).map some) H Q):
 codeAny @R A (.call (.ref f) ⟨us,[]⟩) @de s:=by
 have ul:us.length=ps.length:=by rw [<-r.length,hl]
 rwa[kla_callFunE hr.depth hf rfl S.co S.gen rfl ah ?_];rw [ab];have aj:s.heap.NoLimit:=R.mod.nolimit.keeps λb o e=>(R.bs b o e).1;rwa[wpAny_pure (wpAny_newFunctionEnv S.nocell (λy W=>S.par _ (of_mem_zip W).1) (λh₁ ag ad=>⟨aj.fresh _ ad,?_⟩) S.kind)];show codeAny _ _ (.expr G (envX qual scope s.heap.objs.size f (.ref c') L)) _ _;have hk:∀b o,s.heap.get? b=some o->h₁.get? b=some o:=λb o e=>ad.extBut b o (Nat.ne_of_lt @A) (Heap.get?_push_of_some _ e);obtain ⟨t,ht,hq⟩:=Z (hr.deeper _)
 have U:∀x c,L.lookup x=some c->∃u,s.heap.IsCell c @dS:=λx c e=>by
  obtain ⟨i,hi⟩:=mem_iff_getElem?.mp (af x c e);have ai:i<fs.length:=(List.getElem?_eq_some_iff.mp hi).1;obtain ⟨c2,u,e2,_,hc⟩:=j i x _ hi (getElem?_eq_getElem @c);rw [e] at e2;cases e2;exact ⟨u,hc⟩
 have O:∀ {c:Addr} {v:Option Value},s.heap.IsCell c v->h₁.IsCell c v:=λ{c v} ⟨o,ho,hd⟩=>⟨o,hk _ _ ho,hd⟩;have Y:∀x,scope.names.lookup x=some .free->x∈fs:=λx e=>S.only _ (PySem.mem_of_lookup e) rfl
 have I:av (M5 P w K mg base (ps++fs) qual scope f (.ref c') L A outer s H) [] ((vs++fvs).map some) H {s with heap:=h₁,toks:=s.toks+(ps.zip us).length}:=by
  have ac:∀b:Addr,b∉(M5 P w K mg base (ps++fs) qual scope f (.ref c') L A outer s H).ex:=λb z=>absurd (show b∈([]:List Addr) from z) @e
  refine ⟨⟨R.mod,S.kind,rfl,rfl,Nat.le_refl _,ae,λy W=> ?_,λy c z _=>(nomatch (show false=true from z)),λ_=>hr.hd,Around.frames_deeper R.frames,.inr ⟨rfl,rfl⟩,λb z=>absurd z (ac b),R.bs,R.bsz,λb _ _=>ac b,λb z=>absurd z (ac b),R.funs,R.frf⟩,
   rfl,R.bare,Un.kept hk,⟨_,ag,λi y v h1 h2 h3=> ?_⟩,λy c h=> ?_,R.hok.fresh @f,aa,λp hp=>absurd (show p∈([]:List (Addr×Obj)) from hp) @e,R.hok.kept hk,?_⟩
  ·have W:scope.names.lookup y=some .cell\/scope.names.lookup y=some .free:=W
   rcases W with W|W
   ·exact absurd rfl (S.nocell _ (PySem.mem_of_lookup W))
   ·obtain ⟨i,hi⟩:=mem_iff_getElem?.mp (Y y W);have ai:i<fs.length:=(List.getElem?_eq_some_iff.mp hi).1;obtain ⟨c2,u,e2,_⟩:=j i y _ hi (getElem?_eq_getElem @c);exact ⟨c2,e2⟩
  ·have h1:(ps++fs)[i]? =some y:=h1;rw [getElem?_map] at h2;obtain ⟨v',hv,e⟩:=Option.map_eq_some_iff.mp h2;cases e;by_cases hi:i<ps.length
   ·rw [getElem?_append_left hi] at h1;rw [getElem?_append_left @c] at hv;obtain ⟨u,hu,rv⟩:=r.get hv;rwa[⟨u,rv,.inl ⟨S.par y (mem_of_getElem? h1),?_⟩⟩];exact z0 (nodup_append.mp S.nd).1 h1 hu
   ·rw [getElem?_append_right @c] at h1;rw [getElem?_append_right @c,hl] at hv;obtain ⟨c,u,e2,rv,hc⟩:=j _ y _ h1 hv;exact ⟨u,rv,.inr ⟨.inr (S.fre y (mem_of_getElem? h1)),c,e2,O hc⟩⟩
  ·obtain ⟨u,hc⟩:=U y c h;exact ⟨_,O hc⟩
  ·show _=(ps++fs).length;rw [length_map,length_append,length_append];lia
 rwa[kla_codeExpr (wpAny_mono (ht [] _ _ H Q I hq) (λu s' hs=> ?_) λe s' hs=>False.elim hs)];obtain ⟨v,H',J,rv,q⟩:=hs;exact ⟨v,H',J.os,J.bare,J.base,J.hok,rv,q⟩
def hid (cs:List Addr)(H:Hp):Hp:=λb=>if b∈cs then none else H b
def unhid (cs:List Addr)(H H2:Hp):Hp:=λb=>if b∈cs then H b else H2 b
theorem je.hid {P:Program}{w:World}{K:Frag}{mg:Str->Option Value}{base:Heap}{A:Around}{outer:List Env}{s:Shared}{H:Hp}{cs:List Addr}(e:je P w K mg base A outer s H)(I:∀c∈cs,∃φ,H c=some (.ext φ)):je P w K mg base A outer s @fr:=by
 have j:∀ {b:Addr},H b=none->L2.hid cs H b=none:=λ{b} n=>by unfold L2.hid;split<;>first|rfl|exact n
 have F:∀ {b:Addr} {o:HO},H b=some o->(∀φ,o≠ .ext φ)->L2.hid cs H b=some o:=λ{b o} q n=>by
  unfold L2.hid;rw [if_neg λz=>by obtain ⟨φ,e⟩:=I b z;rw [q] at e;exact n φ (Option.some.inj e)];exact q
 rwa[⟨e.frames,e.mod,λb o z=>⟨(e.bs b o z).1,j (e.bs b o z).2⟩,e.bsz,e.funs,λb G=>j (e.frf b G),λb o z=> ?_,e.bare⟩]
 have L:H b=some o:=by
  unfold L2.hid at z;split at z
  ·cases z
  ·exact z
 exact (e.hok b o L).stay @eN (λd q=>F q λφ z=>by cases z) λd xs q=>F q λφ z=>by cases z
theorem CE.unhid {P:Program}{w:World}{K:Frag}{mg:Str->Option Value}{base:Heap}{A:Around}{outer:List Env}{s s':Shared}{H:Hp}{cs:List Addr}{Q:VK}{u:Value}(e:je P w K mg base A outer s H)(U:∀c∈cs,∃φ,H c=some (.ext φ))
(h:CE outer P w @fr s (λv H2=>(∀c∈cs,H2 c=none)->Q v @cJ) u s'):CE outer P w H s Q u s':=by
 obtain ⟨v,H2,os,W,J,ae,r,q⟩:=h
 have G:∀ {b:Addr},H b=none->L2.hid cs H b=none:=λ{b} n=>by unfold L2.hid;split<;>first|rfl|exact n
 have F:∀ {b:Addr} {o:HO},H b=some o->(∀φ,o≠ .ext φ)->b∉cs/\L2.hid cs H b=some o:=λ{b o} q n=>by
  have nb:b∉cs:=λz=>by obtain ⟨φ,e⟩:=U b z;rw [q] at e;exact n φ (Option.some.inj e)
  exact ⟨nb,by unfold L2.hid;rw [if_neg nb];exact q⟩
 have L:∀ {c:Addr},c∈cs->L2.hid cs H c=none:=λ{c} z=>by unfold L2.hid;rw [if_pos z]
 have aa:∀ {c:Addr},c∈cs->L2.unhid cs H H2 c=H c:=λ{c} z=>by unfold L2.unhid;rw [if_pos z]
 have j:∀ {b:Addr},b∉cs->L2.unhid cs H H2 b=H2 b:=λ{b} z=>by unfold L2.unhid;rw [if_neg z]
 have I:∀ {c:Addr},c∈cs->H2 c=none:=λ{c} z=>by
  obtain ⟨φ,R⟩:=U c z;obtain ⟨_,⟨o,Y⟩,_⟩:=e.hok c _ R;exact J.free c o Y (L z) @e
 have nC:∀ {b:Addr},H b=none->b∉cs:=λ{b} n z=>by obtain ⟨φ,R⟩:=U b z;rw [n] at R;cases R
 rwa[⟨v,L2.unhid cs H H2,os,W,⟨λb o q n O S=>J.keep b o q (G n) O S,λb o q n O S=>J.slot b o q (G n) O S,λb o q n S=>by rw [j (nC n)];exact J.free b o q (G n) S,λb o q S=>J.there b o q S,λb xs q=> ?_,λb o xs q=> ?_,λb xs q=> ?_⟩,λb o z=> ?_,r,q λc U=>I U⟩]
 ·obtain ⟨n,z⟩:=F q λφ z=>by cases z
  rw [j n];exact J.tups b xs z
 ·obtain ⟨n,z⟩:=F q λφ z=>by cases z
  rw [j n];exact J.frzs b o xs z
 ·obtain ⟨n,z⟩:=F q λφ z=>by cases z
  rw [j n];exact J.tbls b xs z
 ·by_cases O:b∈cs
  ·rw [aa O] at z;obtain ⟨φ,R⟩:=U b O;rw [z] at R;cases R;obtain ⟨h1,⟨o1,Y⟩,st⟩:=e.hok b _ z
   have nf:b∉vX outer:=λy=>by have:=e.frf b y;rw [z] at this;cases this
   have k1:=J.keep b o1 Y (L O) nf @e;exact ⟨st _ _ h1 (λo q=>by rw [Y] at q;cases q;exact k1),⟨o1,k1⟩,st⟩
  ·rw [j O] at z;rwa[(ae b o z).stay @eN (λd y=> ?_) λd xs y=> ?_]
   ·rw [j λZ=>by rw [I Z] at y;cases y];exact y
   ·rw [j λZ=>by rw [I Z] at y;cases y];exact y
structure iz (P:Program)(w:World)(K:Frag)(mg:Str->Option Value)(base:Heap)(n:Nat)(f:Addr)(sp:Sp):Prop where
 run:∀(A:Around) (outer:List Env) (s:Shared) (H:Hp) (us:List Value) (vs:List V) (Q:VK) (E:XK),bT n A->je P w K mg base A outer s H->aL vs us->sp vs H Q E->codeAny @R A (.call (.ref f) ⟨us,[]⟩) @de s
 keep:∀(vs:List V) (H:Hp) (Q:VK) (E:XK) (h:Heap),sp vs H Q E->fH P w H h->K.In h->∃k,(k=Keeper.frame\/k=Keeper.machine\/k=Keeper.boundFrame)/\Looks @R h @dX k
theorem Rp.cal {P:Program}{w:World}{K:Frag}{mg:Str->Option Value}{base:Heap}{n:Nat}{f:Addr}{ps:List Str}{sp:Sp}(F:Rp P w K mg base n f ps sp):iz P w K mg base n f sp:=by
 obtain ⟨fd,F,b,k⟩:=F;rwa[⟨λA outer s H j R Q E S G r h=> ?_,λR H Q E h _ _ z=>keeps_K k h z⟩];have z:K.In s.heap:=G.mod.kin.keeps λb o e=>(G.bs b o e).1
 have J:aL R (j++[]):=by rw [append_nil];exact r
 have W:(j++[]).length=ps.length:=by rw [<-J.length];exact F.len _ _ _ _ h
 exact F.run A outer s H ⟨j,[]⟩ (j++[]) R Q E S G (b s j z W) J h
section
variable {X:Cx}{x:Str}{p pos:Pos}{e:Expr}{es:List Expr}{t:TA}{n m:Nat}
def KG (P:Program)(w:World)(K:Frag)(mg:Str->Option Value)(base:Heap)(m:Nat)(i:Nat)(t:TA):TE:=λσ H Q=>∃f n sp,σ[i]? =some @V/\n<=m/\iz P w K mg base n f sp/\t σ H λvs H1=>sp vs H1 Q E0
theorem Ey (i:Nat)(hr:bT m X.A)(Y:X.N[i]? =some x)(hv:Pe X.env.scope x)(ha:PA X (e::es) t)(U:(x==("__debug__":Str))=false:=by decide)(O:(x==("__classdict__":Str))=false:=by decide)
(hp:aS (e::es)=true:=by rfl):PE X (.Call (.Name x p) (e::es) [] pos) (KG X.prog X.w X.K X.mg X.base m i t):=by
 have h':(bx e&&aS es)=true:=hp;rw [Bool.and_eq_true] at h';intro pins s σ H Q I h;obtain ⟨f,n,sp,hσ,Z,C,h⟩:=h;rwa[wpAny_Call_Name_kw (bG (Et (X:=X) Y hv U O pins s σ H (λv H1=>v= .ref f/\H1=H) I ⟨.ref f,hσ,rfl,rfl⟩) λu W ⟨v,H0,I0,R,ev,eH⟩=> ?_)];subst ev;subst eH;have R:u=Value.ref f:=R;subst R;have he:=aQ (env:=X.env) (es:=es) h'.1;have J:(backTo pos @z).any (·.1)=false:=bF h'.2
 have j:wpAny @d X.A (spliced (backTo pos (starEach (e::es) X.env))) (λS L=>(∃k,(k=Keeper.frame\/k=Keeper.machine\/k=Keeper.boundFrame)/\Looks @d L.heap @dX k)/\wpAny @d X.A (call (.ref f) ([]++S)) @t X.xe L) X.xe W:=by
  rwa[bG (ha pos pins W σ H0 _ I0 h) λS L ⟨vs,H1,F,r,q⟩=>⟨C.keep _ _ _ _ _ q F.hok F.kIn,?_⟩];rwa[wpAny_call (codeAny_mono (C.run X.A X.stack L H1 S vs Q E0 (hr.mono Z) F.env0 r q) λr s' G=> ?_)]
  cases r with
  |error e=>exact False.elim G
  |ok fl=>
   cases fl with
   |ret u=>exact F.after G
   |next=>exact False.elim G
   |brk=>exact False.elim G
   |cont=>exact False.elim G
 rw [he] at j ⊢;exact callWith_of (P:=λh=>∃k,(k=Keeper.frame\/k=Keeper.machine\/k=Keeper.boundFrame)/\Looks @d h @dX k) (by show ((false||(backTo pos @z).any (·.1))||false)=false;rw [J];rfl) (λh z=>z) (evalArgs_plain j)
end
theorem vT {cs:List Addr}{H:Hp}(I:∀c∈cs,∃φ,H c=some (.ext φ)){b:Addr}{o:HO}(n:∀φ,o≠ .ext φ)(e:H b=some o):hid cs H b=some o:=by
 unfold hid;rw [if_neg λz=>by obtain ⟨φ,R⟩:=I b z;rw [e] at R;exact n φ (Option.some.inj R)];exact e
theorem yE {cs:List Addr}{H H2:Hp}(s:aj @fr H2):aj H @cJ:=λb o e=>by
 unfold unhid;by_cases z:b∈cs
 ·rw [if_pos z];exact e
 ·rw [if_neg z];rwa[s b o ?_];unfold hid;rw [if_neg z];exact e
def AI (P:Program)(w:World)(f c':Addr)(obj:Obj)(q:Str)(cl:List (Str×Addr))(fs:List Str)(fvs:List V)(m:Nat)(sp:List V->Hp->VK->Prop):Sp:=λvs H Q _=>H f=some (nF f obj)/\H c'=some @eX/\(∀(i:Nat) x v,fs[i]? =some x->fvs[i]? =some v->∃c,cl.lookup x=some c/\H c=some (yo c v))/\vs.length=m/\sp vs H Q
theorem AV {P:Program}{w:World}{K:Frag}{mg:Str->Option Value}{base:Heap}{k:Nat}{f c':Addr}{name qual:Str}{j:Arguments}{G:Expr}{scope:Scope}{F:List (Str×Addr)}{pm ctv:Value}{ps fs:List Str}{fvs:List V}{sp:List V->Hp->VK->Prop}
(S:dZ ps fs scope)(ab:∀us:List Value,us.length=ps.length->bindArgs (kla_fn name qual j G scope F pm (.ref c') ctv) ⟨us,[]⟩=pure @bT)(ac:fvs.length=fs.length)
(af:∀x c,F.lookup x=some c->x∈fs)(ae:∀x y c,F.lookup x=some c->F.lookup y=some c->x=y)
(O:∀(cs:List Addr) (vs:List V) (H:Hp) (Q:VK),(∀c∈cs,∃φ,H c=some (.ext φ))->sp vs H Q->sp vs @fr (λv H2=>(∀c∈cs,H2 c=none)->Q v @cJ))
(L:∀(A:Around) (outer:List Env) (s:Shared) (H:Hp) (vs:List V) (Q:VK),bT k (A.deeper (envX qual scope s.heap.objs.size f (.ref c') F))->sp vs H Q->∃t,PE (M5 P w K mg base (ps++fs) qual scope f (.ref c') F A outer s H) G t/\t ((vs++fvs).map some) H Q):
 iz P w K mg base (k+1) f (AI P w f c' @bB qual F fs fvs ps.length sp):=by
 rwa[⟨λA outer s H us vs Q E hr Z r ⟨hf,U,R,hl,ag⟩=> ?_,λvs H Q E h ⟨hf,_⟩ ad _=> ?_⟩]
 ·have W:∀x c,F.lookup x=some c->∃v,H c=some (yo c v):=λx c e=>by
   obtain ⟨i,hi⟩:=mem_iff_getElem?.mp (af x c e);have ak:i<fs.length:=(List.getElem?_eq_some_iff.mp hi).1;obtain ⟨c2,e2,h2⟩:=R i x _ hi (getElem?_eq_getElem @c);rw [e] at e2;cases e2;exact ⟨_,h2⟩
  have aj:∀c∈F.map (·.2),(∃x,F.lookup x=some c)\/∀x,F.lookup x≠some c:=λc _=>by
   by_cases z:∃x,F.lookup x=some c
   ·exact .inl z
   ·exact .inr λx e=>z ⟨x,e⟩
  let cs:List Addr:=fs.filterMap λx=>F.lookup x
  have I:∀c,c∈cs↔∃x,F.lookup x=some c:=λc=>by
   constructor
   ·intro z;obtain ⟨x,_,e⟩:=mem_filterMap.mp z;exact ⟨x,e⟩
   ·rintro ⟨x,e⟩;exact mem_filterMap.mpr ⟨x,af x c e,e⟩
  have J:∀c∈cs,∃φ,H c=some (.ext φ):=λc hc=>by
   obtain ⟨x,e⟩:=(I c).mp hc;obtain ⟨v,h⟩:=W x c e;exact ⟨_,h⟩
  have ai:s.heap.get? f=some @bB:=(Z.hok f _ hf).1;have ah:s.heap.CodeRec (.ref c') qual:=(Z.hok c' _ U).1
  have ul:us.length=ps.length:=by rw [<-r.length,hl]
  rwa[codeAny_mono (AU (Q:=λv H2=>(∀c∈cs,H2 c=none)->Q v @cJ) (E:=E) (fvs:=fvs) S ai ah hr (Z.hid J) (ab us ul) r hl ac (λi x v h1 h2=> ?_) af ae (λx c e=> ?_) (λaa=>L A outer s _ vs _ aa (O cs vs H Q J ag))) λrr s' Y=> ?_]
  ·obtain ⟨c,e,h⟩:=R i x v h1 h2;obtain ⟨u,rv,hc⟩:=(Z.hok c _ h).1;exact ⟨c,u,e,rv,hc⟩
  ·unfold hid;rw [if_pos ((I c).mpr ⟨x,e⟩)]
  ·cases rr with
   |error e=>exact False.elim Y
   |ok fl=>
    cases fl with
    |ret u=>exact CE.unhid Z J Y
    |next=>exact False.elim Y
    |brk=>exact False.elim Y
    |cont=>exact False.elim Y
 ·have e:h.get? f=some @bB:=(ad f _ hf).1;exact ⟨.frame,.inl rfl,(Looks.ld (part:=none) e).andThen .now⟩
inductive KN (P:Addr)(q:Str)(x:Str)(mk:List (Str×Addr)->Addr->Value->Obj)(vs:List V)(H:Hp)(Q:VK)(_e:XK):Prop
 |mk (v:_) (_:vs=[v]) (_:bM H P q) (_:∀f c' ctv c H',dD P H H'->H f=none->H' f=some (nF f (mk [(x,c)] c' ctv))->H' c'=some @eX->H' c=some (yo c v)->bM H' P q->Q (.ref f) H')
theorem JT {P:Program}{w:World}{K:Frag}{mg:Str->Option Value}{base:Heap}{k:Nat}{f c Z:Addr}{name qual x:Str}{F lp:Arguments}{lb:Expr}{lsc scope:Scope}{O R:Pos}{dV kV ad pm ct oc:Value}{an od:Option Addr}
{ap:Array @B}{N:List Str}(lk:K.lookup f=some ⟨oc,od,.func (fnOf name qual F [.Return (some (.Lambda lp lb lsc O)) R] scope dV kV ad pm an (.ref c) ct),ap⟩)(ah:codeIn K (.ref c) qual=true)(S:ai N [x] scope)
(C:CodeHd base c Z)(hB:jf base mg)(aa:∀env,defaultsOf lp env=([],[]))(as:∀L,closureFor lsc (envOfC qual scope L f (.ref c))=pure [(x,L+1)])(ab:∀L,(cellsFrom (L+1) scope.names []).lookup x=some (L+1))(ac:scope.names.lookup x=some .cell):
 au P w K mg base aZ (k+1) f (fnOf name qual F [.Return (some (.Lambda lp lb lsc O)) R] scope dV kV ad pm an (.ref c) ct) [x] (KN Z (qual++".<locals>."++"<lambda>") x λcl c' ctv=>kla_obj "<lambda>" (qual++".<locals>."++"<lambda>") lp lb lsc cl ((mg "__name__").getD .none) c' ctv):=by
 rwa[⟨λvs H Q E ⟨v,e,_,_⟩=>by rw [e];rfl,λA outer s H aw us vs Q E hr e0 hb r ar=> ?_⟩];obtain ⟨v,rfl,hT,hq⟩:=ar;have KX:K.In s.heap:=e0.mod.kin.keeps λb o e=>(e0.bs b o e).1;have aq:s.heap.NoLimit:=e0.mod.nolimit.keeps λb o e=>(e0.bs b o e).1
 have U:∀y∈[x].zip us,scope.names.lookup y.1=some .local\/(scope.names.lookup y.1=some .cell/\((cellsFrom (s.heap.objs.size+1) scope.names []).lookup y.1).isSome=true):=λ⟨n,v⟩ hy=>by
  rcases S.par n (of_mem_zip hy).1 with q|q
  ·exact .inl q
  ·exact .inr ⟨q,cellsFrom_some _ _ _ (.inl q)⟩
 rwa[codeAny_call_function hr.depth (KX _ _ lk) rfl S.co S.gen rfl (codeRec_of KX ah) (hb _ _ _ _ ?_)];rwa[wpAny_newFunctionEnv_cells S.kind U λenv he s1 x1=> ?_];subst he;rwa[⟨aq.keeps x1.toInCall.keep,codeAny_func ?_⟩];have I:av (lJ aZ P w K mg base N qual scope f (.ref c) A outer s H E) [] (start N [v]) H s1:=uo S hr.hd e0 rfl r x1;rwa[wpAny_mono (Q:=λfl s'=>∃u H',fl= .ret u/\av (lJ aZ P w K mg base N qual scope f (.ref c) A outer s H E) [] (start N [v]) H' s'/\∃j c' ctv,u= .ref j/\dD Z H H'/\H j=none/\H' j=some (nF j (kla_obj "<lambda>" (qual++".<locals>."++"<lambda>") lp lb lsc [(x,s.heap.objs.size+1)] ((mg "__name__").getD .none) c' ctv))/\H' c'=some (nK c' (qual++".<locals>."++"<lambda>"))/\bM H' Z (qual++".<locals>."++"<lambda>")) ?_ (λfl s' hs=> ?_) λe s' hs=>hs]
 ·rwa[wpAny_execs_cons (wpAny_Return_some (bG (zG (X:=lJ aZ P w K mg base N qual scope f (.ref c) A outer s H E) (clos:=[(x,s.heap.objs.size+1)]) rfl C hB (aa _) (as _) [] s1 _ H (λv' H'=>∃j c' ctv,v'= .ref j/\dD Z H H'/\H j=none/\H' j=some (nF j (kla_obj "<lambda>" (qual++".<locals>."++"<lambda>") lp lb lsc [(x,s.heap.objs.size+1)] ((mg "__name__").getD .none) c' ctv))/\H' c'=some (nK c' (qual++".<locals>."++"<lambda>"))/\bM H' Z (qual++".<locals>."++"<lambda>")) I ⟨hT,λj c' ctv H' a b d e g=>⟨j,c',ctv,rfl,a,b,d,e,g⟩⟩) λu s' ⟨v',H',J,rv,j,c',ctv,ev,dJ⟩=> ?_))];subst ev;have rv:u=Value.ref j:=rv;subst rv;exact ⟨_,H',rfl,J,j,c',ctv,rfl,dJ⟩
 ·obtain ⟨u,H',rfl,J,j,c',ctv,rfl,a,b,d,e,g⟩:=hs
  have am:N[0]? =some x:=by
   have:=S.pre
   have h2:(N.take 1)[0]? =some x:=by rw [show N.take 1=[x] from this];rfl
   rw [getElem?_take_of_lt @b] at h2;exact h2
  obtain ⟨m,hn,ae⟩:=J.loc;obtain ⟨u0,ao,ag⟩:=ae 0 x v am rfl (.inr (.inl ac))
  have al:s'.heap.IsCell (s.heap.objs.size+1) (some u0):=by
   rcases ag with ⟨z,_⟩|⟨_,c2,e2,hc⟩
   ·have z:scope.names.lookup x=some .local:=z;rw [ac] at z;cases z
   ·have e2:(cellsFrom (s.heap.objs.size+1) scope.names []).lookup x=some c2:=e2;rw [ab] at e2;cases e2;exact hc
  have nc:H' (s.heap.objs.size+1)=none:=J.freeC x _ (ab _);have G:aj H' (upd H' (s.heap.objs.size+1) (yo (s.heap.objs.size+1) v)):= .upd nc;have Y:∀ {b:Addr} {o:Obj},s.heap.get? b=some o->b≠s.heap.objs.size+1:=λ{b o} e=>Nat.ne_of_lt (Nat.lt_succ_of_lt @A);have W:=J.base;rwa[⟨.ref j,_,J.os,J.bare,⟨W.keep,W.slot,λb o e n hx=>by rw [ak (Y e)];exact W.free b o e n hx,W.there,λb xs e=>G _ _ (W.tups b xs e),λb o xs e=>G _ _ (W.frzs b o xs e),λb ps e=>let ⟨more,z⟩:=W.tbls b ps e;⟨more,G _ _ z⟩⟩,λb o z=> ?_,rfl,hq j c' ctv (s.heap.objs.size+1) _ (λb o n e=>G _ _ (a b o n e)) b (G _ _ d) (G _ _ e) af (g.same G)⟩];have z:upd H' (s.heap.objs.size+1) (yo (s.heap.objs.size+1) v) b=some o:=z;by_cases zb:b=s.heap.objs.size+1
  ·rw [zb,af] at z;cases z;rw [zb];exact Jm ao al
  ·rw [ak zb] at z;exact (J.hok b o z).stay @eN (λd q=>G _ _ q) λd xs q=>G _ _ q
theorem au.calm {P:Program}{w:World}{K:Frag}{mg:Str->Option Value}{base:Heap}{k:Nat}{f:Addr}{fd:FuncData}{ps:List Str}{sp:Sp}(F:au P w K mg base @ch k f fd ps sp):au P w K mg base aZ k f fd ps (λvs H Q _=>sp vs H Q E0):=by
 rwa[⟨λvs H Q E h=>F.len _ _ _ _ h,λA outer s H j I vs Q E S R O r h=>codeAny_mono (F.run A outer s H j I vs Q E0 S R O r h) λL s' G=> ?_⟩]
 cases L with
 |ok fl=>cases fl<;>exact G
 |error e=>obtain ⟨a,T,J,Z,H',_,_,_,_,_,_,_,_,_,_,z⟩:=G;exact z.elim
theorem C0.calm {P:Program}{w:World}{K:Frag}{mg:Str->Option Value}{base:Heap}{n:Nat}{x:Str}{ps:List Str}{sp:Sp}(c:C0 P w K mg base n x ps sp):aR P w K mg base n x ps (λvs H Q _=>sp vs H Q E0):=by
 obtain ⟨f,fd,F,b,k,j⟩:=c.ex;exact ⟨f,fd,F.calm,b,k,j⟩
def IS (j:Int)(H:Hp)(Q:VK):Prop:=∃n:Nat,Builtin.Range.small 0 j 1=true/\Builtin.Range.rangeSize 0 j 1=n/\n<=1000/\∀l,H l=none->Q (.ref l) (upd H l (.lst ((List.range n).map λi:Nat=>V.int (i:Int))))
def NI (te:TE):TE:=λσ H Q=>te σ H λx H1=>match x with
 | .int j=>IS j H1 Q
 |_=>False
theorem OO {j:Int}{n:Nat}{H:Hp}{Q:VK}(h1:Builtin.Range.small 0 j 1=true)(h2:Builtin.Range.rangeSize 0 j 1=n)(L:n<=1000)(g:∀l H',aj H H'->H l=none->H' l=some (.lst ((List.range n).map λi:Nat=>V.int (i:Int)))->Q (.ref l) H'):IS j H Q:=⟨n,h1,h2,L,λl z=>g l _ (.upd z) z af⟩
theorem uL {X:Cx}{e:Expr}{te:TE}{p1 p2 G z:Pos}(hc:X.calm=true)(O:Gl X "list")(J:X.mg "list"=none)(U:Gl X "range")(S:X.mg "range"=none)(he:PE X e te)(hs:bx e=true:=by rfl):
 PE X (.Call (.Name "list" p1) [.Call (.Name "range" p2) [e] [] z] [] G) (NI te):=by
 intro pins s σ H Q I h;have ay:starEach [Expr.Call (.Name "range" p2) [e] [] z] X.env=[(false,eval (.Call (.Name "range" p2) [e] [] z) X.env)]:=aQ (by rfl);have ae:starEach [e] X.env=[(false,eval e X.env)]:=aQ hs;rwa[wpAny_Call_Name_kw (gW I O J boot_list ?_)];rwa[PyProof.Rows.callWith_type1 ?_ ay (bF (by rfl))];rw [ay];show wpAny _ _ (spliced ((false,eval (.Call (.Name "range" p2) [e] [] z) X.env)::backTo G @cw)) _ _ s;rwa[Calls.spliced_cons ?_];rwa[wpAny_Call_Name_kw (gW I U S boot_range ?_)];rwa[PyProof.Rows.callWith_type1 ?_ ae (bF (by rfl))];rw [ae];show wpAny _ _ (spliced ((false,eval e X.env)::backTo z @cw)) _ _ s;rwa[Calls.spliced_cons (bG @dF λu L ⟨x,H1,I1,r1,Z⟩=> ?_)];rwa[Calls.spliced_nil ?_]
 cases x with
 |int j=>
  obtain ⟨t,rfl⟩:=r1;obtain ⟨n,h1,h2,h3,q⟩:=Z;rwa[call_range_1 ?_];rwa[Calls.spliced_nil ?_];rwa[call_list_range (n:=n) (I1.ok.hd hc) (Heap.get?_push_size _ rfl) h1 h2 @c λh' tk F c' R hS as=> ?_];have W:=I1.kept (t':=L.toks+1+1) (h':=L.heap.push {cls:= .type "range",data:= .fields #[.int 0 L.toks,.int j t,.int 1 (L.toks+1)]}) λb o e=>Heap.get?_push_of_some _ e
  have rv:aL ((List.range n).map λi:Nat=>V.int (i:Int)) F.toList:=by
   rwa[PySem.Paired.of (by rw [length_map,length_range,Array.length_toList,as.1]) λi v d Y e2=> ?_];rw [getElem?_map] at Y;obtain ⟨k,R,rfl⟩:=Option.map_eq_some_iff.mp Y;obtain ⟨hi,R⟩:=List.getElem?_eq_some_iff.mp R;rw [List.getElem_range] at R;subst R;obtain ⟨t',e3⟩:=as.2 i d (by rw [<-Array.getElem?_toList];exact e2);exact ⟨t',by rw [e3];congr 1;lia⟩
  have hl:((List.range n).map λi:Nat=>V.int (i:Int)).length<=sizeLine:=bt (by rw [length_map,length_range];lia);exact ⟨.ref _,_,W.laid (t':=tk) R @f (show br X.prog X.w _ h' _ (.lst _) from ⟨hl,F.toList,c',rv,hS⟩),rfl,q _ (W.hok.fresh @f)⟩
 |_=>exact False.elim Z
section
variable {X:Cx}{pins:List (Addr×Obj)}{σ:St}{H:Hp}{s:Shared}{h':Heap}
theorem av.sub {j:List (Addr×Obj)}(I:av X pins σ H s)(h:∀p∈j,p∈pins):av X j σ H s:=I.pins_of λp G=>I.pin p (mem_append_right _ (h p G))
theorem av.repin {t':Nat}{a:Addr}{o o':Obj}(I:av X ((a,o)::pins) σ H s)(W:X.s₀.heap.objs.size<=a)(j:∀p∈X.pn++pins,p.1≠a)(k:∀b u,b≠a->s.heap.get? b=some u->h'.get? b=some u)(L:h'.get? a=some o')(Y:∀v,o'.data≠ .cell v):
 av X ((a,o')::pins) σ H {s with heap:=h',toks:=t'}:=by
 obtain ⟨S,p2,F,U,O⟩:=I.pin (a,o) @x;have R:av X pins σ H s:=I.sub λp G=> .tail _ G
 have J:av X pins σ H {s with heap:=h',toks:=t'}:=R.turned (it:=a) k p2 F (.inr W) (λx c e z=>by
  obtain ⟨v,Z,h1,h2⟩:=I.cell x c e;rw [z] at h1;have S:s.heap.get? a=some o:=S;rw [S] at h1;cases h1
  exact O v h2) j
 rwa[J.pins_of λp G=> ?_]
 rcases mem_cons.mp G with rfl|G
 ·exact ⟨L,p2,F,U,Y⟩
 ·exact J.pin p @bC
theorem av.pinNew {t':Nat}{a:Addr}{o:Obj}(I:av X pins σ H s)(G:s.heap.objs.size<=a)(k:∀b u,s.heap.get? b=some u->h'.get? b=some u)(z:h'.get? a=some o)(J:∀v,o.data≠ .cell v):av X ((a,o)::pins) σ H {s with heap:=h',toks:=t'}:=by
 rwa[(I.kept (t':=t') k).pins_of λp j=> ?_]
 rcases mem_cons.mp j with rfl|j
 ·exact ⟨z,I.hok.fresh G,Nat.ne_of_gt (Nat.lt_of_lt_of_le I.lt G),I.nofs G,J⟩
 ·exact (I.kept (t':=t') k).pin p (mem_append_right _ j)
end
def Gs (X:Cx)(σ:St)(f:Addr)(xs:List V)(J:Hp->Prop)(kf:Nat->Int):Prop:=
 ∀(pins:List (Addr×Obj)) (s:Shared) (H:Hp) (i:Nat) (v:V) (u:Value),av X pins σ H s->J H->xs[i]? =some v->aE v u->
  wpAny @d X.A.in1 @dW (λr s'=>∃H',av X pins σ H' s'/\aE (.int (kf i)) r/\J H') @dB s
def MZ (xs:List V)(kf:Nat->Int)(i:Nat):Prop:=∀j,j<xs.length->kf i<=kf j/\(j<i->kf i<kf j)
theorem jp {X:Cx}{pins:List (Addr×Obj)}{σ:St}{H:Hp}{s:Shared}{l:Addr}{xs:List V}(I:av X pins σ H s)(e:H l=some (.lst xs)):∃us:List Value,aL xs us/\s.heap.IsList l us.toArray:=by
 obtain ⟨_,us,n,r,h1⟩:=(show br X.prog X.w H s.heap l (.lst xs) from I.hok l _ e);exact ⟨us,r,_,h1,rfl,n,rfl⟩
theorem IG {X:Cx}{pins:List (Addr×Obj)}{σ:St}{l S It f:Addr}{xs:List V}{dv:Value}{R:Result->Shared->Prop}(O:Nat->Int)(J:Hp->Prop)(hh:X.A.handled=none)(ac:∀H,J H->H l=some (.lst xs))
(aC:X.s₀.heap.objs.size<=It)(ar:X.s₀.heap.objs.size<=S)(ak:∀p∈X.pn++pins,p.1≠It)(aj:∀p∈X.pn++pins,p.1≠S)(ab:S≠It)(ao:Gs X σ f xs J O)
(hR:∀i v u s' H,xs[i]? =some v->aE v u->MZ xs O i->J H->av X pins σ H s'->R (.ok (.ret u)) s'):
 ∀(r j i:Nat) (s:Shared) (H:Hp) (v:V) (vb:Value) (tb:Tok) (c:Nat) (oI:Obj),xs.length - (j+1)=r->j+1<=xs.length->
  av X ((S,seqObj "list" #[vb,.int (O i) tb] c)::(It,oI)::pins) σ H s->J H->s.heap.IsListIter It l (j+1)->xs[i]? =some v->aE v vb->i<=j->(∀j',j'<=j->O i<=O j'/\(j'<i->O i<O j'))->
  codeAny @d X.A (.builtin "min.loop" ⟨[.ref It,.ref f,.ref S],[("default",dv)]⟩) R s:=by
 have Z:(toString "min"++toString ".loop":String)="min.loop":=by decide
 have aG:∀(o:Obj),∀p∈X.pn++(S,o)::pins,p.1≠It:=λo p G=>by
  rcases mem_append.mp G with G|G
  ·exact ak p @bE
  ·rcases mem_cons.mp G with rfl|G
   ·exact ab
   ·exact ak p @bC
 have aw:∀(o:Obj),∀p∈X.pn++(It,o)::pins,p.1≠S:=λo p G=>by
  rcases mem_append.mp G with G|G
  ·exact aj p @bE
  ·rcases mem_cons.mp G with rfl|G
   ·exact ab.symm
   ·exact aj p @bC
 have af:∀ {a b:Addr×Obj},∀p∈a::b::pins,p∈b::a::pins:=λ{a b} p G=>by
  rcases mem_cons.mp G with rfl|G
  ·exact .tail _ (.head _)
  ·rcases mem_cons.mp G with rfl|G
   ·exact .head _
   ·exact .tail _ (.tail _ G)
 intro r
 induction r with
 |zero=>
  intro j i s H v vb tb c oI hr hj I hJ ai hv rv aI L;obtain ⟨us,ad,hl⟩:=jp I (ac H hJ)
  have ah:us.toArray.size=xs.length:=by rw [size_toArray,ad.length]
  have nS:=I.pin (S,_) @x;have nI:=I.pin (It,oI) @M
  have ag:l≠It:=λz=>by have:=nI.2.1;rw [<-z,ac H hJ] at this;cases this
  have W:=Walks.list (prog:=X.prog) (w:=X.w) (A:=X.A.in1) hh It l ag us.toArray;rwa[codeAny_builtin PySem.F.entry_min_loop ?_];rw [Around.under_plainId PySem.F.plain_min_loop _];show wpAny _ X.A.in1 (seqItems? (.ref S)>>=_) _ _ _;rwa[wpAny_bind @cx];show wpAny _ X.A.in1 (tryCatch (pyNext (.ref It)) _>>=_) _ _ _;rwa[wpAny_bind (wpAny_tryCatch (W.done _ _ _ ⟨by rw [ah,show xs.length=j+1 by lia];exact ai,hl⟩ λh1 aa U=> ?_))];have U:∀b u,b≠It->s.heap.get? b=some u->h1.get? b=some u:=λb u n e=>U b u (by simpa using n) e;have I0:av X pins σ H s:=I.sub λp G=> .tail _ (.tail _ G)
  have ay:∀ {a:Addr} {o:Obj},s.heap.get? a=some o->(∀v,o.data≠ .cell v)->∀x c,X.env.cells.lookup x=some c->c≠a:=λ{a o} ho hd x c e z=>by
   obtain ⟨v,oc,h1,h2⟩:=I.cell x c e;rw [z,ho] at h1;cases h1;exact hd v h2
  have aL:=U S _ ab nS.1;have s1:=Heap.SameBut.update h1 S (Obj.mapSeq λ_=>(#[]:Array Value));have I1:av X pins σ H {s with heap:=h1,toks:=aa}:=I0.turned (it:=It) U nI.2.1 nI.2.2.1 (.inr aC) (ay nI.1 nI.2.2.2.2) ak;have ap:∀x c,X.env.cells.lookup x=some c->c≠S:=ay nS.1 nS.2.2.2.2;show wpAny _ X.A.in1 (updateSeq S (λ_=> #[])>>=_) _ _ _;rwa[wpAny_bind ?_];rwa[wpAny_updateSeq aL rfl (wpAny_bind (wpAny_letGo @bF))];rwa[hR i v vb _ H hv rv (λj' aH=>L j' @c) hJ ?_];exact I1.turned (it:=S) (λb u n e=>(s1.2 b n).trans e) nS.2.1 nS.2.2.1 (.inr ar) ap aj
 |succ r ih=>
  intro j i s H v vb tb c oI hr hj I hJ ai hv rv aI L
  have ae:j+1<xs.length:=by lia
  obtain ⟨us,ad,hl⟩:=jp I (ac H hJ)
  have ah:us.toArray.size=xs.length:=by rw [size_toArray,ad.length]
  have nS:=I.pin (S,_) @x;have nI:=I.pin (It,oI) @M
  have ag:l≠It:=λz=>by have:=nI.2.1;rw [<-z,ac H hJ] at this;cases this
  have W:=Walks.list (prog:=X.prog) (w:=X.w) (A:=X.A.in1) hh It l ag us.toArray;rwa[codeAny_builtin PySem.F.entry_min_loop ?_];rw [Around.under_plainId PySem.F.plain_min_loop _];show wpAny _ X.A.in1 (seqItems? (.ref S)>>=_) _ _ _;rwa[wpAny_bind @cx];show wpAny _ X.A.in1 (tryCatch (pyNext (.ref It)) _>>=_) _ _ _;rwa[wpAny_bind (wpAny_tryCatch (W.item (j+1) _ _ _ (by rw [ah];exact ae) ⟨ai,hl⟩ λu h1 aa hP ax U=> ?_))]
  have hu:us[j+1]? =some u:=by simpa using hP
  obtain ⟨v1,al⟩:∃v1,xs[j+1]? =some v1:=⟨_,getElem?_eq_getElem ae⟩
  have au:aE v1 u:=by
   obtain ⟨u',aq,ru⟩:=ad.get al;rw [hu] at aq;cases aq;exact ru
  obtain ⟨Y,az,aD,am⟩:=id ax.1;have U:∀b u,b≠It->s.heap.get? b=some u->h1.get? b=some u:=λb u n e=>U b u (by simpa using n) e
  have I1:av X ((S,seqObj "list" #[vb,.int (O i) tb] c)::(It,Y)::pins) σ H {s with heap:=h1,toks:=aa}:=
   ((I.sub af).repin (t':=aa) aC (aG _) U az λv e=>by rw [am] at e;cases e).sub af
  show wpAny _ X.A.in1 (tryCatch (holding [u] @dW) _>>=_) _ _ _;rwa[wpAny_bind (wpAny_tryCatch (wpAny_holding (wpAny_mono (ao _ _ H (j+1) v1 u I1 hJ al au) (λx s2 he=> ?_) λ_ _ hF=>hF.elim)))];obtain ⟨H2,I2,⟨t2,rfl⟩,aA⟩:=he;have aF:=I2.pin (S,_) @x;have aB:=I2.pin (It,Y) @M;have as:s2.heap.IsListIter It l (j+1+1):=⟨Y,aB.1,aD,am⟩;show wpAny _ X.A.in1 (tryCatch (holding [u,.int (O (j+1)) t2] (richCompare .Lt (.int (O (j+1)) t2) (.int (O i) tb)>>=_)) _>>=_) _ _ _;rwa[wpAny_bind (wpAny_tryCatch (wpAny_holding (wpAny_bind (CmpOf.ints_lt (prog:=X.prog) (w:=X.w) (A:=X.A.in1) (P:=λi v=>∃t,v= .int (O i) t) O (λi v h=>h) (j+1) i _ _ _ _ _ ⟨t2,rfl⟩ ⟨tb,rfl⟩ ?_))))];rwa[wpAny_bind (wpAny_holding (wpAny_truthy_bool ?_))];rwa[wpAny_bind (wpAny_letGo @bF)];by_cases an:O (j+1)<O i
  ·have s1:=Heap.SameBut.update s2.heap S (Obj.mapSeq λ_=> #[u,.int (O (j+1)) t2]);obtain ⟨c2,aK⟩:∃c2,(s2.heap.update S (Obj.mapSeq λ_=> #[u,.int (O (j+1)) t2])).get? S=some (seqObj "list" #[u,.int (O (j+1)) t2] c2):=⟨_,get?_update_seq aF.1 λ_=> #[u,.int (O (j+1)) t2]⟩;simp only [an,decide_true,if_true];rwa[wpAny_bind ?_];rwa[wpAny_updateSeq aF.1 rfl (wpAny_bind (wpAny_letGo ?_))];rw [Z];rwa[wpAny_pure ⟨plainId_quiet PySem.F.plain_min_loop _,ih (j+1) (j+1) _ H2 v1 u t2 c2 Y @c ae (I2.repin (t':=s2.toks) ar (aw _) (λb u n e=>(s1.2 b n).trans e) aK λv e=>by cases e) aA ⟨Y,(s1.2 It ab.symm).trans aB.1,aD,am⟩ al au @f λj' aH=> ?_⟩];by_cases e:j'=j+1
   ·subst e;exact ⟨by lia,λ_=>by lia⟩
   ·have aJ:=L j' @c;have aM:=aJ.1;exact ⟨by lia,λ_=>by lia⟩
  ·simp only [an,decide_false,Bool.false_eq_true,if_false];rwa[wpAny_bind (wpAny_letGo ?_)];rw [Z];rwa[wpAny_pure ⟨plainId_quiet PySem.F.plain_min_loop _,ih (j+1) i _ H2 v vb tb c Y @c ae I2 aA as hv rv @c λj' aH=> ?_⟩];by_cases e:j'=j+1
   ·subst e;exact ⟨by lia,λ_=>by lia⟩
   ·exact L j' @c
theorem Gh (a v d:Value):argsOk "min" ⟨[a],[(s!"key",v),(s!"default",d)]⟩:=by unfold argsOk;kernel_rfl
theorem LR {X:Cx}{pins:List (Addr×Obj)}{σ:St}{H:Hp}{s:Shared}{l f:Addr}{xs:List V}{d:V}{dv:Value}{Q:VK}{E:Value->Shared->Prop}(hh:X.A.handled=none)(I:av X pins σ H s)(aA:H l=some (.lst xs))(rd:aE d dv)
(h0:xs=[]->Q d H)(h1:xs≠[]->∃(kf:Nat->Int) (J:Hp->Prop),J H/\(∀H,J H->H l=some (.lst xs))/\Gs X σ f xs J kf/\∀i v H,xs[i]? =some v->MZ xs kf i->J H->Q v H):
 wpAny @d X.A (call (.builtin "min") [.ref l] [(s!"key",.ref f),(s!"default",dv)]) @t E s:=by
 have Z:(toString "min"++toString ".loop":String)="min.loop":=by decide
 obtain ⟨us,ag,ad⟩:=jp I aA
 have ae:us.toArray.size=xs.length:=by rw [size_toArray,ag.length]
 obtain ⟨ol,as,_⟩:=id ad;have aB:l<s.heap.objs.size:=Heap.lt_size as;rwa[kmk_tree PySem.F.kind_min PySem.F.plain_min PySem.F.entry_min (Gh _ _ _) ?_];show wpAny _ X.A.in1 (Builtin.Builtins.bindParams "min" ["key","default"] 0 ⟨[],[(s!"key",.ref f),(s!"default",dv)]⟩>>=_) _ _ s;rwa[wpAny_bind (wpAny_of_eq (show Builtin.Builtins.bindParams "min" ["key","default"] 0 ⟨[],[(s!"key",.ref f),(s!"default",dv)]⟩=pure [some (.ref f),some dv] from rfl) ?_)];rwa[wpAny_bind @bF];rwa[wpAny_bind (wpAny_pyIter_list ad ?_)];rwa[wpAny_bind (wpAny_newList ?_ @eY)];rw [Z];generalize L:s.heap.objs.size=j at *
 have I1:av X ((j,{cls:= .type "list_iterator",data:= .fields #[.ref l,.int 0 0]})::pins) σ H {s with heap:=s.heap.push {cls:= .type "list_iterator",data:= .fields #[.ref l,.int 0 0]}}:=
  I.pinNew (t':=s.toks) (a:=j) (by rw [L];exact Nat.le_refl _) (λb u e=>Heap.get?_push_of_some _ e) (by rw [<-L];exact Heap.get?_push_size _ rfl) λv e=>by cases e
 have hS:(s.heap.push {cls:= .type "list_iterator",data:= .fields #[.ref l,.int 0 0]}).objs.size=j+1:=by rw [size_push',L]
 generalize ai:(s.heap.push {cls:= .type "list_iterator",data:= .fields #[.ref l,.int 0 0]}).objs.size=S at *
 have I2:=I1.pinNew (t':=s.toks) (h':=(s.heap.push {cls:= .type "list_iterator",data:= .fields #[.ref l,.int 0 0]}).push (seqObj "list" #[] 0)) (a:=S) (o:=seqObj "list" #[] 0) (Nat.le_of_eq ai) (λb u e=>Heap.get?_push_of_some _ e) (by rw [<-ai];exact Heap.get?_push_size _ rfl) λv e=>by cases e
 have ab:S≠j:=by rw [hS];exact Nat.ne_of_gt @cr
 have aC:X.s₀.heap.objs.size<=j:=by rw [<-L];exact I.sz
 have ar:X.s₀.heap.objs.size<=S:=by rw [hS];exact Nat.le_succ_of_le aC
 have ah:∀p∈X.pn++pins,p.1<j:=λp G=>by rw [<-L];exact Heap.lt_size (I.pin p G).1
 have ak:∀p∈X.pn++pins,p.1≠j:=λp G=>Nat.ne_of_lt (ah p G)
 have aj:∀p∈X.pn++pins,p.1≠S:=λp G=>by rw [hS];exact Nat.ne_of_lt (Nat.lt_succ_of_lt (ah p G))
 have ay:l≠j:=Nat.ne_of_lt aB;rwa[wpAny_pure ⟨plainId_quiet PySem.F.plain_min_loop _,?_⟩];generalize aw:({s with heap:=(s.heap.push {cls:= .type "list_iterator",data:= .fields #[.ref l,.int 0 0]}).push (seqObj "list" #[] 0)}:Shared)=s2 at I2;show codeAny _ _ (.builtin "min.loop" ⟨[.ref j,.ref f,.ref S],[("default",dv)]⟩) _ s2;have nS:=I2.pin (S,_) @x;have nI:=I2.pin (j,_) @M;have W:=Walks.list (prog:=X.prog) (w:=X.w) (A:=X.A.in1) hh j l ay us.toArray
 have R:s2.heap.IsList l us.toArray:=by
  obtain ⟨o,a,b⟩:=ad;rw [<-aw];exact ⟨o,Heap.get?_push_of_some _ (Heap.get?_push_of_some _ a),b⟩
 rwa[codeAny_builtin PySem.F.entry_min_loop ?_];rw [Around.under_plainId PySem.F.plain_min_loop _];show wpAny _ X.A.in1 (seqItems? (.ref S)>>=_) _ _ _;rwa[wpAny_bind @cx];show wpAny _ X.A.in1 (tryCatch (pyNext (.ref j)) _>>=_) _ _ _;by_cases hx:xs=[]
 ·rwa[wpAny_bind (wpAny_tryCatch (W.done _ _ _ ⟨by rw [ae,hx];exact ⟨_,nI.1,rfl,rfl⟩,R⟩ λh1 aa U=> ?_))]
  have I3:av X pins σ H {s2 with heap:=h1,toks:=aa}:=(I2.sub λp G=> .tail _ (.tail _ G)).turned (it:=j) (λb u n e=>U b u (by simpa using n) e) nI.2.1 nI.2.2.1 (.inr aC) (λx c e z=>by
   obtain ⟨v,oc,h1,h2⟩:=I2.cell x c e;rw [z,nI.1] at h1;cases h1
   exact nI.2.2.2.2 v h2) ak
  exact wpAny_bind (wpAny_rule (wpAny_pure ⟨d,H,I3,rd,h0 hx⟩))
 ·obtain ⟨kf,J,hJ,aD,O,hQ⟩:=h1 hx;have ac:0<xs.length:=length_pos_iff.mpr hx;rwa[wpAny_bind (wpAny_tryCatch (W.item 0 _ _ _ (by rw [ae];exact ac) ⟨⟨_,nI.1,rfl,rfl⟩,R⟩ λu h1 aa hP ax U=> ?_))]
  have hu:us[0]? =some u:=by simpa using hP
  obtain ⟨v1,al⟩:∃v1,xs[0]? =some v1:=⟨_,getElem?_eq_getElem ac⟩
  have au:aE v1 u:=by
   obtain ⟨u',aq,ru⟩:=ag.get al;rw [hu] at aq;cases aq;exact ru
  obtain ⟨Y,az,ap,am⟩:=id ax.1;have U:∀b u,b≠j->s2.heap.get? b=some u->h1.get? b=some u:=λb u n e=>U b u (by simpa using n) e
  have af:∀ {a b:Addr×Obj},∀p∈a::b::pins,p∈b::a::pins:=λ{a b} p G=>by
   rcases mem_cons.mp G with rfl|G
   ·exact .tail _ (.head _)
   ·rcases mem_cons.mp G with rfl|G
    ·exact .head _
    ·exact .tail _ (.tail _ G)
  have I3:av X ((S,seqObj "list" #[] 0)::(j,Y)::pins) σ H {s2 with heap:=h1,toks:=aa}:=
   ((I2.sub af).repin (t':=aa) aC (λp G=>by
     rcases mem_append.mp G with G|G
     ·exact ak p @bE
     ·rcases mem_cons.mp G with rfl|G
      ·exact ab
      ·exact ak p @bC) U az λv e=>by rw [am] at e;cases e).sub af
  show wpAny _ X.A.in1 (tryCatch (holding [u] @dW) _>>=_) _ _ _;rwa[wpAny_bind (wpAny_tryCatch (wpAny_holding (wpAny_mono (O _ _ H 0 v1 u I3 hJ al au) (λx s3 he=> ?_) λ_ _ hF=>hF.elim)))];obtain ⟨H3,I4,⟨t2,rfl⟩,an⟩:=he;have aF:=I4.pin (S,_) @x;have aG:=I4.pin (j,Y) @M;have s1:=Heap.SameBut.update s3.heap S (Obj.mapSeq λ_=> #[u,.int (kf 0) t2]);obtain ⟨c2,ao⟩:∃c2,(s3.heap.update S (Obj.mapSeq λ_=> #[u,.int (kf 0) t2])).get? S=some (seqObj "list" #[u,.int (kf 0) t2] c2):=⟨_,get?_update_seq aF.1 λ_=> #[u,.int (kf 0) t2]⟩;show wpAny _ X.A.in1 (updateSeq S (λ_=> #[u,.int (kf 0) t2])>>=_) _ _ _;rwa[wpAny_bind ?_];rwa[wpAny_updateSeq aF.1 rfl ?_];rw [Z];rwa[wpAny_pure ⟨plainId_quiet PySem.F.plain_min_loop _,IG kf J hh aD aC ar ak aj ab O (λi v u s' H hv ru hb hJ I=>⟨v,H,I,ru,hQ i v H hv hb hJ⟩) _ 0 0 _ H3 v1 u t2 c2 Y rfl ac (I4.repin (t':=s3.toks) ar (λp G=> ?_) (λb u n e=>(s1.2 b n).trans e) ao λv e=>by cases e) an ⟨Y,(s1.2 _ ab.symm).trans aG.1,ap,am⟩ al au @f λj' aH=> ?_⟩]
  ·rcases mem_append.mp G with G|G
   ·exact aj p @bE
   ·rcases mem_cons.mp G with rfl|G
    ·exact ab.symm
    ·exact aj p @bC
  ·have e:j'=0:=by lia
   subst e;exact ⟨by lia,λh=>absurd h @Z⟩
structure oG (X:Cx)(fs:List Str)(js:List Nat)(cl:List (Str×Addr)):Prop where
 at_:∀(i:Nat) x,fs[i]? =some x->∃j c,js[i]? =some j/\X.N[j]? =some x/\X.env.scope.names.lookup x=some .cell/\X.env.cells.lookup x=some c/\cl.lookup x=some c
 dom:∀x c,cl.lookup x=some c->x∈fs/\X.env.cells.lookup x=some c
theorem Fp {X:Cx}{σ:St}{k:Nat}{f c':Addr}{name qual Z:Str}{F:Arguments}{G:Expr}{scope:Scope}{O:List (Str×Addr)}{pm ctv:Value}{fs:List Str}{js:List Nat}{fvs:List V}{xs:List V}{J:Hp->Prop}{kf:Nat->Int}{t:TE}
(S:dZ [Z] fs scope)(R:oG X fs js O)(ab:∀u:Value,bindArgs (kla_fn name qual F G scope O pm (.ref c') ctv) ⟨[u],[]⟩=pure [(Z,u)])(hr:bT (k+1) X.A.in1)
(Y:js.map (λj=>σ[j]?)=fvs.map λv=>some @br)(aj:js.length=fs.length)
(hJ:∀H,J H->H f=some (nF f (kla_obj name qual F G scope O pm c' ctv))/\H c'=some (nK c' qual))
(hb:∀(s:Shared) (H:Hp),bT k (X.A.in1.deeper (envX qual scope s.heap.objs.size f (.ref c') O))->PE (M5 X.prog X.w X.K X.mg X.base ([Z]++fs) qual scope f (.ref c') O X.A.in1 X.stack s H) G t)
(ht:∀i v H,xs[i]? =some v->J H->t (some v::fvs.map some) H λr H'=>r= .int (kf i)/\J H'):Gs X σ f xs J kf:=by
 intro pins s H i v u I U hv rv;obtain ⟨hf,hc⟩:=hJ H U
 have aa:fvs.length=fs.length:=by
  have:=congrArg List.length Y;rw [length_map,length_map] at this;lia
 have ai:s.heap.get? f=some (kla_obj name qual F G scope O pm c' ctv):=(I.hok f _ hf).1;have ah:s.heap.CodeRec (.ref c') qual:=(I.hok c' _ hc).1;rwa[wpAny_call (codeAny_mono (AU (Q:=λr H'=>r= .int (kf i)/\J H') (E:=E0) (fvs:=fvs) (vs:=[v]) (us:=[u]) S ai ah hr I.env0.in1 (ab u) (.cons rv .nil) rfl aa (λn x w h1 h2=> ?_) (λx c e=>(R.dom x c e).1) (λx y c e1 e2=>I.ok.inj x y c (R.dom x c e1).2 (R.dom y c e2).2) (λx c e=>I.freeC x c (R.dom x c e).2) λaf=>⟨t,hb s H af,ht i v H hv U⟩) λrr s' W=> ?_)]
 ·obtain ⟨j,c,e1,e2,e3,e4,e5⟩:=R.at_ n x h1;obtain ⟨m,hn,ae⟩:=I.loc
  have hσ:σ[j]? =some (some w):=by
   have:=congrArg (λl=>l[n]?) Y;simp only [getElem?_map,e1,h2,Option.map_some,Option.some.injEq] at this;exact this
  obtain ⟨u0,ao,ag⟩:=ae j x w e2 hσ (.inr (.inl e3))
  rcases ag with ⟨z,_⟩|⟨_,c2,e6,L⟩
  ·have z:X.env.scope.names.lookup x=some .local:=z;rw [e3] at z;cases z
  ·rw [e4] at e6;cases e6;exact ⟨c,u0,e5,ao,L⟩
 ·cases rr with
  |error e=>exact False.elim W
  |ok fl=>
   cases fl with
   |ret u=>
    obtain ⟨v',H',I',ac,rfl,ad⟩:=I.after W;exact ⟨H',I',ac,ad⟩
   |next=>exact False.elim W
   |brk=>exact False.elim W
   |cont=>exact False.elim W
def QB (q:Str)(mk:Addr->Value->Obj)(js:List Nat)(te tl td tb:TE):TE:=λσ H Q=>te σ H λx H1=>tl σ H1 λfv H2=>td σ H2 λd H3=>
 ∃l f xs,x= .ref l/\fv= .ref f/\H3 l=some (.lst xs)/\(xs=[]->Q d H3)/\(xs≠[]->∃(c':Addr) (ctv:Value) (fvs:List V) (kf:Nat->Int) (J:Hp->Prop),js.map (λj=>σ[j]?)=fvs.map (λv=>some @br)/\J H3/\
  (∀H,J H->H l=some (.lst xs)/\H f=some (nF f (mk c' ctv))/\H c'=some @eX)/\(∀i v H,xs[i]? =some v->J H->tb (some v::fvs.map some) H λr H'=>r= .int (kf i)/\J H')/\∀i v H,xs[i]? =some v->MZ xs kf i->J H->Q v H)
theorem Eu {X:Cx}{k:Nat}{p pos O G R:Pos}{e D:Expr}{te tl td tb:TE}{Z:Str}{lp:Arguments}{lb:Expr}{lsc:Scope}{j:List (Str×Addr)}{fs:List Str}{L:List Nat}(hc:X.calm=true)(hg:Gl X "min")(hm:X.mg "min"=none)(hr:bT (k+2) X.A)
(he:PE X e te)(hl:PE X (.Lambda lp lb lsc O) tl)(hd:PE X D td)(S:dZ [Z] fs lsc)(LI:oG X fs L j)(aj:L.length=fs.length)
(ab:∀(c':Addr) (ctv u:Value),bindArgs (kla_fn "<lambda>" (X.env.qual++"<lambda>") lp lb lsc j ((X.mg "__name__").getD .none) (.ref c') ctv) ⟨[u],[]⟩=pure [(Z,u)])
(hb:∀(f c':Addr) (s:Shared) (H:Hp),bT k (X.A.in1.deeper (envX (X.env.qual++"<lambda>") lsc s.heap.objs.size f (.ref c') j))->PE (M5 X.prog X.w X.K X.mg X.base ([Z]++fs) (X.env.qual++"<lambda>") lsc f (.ref c') j X.A.in1 X.stack s H) lb tb)
(hs:bx e=true:=by rfl):
 PE X (.Call (.Name "min" p) [e] [⟨some "key",.Lambda lp lb lsc O,G⟩,⟨some "default",D,R⟩] pos)
  (QB (X.env.qual++"<lambda>") (λc' ctv=>kla_obj "<lambda>" (X.env.qual++"<lambda>") lp lb lsc j ((X.mg "__name__").getD .none) c' ctv) L te tl td tb):=by
 intro pins s σ H Q I h;have st:starEach [e] X.env=[(false,eval e X.env)]:=aQ hs;rwa[wpAny_Call_Name_kw (gW I hg hm boot_min ?_)];rwa[callWith_kw (env:=X.env) ?_ (by rw [st];rfl) (by rw [st];rfl)];rw [st];show wpAny _ _ (spliced ((false,eval e X.env)::backTo pos @cw)) _ _ s;rwa[Calls.spliced_cons (bG @dF λu s1 ⟨x,H1,I1,U,q1⟩=> ?_)];rwa[Calls.spliced_nil ?_];rwa[kws_cons (bG (hl pins s1 σ H1 _ I1 q1) λuf s2 ⟨fv,H2,I2,r2,q2⟩=> ?_)];rwa[kws_cons (bG (hd pins s2 σ H2 _ I2 q2) λud s3 ⟨d,H3,I3,r3,q3⟩=> ?_)];rwa[kws_nil ?_];obtain ⟨l,f,xs,rfl,rfl,W,h0,h1⟩:=q3;have U:u=Value.ref l:=U;have r2:uf=Value.ref f:=r2;subst U r2;rwa[LR (f:=f) @bv I3 W r3 h0 λhx=> ?_];obtain ⟨c',ctv,aa,kf,J,Y,hJ,F,ht,hQ⟩:=h1 hx;exact ⟨kf,J,hJ,λH z=>(F H z).1,Fp S LI (ab c' ctv) hr.in1 Y aj (λH z=>(F H z).2) (hb f c') ht,hQ⟩
section
variable {prog:Program}{w:World}{A:Around}{E:Value->Shared->Prop}{s:Shared}
theorem zS {it t:Addr}{i:Nat}{j:Array Value}{x:Value}{Q:Value->Shared->Prop}(ai:s.heap.IsTupleIter it t i)(O:s.heap.IsTuple t j)(R:j[i]? =some x)
(L:∀h',h'.IsTupleIter it t (i+1)->Heap.SameBut it s.heap h'->Q x {s with heap:=h'}):wpAny @n A (Builtin.SmallTypes.nextOf (.ref it)) Q E s:=by
 obtain ⟨o,I,G,J⟩:=id ai;obtain ⟨S,as,_,U,z⟩:=O;unfold Builtin.SmallTypes.nextOf;rwa[wpAny_bind (wpAny_callSpecial?_slot (name:=s!"__next__") ai.typeIs F.slot_tuple_iterator_next (wpAny_call_entry F.slot_tuple_iterator_next ai.typeIs F.entry_tuple_iterator_next ?_ (F.args_tuple_iterator_next_1 _)))];show wpAny _ _ (field (.ref it) 0>>=_) _ _ s;rwa[wpAny_bind (wpAny_field I J (x:= .ref t) rfl ?_)];show wpAny _ _ (if (Value.ref t==Value.none)=true then _ else _) _ _ s;rw [if_neg (show ¬((Value.ref t==Value.none)=true) from Bool.false_ne_true)];show wpAny _ _ (field (.ref it) 1>>=_) _ _ s;rwa[wpAny_bind (wpAny_field I J (x:= .int i 0) rfl ?_)];show wpAny _ _ (seqItems? (.ref t)>>=_) _ _ s;rwa[wpAny_bind (wpAny_seqItems as z ?_)];simp only [Int.toNat_natCast,R];rwa[wpAny_bind (wpAny_setField I J @e (wpAny_pure ⟨x,rfl,wpAny_pure (L _ ?_ (Heap.SameBut.update ..))⟩))];exact ⟨_,Heap.get?_update_self _ I (Obj.isFreed_of_fields (Obj.data_mapFields J _)),(Obj.cls_mapFields ..).trans G,by rw [Obj.data_mapFields J];simp [rawInt]⟩
theorem iT {it t:Addr}{i:Nat}{j:Array Value}{Q:Value->Shared->Prop}(G:A.handled=none)(ai:s.heap.IsTupleIter it t i)(O:s.heap.IsTuple t j)(R:j[i]? =none)
(L:∀h' e,Heap.ExtBut it s.heap h'->(∃o,h'.get? e=some o/\o.cls= .type "StopIteration")->E (.ref e) {s with heap:=h'}):wpAny @n A (Builtin.SmallTypes.nextOf (.ref it)) Q E s:=by
 obtain ⟨o,I,S,J⟩:=id ai;obtain ⟨U,as,_,W,z⟩:=O;unfold Builtin.SmallTypes.nextOf;rwa[wpAny_bind (wpAny_callSpecial?_slot (name:=s!"__next__") ai.typeIs F.slot_tuple_iterator_next (wpAny_call_entry F.slot_tuple_iterator_next ai.typeIs F.entry_tuple_iterator_next ?_ (F.args_tuple_iterator_next_1 _)))];show wpAny _ _ (field (.ref it) 0>>=_) _ _ s;rwa[wpAny_bind (wpAny_field I J (x:= .ref t) rfl ?_)];show wpAny _ _ (if (Value.ref t==Value.none)=true then _ else _) _ _ s;rw [if_neg (show ¬((Value.ref t==Value.none)=true) from Bool.false_ne_true)];show wpAny _ _ (field (.ref it) 1>>=_) _ _ s;rwa[wpAny_bind (wpAny_field I J (x:= .int i 0) rfl ?_)];show wpAny _ _ (seqItems? (.ref t)>>=_) _ _ s;rwa[wpAny_bind (wpAny_seqItems as z ?_)];simp only [Int.toNat_natCast,R];rwa[wpAny_bind (wpAny_rule (wpAny_bind (wpAny_setField I J @e ?_)))];show wpAny _ _ (newExc (.type "StopIteration") []>>=_) _ _ _;rwa[wpAny_bind ?_];simp only [newExc,newTuple];rwa[wpAny_bind (wpAny_newObj_type ?_ (by size_fits))];rwa[wpAny_bind (m:=firstArgMember _ _) (wpAny_of_eq (a:=Value.none) (by first|rfl|(simp only [firstArgMember];rfl)) ?_)];rwa[wpAny_newObj_type ?_ (by size_fits)];simp only [raiseNew];rwa[wpAny_bind (wpAny_handled ?_)]
 first|rw [show A.in1.handled=none from G]|rw [G]
 rwa[wpAny_bind (wpAny_pure (wpAny_throw ?_))];exact L _ _ (((Heap.SameBut.update ..).extBut.push _).push _) ⟨_,Heap.get?_push_size _ rfl,rfl⟩
end
theorem ux {prog:Program}{w:World}{A:Around}(J:A.handled=none)(it l:Addr)(G:l≠it)(j:Array Value):
 Draws prog w A it [it,l] j.size (λi v=>j[i]? =some v) (λi h=>h.IsTupleIter it l i/\h.IsTuple l j) where
 live:=λ_ _ st=>let ⟨o,ho,_⟩:=st.1;⟨o,ho⟩
 frame:=λ_ _ _ st R=>⟨st.1.at λo e=>R it @e o e,let ⟨o,ho,r⟩:=st.2;⟨o,R l @e o ho,r⟩⟩
 item:=λi s Q E hi st I=>by
  rwa[zS st.1 st.2 (x:=j[i]) (by simp [hi]) λh' z F=> ?_];exact I _ h' s.toks (by simp [hi]) ⟨z,let ⟨o,ho,r⟩:=st.2;⟨o,(F.2 l G).trans ho,r⟩⟩ F
 done:=λs Q E st L=>iT J st.1 st.2 @e L
open Sem (wp)
open AutoSeq1 (wpAny_loadPart')
theorem qT (l:Addr)(j:Array Value)(n:Nat)(z:Option Addr)(sl:Array @B):
 Meets (Builtin.«enumerate.__new__» ⟨[.type "enumerate",.ref l],[]⟩) (λ_ R s=>s.heap.get? l=some {cls:= .type "tuple",dict:=z,data:= .seq j n,slots:=sl}/\
  R (.ok (.ret (.ref (s.heap.push {cls:= .type "tuple_iterator",data:= .fields #[.ref l,.int 0 0]}).objs.size)))
    {s with heap:=(s.heap.push {cls:= .type "tuple_iterator",data:= .fields #[.ref l,.int 0 0]}).push {cls:= .type "enumerate",data:= .fields #[.none,.bool false,.ref s.heap.objs.size,rawInt 0,.none,.none]}}):=
 .of_wp λprog w A R s h=>by
  obtain ⟨I,g,d,tk,os⟩:=s;obtain ⟨W,h⟩:=h;have F:=sub_enumerate;have G:Heap.IsTuple (Shared.heap ⟨I,g,d,tk,os⟩) l j:=⟨_,W,rfl,n,rfl⟩
  wp_walk using wpAny_loadPart' W
  rwa[wpAny_stack_any λst=>wpAny_pure ?_];split
  ·rename_i c _ _ _ _ _;cases (c==Value.type "enumerate")
   ·wp_walk using wpAny_loadPart' W,wpAny_pyIter_tuple G
    exact ⟨_,rfl,h⟩
   ·wp_walk using wpAny_loadPart' W,wpAny_pyIter_tuple G
    exact ⟨_,rfl,h⟩
  ·wp_walk using wpAny_loadPart' W,wpAny_pyIter_tuple G
   exact ⟨_,rfl,h⟩
theorem tD {prog:Program}{w:World}{A:Around}{E:Value->Shared->Prop}{s:Shared}{l:Addr}{j:Array Value}{Q:Value->Shared->Prop}(O:s.heap.IsTuple l j)
(h:∀h',IsEnum h' (s.heap.objs.size+1) s.heap.objs.size 0 .none->h'.IsTupleIter s.heap.objs.size l 0->h'.objs.size=s.heap.objs.size+2->
   (∀b o,s.heap.get? b=some o->h'.get? b=some o)->Q (.ref (s.heap.objs.size+1)) {s with heap:=h'}):wpAny @n A (call (.type "enumerate") [.ref l]) Q E s:=by
 obtain ⟨⟨c,G,R,sl⟩,W,I,n,J⟩:=O;replace I:c= .type "tuple":=I;replace J:R= .seq j n:=J;subst I J;rwa[callType_new F.called_enumerate @b (F.typeCall_enumerate_1 _) (F.newCall_enumerate_1 _) (λz=>F.args_object_init_2 z _) F.entry_enumerate_new (qT l j n G sl) ⟨W,?_⟩];have L:(s.heap.push {cls:= .type "tuple_iterator",data:= .fields #[.ref l,.int 0 0]}).objs.size=s.heap.objs.size+1:=Heap.size_push ..;show _/\_;rw [L]
 have U:IsEnum ((s.heap.push {cls:= .type "tuple_iterator",data:= .fields #[.ref l,.int 0 0]}).push {cls:= .type "enumerate",data:= .fields #[.none,.bool false,.ref s.heap.objs.size,rawInt 0,.none,.none]}) (s.heap.objs.size+1) s.heap.objs.size 0 .none:=by
  have:=Heap.get?_push_size (s.heap.push {cls:= .type "tuple_iterator",data:= .fields #[.ref l,.int 0 0]}) (o:= {cls:= .type "enumerate",data:= .fields #[.none,.bool false,.ref s.heap.objs.size,rawInt 0,.none,.none]}) rfl;rw [L] at this;exact this
 rwa[⟨⟨_,U,rfl⟩,h _ U ⟨_,Heap.get?_push_of_some _ (Heap.get?_push_size _ rfl),rfl,rfl⟩ (by rw [Heap.size_push,L]) λb o x=>Heap.get?_push_of_some _ (Heap.get?_push_of_some _ x)⟩]
theorem av.turnLaid {X:Cx}{pins:List (Addr×Obj)}{σ:St}{H:Hp}{s:Shared}{h':Heap}{t':Nat}{ch:List Addr}{a:Addr}{o:HO}(I:av X pins σ H s)(L:∀b∈ch,jd X pins H b)(k:∀b u,b∉ch->s.heap.get? b=some u->h'.get? b=some u)
(R:s.heap.objs.size<=a)(J:br X.prog X.w @bo h' a o):av X pins σ @bo {s with heap:=h',toks:=t'}:=by
 have Y:H a=none:=I.hok.fresh R;have U:∀ {b:Addr} {u:Obj},s.heap.get? b=some u->b≠a:=λ{b u} e=>Nat.ne_of_lt (Nat.lt_of_lt_of_le @A R)
 have O:∀ {b:Addr} {u:HO},H b=some u->b∉ch:=λ{b u} e z=>by have:=(L b z).1;rw [e] at this;cases this
 have G:aj H @bo:= .upd Y
 refine I.step (g':=s.gens) (d':=s.drawn) (ch:=ch) (λb F=> ?_) (λb u _ _ j e _=>k b u j e) (λb u _ _ j e _=>⟨u.slots,k b u j e⟩) (λb u _ e n=>by rw [ak (U e)];exact n) (λb u j e=>⟨u,k b u j e⟩)
  (λb xs e=>G _ _ e) (λb u v e=>G _ _ e) (λb ps e=>⟨#[],by rw [G _ _ e];simp⟩) (λm S=> ?_) (λb u e=> ?_) I.bare
 ·obtain ⟨_,W,_,f3,Z,f5⟩:=L b F;exact ⟨f3,W,Z,f5⟩
 ·obtain ⟨o,es,ep,ho,r⟩:=S;exact ⟨o,es,ep,k _ o (λz=>(L _ z).2.1 rfl) ho,r⟩
 ·by_cases F:b=a
  ·subst F;rw [af] at e;cases e;exact J
  ·rw [ak F] at e;rwa[(I.hok b u e).stay (λc v j q=>k c v ?_ q) (λc q=>G _ _ q) λc xs q=>G _ _ q]
   rcases j with z|z
   ·rw [z];exact O e
   ·exact O z
def PU (K:Fg)(a:Addr):It:=⟨(Gv K a).go,λi H x H'=>∃T y,x= .ref T/\H T=none/\H'=upd H T (.tup [.int i,y])/\∀xs,aA K H a xs->xs[i]? =some y,(Gv K a).stop⟩
theorem Dp {P:Program}{w:World}{K:Fg}{J:List Expr}{k:Nat}{pos:Pos}(a it e:Addr):wq P w K (.Tuple J k pos) (PU K a) [e,it] e (λi h=>(∃old,IsEnum h e it i old)/\h.IsListIter it a i) where
 mem:=by simp
 obj:=λi h st b G=>by
  obtain ⟨⟨old,U⟩,o,ho,c,d⟩:=st
  rcases mem_cons.mp G with rfl|G
  ·exact ⟨_,U,λv z=>by cases z⟩
  ·rw [mem_singleton.mp G];exact ⟨o,ho,λv z=>by rw [d] at z;cases z⟩
 keep:=λi h h' st kk=>by
  obtain ⟨⟨old,U⟩,ai⟩:=st;exact ⟨⟨old,kk e @e _ U⟩,ai.at λo z=>kk it @e o z⟩
 item:=by
  intro X hP hw hK hc i pins s σ H E I hf st hg;subst hP hw hK;obtain ⟨⟨old,U⟩,ai⟩:=st;obtain ⟨xs,x,hq,hx⟩:=hg;obtain ⟨its,rv,p,hz⟩:=I.list hq;have Z:s.heap.IsList a its.toArray:=p.isList;obtain ⟨u,hu,ru⟩:=rv.get hx;obtain ⟨oi,j,ci,di⟩:=id ai;obtain ⟨ol,as,S,_⟩:=id Z
  have ab:e≠it:=λz=>by have h1:=j.symm.trans (z▸U);cases h1;exact absurd (Value.type.inj ci) @b
  have ah:e≠a:=λz=>by have h1:=as.symm.trans (z▸U);cases h1;exact absurd @bD @b
  have R:a≠it:=λz=>by rw [z,j] at as;cases as;rw [ci] at S;exact absurd @bD @b
  have W:=WalksT.enumerateD (Draws.list (prog:=X.prog) (w:=X.w) (A:=X.A.in1) @bv it a R its.toArray) e ab (by simp [ab,ah]) @e
  have hi:i<its.toArray.size:=by rw [size_toArray];exact (List.getElem?_eq_some_iff.mp hu).1
  rwa[W.item i s _ _ hi ⟨⟨old,U⟩,ai,Z⟩ λT al h' tk hP hT ac O hk=>⟨.ref T,rfl,?_⟩];rwa[W.go J k pos i T _ _ _ O λh2 L aa=> ?_];obtain ⟨t,u',aq,rfl⟩:=hP
  have aq:its[i]? =some u':=by simpa using aq
  rw [hu] at aq;cases aq;have Y:T∉[e,it]:=W.apart i T h' O;have kk:∀b o,b∉[e,it]->s.heap.get? b=some o->h2.get? b=some o:=λb o nb z=>aa b o nb (hk b o nb z)
  have ad:IsTup h2 T (#[.int i t,u]:Array Value):=by
   obtain ⟨o,ho,c,r⟩:=ac;exact ⟨o,aa T o Y ho,c,r⟩
  have aj:br X.prog X.w (upd H T (.tup [.int i,x])) h2 T (.tup [.int i,x]):=⟨by show 2<=sizeLine;decide,[.int i t,u],.cons ⟨t,rfl⟩ (.cons ru .nil),ad⟩;rwa[⟨.ref T,upd H T (.tup [.int i,x]),I.turnLaid (t':=tk) hf kk hT aj,rfl,⟨T,x,rfl,I.hok.fresh hT,rfl,λys hy=>by rw [I.list_inj hy hq];exact hx⟩,⟨L.1,L.2.1⟩,λb G=> ?_⟩];have ne:b≠T:=λz=>Y (by rw [<-z];exact G);rw [ak ne];exact (hf b G).1
 done:=by
  intro X hP hw hK hc i pins s σ H E I hf st hg;subst hP hw hK;obtain ⟨⟨old,U⟩,ai⟩:=st;obtain ⟨xs,hq,hx⟩:=hg;obtain ⟨its,rv,p,hz⟩:=I.list hq;have Z:s.heap.IsList a its.toArray:=p.isList;have am:=rv.length;obtain ⟨oi,j,ci,di⟩:=id ai;obtain ⟨ol,as,S,_⟩:=id Z
  have R:a≠it:=λz=>by rw [z,j] at as;cases as;rw [ci] at S;exact absurd @bD @b
  have D:=Draws.list (prog:=X.prog) (w:=X.w) (A:=X.A.in1) @bv it a R its.toArray;have hT:s.TypeIs (.ref e) "enumerate":=⟨_,U,rfl⟩;obtain ⟨f0,f1,f2,f3,f4,f5⟩:=hf it @e;unfold pyNext;rwa[wpAny_bind (wpAny_attempt (wpAny_callSpecial?_slot (name:=s!"__next__") hT F.slot_enumerate_next (wpAny_call_entry F.slot_enumerate_next hT F.entry_enumerate_next ?_ (F.args_enumerate_next_1 _))))];show wpAny _ _ (field (.ref e) 2>>=_) _ _ _;rwa[wpAny_bind (wpAny_field U rfl (x:= .ref it) rfl ?_)];rwa[wpAny_bind (wpAny_nextOf_list_end @bv ai Z (by simp;lia) λh' x ag ae=> ?_)];obtain ⟨o,ho,af⟩:=ae;rwa[wpAny_bind (wpAny_isInstance (T:="StopIteration") (b:=true) ⟨o,ho,af⟩ isSubtype_stop ?_)];exact wpAny_pure ⟨rfl,I.turned (t':=s.toks) (λb o G e=>ag b o G e) f0 f1 f3 f4 f5⟩
 self:=λ_ _ _ _ _ st h=>let ⟨⟨old,U⟩,_⟩:=st;wpAny_pyIter_enum U h
theorem F4 {K:Fg}{a:Addr}{xs:List V}{pk:List @y}{g:TG}{tt:TT}{te:TE}{σ:St}{H:Hp}{Q:VK}(j:Nat->List V->Hp->Prop)(S:xs.length<=sizeLine)(F:∀i ys H,j i ys H->ys.length<=i)(J:j 0 [] H)(I:∀i ys H,i<=xs.length->j i ys H->aA K H a xs)
(hs:∀(i:Nat) x ys H T H',xs[i]? =some x->j i ys H->aj H H'->H' T=some (.tup [.int i,x])->g (.ref T) @I H' λσ2 H2=>tF @I σ2/\tt σ2 H2 λb H3=>if b=true then te σ2 H3 λv H4=>j (i+1) (ys++[v]) H4 else j (i+1) ys H3)
(R:∀ys H,j @eV ys H->∀p,H p=none->Q (.ref p) @L):
 rA (PU K a) pk g tt te σ H Q:=by
 rwa[⟨λi m ys H=>m=xs.length - i/\i<=xs.length/\j i ys H,⟨xs.length,by simp,Nat.zero_le _,J⟩,?_⟩];rintro i m ys H ⟨rfl,hi,p⟩;have W:=F _ _ _ p;by_cases G:i<xs.length
 ·rwa[.inr ⟨⟨xs,xs[i],I i ys H hi p,by simp [G]⟩,by lia,j (i+1),λzs H' L=>⟨xs.length - (i+1),by lia,rfl,G,L⟩,λx H' y=> ?_⟩];obtain ⟨T,z,rfl,O,rfl,y⟩:=y;exact hs i z ys _ T _ (y xs (I i ys _ hi p)) p (.upd O) af
 ·have e:i=xs.length:=by lia
  subst e;exact .inl ⟨⟨xs,I _ ys H @f p,Nat.le_refl _⟩,by lia,R ys H p⟩
def Rq (K:Fg)(a:Addr):It:=⟨(Gu K a).go,λi H x H'=>∃T y,x= .ref T/\H T=none/\H'=upd H T (.tup [.int i,y])/\∀xs,aC K H a xs->xs[i]? =some y,(Gu K a).stop⟩
theorem Do {P:Program}{w:World}{K:Fg}{J:List Expr}{k:Nat}{pos:Pos}(a it e:Addr):wq P w K (.Tuple J k pos) (Rq K a) [e,it] e (λi h=>(∃old,IsEnum h e it i old)/\h.IsTupleIter it a i) where
 mem:=by simp
 obj:=λi h st b G=>by
  obtain ⟨⟨old,U⟩,o,ho,c,d⟩:=st
  rcases mem_cons.mp G with rfl|G
  ·exact ⟨_,U,λv z=>by cases z⟩
  ·rw [mem_singleton.mp G];exact ⟨o,ho,λv z=>by rw [d] at z;cases z⟩
 keep:=λi h h' st kk=>by
  obtain ⟨⟨old,U⟩,ai⟩:=st;exact ⟨⟨old,kk e @e _ U⟩,ai.at λo z=>kk it @e o z⟩
 item:=by
  intro X hP hw hK hc i pins s σ H E I hf st hg;subst hP hw hK;obtain ⟨⟨old,U⟩,ai⟩:=st;obtain ⟨xs,x,hq,hx⟩:=hg;obtain ⟨its,rv,p,hz⟩:=I.tuple hq;have Z:s.heap.IsTuple a its.toArray:=p;obtain ⟨u,hu,ru⟩:=rv.get hx;obtain ⟨oi,j,ci,di⟩:=id ai;obtain ⟨ol,as,S,_⟩:=id Z
  have ab:e≠it:=λz=>by have h1:=j.symm.trans (z▸U);cases h1;exact absurd (Value.type.inj ci) @b
  have ah:e≠a:=λz=>by have h1:=as.symm.trans (z▸U);cases h1;exact absurd @bD @b
  have R:a≠it:=λz=>by rw [z,j] at as;cases as;rw [ci] at S;exact absurd @bD @b
  have W:=WalksT.enumerateD (ux (prog:=X.prog) (w:=X.w) (A:=X.A.in1) @bv it a R its.toArray) e ab (by simp [ab,ah]) @e
  have hi:i<its.toArray.size:=by rw [size_toArray];exact (List.getElem?_eq_some_iff.mp hu).1
  rwa[W.item i s _ _ hi ⟨⟨old,U⟩,ai,Z⟩ λT al h' tk hP hT ac O hk=>⟨.ref T,rfl,?_⟩];rwa[W.go J k pos i T _ _ _ O λh2 L aa=> ?_];obtain ⟨t,u',aq,rfl⟩:=hP
  have aq:its[i]? =some u':=by simpa using aq
  rw [hu] at aq;cases aq;have Y:T∉[e,it]:=W.apart i T h' O;have kk:∀b o,b∉[e,it]->s.heap.get? b=some o->h2.get? b=some o:=λb o nb z=>aa b o nb (hk b o nb z)
  have ad:IsTup h2 T (#[.int i t,u]:Array Value):=by
   obtain ⟨o,ho,c,r⟩:=ac;exact ⟨o,aa T o Y ho,c,r⟩
  have aj:br X.prog X.w (upd H T (.tup [.int i,x])) h2 T (.tup [.int i,x]):=⟨by show 2<=sizeLine;decide,[.int i t,u],.cons ⟨t,rfl⟩ (.cons ru .nil),ad⟩;rwa[⟨.ref T,upd H T (.tup [.int i,x]),I.turnLaid (t':=tk) hf kk hT aj,rfl,⟨T,x,rfl,I.hok.fresh hT,rfl,λys hy=>by rw [I.tuple_inj hy hq];exact hx⟩,⟨L.1,L.2.1⟩,λb G=> ?_⟩];have ne:b≠T:=λz=>Y (by rw [<-z];exact G);rw [ak ne];exact (hf b G).1
 done:=by
  intro X hP hw hK hc i pins s σ H E I hf st hg;subst hP hw hK;obtain ⟨⟨old,U⟩,ai⟩:=st;obtain ⟨xs,hq,hx⟩:=hg;obtain ⟨its,rv,p,hz⟩:=I.tuple hq;have Z:s.heap.IsTuple a its.toArray:=p;have am:=rv.length;obtain ⟨oi,j,ci,di⟩:=id ai;obtain ⟨ol,as,S,_⟩:=id Z
  have R:a≠it:=λz=>by rw [z,j] at as;cases as;rw [ci] at S;exact absurd @bD @b
  have D:=ux (prog:=X.prog) (w:=X.w) (A:=X.A.in1) @bv it a R its.toArray;have hT:s.TypeIs (.ref e) "enumerate":=⟨_,U,rfl⟩;obtain ⟨f0,f1,f2,f3,f4,f5⟩:=hf it @e;unfold pyNext;rwa[wpAny_bind (wpAny_attempt (wpAny_callSpecial?_slot (name:=s!"__next__") hT F.slot_enumerate_next (wpAny_call_entry F.slot_enumerate_next hT F.entry_enumerate_next ?_ (F.args_enumerate_next_1 _))))];show wpAny _ _ (field (.ref e) 2>>=_) _ _ _;rwa[wpAny_bind (wpAny_field U rfl (x:= .ref it) rfl ?_)];rwa[wpAny_bind (iT @bv ai Z (by simp;lia) λh' x ag ae=> ?_)];obtain ⟨o,ho,af⟩:=ae;rwa[wpAny_bind (wpAny_isInstance (T:="StopIteration") (b:=true) ⟨o,ho,af⟩ isSubtype_stop ?_)];exact wpAny_pure ⟨rfl,I.turned (t':=s.toks) (λb o G e=>ag b o G e) f0 f1 f3 f4 f5⟩
 self:=λ_ _ _ _ _ st h=>let ⟨⟨old,U⟩,_⟩:=st;wpAny_pyIter_enum U h
theorem F0 {K:Fg}{a:Addr}{xs:List V}{pk:List @y}{g:TG}{tt:TT}{te:TE}{σ:St}{H:Hp}{Q:VK}(j:Nat->List V->Hp->Prop)(S:xs.length<=sizeLine)(F:∀i ys H,j i ys H->ys.length<=i)(J:j 0 [] H)(I:∀i ys H,i<=xs.length->j i ys H->aC K H a xs)
(hs:∀(i:Nat) x ys H T H',xs[i]? =some x->j i ys H->aj H H'->H' T=some (.tup [.int i,x])->g (.ref T) @I H' λσ2 H2=>tF @I σ2/\tt σ2 H2 λb H3=>if b=true then te σ2 H3 λv H4=>j (i+1) (ys++[v]) H4 else j (i+1) ys H3)
(R:∀ys H,j @eV ys H->∀p,H p=none->Q (.ref p) @L):
 rA (Rq K a) pk g tt te σ H Q:=by
 rwa[⟨λi m ys H=>m=xs.length - i/\i<=xs.length/\j i ys H,⟨xs.length,by simp,Nat.zero_le _,J⟩,?_⟩];rintro i m ys H ⟨rfl,hi,p⟩;have W:=F _ _ _ p;by_cases G:i<xs.length
 ·rwa[.inr ⟨⟨xs,xs[i],I i ys H hi p,by simp [G]⟩,by lia,j (i+1),λzs H' L=>⟨xs.length - (i+1),by lia,rfl,G,L⟩,λx H' y=> ?_⟩];obtain ⟨T,z,rfl,O,rfl,y⟩:=y;exact hs i z ys _ T _ (y xs (I i ys _ hi p)) p (.upd O) af
 ·have e:i=xs.length:=by lia
  subst e;exact .inl ⟨⟨xs,I _ ys H @f p,Nat.le_refl _⟩,by lia,R ys H p⟩
def Q3 (K:Fg)(p:Addr)(H:Hp)(R:It->Hp->Prop):Prop:=(∃xs,aA K H p xs/\R (PU K p) H)\/∃xs,aC K H p xs/\R (Rq K p) H
def RD (K:Fg)(te:TE):TI:=λσ H R=>te σ H λx H1=>match x with| .ref p=>Q3 K p H1 R|_=>False
theorem Au {X:Cx}{K:Fg}(Y:X.K=K){J:List Expr}{k:Nat}{tpos p pos:Pos}{e:Expr}{te:TE}(hg:Gl X "enumerate")(U:X.mg "enumerate"=none)(Z:PE X e te)(hs:bx e=true:=by rfl):
 PI X (.Tuple J k tpos) (.Call (.Name "enumerate" p) [e] [] pos) (RD K te):=by
 subst Y;intro pins s σ H R I h;have st:starEach [e] X.env=[(false,eval e X.env)]:=aQ hs;rwa[Call_ (gW I hg U boot_enumerate (PyProof.Rows.callWith_type1 ?_ st (bF (by rfl))))];rw [st];show wpAny _ _ (spliced ((false,eval e X.env)::backTo pos @cw)) _ _ s;rwa[Calls.spliced_cons (bG (Z pins s σ H _ I h) λu L ⟨x,H1,F,z,S⟩=> ?_)];rwa[Calls.spliced_nil ?_]
 cases x with
 |ref a=>
  have z:u=Value.ref a:=z;subst z
  have fp:∀b∈[L.heap.objs.size+1,L.heap.objs.size],jd X pins H1 b:=λb O=>by
   rcases mem_cons.mp O with rfl|O
   ·exact F.fpOk @eU (F.hok.fresh @eU)
   ·rw [mem_singleton.mp O];exact F.fpOk @f @cq
  rcases S with ⟨xs,G,q⟩|⟨xs,G,q⟩
  ·obtain ⟨its,rv,p,hz⟩:=F.list G;rwa[call_enumerate_list p.isList λh' h1 h2 W j=> ?_];exact wpAny_pyIter_enum h1 ⟨_,[L.heap.objs.size+1,L.heap.objs.size],_,_,H1,rfl,F.kept (t':=L.toks) j,Dp a _ _,⟨⟨_,h1⟩,h2⟩,fp,q⟩
  ·obtain ⟨its,rv,p,hz⟩:=F.tuple G;rwa[tD (show L.heap.IsTuple a its.toArray from p) λh' h1 h2 W j=> ?_];exact wpAny_pyIter_enum h1 ⟨_,[L.heap.objs.size+1,L.heap.objs.size],_,_,H1,rfl,F.kept (t':=L.toks) j,Do a _ _,⟨⟨_,h1⟩,h2⟩,fp,q⟩
 |_=>exact False.elim S
section
variable {X:Cx}{K:Fg}
def Qv:List V->Hp->VK->Prop:=λxs H Q=>match xs with|[.int i]=>Q (.int (if i<0 then -i else i)) H|_=>False
theorem JH:aW X (.builtin "abs") Qv:=F9.imp λxs H Q h=>by
 match xs,h with
 |[.int i],h=>exact ⟨i,rfl,h⟩
theorem IX {R:List Int}:∀ {us:List Value},aL @fA us->IntsAre us R:=by
 induction R with
 |nil=>intro us r;cases r;exact .nil
 |cons a r ih=>
  intro us h
  cases h with
  |cons r1 r2=>
   obtain ⟨t,rfl⟩:=r1;exact .cons _ _ (ih r2)
def Re (K:Fg)(a:Addr)(j:Int)(H:Hp)(Q:VK):Prop:=∃ns:List Int,aA K H a @bz/\Q (.int (ns.count j:Nat)) H
def Ks (K:Fg):V->List V->Hp->VK->Prop:=λx xs H Q=>match x,xs with| .ref a,[.int j]=>Re K a j H Q|_,_=>False
theorem Ay (O:X.K=K):yv X "list.count" (Ks K):=by
 subst O;intro pins s σ H x xs v L Q I G J h
 match x,xs,h with
 | .ref a,[.int j],h=>
   obtain ⟨R,z,q⟩:=h;have G:v=Value.ref a:=G;subst G;obtain ⟨u,rfl,t,rfl⟩:=fX J;obtain ⟨its,F,p,S⟩:=I.list z;rwa[count_list_ints p.isList (IX F) ?_];exact ⟨.int (R.count j:Nat),H,I.tok _,⟨_,rfl⟩,q⟩
end
theorem oG.two {X:Cx}{j O:Str}{S J:Addr}{U W:Nat}{I:List (Str×Addr)}(F:(j==O)=false)(n0:X.N[U]? =some j)(n1:X.N[W]? =some O)(k0:X.env.scope.names.lookup j=some .cell)(k1:X.env.scope.names.lookup O=some .cell)
(e0:X.env.cells.lookup j=some S)(Y:X.env.cells.lookup O=some J)(h:I=[(j,S),(O,J)]\/I=[(O,J),(j,S)]):oG X [j,O] [U,W] I:=by
 have L:(O==j)=false:=by
  cases z:O==j with
  |false=>rfl
  |true=>rw [eq_of_beq z] at F;rw [beq_self_eq_true] at F;cases F
 have Z:I.lookup j=some S:=by
  rcases h with rfl|rfl
  ·simp [List.lookup]
  ·simp [List.lookup,F]
 have g1:I.lookup O=some J:=by
  rcases h with rfl|rfl
  ·simp [List.lookup,L]
  ·simp [List.lookup]
 rwa[⟨λi x G=> ?_,λx c e=> ?_⟩]
 ·match i,G with
  |0,G=>cases G;exact ⟨U,S,rfl,n0,k0,e0,Z⟩
  |1,G=>cases G;exact ⟨W,J,rfl,n1,k1,Y,g1⟩
 ·have G:x=j\/x=O:=by
   rcases h with rfl|rfl
   ·cases z:x==j with
    |true=>exact .inl (eq_of_beq z)
    |false=>
     cases R:x==O with
     |true=>exact .inr (eq_of_beq R)
     |false=>simp [List.lookup,z,R] at e
   ·cases z:x==j with
    |true=>exact .inl (eq_of_beq z)
    |false=>
     cases R:x==O with
     |true=>exact .inr (eq_of_beq R)
     |false=>simp [List.lookup,z,R] at e
  rcases G with rfl|rfl
  ·rw [Z] at e;cases e;exact ⟨by simp,e0⟩
  ·rw [g1] at e;cases e;exact ⟨by simp,Y⟩
theorem xJ {P:Program}{w:World}{K:Frag}{mg:Str->Option Value}{base:Heap}{k:Nat}{f c:Addr}{x:Str}{st:Stmt}{Z U j Y J:Value}{W od:Option Addr}{aa:Array @B}{N ps:List Str}{sp:Sp}
(I:K.lookup f=some ⟨J,od,.func (fnOf x x @dP @cG @bG .none Z U j W (.ref c) Y),aa⟩)(F:codeIn K (.ref c) x=true)(S:ai N ps @bG)(O:∀vs H Q E,sp vs H Q E->vs.length=ps.length)
(G:∀(A:Around) (outer:List Env) (s:Shared) (H:Hp) (vs:List V) (Q:VK) (E:XK),bT k (A.deeper (envOfC x @bG s.heap.objs.size f (.ref c)))->sp vs H Q E->
   ∃t,tH (lJ aZ P w K mg base N x @bG f (.ref c) A outer s H E).nox @cG t/\t {nx:=λ_ H'=>Q .non H',rt:=Q} @cl H):au P w K mg base aZ (k+1) f (fnOf x x @dP @cG @bG .none Z U j W (.ref c) Y) ps sp:=by
 rwa[FL I F S O λA outer s H vs Q E z R=> ?_];obtain ⟨t,h,q⟩:=G A outer s H vs Q E z R;exact ⟨t,h.nox,q⟩
theorem qH {X:Cx}{s:Stmt}:PS X s @ew:=λ_ _ _ _ _ _ h=>h.elim
theorem FK {K:Fg}{a:Addr}{xs:List V}{g:TG}{tb:TS}{D:oQ}{σ:St}{H:Hp}(j:Nat->St->Hp->Prop)(J:j 0 σ H)(G:∀i σ H,i<=xs.length->j i σ H->aA K H a xs)
(hs:∀(i:Nat) x σ H T H',xs[i]? =some x->j i σ H->aj H H'->H' T=some (.tup [.int i,x])->g (.ref T) σ H' λσ2 H2=>tb {D with nx:=j (i+1),ct:=j (i+1),bk:=D.nx} σ2 H2)(L:∀σ H,j xs.length σ H->D.nx σ H):Af (PU K a) g tb D σ H:=by
 rwa[⟨λi m σ H=>m=xs.length - i/\i<=xs.length/\j i σ H,⟨xs.length,by simp,Nat.zero_le _,J⟩,?_⟩];rintro i m σ H ⟨rfl,hi,p⟩;by_cases F:i<xs.length
 ·rwa[.inr ⟨⟨xs,xs[i],G i σ H hi p,by simp [F]⟩,j (i+1),λR H' I=>⟨xs.length - (i+1),by lia,rfl,F,I⟩,λx H' y=> ?_⟩];obtain ⟨T,z,rfl,O,rfl,y⟩:=y;exact hs i z σ _ T _ (y xs (G i σ _ hi p)) p (.upd O) af
 ·have e:i=xs.length:=by lia
  subst e;exact .inl ⟨⟨xs,G _ σ H @f p,Nat.le_refl _⟩,L σ H p⟩
section
variable {κ:Type}[DecidableEq κ]
noncomputable def fb (kvs:List (κ×V))(k:κ):Option V:=(kvs.find? λkv=>decide (kv.1=k)).map (·.2)
noncomputable def dE (kvs:List (κ×V))(k:κ)(v:V):List (κ×V):=
 if (kvs.any λkv=>decide (kv.1=k))=true then kvs.map (λkv=>if kv.1=k then (kv.1,v) else kv) else kvs++[(k,v)]
theorem cu {p:κ×V}{r:List (κ×V)}{k:κ}(e:p.1=k):fb (p::r) k=some p.2:=by simp [fb,find?_cons,e]
theorem cx {p:κ×V}{r:List (κ×V)}{k:κ}(e: ¬p.1=k):fb (p::r) k=fb r k:=by simp [fb,find?_cons,e]
theorem ky (k:κ):∀kvs:List (κ×V),(kvs.any λkv=>decide (kv.1=k))=(fb kvs k).isSome
 |[]=>rfl
 |p::r=>by
  rw [any_cons];by_cases e:p.1=k
  ·simp only [cu e,decide_eq_true e,Bool.true_or,Option.isSome_some]
  ·rw [cx e,decide_eq_false e,Bool.false_or];exact ky k r
theorem wJ (k j:κ)(y:V):∀kvs:List (κ×V),fb (kvs.map λkv=>if kv.1=k then (kv.1,y) else kv) j=(fb kvs j).map λx=>if j=k then y else x
 |[]=>rfl
 |p::r=>by
  have F:=wJ k j y r;rw [map_cons];by_cases h:p.1=k
  ·rw [if_pos h];by_cases e:p.1=j
   ·rw [cu (p:=(p.1,y)) e,cu e,Option.map_some,if_pos (e.symm.trans h)]
   ·rw [cx (p:=(p.1,y)) e,cx e,F]
  ·rw [if_neg h];by_cases e:p.1=j
   ·rw [cu (p:=p) e,cu e,Option.map_some,if_neg (λz=>h (e.trans z))]
   ·rw [cx (p:=p) e,cx e,F]
theorem tU (k j:κ)(y:V):∀kvs:List (κ×V),fb kvs k=none->fb (kvs++[(k,y)]) j=if j=k then some y else fb kvs j
 |[],_=>by
  by_cases e:k=j
  ·rw [if_pos e.symm];exact cu (p:=(k,y)) e
  ·rw [if_neg (λz=>e z.symm)];exact cx (p:=(k,y)) e
 |p::r,hn=>by
  rw [cons_append]
  have R: ¬p.1=k:=λz=>by rw [cu z] at hn;cases hn
  rw [cx R] at hn;have F:=tU k j y r hn;by_cases e:p.1=j
  ·rw [cu e,cu e,if_neg (λz=>R (e.trans z))]
  ·rw [cx e,cx e,F]
theorem iG (z:List (κ×V))(k j:κ)(y:V):fb (dE z k y) j=if j=k then some y else fb z j:=by
 unfold dE;by_cases a:(z.any λG=>decide (G.1=k))=true
 ·rw [if_pos a,wJ];rw [ky] at a;by_cases e:j=k
  ·obtain ⟨x,F⟩:=Option.isSome_iff_exists.mp a;rw [if_pos e,e,F,Option.map_some,if_pos rfl]
  ·rw [if_neg e]
   cases fb z j with
   |none=>rfl
   |some x=>rw [Option.map_some,if_neg e]
 ·rw [if_neg a];rwa[tU k j y z ?_];rw [ky] at a
  cases q:fb z k with
  |none=>rfl
  |some x=>rw [q] at a;exact (a rfl).elim
theorem cA (j:List (κ×V))(k:κ)(v:V):(dE j k v).length<=j.length+1:=by
 unfold dE;split
 ·rw [length_map];lia
 ·rw [length_append,length_cons,length_nil];lia
theorem jC.isSome_eq {o:Option V}{u:Option Value}(r:jC o u):o.isSome=u.isSome:=by
 cases o with
 |none=>cases u with
  |none=>rfl
  |some _=>exact (show False from r).elim
 |some _=>cases u with
  |none=>exact (show False from r).elim
  |some _=>rfl
theorem KV.val {j:List (κ×V)}{vs:List (κ×Value)}(r:KV j vs)(k:κ):jC (fb j k) (valueAt vs k):=by
 unfold KV at r
 induction r with
 |nil=>exact True.intro
 | @cons p q ps qs h t ih=>
   obtain ⟨h1,h2⟩:=h;by_cases e:p.1=k
   ·have F:q.1=k:=h1.symm.trans e
    have b:valueAt (q::qs) k=some q.2:=by simp [valueAt,find?_cons,F]
    rw [cu e,b];exact h2
   ·have F: ¬q.1=k:=λz=>e @eK
    have b:valueAt (q::qs) k=valueAt qs k:=by simp [valueAt,find?_cons,F]
    rw [cx e,b];exact ih
theorem KV.any {j:List (κ×V)}{vs:List (κ×Value)}(r:KV j vs)(k:κ):(j.any λkv=>decide (kv.1=k))=vs.any λkv=>decide (kv.1=k):=by
 unfold KV at r
 induction r with
 |nil=>rfl
 |cons h t ih=>rw [any_cons,any_cons,ih,h.1]
theorem KV.repl {j:List (κ×V)}{vs:List (κ×Value)}(r:KV j vs)(k:κ){y:V}{u:Value}(L:aE y u):
 KV (j.map λkv=>if kv.1=k then (kv.1,y) else kv) (vs.map λkv=>if kv.1=k then (kv.1,u) else kv):=by
 unfold KV at r ⊢
 induction r with
 |nil=>exact .nil
 | @cons p q ps qs h t ih=>
   rw [map_cons,map_cons];rwa[.cons ?_ ih];obtain ⟨h1,h2⟩:=h;by_cases e:p.1=k
   ·rw [if_pos e,if_pos (h1.symm.trans e)];exact ⟨h1,L⟩
   ·rw [if_neg e,if_neg (λz=>e @eK)];exact ⟨h1,h2⟩
theorem KV.put {j:List (κ×V)}{vs:List (κ×Value)}(r:KV j vs)(k:κ){y:V}{u:Value}(L:aE y u):KV (dE j k y) (stored vs k u):=by
 unfold dE stored;rw [r.any k];by_cases e:(vs.any λG=>decide (G.1=k))=true
 ·rw [if_pos e,if_pos e];exact r.repl k L
 ·rw [if_neg e,if_neg e];exact Paired.snoc r ⟨rfl,L⟩
theorem KV.length {j:List (κ×V)}{vs:List (κ×Value)}(r:KV j vs):j.length=vs.length:=Paired.length r
end
theorem uk {P:Program}{w:World}{k:cG}{u:Value}(r:aE (kV k) u):(bV P w).is k u=true:=by
 cases k with
 |inl i=>obtain ⟨t,e⟩:=(show ∃t,u=Value.int i t from r);subst e;exact xt P w i t
 |inr x=>obtain ⟨t,e⟩:=(show ∃t,u=Value.str x t from r);subst e;exact xq P w x t
theorem um {P:Program}{w:World}:∀ {ks:List cG} {us:List Value},aL @fV us->ItemsAre @cu ks us
 |[],_,r=>by rw [map_nil] at r;cases r;exact .nil
 |k::ks,_,r=>by
  rw [map_cons] at r
  cases r with
  |cons h t=>exact .cons (uk h) (um t)
abbrev KT (H:Hp):List (List cG×V)->List (List cG×Addr×Value)->Prop:=Paired λp q=>p.1=q.1/\H q.2.1=some (.tup (p.1.map kV))/\aE p.2 q.2.2
theorem KT.val {H:Hp}{j:List (List cG×V)}{xs:List (List cG×Addr×Value)}(r:KT H j xs)(k:List cG):jC (fb j k) ((atKey xs k).map (·.2)):=by
 induction r with
 |nil=>exact True.intro
 | @cons p q ps qs h t ih=>
   obtain ⟨h1,_,h2⟩:=h;by_cases e:p.1=k
   ·have F:q.1=k:=h1.symm.trans e
    have b:atKey (q::qs) k=some q.2:=by simp [atKey,find?_cons,F]
    rw [cu e,b];exact h2
   ·have F: ¬q.1=k:=λz=>e @eK
    have b:atKey (q::qs) k=atKey qs k:=by simp [atKey,find?_cons,F]
    rw [cx e,b];exact ih
theorem KT.repl {H:Hp}{j:List (List cG×V)}{xs:List (List cG×Addr×Value)}(r:KT H j xs)(k:List cG){y:V}{u:Value}(L:aE y u):
 KT H (j.map λkv=>if kv.1=k then (kv.1,y) else kv) (xs.map (PySem.putAt k u)):=by
 induction r with
 |nil=>exact .nil
 | @cons p q ps qs h t ih=>
   rw [map_cons,map_cons];rwa[.cons ?_ ih];obtain ⟨h1,h2,F⟩:=h;unfold PySem.putAt;by_cases e:p.1=k
   ·rw [if_pos e,if_pos (h1.symm.trans e)];exact ⟨h1,h2,L⟩
   ·rw [if_neg e,if_neg (λz=>e @eK)];exact ⟨h1,h2,F⟩
theorem KT.put {H:Hp}{j:List (List cG×V)}{xs:List (List cG×Addr×Value)}(r:KT H j xs)(k:List cG){b:Addr}{y:V}{u:Value}(F:H b=some (.tup (k.map kV)))(L:aE y u):
 KT H (dE j k y) (storedH xs k b u):=by
 have e:(j.any λG=>decide (G.1=k))=(atKey xs k).isSome:=by
  rw [ky,(r.val k).isSome_eq,Option.isSome_map]
 unfold dE storedH;rw [e];by_cases q:(atKey xs k).isSome=true
 ·rw [if_pos q,if_pos q];exact r.repl k L
 ·rw [if_neg q,if_neg q];exact Paired.snoc r ⟨rfl,F,L⟩
theorem KT.keeps {H H':Hp}{j:List (List cG×V)}{xs:List (List cG×Addr×Value)}(r:KT H j xs)(J:∀b ys,H b=some (.tup ys)->H' b=some (.tup ys)):KT H' j xs:=
 Paired.mapP r λ_ _ z=>⟨z.1,J _ _ z.2.1,z.2.2⟩
section
variable {P:Program}{w:World}{H:Hp}{h:Heap}{a:Addr}
theorem JM {u:HO}(W:fH P w H h)(e:Rd H a u):br P w H h a u:=e.ok W
theorem A5 {j:List (cG×V)}(W:fH P w H h)(e:Rd H a (.dK j)):j.length<=sizeLine/\(a==sysModules)=false/\∃vs,KV j vs/\h.DictOf @cu a vs:=
 show br P w H h a (.dK j) from JM W e
theorem FS {j:List (cG×V)}(W:fH P w H h)(e:H a=some (.dK j)):j.length<=sizeLine/\(a==sysModules)=false/\∃vs,KV j vs/\h.DictOf @cu a vs:=A5 W (.inl e)
theorem vO {ks:List cG}(W:fH P w H h)(e:H a=some (.tup @fV)):(tupleKind @cu).is h ks a:=by
 obtain ⟨_,its,r,o,h1,h2,n,L⟩:=(show br P w H h a (.tup @fV) from W a _ e);exact ⟨o,its.toArray,n,h1,h2,L,by simpa using um r⟩
theorem A4 {j:List (List cG×V)}(W:fH P w H h)(e:Rd H a (.dT j)):j.length<=sizeLine/\(a==sysModules)=false/\
 ∃xs,KT H j xs/\h.DictOfH @eR a xs:=by
 obtain ⟨z,y,xs,r,o,es,J,h1,h2,L,I,U⟩:=(show br P w H h a (.dT j) from JM W e);rwa[⟨z,y,xs,r,o,es,J,h1,h2,L,I,λx F=> ?_,U⟩]
 have G:∀ {l:List (List cG×V)} {m:List (List cG×Addr×Value)},KT H l m->∀x∈m,(tupleKind @cu).is h x.1 x.2.1:=by
  intro l m q
  induction q with
  |nil=>intro x F;exact nomatch F
  | @cons p q ps qs hq t ih=>
    intro x F
    rcases mem_cons.mp F with e|F
    ·subst e;exact vO W (by rw [<-hq.1];exact hq.2.1)
    ·exact ih x F
 exact G r x F
theorem O1 {j:List (List cG×V)}(W:fH P w H h)(e:H a=some (.dT j)):j.length<=sizeLine/\(a==sysModules)=false/\
 ∃xs,KT H j xs/\h.DictOfH @eR a xs:=A4 W (.inl e)
end
def tL (H:Hp)(a:Addr)(y:V)(r:Option V):Prop:=
 (∃kvs k,Rd H a (.dK kvs)/\y=kV k/\r=fb kvs k)\/∃kvs k b,Rd H a (.dT kvs)/\y= .ref b/\H b=some (.tup (k.map kV))/\r=fb kvs k
def Gy (H:Hp)(a:Addr)(y v:V)(H':Hp):Prop:=
 (∃kvs k,H a=some (.dK kvs)/\y=kV k/\kvs.length<sizeLine/\H'=upd H a (.dK (dE kvs k v)))\/
 ∃kvs k b,H a=some (.dT kvs)/\y= .ref b/\H b=some (.tup (k.map kV))/\kvs.length<sizeLine/\H'=upd H a (.dT (dE kvs k v))
theorem tL.k {H:Hp}{a:Addr}{j:List (cG×V)}{k:cG}(e:H a=some (.dK j)):tL H a (kV k) (fb j k):= .inl ⟨j,k,.inl e,rfl,rfl⟩
theorem Gy.k {H:Hp}{a:Addr}{j:List (cG×V)}{k:cG}{v:V}(e:H a=some (.dK j))(W:j.length<sizeLine):Gy H a (kV k) v (upd H a (.dK (dE j k v))):= .inl ⟨j,k,e,rfl,W,rfl⟩
section
variable {X:Cx}{pins:List (Addr×Obj)}{σ:St}{H:Hp}{s:Shared}{a:Addr}{y v:V}{u r:Value}{o:Option V}{A:Around}{E:Value->Shared->Prop}
theorem av.big (I:av X pins σ H s):sysModules<s.heap.objs.size:=by
 have h:mainGlobals<s.heap.objs.size:=(I.mod.glob.keeps I.bk).lt;exact Nat.lt_trans @b h
theorem CI {Q:Value->Shared->Prop}(S:A.units+1<cLine)(I:av X pins σ H s)(g:tL H a y @br)(O:aE y u)(h:∀w' s',av X pins σ H s'->aE v w'->Q w' s'):
 wpAny @d A (getItem (.ref a) u) Q E s:=by
 rcases g with ⟨L,k,e,F,l⟩|⟨L,k,b,e,F,U,l⟩
 ·subst F;obtain ⟨z,W,Y,j,Z⟩:=A5 I.hok e;obtain ⟨w',J,G⟩:=jC.some_of (v:=v) (o:=valueAt Y k) (by rw [l];exact j.val k);exact wpAny_getItem_of (uk O) Z.mapOf J (h w' _ @eq G)
 ·subst F;cases (show u=Value.ref b from O);obtain ⟨z,W,xs,j,Z⟩:=A4 I.hok e;obtain ⟨w',J,G⟩:=jC.some_of (v:=v) (o:=(atKey xs k).map (·.2)) (by rw [l];exact j.val k);obtain ⟨p,R,aC⟩:=Option.map_eq_some_iff.mp J;rwa[wpAny_getItem_heap (tupleKind_room_in1 S) (vO I.hok U) Z R ?_];rw [aC];exact h w' _ @eq G
theorem Rc {Q:Value->Shared->Prop}(O:A.units+1<cLine)(I:av X pins σ H s)(g:tL H a y o)(L:aE y u)(h:∀s',av X pins σ H s'->Q (.bool o.isSome) s'):
 wpAny @d A (compareOp .In u (.ref a)) Q E s:=by
 rcases g with ⟨G,k,e,F,l⟩|⟨G,k,b,e,F,U,l⟩
 ·subst F;obtain ⟨z,J,R,j,Z⟩:=A5 I.hok e;rwa[wpAny_in_of (uk L) J Z.mapOf ?_];rw [<-(j.val k).isSome_eq,<-l];exact h _ @eq
 ·subst F;cases (show u=Value.ref b from L);obtain ⟨z,J,xs,j,Z⟩:=A4 I.hok e;rwa[wpAny_in_heap (tupleKind_room_in1 O) (vO I.hok U) J Z ?_];have q:=(j.val k).isSome_eq;rw [Option.isSome_map] at q;rw [<-q,<-l];exact h _ @eq
theorem pB {h':Heap}{t':Nat}{j:HO}(I:av X pins σ H s)(J:Pj (H a))(hs:Heap.SameBut a s.heap h')(U:∃q,h'.get? a=some q)(F:br X.prog X.w (upd H a j) h' a j):
 av X pins σ (upd H a j) {s with heap:=h',toks:=t'}:=
 I.write (x:=a) (e:=a) J (.inl rfl) (λb q G z=>(hs.2 b G).trans z) U F
theorem v4 {P:Program}{w:World}{H':Hp}{h':Heap}{j:List (cG×V)}{vs:List (cG×Value)}(z:j.length<=sizeLine)(J:(a==sysModules)=false)(F:KV j vs)(dd:h'.DictOf @cu a vs):
 br P w H' h' a (.dK j):=⟨z,J,vs,F,dd⟩
theorem CG {H':Hp}{Q:Unit->Shared->Prop}(hu:A.units+1<cLine)(I:av X pins σ H s)(g:Gy H a y v H')(U:aE y u)(Y:aE v r)(h:∀s',av X pins σ H' s'->Q () s'):
 wpAny @d A (setItem (.ref a) u r) Q E s:=by
 rcases g with ⟨j,k,e,S,l,L⟩|⟨j,k,b,e,S,eb,l,L⟩
 ·subst S L;obtain ⟨z,O,vs,F,Z⟩:=FS I.hok e
  have R:vs.length<=sizeLine:=by rw [<-F.length];exact z
  have W:(dE j k v).length<=sizeLine:=by have:=cA j k v;lia
  rwa[wpAny_setItem_pairs (hsz:=R) (uk U) Z λh' G hs=>h _ ?_];have he:∃q,h'.get? a=some q:=let ⟨q,_,_,J,_⟩:=G;⟨q,J⟩;exact pB I (by rw [e];exact True.intro) hs he (v4 W O (F.put k Y) G)
 ·subst S L;cases (show u=Value.ref b from U);obtain ⟨z,O,xs,F,Z⟩:=O1 I.hok e
  have R:xs.length<=sizeLine:=by rw [<-Paired.length F];exact z
  have W:(dE j k v).length<=sizeLine:=by have:=cA j k v;lia
  rwa[wpAny_setItem_heap (hsz:=R) (tupleKind_room_in1 hu) (vO I.hok eb) Z λh' G hs=>h _ ?_];obtain ⟨q,es,ep,J,h2,h3,h4,_,h5⟩:=G;rwa[pB I (by rw [e];exact True.intro) hs ⟨q,J⟩ ⟨W,O,_,(F.put k eb Y).keeps λc ys ec=> ?_,q,es,ep,J,h2,h3,h4,h5⟩];rw [ak (OL ec e (λz=>nomatch z))];exact ec
end
def Pi (i:Expr):Prop:=∀ov iv,subscripted i false ov iv=operate [ov,iv] (getItem ov iv)
theorem GS {prog:Program}{w:World}{A:Around}{E:Value->Shared->Prop}{s:Shared}{env:Env}{value J:Expr}{pos:Pos}{T id:String}{Q:Value->Shared->Prop}
(W:typeLookup (.type T) "__getitem__"=pure (some (.builtin id)))(hs:Pi J)
(h:wpAny @n A (eval value env) (λo s₁=>wpAny @n A (eval J env) (λi s₂=>s₂.TypeIs o T/\wpAny @n A (getItem o i) Q E s₂) E s₁) E s):
 wpAny @n A (eval (.Subscript value J pos) env) Q E s:=by
 rwa[Subscript_ (wpAny_mono h (λo s₁ G=>wpAny_mono G (λi s₂ j=> ?_) λ_ _ x=>x) λ_ _ x=>x)];obtain ⟨L,j⟩:=j;unfold subscriptTail;rwa[wpAny_bind ?_];rw [getitemInPython_of_ne L.not_modules];rwa[wpAny_bind (wpAny_specialOf L W ?_)]
 have z:wpAny @n A (subscripted J false o i) (λr F=>wpAny @n A (letTemporaryGo value o r>>=λ_=>pure r) Q E F) E s₂:=by
  rw [hs o i];exact wpAny_operating (wpAny_mono j (λr F I=>wpAny_bind (wpAny_letTemporaryGo (wpAny_pure I))) λ_ _ x=>x)
 first
  |exact wpAny_pure (wpAny_bind z)
  |exact wpAny_bind (wpAny_pure (wpAny_bind z))
  |exact wpAny_bind z
theorem xP {X:Cx}{pins:List (Addr×Obj)}{σ:St}{H:Hp}{s:Shared}{a:Addr}{y:V}{o:Option V}(I:av X pins σ H s)(g:tL H a y o):s.TypeIs (.ref a) "dict":=by
 rcases g with ⟨j,k,e,_,_⟩|⟨j,k,b,e,_,_,_⟩
 ·obtain ⟨_,_,R,_,Z⟩:=A5 I.hok e;exact Z.typeIs
 ·obtain ⟨_,_,xs,_,Z⟩:=A4 I.hok e;exact Z.typeIs
def N5 (td ty:TE):TE:=λσ H Q=>td σ H λx H1=>ty σ H1 λy H2=>∃a v,x= .ref a/\tL H2 a y @br/\Q v H2
def QG (ty td:TE):TE:=λσ H Q=>ty σ H λy H1=>td σ H1 λx H2=>∃a o,x= .ref a/\tL H2 a y o/\Q (.bl o.isSome) H2
def Oc (td ty tv:TE):TS:=λD σ H=>tv σ H λv H1=>td σ H1 λx H2=>ty σ H2 λy H3=>∃a H4,x= .ref a/\Gy H3 a y v H4/\D.nx σ H4
section
variable {X:Cx}{o i e value:Expr}{pos pos' tpos:Pos}{td ty tv:TE}
theorem Hw (z:X.A.units+1<cLine)(R:PE X o td)(hi:PE X i ty)(hs:Pi i):PE X (.Subscript o i pos) (N5 td ty):=by
 intro pins s σ H Q I h;rwa[GS PySem.F.slot_dict_getitem.lookup hs (bG @dN λu L ⟨x,H1,S,J,O⟩=>bG (hi pins L σ H1 _ S O) λiv s2 ⟨y,H2,j,U,a,v,ex,g,W⟩=> ?_)];subst ex;obtain rfl:u=Value.ref a:=J;exact ⟨xP j g,CI z j g U λY s3 Z G=>⟨v,H2,Z,G,W⟩⟩
theorem Lk (z:X.A.units+1<cLine)(hi:PE X i ty)(j:PE X o td):PC X .In i o (QG ty td):=by
 intro pins s σ H Q I h;rwa[bG @dE λU L ⟨y,H1,O,R,J⟩=>bG (j pins L σ H1 _ O J) λu s2 ⟨x,H2,F,G,a,S,ex,g,W⟩=> ?_];subst ex;obtain rfl:u=Value.ref a:=G;exact Rc z F g R λY Z=>⟨.bl S.isSome,H2,Z,rfl,W⟩
theorem Hn (O:X.A.units+1<cLine)(j:PE X o td)(hi:PE X i ty)(hv:PE X value tv)(hs:swapsWith value (some (.Subscript o i pos')) pos.line X.env=pure false):
 PS X (.Assign [.Subscript o i pos'] value pos) (Oc td ty tv):=by
 intro pins s σ H D I h;rwa[wpAny_Assign_Subscript (bG (hv pins s σ H _ I h) λr L ⟨v,H1,I1,J,Y⟩=>bG (j pins L σ H1 _ I1 Y) λu R ⟨x,H2,F,G,W⟩=>bG (hi pins R σ H2 _ F W) λiv s3 ⟨y,H3,Z,z,a,U,ex,g,q3⟩=> ?_) hs];subst ex;obtain rfl:u=Value.ref a:=G;exact CG O Z g z J λs4 S=>⟨σ,U,S,q3⟩
end
theorem FT {P:Program}{w:World}{H:Hp}(h:Heap)(F:sysModules<h.objs.size):br P w H (h.push {cls:= .type "dict",data:= .dict #[]}) h.objs.size (.dK []):=
 ⟨Nat.zero_le _,beq_eq_false_iff_ne.mpr (Ne.symm (Nat.ne_of_lt F)),[],.nil,Heap.DictOf.new h⟩
def yJ:List (TE×TE)->St->Hp->(List (V×V)->Hp->Prop)->Prop
 |[],_,H,Q=>Q [] H
 |(tk,tv)::r,σ,H,Q=>tk σ H λx H1=>tv σ H1 λy H2=>yJ r σ H2 λps H3=>Q ((x,y)::ps) H3
abbrev VV:List (V×V)->List (Value×Value)->Prop:=Paired λp q=>aE p.1 q.1/\aE p.2 q.2
def PQ (X:Cx)(pos:Pos)(keys:List @fC)(values:List Expr)(trs:List (TE×TE)):Prop:=
 ∀(pins:List (Addr×Obj)) (s:Shared) (σ:St) (H:Hp) (Q:List (V×V)->Hp->Prop),av X pins σ H s->yJ trs σ H Q->
  wpAny @d X.A (evalPairs (pairTrees keys values X.env pos)) (λvs s'=>∃ps H',av X pins σ H' s'/\VV ps vs/\Q ps H') X.xe s
theorem Ho {X:Cx}{pos:Pos}:PQ X pos [] [] []:=λpins s σ H Q I h=>pairTrees_nil_walk ⟨[],H,I,.nil,h⟩
theorem kY {X:Cx}{pos:Pos}{k v:Expr}{ks:List @fC}{vs:List Expr}{tk tv:TE}{j:List (TE×TE)}(U:PE X k tk)(hv:PE X v tv)(Y:PQ X pos ks vs j):
 PQ X pos (some k::ks) (v::vs) ((tk,tv)::j):=λpins s σ H Q I h=>
 pairTrees_cons_walk (bG @bs λu L ⟨x,H1,I1,J,S⟩=>bG (hv pins L σ H1 _ I1 S) λw2 R ⟨y,H2,G,O,W⟩=>
  bG (Y pins R σ H2 _ G W) λws s3 ⟨ps,F,Z,z,q3⟩=>⟨(x,y)::ps,F,Z,.cons ⟨J,O⟩ z,q3⟩)
noncomputable def iV (kvs more:List (cG×V)):List (cG×V):=more.foldl (λacc kv=>dE acc kv.1 kv.2) kvs
theorem KV.merge:∀ {more:List (cG×V)} {rs:List (cG×Value)} {kvs:List (cG×V)} {vs:List (cG×Value)},KV more rs->KV kvs vs->KV (iV kvs more) (merged vs rs):=by
 intro more rs kvs vs r;unfold KV at r
 induction r generalizing kvs vs with
 |nil=>intro q;exact q
 | @cons p q ps qs h t ih=>
   intro j
   have e:KV @eO (stored vs q.1 q.2):=by
    have:=j.put p.1 h.2;rw [<-h.1];exact this
   exact ih e
theorem jH:∀(more kvs:List (cG×V)),(iV kvs more).length<=kvs.length+more.length
 |[],kvs=>by show kvs.length<=kvs.length+0;lia
 |p::r,kvs=>by
  have h1:=jH r @eO;have h2:=cA kvs p.1 p.2;show (iV @eO r).length<=_;rw [length_cons];lia
theorem rC {P:Program}{w:World}:∀ {kvs:List (cG×V)} {ws:List (Value×Value)},VV (kvs.map λkv=>(kV kv.1,kv.2)) ws->∃rs,Carries @cu ws rs/\KV kvs rs
 |[],_,r=>by rw [map_nil] at r;cases r;exact ⟨[],True.intro,.nil⟩
 |p::kvs,_,r=>by
  rw [map_cons] at r
  cases r with
  | @cons a b as bs h t=>
    obtain ⟨rs,c,q⟩:=rC (P:=P) (w:=w) t;obtain ⟨z,j⟩:=b;exact ⟨(p.1,j)::rs,⟨uk h.1,rfl,c⟩,.cons ⟨rfl,h.2⟩ q⟩
def N4 (trs:List (TE×TE)):TE:=λσ H Q=>∀p,H p=none->yJ trs σ (upd H p (.dK [])) λps H2=>H2 p=some (.dK [])/\∃kvs:List (cG×V),ps=kvs.map (λkv=>(kV kv.1,kv.2))/\kvs.length<=15/\Q (.ref p) (upd H2 p (.dK (iV [] kvs)))
theorem Hv {X:Cx}{pos:Pos}{j:List @fC}{F:List Expr}{G:List (TE×TE)}(h:PQ X pos j F G)(O:j.all (·.isSome)=true)(hl:j.length=F.length)(h0:j≠[])
(S:j.length<=15):PE X (.Dict j F pos) (N4 G):=by
 intro pins s σ H Q I q;have Y:=I.hok.fresh (Nat.le_refl s.heap.objs.size);have I1:=I.laid (a:=s.heap.objs.size) (o:= .dK []) (h':=s.heap.push {cls:= .type "dict",data:= .dict #[]}) (t':=s.toks) (λ_ _ q=>Heap.get?_push_of_some _ q) @f (FT s.heap I.big);rwa[wpAny_Dict_walk (knd:=bV X.prog X.w) O hl h0 S (bG (h pins _ σ _ _ I1 (q _ Y)) λws s2 ⟨ps,H2,U,R,e,J,ep,lk,q2⟩=> ?_)];subst ep;obtain ⟨rs,c,rk⟩:=rC (P:=X.prog) (w:=X.w) R;obtain ⟨z,hd,aa,W,Z⟩:=FS U.hok e;cases W;rwa[⟨rs,c,Z,λh' L hs=>⟨.ref s.heap.objs.size,_,?_,rfl,q2⟩⟩]
 have hz:(iV [] J).length<=sizeLine:=by
  have h1:=jH J [];rw [length_nil] at h1;rw [sizeLine_eq];lia
 have he:∃q,h'.get? s.heap.objs.size=some q:=let ⟨q,_,_,hq,_⟩:=L;⟨q,hq⟩;exact pB U (by rw [e];exact True.intro) hs he (v4 hz hd (rk.merge .nil) L)
structure M1 (X:Cx)(o:Expr)(m:Str)(apos:Pos)(e:Expr)(cpos:Pos):Prop where
 base:attributeBase o m X.env @fm=eval o X.env
 few:((backTo cpos (starEach [e] X.env)).all (λx=> !x.1)&&(backToKw cpos @ds).all @eh
  &&decide (([e]:List Expr).length+([]:List Keyword).length+(if ([]:List Keyword).isEmpty then 0 else 1)<30))=true
 line:(apos.endLine==cpos.line)=true
 trees:backTo cpos (starEach [e] X.env)=[(false,eval e X.env)]
structure M2 (X:Cx)(o:Expr)(m:Str)(apos:Pos)(e f:Expr)(cpos:Pos):Prop where
 base:attributeBase o m X.env @fm=eval o X.env
 few:((backTo cpos (starEach [e,f] X.env)).all (λx=> !x.1)&&(backToKw cpos @ds).all @eh
  &&decide (([e,f]:List Expr).length+([]:List Keyword).length+(if ([]:List Keyword).isEmpty then 0 else 1)<30))=true
 line:(apos.endLine==cpos.line)=true
 trees:backTo cpos (starEach [e,f] X.env)=[(false,eval e X.env),(false,eval f X.env)]
end L2
namespace PySem
namespace F
theorem lk_list_keys:typeLookup (.type "list") "keys"=pure none:=by rw [typeLookup_type,builtinLookup_eq_fast];kernel_rfl
theorem lk_list_hook:typeLookup (.type "list") "__getattr__"=pure none:=by rw [typeLookup_type,builtinLookup_eq_fast];kernel_rfl
theorem sub_attr_attr:isSubtype (.type "AttributeError") (.type "AttributeError")=pure true:=by rw [isSubtype_type];kernel_rfl
theorem attr_first:((Manifest.find? "AttributeError").elim false λt=>t.mro.contains "StopIteration"||t.mro.contains "SystemExit")=false:=by decide+kernel
end F
section
variable {α:Type}{prog:Program}{w:World}{A:Around}{E:Value->Shared->Prop}{s:Shared}
theorem Ce {e:Addr}{o name:Value}{vs:Array Value}{z:Option Addr}{sl:Array @B}{Q:Unit->Shared->Prop}(U:s.heap.get? e=some ⟨.type "AttributeError",z,.fields vs,sl⟩)(I:vs[6]? =some unsetMember)(R:vs[7]? =some unsetMember)
(G:Q () {s with heap:=s.heap.update e (Obj.mapFields λvs=>vs.extract 0 6++ #[name,o])}):wpAny @n A (noteAttr (.ref e) o name) Q E s:=by
 have L:s.TypeIs (.ref e) "AttributeError":=⟨_,U,rfl⟩;unfold noteAttr lacksNameAndObj;rwa[wpAny_bind ?_];rwa[wpAny_bind (wpAny_isInstance L F.sub_attr_attr ?_)];simp only [Bool.not_true,Bool.false_eq_true,if_false];rwa[wpAny_bind (wpAny_load U ?_)];simp only [I,R];have j:unsetMember=Value.int 0 0:=rfl;rw [j];simp only [Bool.or_self,Bool.false_eq_true,if_false];rw [if_neg @b];rwa[wpAny_pure ?_];simp only [if_true];rwa[wpAny_bind (wpAny_rule ?_)];rwa[wpAny_bind (wpAny_typeOf L ?_)];exact wpAny_layMembers U rfl G
theorem zC {o:Value}{name j:Str}{Q:α->Shared->Prop}(R:A.handled=none)(I:j.length<=sizeLine)(O:∀e h' t',(∀b ob,s.heap.get? b=some ob->h'.get? b=some ob)->(∃ob,h'.get? e=some ob/\ob.cls= .type "AttributeError")->E (.ref e) {s with heap:=h',toks:=t'}):
 wpAny @n A (raiseAttrError o name j:Sem α) Q E s:=by
 unfold raiseAttrError;rwa[wpAny_bind (wpAny_mkStr ?_ I)];rwa[wpAny_bind ?_];unfold newExc newTuple;rwa[wpAny_bind (wpAny_newObj_type ?_ (by show (1:Nat)<=sizeLine;exact L2.bt @b))];rwa[wpAny_bind (m:=firstArgMember _ _) (wpAny_of_eq (a:=Value.none) (by simp only [firstArgMember,F.attr_first];rfl) ?_)];rwa[wpAny_newObj_type ?_];rwa[wpAny_bind (wpAny_mkText ?_)];rwa[wpAny_bind ?_];generalize G:(s.heap.push {cls:= .type "tuple",data:= .seq #[Value.str j s.toks]})=h1
 have L:∀b ob,s.heap.get? b=some ob->h1.get? b=some ob:=λb ob z=>by rw [<-G];exact Heap.get?_push_of_some _ z
 show wpAny @n A (noteAttr (.ref h1.objs.size) o _) _ _ {s with heap:=h1.push {cls:= .type "AttributeError",data:= .fields #[Value.ref s.heap.objs.size,.none,.none,.none,.bool false,.none,unsetMember,unsetMember]},toks:=s.toks+1+1};rwa[Ce (vs:= #[Value.ref s.heap.objs.size,.none,.none,.none,.bool false,.none,unsetMember,unsetMember]) (Heap.get?_push_size _ rfl) rfl rfl ?_];rwa[wpAny_raiseNew_none R ?_];have J:=Heap.SameBut.update (h1.push {cls:= .type "AttributeError",data:= .fields #[Value.ref s.heap.objs.size,.none,.none,.none,.bool false,.none,unsetMember,unsetMember]}) h1.objs.size (Obj.mapFields λS=>S.extract 0 6++ #[Value.str name (s.toks+1),o]);rwa[O h1.objs.size _ _ (λb ob z=> ?_) ?_]
 ·rw [J.2 b (Nat.ne_of_lt (Heap.lt_size (L b ob z)))];exact Heap.get?_push_of_some _ (L b ob z)
 ·exact ⟨_,Heap.get?_update_self _ (Heap.get?_push_size _ rfl) rfl,rfl⟩
end
section
variable {prog:Program}{w:World}{A:Around}{E:Value->Shared->Prop}{h:Heap}{g:Array GenState}{d:Drawn}{t:Nat}{os:OsState}{a:Addr}{its:Array Value}{n:Nat}{sl:Array @B}
theorem oJ {tk:Tok}{Q:Fin->Shared->Prop}(j:A.handled=none)(z:h.get? a=some ⟨.type "list",none,.seq its n,sl⟩)(G:∀e h' t',(∀b ob,h.get? b=some ob->h'.get? b=some ob)->(∃ob,h'.get? e=some ob/\ob.cls= .type "AttributeError")->E (.ref e) ⟨h',g,d,t',os⟩):
 wpAny @n A (Builtin.«object.__getattribute__» ⟨[.ref a,.str "keys" tk],[]⟩) Q E ⟨h,g,d,t,os⟩:=by
 have L:(⟨h,g,d,t,os⟩:Shared).TypeIs (.ref a) "list":=⟨_,z,rfl⟩;have R:=F.lk_list_keys
 repeat (any_goals (first|assumption|with_reducible refine zC j ?_ ?_|wp_step))
 all_goals first|exact L2.bt @g|exact G
theorem qU {tk:Tok}{R:Result->Shared->Prop}(G:A.handled=none)(z:h.get? a=some ⟨.type "list",none,.seq its n,sl⟩)(j:∀e h' t',(∀b ob,h.get? b=some ob->h'.get? b=some ob)->(∃ob,h'.get? e=some ob/\ob.cls= .type "AttributeError")->R (.error (.ref e)) ⟨h',g,d,t',os⟩):
 codeAny @n A (.call (.builtin "list.__getattribute__") ⟨[.ref a,.str "keys" tk],[]⟩) R ⟨h,g,d,t,os⟩:=
 codeAny_call_builtin F.slot_list_getattribute.plain F.entry_list_ga (F.slot_list_getattribute.check _ _ _ _ _ _ _ _ (show (⟨h,g,d,t,os⟩:Shared).TypeIs (.ref a) "list" from ⟨_,z,rfl⟩) (F.args_list_getattribute_2 _ _) (oJ G z j))
theorem qV {Q:Option Value->Shared->Prop}(J:A.handled=none)(j:h.get? a=some ⟨.type "list",none,.seq its n,sl⟩)(I:∀h' t',(∀b ob,h.get? b=some ob->h'.get? b=some ob)->Q none ⟨h',g,d,t',os⟩):wpAny @n A (getAttr? (.ref a) "keys") Q E ⟨h,g,d,t,os⟩:=by
 have O:(⟨h,g,d,t,os⟩:Shared).TypeIs (.ref a) "list":=⟨_,j,rfl⟩;have S:=F.slot_list_getattribute.lookup;have U:=F.slot_list_getattribute.bind (.ref a);have Z:=F.lk_list_hook;unfold getAttr? getAttrBy?
 repeat (any_goals (first|assumption|wp_step))
 rwa[qU J j (λe h' t' k x=> ?_)];have L:(⟨h',g,d,t',os⟩:Shared).TypeIs (.ref e) "AttributeError":=x;have G:=F.sub_attr_attr;have z:=I h' t' k;show wpAny _ _ (getattributeRaised _ _ _ _ _ _ _) _ _ _;unfold getattributeRaised;rwa[wpAny_bind (wpAny_isInstance L G ?_)];simp only [if_true]
 have R:hookBehind (.type "list") none=pure none:=by unfold hookBehind;rw [if_neg @b,Z]
 rwa[wpAny_bind ?_];show wpAny _ _ (hookBehind (.type "list") none) _ _ _;rw [R];rwa[wpAny_pure ?_];unfold hookOrError attributeErrorLeaves;simp only [Bool.not_false,if_true];rwa[wpAny_throw ?_];rwa[wpAny_bind (wpAny_isInstance L G ?_)];simp only [if_true];exact wpAny_pure z
end
end PySem
namespace PySem
namespace F
theorem entry_dul:entryFor table "dict.update.loop"=some Builtin.«dict.update.loop»:=entryFor_of_tree @l
theorem plain_dul:plainId "dict.update.loop"=true:=by decide+kernel
end F
end PySem
namespace L2
open PySem PySem.Spec PyProof.Rows
noncomputable def gw (kvs ps:List (cG×V)):List (cG×V):=ps.foldl (λa p=>dE a p.1 p.2) kvs
theorem Jf {X:Cx}{pins:List (Addr×Obj)}{σ:St}{l It dd:Addr}{xs:List V}{R:Result->Shared->Prop}{A:Around}(hh:A.handled=none)
(al:X.s₀.heap.objs.size<=It)(ac:∀p∈X.pn++pins,p.1≠It):
 ∀(r j:Nat) (s:Shared) (H:Hp) (kvs ps:List (cG×V)) (t:Tok) (oI:Obj),xs.length - j=r->j<=xs.length->
  av X ((It,oI)::pins) σ H s->H l=some (.lst xs)->s.heap.IsListIter It l j->H dd=some (.dK kvs)->Paired (λx (p:cG×V)=>∃b,x=V.ref b/\H b=some (.tup [kV p.1,p.2])) (xs.drop j) ps->kvs.length+ps.length<sizeLine->
  (∀s',av X pins σ (upd H dd (.dK (gw kvs ps))) s'->R (.ok (.ret .none)) s')->
  codeAny @d A (.builtin "dict.update.loop" ⟨[.ref dd,.ref It,.int j t,.none],[]⟩) R s:=by
 intro r
 induction r with
 |zero=>
  intro j s H kvs ps t oI hr hj I J ai hd S hz hR
  have ej:j=xs.length:=by lia
  subst ej;rw [drop_length] at S;cases S;obtain ⟨us,ad,O⟩:=jp I J
  have L:us.toArray.size=xs.length:=by rw [size_toArray,ad.length]
  have nI:=I.pin (It,oI) @x
  have ag:l≠It:=λz=>by have:=nI.2.1;rw [<-z,J] at this;cases this
  have W:=Walks.list (prog:=X.prog) (w:=X.w) (A:=A.in1) hh It l ag us.toArray;rwa[codeAny_builtin PySem.F.entry_dul ?_];rw [Around.under_plainId PySem.F.plain_dul _];show wpAny _ A.in1 (pyNext (.ref It)>>=_) _ _ _;rwa[wpAny_bind (W.done _ _ _ ⟨by rw [L];exact ai,O⟩ λh1 aa U=> ?_)];have U:∀b u,b≠It->s.heap.get? b=some u->h1.get? b=some u:=λb u n e=>U b u (by simpa using n) e;have I0:av X pins σ H s:=I.sub λp S=> .tail _ S
  have ar:∀x c,X.env.cells.lookup x=some c->c≠It:=λx c e z=>by
   obtain ⟨v,oc,h1,h2⟩:=I.cell x c e;rw [z,nI.1] at h1;cases h1;exact nI.2.2.2.2 v h2
  have I1:av X pins σ H {s with heap:=h1,toks:=aa}:=I0.turned (it:=It) U nI.2.1 nI.2.2.1 (.inr al) ar ac
  have eH:upd H dd (.dK (gw kvs []))=H:=by
   funext b
   unfold upd gw;split
   ·rename_i e;rw [e,hd];rfl
   ·rfl
  rw [eH] at hR;exact wpAny_bind (wpAny_pure (wpAny_pure (hR _ I1)))
 |succ r ih=>
  intro j s H kvs ps t oI hr hj I J ai hd S hz hR
  have ab:j<xs.length:=by lia
  obtain ⟨us,ad,O⟩:=jp I J
  have L:us.toArray.size=xs.length:=by rw [size_toArray,ad.length]
  have nI:=I.pin (It,oI) @x
  have ag:l≠It:=λz=>by have:=nI.2.1;rw [<-z,J] at this;cases this
  have W:=Walks.list (prog:=X.prog) (w:=X.w) (A:=A.in1) hh It l ag us.toArray;rw [drop_eq_getElem_cons ab] at S
  obtain ⟨Z,G,rfl,⟨b,eb,hb⟩,ao⟩:∃Z G,ps=Z::G/\(∃b,xs[j]=V.ref b/\H b=some (.tup [kV Z.1,Z.2]))/\Paired (λx (p:cG×V)=>∃b,x=V.ref b/\H b=some (.tup [kV p.1,p.2])) (xs.drop (j+1)) G:=by
   cases S with
   |cons a c=>exact ⟨_,_,rfl,a,c⟩
  rwa[codeAny_builtin PySem.F.entry_dul ?_];rw [Around.under_plainId PySem.F.plain_dul _];show wpAny _ A.in1 (pyNext (.ref It)>>=_) _ _ _;rwa[wpAny_bind (W.item j _ _ _ (by rw [L];exact ab) ⟨ai,O⟩ λu h1 aa hP ax U=> ?_)]
  have hu:us[j]? =some u:=by simpa using hP
  have ru:aE (V.ref b) u:=by
   obtain ⟨u',aq,ru⟩:=ad.get (show xs[j]? =some (V.ref b) by rw [getElem?_eq_getElem ab,eb]);rw [hu] at aq;cases aq;exact ru
  cases (show u=Value.ref b from ru);obtain ⟨Y,az,aw,am⟩:=id ax.1;have U:∀b u,b≠It->s.heap.get? b=some u->h1.get? b=some u:=λb u n e=>U b u (by simpa using n) e
  have I1:av X ((It,Y)::pins) σ H {s with heap:=h1,toks:=aa}:=
   I.repin (t':=aa) al ac U az λv e=>by rw [am] at e;cases e
  obtain ⟨its,aB,ht,aI⟩:=I1.tuple (aC.of hb)
  obtain ⟨ku,vu,ae,rk,rv⟩:∃ku vu,its=[ku,vu]/\aE (kV Z.1) ku/\aE Z.2 vu:=by
   cases aB with|cons a t1=>cases t1 with|cons b t2=>cases t2;exact ⟨_,_,rfl,a,b⟩
  subst ae;show wpAny _ A.in1 (holding [Value.ref b] _>>=_) _ _ _;rwa[wpAny_bind (wpAny_holding ?_)];rwa[wpAny_bind (wpAny_tryCatch ?_)];unfold Builtin.Dict.pairItems;rwa[wpAny_bind (wpAny_typeOf ht.typeIs ?_)];rw [if_pos @b];obtain ⟨ot,au,aH,nt,as⟩:=id ht;rwa[wpAny_bind (wpAny_seqItems au as @bF)];show wpAny _ A.in1 (holding [ku,vu] (dictSet dd ku vu)) _ _ _;rwa[wpAny_holding ?_];obtain ⟨zk,aG,vs,ah,ap⟩:=FS I1.hok hd
  have ay:vs.length<=sizeLine:=by rw [<-ah.length];exact zk
  have aF:(dE kvs Z.1 Z.2).length<=sizeLine:=by have:=cA kvs Z.1 Z.2;rw [length_cons] at hz;lia
  rwa[wpAny_dictSet_pairs (hsz:=ay) (uk rk) ap λh2 aj aA=> ?_];have he:∃q,h2.get? dd=some q:=let ⟨q,_,_,hq,_⟩:=aj;⟨q,hq⟩;have I2:=pB (t':=aa+1) I1 (by rw [hd];exact True.intro) aA he (v4 aF aG (ah.put Z.1 rv) aj);have aD:=I2.pin (It,Y) @x
  have an:l≠dd:=λz=>by rw [z,hd] at J;cases J
  rwa[wpAny_pure ⟨plainId_quiet PySem.F.plain_dul _,?_⟩];rwa[ih (j+1) _ (upd H dd (.dK @gc)) @gc G _ Y @c @c I2 (by rw [ak an];exact J) ⟨Y,aD.1,aw,am⟩ af (Paired.imp' (λx p ⟨c,ec,hc⟩=>⟨c,ec,by rw [ak (λz=>by rw [z,hd] at hc;cases hc)];exact hc⟩) ao) ?_ ?_]
  ·have:=cA kvs Z.1 Z.2;rw [length_cons] at hz;lia
  ·intro s' I';rw [AA] at I';exact hR s' I'
def JV (l:Addr)(H:Hp)(Q:VK):Prop:=∃(xs:List V) (ps:List (cG×V)),H l=some (.lst xs)/\Paired (λx (p:cG×V)=>∃b,x=V.ref b/\H b=some (.tup [kV p.1,p.2])) xs ps/\ps.length<sizeLine/\∀d,H d=none->Q (.ref d) (upd H d (.dK (gw [] ps)))
theorem CH {X:Cx}{pins:List (Addr×Obj)}{σ:St}{H:Hp}{s:Shared}{l:Addr}{Q:VK}(hh:X.A.handled=none)(I:av X pins σ H s)(hP:JV l H Q){E:Value->Shared->Prop}:
 wpAny @d X.A (call (.type "dict") [.ref l]) @t E s:=by
 obtain ⟨xs,ps,W,U,hz,q⟩:=hP;rwa[callType_codes (Q₁:=λJ s₁=>J= .ref s.heap.objs.size/\s₁= {s with heap:=s.heap.push {cls:= .type "dict",data:= .dict #[]}}) PySem.F.kt_called_dict (PySem.F.kt_typeCall_dict_1 _) PySem.F.entry_dict_init (kt_code_dict_new _ ⟨rfl,rfl⟩) ?_];rintro J s₁ ⟨rfl,rfl⟩;generalize S:s.heap.objs.size=Z
 have nd:H Z=none:=by rw [<-S];exact I.hok.fresh @f
 have j:(s.heap.push {cls:= .type "dict",data:= .dict #[]}).DictOf (bV X.prog X.w) Z []:=by rw [<-S];exact Heap.DictOf.new s.heap
 have I1:av X pins σ @cM {s with heap:=s.heap.push {cls:= .type "dict",data:= .dict #[]}}:=by
  have z:=I.laid (a:=s.heap.objs.size) (o:= .dK []) (t':=s.toks) (h':=s.heap.push {cls:= .type "dict",data:= .dict #[]}) (λb q hq=>Heap.get?_push_of_some _ hq) @f (v4 @eY (beq_eq_false_iff_ne.mpr (Ne.symm (Nat.ne_of_lt I.big))) .nil (Heap.DictOf.new s.heap));rw [S] at z;exact z
 rwa[⟨j.typeIs,PySem.F.args_dict_init_2 _ _,?_⟩];unfold Builtin.«dict.__init__»;rwa[wpAny_bind ?_];unfold Builtin.Dict.selfAndRest;rwa[wpAny_bind (wpAny_notOrdered_dict j.typeIs ?_)];show wpAny _ _ (pure (Z,[Value.ref l])) _ _ _;rwa[wpAny_pure ?_];show wpAny _ _ (Builtin.Dict.updateFrom "dict.__init__" Z (.ref l) [] .none) _ _ _;unfold Builtin.Dict.updateFrom
 have an:l≠Z:=λz=>by rw [z,nd] at W;cases W
 have G:upd H Z (.dK []) l=some (.lst xs):=by rw [ak an];exact W
 obtain ⟨_,us,n,ac,ad⟩:=(show br X.prog X.w _ _ l (.lst xs) from I1.hok l _ G);have aa:({s with heap:=s.heap.push {cls:= .type "dict",data:= .dict #[]}}:Shared).TypeIs (.ref l) "list":=⟨_,ad,rfl⟩;rwa[wpAny_bind (wpAny_typeOf aa ?_)];rw [if_pos @b];rwa[wpAny_bind (qV (by exact hh) ad λh' O k=> ?_)];rw [if_pos (show (none:Option Value).isNone=true from rfl)];rwa[wpAny_bind (wpAny_rule ?_)];have L:av X pins σ @cM {s with heap:=h',toks:=O}:=I1.kept (t':=O) k;obtain ⟨ae,ab,R⟩:=jp L G;rwa[wpAny_bind (wpAny_pyIter_list R ?_)]
 have I3:av X ((h'.objs.size,{cls:= .type "list_iterator",data:= .fields #[.ref l,.int 0 0]})::pins) σ @cM {s with heap:=h'.push {cls:= .type "list_iterator",data:= .fields #[.ref l,.int 0 0]},toks:=O}:=
  L.pinNew (t':=O) (a:=h'.objs.size) @f (λb u e=>Heap.get?_push_of_some _ e) (Heap.get?_push_size _ rfl) λv e=>by cases e
 rwa[wpAny_pure ⟨plainId_quiet PySem.F.plain_dul _,?_⟩];rwa[Jf (A:=X.A.in1) (xs:=xs) (l:=l) (It:=h'.objs.size) (dd:=Z) hh L.sz (λp U=>Nat.ne_of_lt (Heap.lt_size (L.pin p U).1)) _ 0 _ @cM [] ps _ _ rfl @eY I3 G ⟨_,Heap.get?_push_size _ rfl,rfl,rfl⟩ af ?_ ?_ ?_]
 ·exact Paired.imp' (λx p ⟨c,ec,Y⟩=>⟨c,ec,by rw [ak (λz=>by rw [z,nd] at Y;cases Y)];exact Y⟩) U
 ·rw [length_nil,Nat.zero_add];exact hz
 ·intro s' I';rw [AA] at I';exact ⟨rfl,V.ref Z,_,I',rfl,q Z nd⟩
def Kr:List V->Hp->VK->Prop:=λxs H Q=>match xs with|[.ref l]=>JV l H Q|_=>False
theorem GM {X:Cx}(j:X.calm=true):aW X (.type "dict") Kr:=by
 intro pins s σ H xs z Q I r h
 match xs,h,r with
 |[.ref l],h,r=>
  cases r with
  |cons a t=>
   cases t;cases (show _=Value.ref l from a);exact CH @eg I h
open PySem.Calls PySem.W
def xA (K:Fg)(a:Addr)(c:V)(H:Hp)(Q:VK):Prop:=m5 K a c H Q\/∃xs cv b,aC K H a xs/\cV c=some cv/\W.kitOne K (.type "tuple") cv=some b/\Q (.bl b) H
def NK (K:Fg):List V->Hp->VK->Prop:=λxs H Q=>match xs with
 |[.ref a,c]=>xA K a c H Q
 |xs=>Dl K xs H Q
theorem Mn {K:Fg}{H:Hp}{a:Addr}{c:V}{xs:List V}{z:Value}{b:Bool}{Q:VK}(h:aC K H a xs)(h1:cV c=some z)(L:W.kitOne K (.type "tuple") z=some b)(g:Q (.bl b) H):xA K a c H Q:= .inr ⟨xs,z,b,h,h1,L,g⟩
theorem Fu {K:Fg}{H:Hp}{a:Addr}{c:V}{z t:Value}{b:Bool}{Q:VK}(h1:cV c=some z)(h2:iy K H (.ref a) t)(L:W.kitOne K t z=some b)(g:Q (.bl b) H):xA K a c H Q:= .inl (vR h1 h2 L g)
theorem oU {X:Cx}{K:Fg}(O:X.K=K):aW X (.builtin "isinstance") (NK K):=by
 intro pins s σ H xs j Q I r h;have F:Dl K xs H Q->wpAny @d X.A (call (.builtin "isinstance") j) @t X.xe s:=λh=>yD O pins s σ H xs j Q I r h
 match xs,h with
 |[.ref a,c],h=>
  rcases h with h|⟨ys,U,b,e,G,R,q⟩
  ·exact F h
  ·subst O;obtain ⟨u,S,rfl,L,J⟩:=Az r;cases Gd G J;obtain rfl:u=Value.ref a:=L;obtain ⟨its,_,p,_⟩:=I.tuple e;obtain ⟨o,h1,h2,_⟩:=p;exact W.kia_one W.kitx_tuple I.kIn ⟨o,h1,h2⟩ R (λz=>nomatch z) λtk=>⟨.bl b,H,I.tok _,rfl,q⟩
 |[],h=>exact F h
 |[.non],h=>exact F h
 |[.bl _],h=>exact F h
 |[.int _],h=>exact F h
 |[.str _],h=>exact F h
 |[.byt _],h=>exact F h
 |[.flt _],h=>exact F h
 |[.ty _],h=>exact F h
 |[.ref _],h=>exact F h
 |[.non,c],h=>exact F h
 |[.bl _,c],h=>exact F h
 |[.int _,c],h=>exact F h
 |[.str _,c],h=>exact F h
 |[.byt _,c],h=>exact F h
 |[.flt _,c],h=>exact F h
 |[.ty _,c],h=>exact F h
 |x::y::z::r,h=>exact F (by cases x<;>exact h)
theorem iz.imp {P:Program}{w:World}{K:Frag}{mg:Str->Option Value}{base:Heap}{n m:Nat}{f:Addr}{sp j:Sp}(c:iz P w K mg base n f sp)(I:n<=m)(h:∀vs H Q E,j vs H Q E->sp vs H Q E):iz P w K mg base m f j:=
 ⟨λA outer s H z vs Q E S F r g=>c.run A outer s H z vs Q E (S.mono I) F r (h _ _ _ _ g),λvs H Q E G g=>c.keep vs H Q E G (h _ _ _ _ g)⟩
theorem Es {X:Cx}(i:Nat){x:Str}{pos:Pos}(hi:X.N[i]? =some x:=by rfl)(z:X.N.Nodup:=by (conv=>arg 1;whnf);decide+kernel)(j:J0 X.env.scope x:=by first|exact Or.inl rfl|exact Or.inr rfl)(F:X.fn x=true\/X.env.scope.names.lookup x=some .local:=by first|exact .inl rfl|exact .inr rfl|assumption):PG X (.Name x pos) (jK i):=pf z hi j F
theorem Ek {X:Cx}(i:Nat){x:Str}{e:Expr}{te:TE}{pos pos':Pos}(U:PE X e te)(hi:X.N[i]? =some x:=by rfl)(z:X.N.Nodup:=by (conv=>arg 1;whnf);decide+kernel)(j:J0 X.env.scope x:=by first|exact Or.inl rfl|exact Or.inr rfl)(hs:swapsWith e (some (.Name x pos')) pos.line X.env=pure false:=by rfl)(F:X.fn x=true\/X.env.scope.names.lookup x=some .local:=by first|exact .inl rfl|exact .inr rfl|assumption):PS X (.Assign [.Name x pos'] e pos) (Dw te (jK i)):=bD z hi j U hs F
end L2
local macro_rules|`(tactic|walk_at "l3de")=>`(tactic|first|(show L2.PE _ (.Name _ _) _;first|exact L2.wv 0|exact L2.wv 1|exact L2.wv 2|exact L2.wv 3|exact L2.wv 4|exact L2.wv 5|exact L2.wv 6|exact L2.wv 7|exact L2.wv 8|exact L2.wv 9|exact L2.AN rfl (by assumption) (by assumption)|exact L2.pi rfl (by assumption))|(show L2.PE _ (.Subscript _ (.Slice _ _ _ _) _) _;exact L2.kZ (L2.Ax rfl) (by right) (by right) (by right))|(show L2.PE _ (.Subscript _ _ _) _;exact L2.cQ (L2.fI rfl) (by right) (by right) (fun _ _=>rfl))|(show L2.PE _ (.Constant _ _ _) _;first|exact L2.aM|exact L2.cY|exact L2.fB|exact L2.zF)|(show L2.PE _ (.Call _ _ _ _) _;walk_at "l3dc")|(show L2.PE _ (.BinOp _ _ _ _) _;walk_at "l3db")|(show L2.PE _ (.Tuple _ _ _) _;exact L2.eX (by right))|(show L2.PE _ (.List _ _) _;exact L2.yA (by right))|(show L2.PE _ (.Attribute _ _ _) _;exact L2.Kk rfl (by right))|(show L2.PE _ (.Compare _ _ _ _) _;walk_at "l3dm")|(show L2.PE _ (.IfExp _ _ _ _) _;exact L2.Av (by right) (by right) (by right))|(show L2.PE _ (.UnaryOp .Not _ _) _;exact L2.C7 rfl (by right))|(show L2.PE _ (.UnaryOp .USub _ _) _;exact L2.JQ L2.JC (by right))|(show L2.PE _ (.BoolOp _ [_] _) _;exact L2.zE (by right))|(show L2.PE _ (.BoolOp .And _ _) _;exact L2.yB (by right) (by right))|(show L2.PE _ (.BoolOp .Or _ _) _;exact L2.Ng (by right) (by right)))
local macro_rules|`(tactic|walk_at "l3dc")=>`(tactic|first|(show L2.PE _ (.Call (.Name "len" _) _ _ _) _;exact L2.aY (L2.tR rfl) rfl (by assumption) PySem.boot_len (by right))|(show L2.PE _ (.Call (.Name _ _) _ _ _) _;exact L2.b7 (by assumption) (by assumption) (by decide) rfl (by right))|(show L2.PE _ (.Call (.Attribute _ "append" _) _ _ _) _;exact L2.fu rfl PySem.F.plainAttrs_list PySem.F.slot_list_append PySem.F.type_list_append L2.iF (by right) (by right))|(show L2.PE _ (.Call (.Attribute _ "extend" _) _ _ _) _;exact L2.fu rfl PySem.F.plainAttrs_list PySem.F.slot_list_extend PySem.F.type_list_extend L2.pH (by right) (by right))|(show L2.PE _ (.Call (.Attribute _ "split" _) _ _ _) _;exact L2.fu rfl PySem.F.plainAttrs_str PySem.F.slot_str_split PySem.F.type_str_split L2.GL (by right) (by right))|(show L2.PE _ (.Call (.Attribute _ "join" _) _ _ _) _;exact L2.fu rfl PySem.F.plainAttrs_str PySem.F.slot_str_join PySem.F.type_str_join (L2.yC rfl) (by right) (by right)))
local macro_rules|`(tactic|walk_at "l3db")=>`(tactic|first|(show L2.PE _ (.BinOp _ .Add _ _) _;exact L2.bZ (L2.dI rfl) (by right) (by right))|(show L2.PE _ (.BinOp _ .Sub _ _) _;exact L2.bZ L2.JA (by right) (by right))|(show L2.PE _ (.BinOp _ .Mult _ _) _;exact L2.bZ L2.Nj (by right) (by right))|(show L2.PE _ (.BinOp _ .Mod _ _) _;exact L2.bZ L2.JD (by right) (by right))|(show L2.PE _ (.BinOp _ .FloorDiv _ _) _;exact L2.bZ L2.Km (by right) (by right))|(show L2.PE _ (.BinOp _ .Pow _ _) _;exact L2.bZ L2.JB (by right) (by right))|(show L2.PE _ (.BinOp _ .LShift _ _) _;exact L2.bZ L2.Ni (by right) (by right))|(show L2.PE _ (.BinOp _ .BitAnd _ _) _;exact L2.bZ L2.Np (by right) (by right))|(show L2.PE _ (.BinOp _ .BitOr _ _) _;exact L2.bZ L2.P8 (by right) (by right)))
local macro_rules|`(tactic|walk_at "l3dm")=>`(tactic|first|(show L2.PE _ (.Compare _ [.Eq] _ _) _;exact L2.dQ (L2.tS rfl (by assumption)) (by right) (by right) (L2.bR _))|(show L2.PE _ (.Compare _ [.NotEq] _ _) _;exact L2.dQ (L2.wG rfl (by assumption)) (by right) (by right) (L2.bR _))|(show L2.PE _ (.Compare _ [.Lt] _ _) _;exact L2.dQ L2.w_lt (by right) (by right) (L2.bR _))|(show L2.PE _ (.Compare _ [.Gt] _ _) _;exact L2.dQ L2.Nn (by right) (by right) (L2.bR _))|(show L2.PE _ (.Compare _ [.LtE] _ _) _;exact L2.dQ L2.Dg (by right) (by right) (L2.bR _))|(show L2.PE _ (.Compare _ [.GtE] _ _) _;exact L2.dQ L2.No (by right) (by right) (L2.bR _))|(show L2.PE _ (.Compare _ [.In] _ _) _;exact L2.dQ (L2.Nm rfl) (by right) (by right) (by with_unfolding_all rfl))|(show L2.PE _ (.Compare _ [.Is] _ _) _;exact L2.dQ L2.JE (by right) (by right) (L2.bR _)))
local macro_rules|`(tactic|walk_at "l3dt")=>`(tactic|first|(show L2.PT _ (.Compare _ _ _ _) _;walk_at "l3dn")|(show L2.PT _ (.BoolOp _ _ _) _;exact L2.PW.pt (by right))|(show L2.PT _ (.UnaryOp .Not _ _) _;exact L2.d6 (by right))|(show L2.PT _ _ _;exact L2.iA rfl (by right)))
local macro_rules|`(tactic|walk_at "l3dn")=>`(tactic|first|(show L2.PT _ (.Compare _ [.Eq] _ _) _;exact L2.ck (L2.tS rfl (by assumption)) (by right) (by right) (L2.bR _))|(show L2.PT _ (.Compare _ [.Lt] _ _) _;exact L2.ck L2.w_lt (by right) (by right) (L2.bR _))|(show L2.PT _ (.Compare _ [.Gt] _ _) _;exact L2.ck L2.Nn (by right) (by right) (L2.bR _))|(show L2.PT _ (.Compare _ [.LtE] _ _) _;exact L2.ck L2.Dg (by right) (by right) (L2.bR _))|(show L2.PT _ (.Compare _ [.GtE] _ _) _;exact L2.ck L2.No (by right) (by right) (L2.bR _))|(show L2.PT _ (.Compare _ [.NotEq] _ _) _;exact L2.ck (L2.wG rfl (by assumption)) (by right) (by right) (L2.bR _))|(show L2.PT _ (.Compare _ [.In] _ _) _;exact L2.ck (L2.Nm rfl) (by right) (by right) (by with_unfolding_all rfl))|(show L2.PT _ (.Compare _ [.Is] _ _) _;exact L2.ck L2.JE (by right) (by right) (L2.bR _))|(show L2.PT _ (.Compare _ [.LtE,.Lt] _ _) _;exact L2.wE L2.Dg L2.w_lt (by right) (by right) (by right))|(show L2.PT _ (.Compare _ [.LtE,.LtE] _ _) _;exact L2.wE L2.Dg L2.Dg (by right) (by right) (by right)))
local macro_rules|`(tactic|walk_at "l3dd")=>`(tactic|first|(show L2.PE _ _ _;walk_at "l3de")| (show L2.PA _ _ _;first|exact L2.am|exact L2.aq (by right) (by right))| (show L2.PT _ _ _;walk_at "l3dt")| (show L2.PS _ (.Assign [.Name _ _] _ _) _;first|(refine' L2.Ek 0 ?_;walk_at "l3dd")|(refine' L2.Ek 1 ?_;walk_at "l3dd")|(refine' L2.Ek 2 ?_;walk_at "l3dd")|(refine' L2.Ek 3 ?_;walk_at "l3dd")|(refine' L2.Ek 4 ?_;walk_at "l3dd")|(refine' L2.Ek 5 ?_;walk_at "l3dd")|(refine' L2.Ek 6 ?_;walk_at "l3dd")|(refine' L2.Ek 7 ?_;walk_at "l3dd")|(refine' L2.Ek 8 ?_;walk_at "l3dd")|(refine' L2.Ek 9 ?_;walk_at "l3dd")|(refine' L2.Ek 10 ?_;walk_at "l3dd"))| (show L2.PW _ (.BoolOp .And [_] _) _;exact L2.AL (by right))| (show L2.PW _ (.BoolOp .Or [_] _) _;exact L2.vD (by right))| (show L2.PW _ (.BoolOp .And _ _) _;exact L2.yy (by right) (by right))| (show L2.PW _ (.BoolOp .Or _ _) _;exact L2.tO (by right) (by right))| (show L2.PO _ none _;exact L2.o9)| (show L2.PO _ _ _;exact L2.oR (by right))| (show L2.PG _ (.Name _ _) _;first|exact L2.Es 0|exact L2.Es 1|exact L2.Es 2|exact L2.Es 3|exact L2.Es 4|exact L2.Es 5|exact L2.Es 6|exact L2.Es 7|exact L2.Es 8|exact L2.Es 9|exact L2.Es 10)| (show L2.PG _ (.Tuple _ _ _) _;exact L2.eS rfl rfl (by right))| (show L2.CW _ [] _;exact L2.de)| (show L2.CW _ _ _;exact L2.aF (by right) (by right))| (show L2.PI _ _ _ _;exact L2.lY rfl (by right)))
namespace L2
open PySem PySem.Spec PyProof.Rows PySem.W
def NF (K:Frag)(x:Str)(st:Stmt)(f:Addr):Prop:=nsIn K mainGlobals x=some @V/\∃fd,bA K x x st f fd
def MF (K:Frag)(C:Addr)(x q:Str)(st:Stmt)(f:Addr):Prop:=Gq K C x f/\∃fd,bA K x q st f fd
theorem OI {K:Frag}{x:Str}{st:Stmt}{f:Addr}{J:Value}{od W:Option Addr}{aa:Array @B}{Z U F j Y:Value}(a:nsIn K mainGlobals x=some @V)(l:K.lookup f=some ⟨J,od,.func (fnOf x x @dP @cG @bG .none Z U F W j Y),aa⟩)(c:codeIn K j x=true)(k:keepIn K (.ref f)=true):NF K x st f:=⟨a,_,m9 l c k⟩
theorem OM {K:Frag}{C:Addr}{x q:Str}{st:Stmt}{f:Addr}{J:Value}{od W:Option Addr}{aa:Array @B}{Z U F j Y:Value}(a:findIn K (.ref C) x=some @V)(l:K.lookup f=some ⟨J,od,.func (fnOf x q @dP @cG @bG .none Z U F W j Y),aa⟩)(c:codeIn K j q=true)(k:keepIn K (.ref f)=true)(n:isFn K (.ref f)=true):MF K C x q st f:=⟨⟨a,n,k⟩,_,m9 l c k⟩
structure tE (P:Program)(w:World)(K:Frag)(mg:Str->Option Value)(base:Heap)(h:Heap):Prop where
 X:K.In h
 G:h.Ns mainGlobals mg
def BA (x q:Str)(st:Stmt)(us:List Value)(ps:List Str):Prop:=∀(kV doc pm:Value) (an:Option Addr) (cdv ct:Value),bindArgs (fnOf x q @dP @cG @bG .none kV doc pm an cdv ct) ⟨us,[]⟩=pure @bT
def M8 (x q:Str)(st:Stmt)(ps0:List Str):List Str->List Value->Prop
 |[],us=>BA x q st us ps0
 |_::ps,us=>∀a,M8 x q st ps0 ps (us++[a])
def BN (x q:Str)(st:Stmt)(ps:List Str):Prop:=M8 x q st ps ps []
theorem M8.all {x q:Str}{st:Stmt}{j:List Str}:∀ {ps:List Str} {us vs:List Value},M8 x q st j ps us->vs.length=ps.length->BA x q st (us++vs) j
 |[],us,[],h,_=>by rw [append_nil];exact h
 |_::ps,us,v::vs,h,hl=>by
  have z:=M8.all (h v) (Nat.succ.inj hl);rw [append_assoc] at z;exact z
theorem BN.all {x q:Str}{st:Stmt}{ps:List Str}(h:BN x q st ps)(us:List Value)(W:us.length=ps.length):BA x q st us ps:=M8.all (us:=[]) h W
section
variable {P:Program}{w:World}{K:Frag}{mg:Str->Option Value}{base h:Heap}{x q:Str}{st:Stmt}{f C:Addr}{fd:FuncData}{ps:List Str}{n:Nat}{sp:Sp}
theorem bA.bn (F:bA K x q st f fd)(b:BN x q st ps):d8 K fd ps []:=F.binds λZ U I W j Y z G=>b.all z G Z U I W j Y
theorem tE.gl (T:tE P w K mg base h){v:Value}(a:nsIn K mainGlobals x=some @br):mg x=some v:=mg_of T.X T.G a
theorem tE.no (T:tE P w K mg base h)(a:nsIn K mainGlobals x=some none):mg x=none:=mg_none_of T.X T.G a
theorem tE.ok {CX:oH}(T:tE P w K mg base h)(o:au P w K mg base CX n f fd ps sp):au P w K mg base CX n f fd ps sp:=o
theorem tE.cal (T:tE P w K mg base h)(a:nsIn K mainGlobals x=some @V)(F:bA K x x st f fd)(o:au P w K mg base aZ n f fd ps sp)(b:BN x x st ps:=by (repeat intro _);rfl):aR P w K mg base n x ps sp:=⟨_,_,o,F.bn b,F.kp,T.gl a⟩
theorem tE.calX (T:tE P w K mg base h)(a:nsIn K mainGlobals x=some @V)(F:bA K x x st f fd)(o:au P w K mg base @ch n f fd ps sp)(b:BN x x st ps:=by (repeat intro _);rfl):C0 P w K mg base n x ps sp:=⟨_,_,o,F.bn b,F.kp,T.gl a⟩
theorem QX {CX:oH}(F:bA K x q st f fd)(c:tM K C)(m:Gq K C x f)(o:au P w K mg base CX n f fd ps sp)(b:BN x q st ps:=by (repeat intro _);rfl):oP P w K mg base CX n x C sp:=⟨_,_,_,c,m,o,F.bn b⟩
theorem tE.mkc {CX:oH}{y:Str}(T:tE P w K mg base h)(F:bA K x q st f fd)(m:Mk K C f)(g:mg y=some (.ref C))(o:au P w K mg base CX n f fd ps sp)(b:BN x q st ps:=by (repeat intro _);rfl):jO P w K mg base CX n y C sp:=⟨_,_,_,m,o,F.bn b,g⟩
theorem tE.cal' (T:tE P w K mg base h)(a:NF K x st f)(o:∀ {fd},bA K x x st f fd->au P w K mg base aZ n f fd ps sp)(b:BN x x st ps:=by (repeat intro _);rfl):aR P w K mg base n x ps sp:=let ⟨a,_,F⟩:=a;T.cal a F (o F) b
theorem tE.calX' (T:tE P w K mg base h)(a:NF K x st f)(o:∀ {fd},bA K x x st f fd->au P w K mg base @ch n f fd ps sp)(b:BN x x st ps:=by (repeat intro _);rfl):C0 P w K mg base n x ps sp:=let ⟨a,_,F⟩:=a;T.calX a F (o F) b
theorem tE.mcal' {D:Addr}{CX:oH}(T:tE P w K mg base h)(a:MF K D x q st f)(c:tM K C)(m:Gq K C x f)(o:∀ {fd},bA K x q st f fd->au P w K mg base CX n f fd ps sp)(b:BN x q st ps:=by (repeat intro _);rfl):oP P w K mg base CX n x C sp:=let ⟨_,_,F⟩:=a;QX F c m (o F) b
theorem tE.mkc' {D:Addr}{CX:oH}{y:Str}(T:tE P w K mg base h)(a:MF K D x q st f)(m:Mk K C f)(g:mg y=some (.ref C))(o:∀ {fd},bA K x q st f fd->au P w K mg base CX n f fd ps sp)(b:BN x q st ps:=by (repeat intro _);rfl):jO P w K mg base CX n y C sp:=let ⟨_,_,F⟩:=a;T.mkc F m g (o F) b
theorem bA.law {y:Str}(F:bA K x q st f fd)(b:BN x q st [y]:=by (repeat intro _);rfl)(s:Shared)(v:Value):BindsTo s fd ⟨[v],[]⟩ [(y,v)]:=by
 obtain ⟨J,L,Z,U,G,W,j,Y,aa,rfl,I,z⟩:=F.ex;exact .of_eq (b v Z U G W j Y)
end
theorem RM {p:Prop}(h:p):p:=h
end L2
namespace My
open PySem L2 PyProof.Rows
theorem Js (a b:Nat):Builtin.bitAnd (a:Int) (b:Int)=((a&&&b:Nat):Int):=by
 unfold Builtin.bitAnd;simp
theorem Ll (a b:Nat):Builtin.bitOr (a:Int) (b:Int)=((a|||b:Nat):Int):=by
 unfold Builtin.bitOr Builtin.bitAnd Builtin.bitNot
 have h1: ¬(0:Int)<= -(a:Int) - 1:=by lia
 have h2: ¬(0:Int)<= -(b:Int) - 1:=by lia
 simp only [h1,h2,decide_false]
 have R:(-(-(a:Int) - 1) - 1).toNat=a:=by lia
 have O:(-(-(b:Int) - 1) - 1).toNat=b:=by lia
 rw [R,O];lia
theorem testBit_and (M k:Nat):decide (M&&&2^k=0)= !M.testBit k:=by
 have e:(M&&&2^k).testBit k=M.testBit k:=by rw [Nat.testBit_and,Nat.testBit_two_pow_self,Bool.and_true]
 cases h:M.testBit k with
 |true=>
  rw [h] at e;rwa[decide_eq_false λz=> ?_];rw [z] at e;simp at e
 |false=>
  rwa[decide_eq_true (Nat.eq_of_testBit_eq λi=> ?_)];rw [Nat.testBit_and,Nat.zero_testBit];by_cases hi:k=i
  ·subst hi;rw [h];rfl
  ·rw [Nat.testBit_two_pow_of_ne hi,Bool.and_false]
def jN (M n:Nat):List Nat:=(List.range n).filter λi=>M.testBit i
theorem kq (M n:Nat):jN M (n+1)=jN M n++if M.testBit n then [n] else []:=by
 unfold jN;rw [range_succ,filter_append];congr 1;cases h:M.testBit n<;>simp [h]
theorem ug {M n i:Nat}:i∈jN M n↔i<n/\M.testBit i=true:=by
 unfold jN;rw [mem_filter,mem_range]
def L (M:Nat):Nat:=Builtin.Int.intBits (M:Int)
theorem Gr (M:Nat):L M=if M=0 then 0 else M.log2+1:=by
 unfold L Builtin.Int.intBits;by_cases h:M=0
 ·subst h;rfl
 ·have:((M:Int)==0)=false:=beq_eq_false_iff_ne.mpr @c;rw [this,if_neg h];simp
theorem Po (M:Nat):M<2^L M:=by
 rw [Gr];split
 ·rename_i h;subst h;decide
 ·exact Nat.lt_log2_self
theorem Pp {M n:Nat}(h:M<2^n):L M<=n:=by
 rw [Gr];split
 ·lia
 ·rename_i F;have:=(Nat.log2_lt F).mpr h;lia
theorem AC {M:Nat}(h:M≠0):M.testBit (L M - 1)=true:=by
 rw [Gr,if_neg h];have h1:=Nat.log2_self_le h;have h2:=Nat.lt_log2_self (n:=M);rw [Nat.add_sub_cancel,Nat.testBit_eq_decide_div_mod_eq];rwa[decide_eq_true ?_]
 have e:M / 2^M.log2=1:=by
  rwa[Nat.div_eq_of_lt_le @c ?_];rw [Nat.pow_succ] at h2;lia
 rw [e]
def jB (M:Nat):List Nat:=jN M (L M)
theorem lu {M i:Nat}:i∈jB M↔M.testBit i=true:=by
 unfold jB;rw [ug];rwa[⟨λh=>h.2,λh=>⟨?_,h⟩⟩];rwa[Nat.lt_of_not_le λj=> ?_];have:=Nat.testBit_lt_two_pow (Nat.lt_of_lt_of_le (Po M) (Nat.pow_le_pow_right @b j));rw [this] at h;cases h
theorem Bi {M n i:Nat}(h:M<2^n)(hi:i∈jB M):i<n:=by
 have:=(ug.mp hi).1;have:=Pp h;lia
theorem CV {M:Nat}(h:M≠0):∃l,jB M=l++[L M - 1]:=by
 have G:L M=(L M - 1)+1:=by
  have:=Gr M;rw [if_neg h] at this;lia
 rwa[⟨jN M (L M - 1),?_⟩]
 have e:jB M=jN M ((L M - 1)+1):=by rw [<-G];rfl
 rw [e,kq,AC h];rfl
theorem Ge {M:Nat}:jB M=[]↔M=0:=by
 constructor
 ·intro h;rwa[Classical.byContradiction λz=> ?_];obtain ⟨l,e⟩:=CV z;rw [h] at e;simp at e
 ·rintro rfl;rfl
def og (ks:List Nat):Nat:=ks.foldl (λacc k=>acc|||2^k) 0
theorem qJ:∀(ks:List Nat) (acc i:Nat),(ks.foldl (λacc k=>acc|||2^k) acc).testBit i=(acc.testBit i||decide (i∈ks))
 |[],acc,i=>by simp
 |k::ks,acc,i=>by
  rw [foldl_cons,qJ ks,Nat.testBit_or];by_cases h:k=i
  ·subst h;simp [Nat.testBit_two_pow_self]
  ·rw [Nat.testBit_two_pow_of_ne h];have h': ¬i=k:=λz=>h z.symm;simp [h']
end My
namespace My
open PySem L2 PyProof.Rows
noncomputable def xM:List Nat:=[48,49,50,51,52,53,54,55,56,57]
noncomputable def C6 (x:Str):Bool:=if x.length=0\/9<x.length then false else if x.cps.toList[0]? =some 48/\x≠s!"0" then false else x.cps.toList.all λc=>decide (c∈xM)
noncomputable def Fa (x:Str):Option Nat:=if C6 x=true then some (PySem.NumText.digitsVal x.cps.toList) else none
noncomputable def AS (x:Str):Option Int:=(Fa x).map λn:Nat=>(n:Int)
def lk (fl:Nat):List Nat->Nat->Nat->Option Nat
 |[],_,lo=>some lo
 |k::ks,last,lo=>if last<k/\k<fl then lk fl ks k (lo+2^k) else none
abbrev KM:Str:=s!" "
def Nh (s:Str):List Str:=Txt.split s KM
theorem Da {ps:List Str}(F:ps≠[])(G:∀p∈ps,32∉p.cps.toList):Nh (Str.join KM ps)=ps:=yK (c:=32) (ts:=[]) @g @b @g F G
def oq (i:Int):Str:=Str.ofString @fM
theorem re {i:Int}(F:0<=i)(h1:i<=9):Fa (oq i)=some i.toNat/\(oq i).length=1/\∀c∈(oq i).cps.toList,48<=c/\c<=57:=by
 rcases (show i=0\/i=1\/i=2\/i=3\/i=4\/i=5\/i=6\/i=7\/i=8\/i=9 by lia) with rfl|rfl|rfl|rfl|rfl|rfl|rfl|rfl|rfl|rfl<;>decide+kernel
structure Rz where
 start:Int
 room:Int
 turns:Int
 kind:Str
noncomputable def Rz.ok (fl:Int)(l:Rz):Bool:=decide (0<=l.start/\l.start<fl/\1<=l.room/\l.room<=6/\1<=l.turns/\l.turns<=4/\(l.kind=s!"plain"\/l.kind=s!"hasty"\/l.kind=s!"slow"))
theorem ME {i:Int}(F:0<=i)(h1:i<=9):32∉(oq i).cps.toList/\59∉(oq i).cps.toList:=by
 have:=(re F h1).2.2;exact ⟨λz=>by have:=this 32 z;lia,λz=>by have:=this 59 z;lia⟩
theorem IE {i:Int}(F:0<=i)(h1:i<=9):AS (oq i)=some i:=by
 unfold AS;rw [(re F h1).1];show some ((i.toNat:Nat):Int)=some i;rw [Int.toNat_of_nonneg F]
end My
namespace My
open PySem L2 PyProof.Rows
def JK (bs:List Bool)(first:Int):Nat->Nat->Int
 |_,0=> -1
 |k,r+1=>if bs.getD ((first+k)% bs.length).toNat false=true then (first+k)% bs.length else JK bs first (k+1) r
def sf (bs:List Bool)(first:Int):Int:=JK bs first 0 bs.length
theorem N7 {bs:List Bool}{i:Nat}(h1:1<=bs.length)(L:bs.length<=3)(hi:i<bs.length):sf bs (i:Int)=if bs.getD i false=true then (i:Int) else sf bs ((i:Int)+1):=by
 match bs,h1,L,hi with
 |[a],_,_,hi=>
  obtain rfl:i=0:=by simp at hi;lia
  cases a<;>decide
 |[a,b],_,_,hi=>
  have:i=0\/i=1:=by simp at hi;lia
  rcases this with rfl|rfl<;>cases a<;>cases b<;>decide
 |[a,b,c],_,_,hi=>
  have:i=0\/i=1\/i=2:=by simp at hi;lia
  rcases this with rfl|rfl|rfl<;>cases a<;>cases b<;>cases c<;>decide
structure jP where
 pl:Int
 li:Int
 dr:Int
 mr:Int
 ab:List (Int×Int)
def jP.d (c:jP):D:= .tup [.int c.pl,.int c.li,.int c.dr,.int c.mr,.tup (c.ab.map λq=> .tup [.int q.1,.int q.2])]
def jP.srv (c:jP):Bool:=decide (c.mr=0)
structure Rd where
 t:Int
 s:Int
 g:Int
 l:Int
def Rd.d (r:Rd):D:= .tup [.int r.t,.int r.s,.int r.g,.int r.l]
def k6 (w:Str)(is:List Int):Str:=Str.join KM (w::is.map oq)
theorem C9 {w:Str}{j:List Int}(z:32∉w.cps.toList)(h:∀i∈j,0<=i/\i<=9):Nh (k6 w j)=w::j.map oq:=Da @e λp G=>by
 rcases mem_cons.mp G with rfl|G
 ·exact z
 ·obtain ⟨i,hi,rfl⟩:=mem_map.mp G;exact (ME (h i hi).1 (h i hi).2).1
end My
namespace L2
open PySem PySem.Spec PyProof.Rows
def jz (bs:List Bool)(n:Nat):List Nat:=(List.range n).filter λi=>bs.getD i false
abbrev srv (bs:List Bool):List Nat:=jz bs bs.length
theorem Bu {bs:List Bool}{n:Nat}:jz bs (n+1)=jz bs n++(if bs.getD n false=true then [n] else []):=by
 unfold jz;rw [range_succ,filter_append];congr 1;simp only [filter_cons,filter_nil]
theorem wS {bs:List Bool}{n:Nat}:(jz bs n).length<=n:=by
 unfold jz;rwa[Nat.le_trans @bp ?_];rw [length_range];exact Nat.le_refl _
theorem oV {bs:List Bool}{j:Nat}:j∈srv bs↔j<bs.length/\bs.getD j false=true:=by
 unfold srv jz;rw [mem_filter,mem_range]
theorem KH {bs:List Bool}{i F j I:Nat}(h:(srv bs)[i]? =some j)(h':(srv bs)[F]? =some I)(Z:j<I):i<F:=by
 have J:(srv bs).Pairwise (· < ·):=List.Pairwise.filter _ pairwise_lt_range;obtain ⟨l,e⟩:=List.getElem?_eq_some_iff.mp h;obtain ⟨L,G⟩:=List.getElem?_eq_some_iff.mp h';have:=pairwise_iff_getElem.mp J
 rcases Nat.lt_trichotomy i F with z|z|z
 ·exact z
 ·subst z;rw [e] at G;lia
 ·have:=this F i L l z;rw [e,G] at this;lia
def d4 (bs:List Bool)(ws:Nat->Int)(n:Nat)(r:Int):Prop:=(r= -1/\∀j,j<n->bs.getD j false=false)\/∃i:Nat,r=i/\i<n/\bs.getD i false=true/\∀j,j<n->bs.getD j false=true->ws i<=ws j/\(j<i->ws i<ws j)
abbrev cP (bs:List Bool)(ws:Nat->Int)(r:Int):Prop:=d4 bs ws bs.length r
theorem Jo {bs:List Bool}{ws:Nat->Int}:d4 bs ws 0 (-1):= .inl ⟨rfl,λj Z=>absurd Z (Nat.not_lt_zero _)⟩
theorem d4.no {bs:List Bool}{ws:Nat->Int}{n:Nat}{r:Int}(h:d4 bs ws n r)(G:bs.getD n false=false):d4 bs ws (n+1) r:=by
 rcases h with ⟨rfl,h⟩|⟨i,rfl,hi,I,h⟩
 ·rwa[.inl ⟨rfl,λj Z=> ?_⟩];by_cases z:j=n
  ·rw [z];exact G
  ·exact h j @c
 ·rwa[.inr ⟨i,rfl,by lia,I,λj Z F=> ?_⟩];by_cases z:j=n
  ·rw [z,G] at F;cases F
  ·exact h j @c F
theorem d4.new {bs:List Bool}{ws:Nat->Int}{n:Nat}{r:Int}(h:d4 bs ws n r)(G:bs.getD n false=true)(S:r= -1\/∃i:Nat,r=i/\ws n<ws i):d4 bs ws (n+1) (n:Nat):=by
 rwa[.inr ⟨n,rfl,by lia,G,λj Z F=> ?_⟩];by_cases z:j=n
 ·rw [z];exact ⟨by lia,λz=>by lia⟩
 ·rcases h with ⟨rfl,h⟩|⟨i,rfl,hi,L,h⟩
  ·rw [h j @c] at F;cases F
  ·rcases S with S|⟨I,S,J⟩
   ·lia
   ·have:I=i:=by lia
    subst this;have:=(h j @c F).1;exact ⟨by lia,λ_=>by lia⟩
theorem d4.old {bs:List Bool}{ws:Nat->Int}{n i:Nat}(h:d4 bs ws n (i:Int))(J: ¬ws n<ws i):d4 bs ws (n+1) (i:Int):=by
 rcases h with ⟨L,h⟩|⟨G,e,hi,I,h⟩
 ·lia
 ·have:i=G:=by lia
  subst this;rwa[.inr ⟨i,rfl,by lia,I,λj Z F=> ?_⟩];by_cases z:j=n
  ·rw [z];exact ⟨by lia,λz=>by lia⟩
  ·exact h j @c F
theorem d4.cong {bs:List Bool}{ws z:Nat->Int}{n:Nat}{r:Int}(h:d4 bs ws n r)(e:∀i,i<n->ws i=z i):d4 bs z n r:=by
 rcases h with h|⟨i,rfl,hi,I,h⟩
 ·exact .inl h
 ·rwa[.inr ⟨i,rfl,hi,I,λj Z F=> ?_⟩];rw [<-e i hi,<-e j Z];exact h j Z F
theorem d4.range {bs:List Bool}{ws:Nat->Int}{n:Nat}{r:Int}(h:d4 bs ws n r):r= -1\/∃i:Nat,r=i/\i<n:=by
 rcases h with ⟨h,_⟩|⟨i,e,hi,_⟩
 ·exact .inl h
 ·exact .inr ⟨i,e,hi⟩
theorem cP.uniq {bs:List Bool}{ws:Nat->Int}{r R:Int}(h:cP bs ws r)(h':cP bs ws R):r=R:=by
 rcases h with ⟨rfl,h⟩|⟨i,rfl,hi,I,h⟩<;>rcases h' with ⟨rfl,h'⟩|⟨F,rfl,G,j,h'⟩
 ·rfl
 ·rw [h F G] at j;cases j
 ·rw [h' i hi] at I;cases I
 ·have a:=h F G j;have b:=h' i hi I
  rcases Nat.lt_trichotomy i F with z|z|z
  ·have:=b.2 z;lia
  ·rw [z]
  ·have:=a.2 z;lia
theorem wk {bs:List Bool}{ws:Nat->Int}(h:srv bs=[]):cP bs ws (-1):= .inl ⟨rfl,λj Z=>by
 cases z:bs.getD j false with
 |false=>rfl
 |true=>
  have:=oV.mpr ⟨Z,z⟩
  rw [h] at this;cases this⟩
theorem wj {bs:List Bool}{ws:Nat->Int}{i j:Nat}(hi:(srv bs)[i]? =some j)(J:∀i',i'<(srv bs).length->ws ((srv bs).getD i 0)<=ws ((srv bs).getD i' 0)/\(i'<i->ws ((srv bs).getD i 0)<ws ((srv bs).getD i' 0))):cP bs ws (j:Int):=by
 have O:(srv bs).getD i 0=j:=by rw [getD_eq_getElem?_getD,hi];rfl
 have I:=oV.mp (mem_of_getElem? hi);rwa[.inr ⟨j,rfl,I.1,I.2,λk R L=> ?_⟩];obtain ⟨i',G⟩:=mem_iff_getElem?.mp (oV.mpr ⟨R,L⟩)
 have F:(srv bs).getD i' 0=k:=by rw [getD_eq_getElem?_getD,G];rfl
 have:=J i' (List.getElem?_eq_some_iff.mp G).1;rw [O,F] at this;exact ⟨this.1,λz=>this.2 (KH G hi z)⟩
def An (i:Int):Int:=if i<0 then -i else i
end L2
namespace My
open PySem L2
def Lg (cs:List jP)(i:Nat):Int:=match cs[i]? with|some c=>c.pl|none=>0
def ML (cs:List jP)(i:Nat):Nat:=match cs[i]? with|some c=>c.ab.length|none=>0
def lj (cs:List jP)(s:Int)(i:Nat):Int:=An (Lg cs i - 2*s)
def bJ (cs:List jP)(ls:List Int)(i:Nat):Int:=(ML cs i:Int)+(ls.count (i:Int):Nat)
end My
namespace L2
open PySem PySem.Spec PyProof.Rows
def aJ (H H':Hp):Prop:=∀b o,(∀xs,o≠ .lst xs)->(∀C dx fs,o≠ .ins C dx fs)->H b=some o->H' b=some o
theorem aJ.refl (H:Hp):aJ H H:=λ_ _ _ _ e=>e
theorem aJ.trans {H H1 H2:Hp}(a:aJ H H1)(b:aJ H1 H2):aJ H H2:=λc o j W e=>b c o j W (a c o j W e)
theorem aj.st {H H':Hp}(s:aj H H'):aJ H H':=λb o _ _ e=>s b o e
theorem aJ.updL {H:Hp}{a:Addr}{xs:List V}{o:HO}(h:H a=some (.lst xs)):aJ H @bo:=λb u j _ e=>by
 rw [ak (λz=>by rw [z,h] at e;cases e;exact j _ rfl)];exact e
theorem aJ.updI {H:Hp}{a C dx:Addr}{fs:List (Str×V)}{o:HO}(h:H a=some (.ins C dx fs)):aJ H @bo:=λb u _ W e=>by
 rw [ak (λz=>by rw [z,h] at e;cases e;exact W _ _ _ rfl)];exact e
theorem aJ.tup {H H':Hp}(s:aJ H H'){a:Addr}{xs:List V}(h:H a=some (.tup xs)):H' a=some (.tup xs):=s a _ (λ_ z=>by cases z) (λ_ _ _ z=>by cases z) h
theorem aJ.sqT {K:Fg}{H H':Hp}(s:aJ H H'){a:Addr}{xs:List V}(h:aC K H a xs):aC K H' a xs:=by
 rcases h with (h|⟨u,h⟩)|h
 ·exact .inl (.inl (s.tup h))
 ·exact .inl (.inr ⟨u,s _ _ (λ_ z=>by cases z) (λ_ _ _ z=>by cases z) h⟩)
 ·exact .inr h
theorem aJ.den {K:Fg}{H H':Hp}(s:aJ H H'){x:V}{d:D}(h:bH K H x d)(j:L2.noL d=true):bH K H' x d:=by
 induction h with
 |non=>exact .non
 |bl b=>exact .bl b
 |int i=>exact .int i
 |str z=>exact .str z
 |lst h hl hi ih=>rw [L2.noL] at j;cases j
 |tup h hl hi ih=>
  rw [L2.noL] at j;exact .tup (s.sqT h) hl λi x d h1 h2=>ih i x d h1 h2 (gk j h2)
theorem aJ.dens {K:Fg}{H H':Hp}(s:aJ H H'){xs:List V}{ds:List D}(h:ax K H xs ds)(z:noLs ds=true):ax K H' xs ds:=
 PySem.Paired.of h.len λi x d h1 h2=>by
  obtain ⟨e,L,r⟩:=h.get1 h1;rw [h2] at L;cases L;exact s.den r (gk z h2)
theorem none_of {H H':Hp}(s:aj H H'){a:Addr}(h:H' a=none):H a=none:=by
 cases y:H a with
 |none=>rfl
 |some o=>rw [s _ _ y] at h;cases h
theorem qR {a b:List D}(h1:noLs a=true)(h2:noLs b=true):noLs (a++b)=true:=by
 induction a with
 |nil=>exact h2
 |cons d a ih=>
  rw [noLs,Bool.and_eq_true] at h1;rw [cons_append,noLs,h1.1,ih h1.2];rfl
theorem gR {α β:Type}{R:α->β->Prop}{xs:List α}{ys:List β}{i:Nat}{x:α}{y:β}(h:Paired R xs ys)(r:R x y):Paired R (xs.set i x) (ys.set i y):=by
 have W:=h.len;rwa[PySem.Paired.of (by simp [W]) λj a b F O=> ?_];by_cases Z:i=j
 ·subst Z
  have hi:i<xs.length:=by
   have:=(List.getElem?_eq_some_iff.mp F).1;rwa [length_set] at this
  rw [getElem?_set_self hi] at F;rw [getElem?_set_self @c] at O;cases F;cases O;exact r
 ·rw [getElem?_set_ne Z] at F O;obtain ⟨L,h2,z⟩:=h.get1 F;rw [O] at h2;cases h2;exact z
theorem aP.sqT {K:Fg}{H H':Hp}(s:aP H H'){a:Addr}{xs:List V}(h:aC K H a xs):aC K H' a xs:=by
 rcases h with (h|⟨u,h⟩)|h
 ·exact .inl (.inl (s _ _ (λ_ z=>by cases z) h))
 ·exact .inl (.inr ⟨u,s _ _ (λ_ z=>by cases z) h⟩)
 ·exact .inr h
theorem aP.sqL {K:Fg}{H H':Hp}(s:aP H H'){a:Addr}{xs:List V}(h:aA K H a xs):aA K H' a xs:=by
 rcases h with (h|⟨u,h⟩)|h
 ·exact .inl (.inl (s _ _ (λ_ z=>by cases z) h))
 ·exact .inl (.inr ⟨u,s _ _ (λ_ z=>by cases z) h⟩)
 ·exact .inr h
theorem aP.den {K:Fg}{H H':Hp}(s:aP H H'){x:V}{d:D}(h:bH K H x d):bH K H' x d:=by
 induction h with
 |non=>exact .non
 |bl b=>exact .bl b
 |int i=>exact .int i
 |str z=>exact .str z
 |lst h hl hi ih=>exact .lst (s.sqL h) hl ih
 |tup h hl hi ih=>exact .tup (s.sqT h) hl ih
theorem aP.dens {K:Fg}{H H':Hp}(s:aP H H'){xs:List V}{ds:List D}(h:ax K H xs ds):ax K H' xs ds:=Paired.imp' (λ_ _ z=>s.den z) h
def dH (H H':Hp):Prop:=∀b o,(∀xs,o≠ .lst xs)->(∀C dx fs,o≠ .ins C dx fs)->(∀ps,o≠ .tbl ps)->H b=some o->H' b=some o
theorem dH.refl (H:Hp):dH H H:=λ_ _ _ _ _ e=>e
theorem dH.trans {H H1 H2:Hp}(a:dH H H1)(b:dH H1 H2):dH H H2:=λc o z W j e=>b c o z W j (a c o z W j e)
theorem aJ.sx {H H':Hp}(s:aJ H H'):dH H H':=λb o j W _ e=>s b o j W e
theorem aP.sx {H H':Hp}(s:aP H H'):dH H H':=λb o _ _ j e=>s b o j e
theorem dH.sqT {K:Fg}{H H':Hp}(s:dH H H'){a:Addr}{xs:List V}(h:aC K H a xs):aC K H' a xs:=by
 rcases h with (h|⟨u,h⟩)|h
 ·exact .inl (.inl (s _ _ (λ_ z=>by cases z) (λ_ _ _ z=>by cases z) (λ_ z=>by cases z) h))
 ·exact .inl (.inr ⟨u,s _ _ (λ_ z=>by cases z) (λ_ _ _ z=>by cases z) (λ_ z=>by cases z) h⟩)
 ·exact .inr h
theorem dH.den {K:Fg}{H H':Hp}(s:dH H H'){x:V}{d:D}(h:bH K H x d)(j:L2.noL d=true):bH K H' x d:=by
 induction h with
 |non=>exact .non
 |bl b=>exact .bl b
 |int i=>exact .int i
 |str z=>exact .str z
 |lst h hl hi ih=>rw [L2.noL] at j;cases j
 |tup h hl hi ih=>
  rw [L2.noL] at j;exact .tup (s.sqT h) hl λi x d h1 h2=>ih i x d h1 h2 (gk j h2)
def GT (G:Hp->Prop):Prop:=∀H H',aJ H H'->G H->G H'
def NT (H:Hp):Prop:=∀b ps,H b≠some (.tbl ps)
def wx (H:Hp):Hp:=λb=>match H b with|some (.tbl _)=>none|o=>o
theorem E7 (H:Hp):NT (wx H):=λb ps h=>by
 unfold wx at h;split at h
 ·cases h
 ·rename_i x z;rw [h] at z;exact z _ rfl
theorem qM (H:Hp):aj (wx H) H:=λb o h=>by
 unfold wx at h;split at h
 ·cases h
 ·exact h
theorem qO {H:Hp}{b:Addr}{o:HO}(h:H b=some o)(n:∀ps,o≠ .tbl ps):wx H b=some o:=by
 unfold wx;rw [h]
 cases o<;>first|rfl|exact absurd rfl (n _)
theorem AT (H:Hp):aP H (wx H):=λ_ _ n h=>qO h n
theorem LP {H H':Hp}(s:aj (wx H) H'):aP H H':=λb o n h=>s _ _ (qO h n)
theorem aP.onto {H0 H H':Hp}(j:NT H0)(s:aj H0 H)(s':aP H H'):aj H0 H':=λb o h=>s' b o (λps z=>j b ps (by rw [h,z])) (s b o h)
theorem k7 {H:Hp}{b:Addr}(h:H b=none):wx H b=none:=by unfold wx;rw [h]
theorem bM.st {H H':Hp}{P:Addr}{q:Str}(s:aJ H H')(t:bM H P q):bM H' P q:=by
 obtain ⟨ps,h1,h2,L⟩:=t;rwa[⟨ps,s _ _ (λ_ z=>by cases z) (λ_ _ _ z=>by cases z) h1,h2,λpos F I=> ?_⟩];obtain ⟨j,e,h⟩:=L pos F I;exact ⟨j,e,s _ _ (λ_ z=>by cases z) (λ_ _ _ z=>by cases z) h⟩
end L2
namespace My
open PySem L2 PyProof.Rows
seal PE PT PS tH PA PI PG CW GE PW PO cU M7 aW C3 yv MO Gp
seal su iL iM u9 Jn ua AZ km qd nQ xx Jq Ju xu Dr xz setL Bo Af rA wu C1 As ik A3 GR xN
seal CK m5 Ab L2.xK L2.putAt L2.vJ iU Jb Mu LV PN F8 Jr
seal IS
def bN (i:Nat):Stmt:=PySem.Challenge.pw_liftcourt_k35_dealt_in_a_turn.main.body.getD i (.Pass ⟨0,0,0,0⟩)
abbrev K5:Stmt:=bN 2
theorem Oa:ai ["k"] ["k"] (ae K5):=by ac_rfl
abbrev K4:Stmt:=bN 3
theorem N9:ai ["mask","k"] ["mask","k"] (ae K4):=by ac_rfl
abbrev qo:Stmt:=bN 4
theorem By:ai ["mask","k"] ["mask","k"] (ae qo):=by ac_rfl
abbrev qm:Stmt:=bN 5
theorem Bx:ai ["mask","k"] ["mask","k"] (ae qm):=by ac_rfl
abbrev zz:Stmt:=bN 6
theorem He:ai ["mask","k"] ["mask","k"] (ae zz):=by ac_rfl
abbrev zA:Stmt:=bN 7
theorem Hf:ai ["mask","k"] ["mask","k"] (ae zA):=by ac_rfl
abbrev vg:Stmt:=bN 8
theorem DQ:ai ["numbers","mask","k"] ["numbers"] (ae vg):=by ac_rfl
abbrev vi:Stmt:=bN 9
theorem DT:ai ["mask"] ["mask"] (ae vi):=by ac_rfl
abbrev vh:Stmt:=bN 10
theorem DS:ai ["mask","numbers"] ["mask"] (ae vh):=by ac_rfl
abbrev qz:Stmt:=bN 11
theorem BI:ai ["mask"] ["mask"] (ae qz):=by ac_rfl
abbrev qA:Stmt:=bN 13
theorem BJ:ai ["cabin"] ["cabin"] (ae qA):=by ac_rfl
abbrev gN:Stmt:=bN 14
theorem sj:ai ["cabin"] ["cabin"] (ae gN):=by ac_rfl
abbrev zq:Stmt:=bN 15
theorem G5:ai ["start","goal"] ["start","goal"] (ae zq):=by ac_rfl
abbrev qq:Stmt:=bN 16
theorem BC:ai ["room","cabin","riders","goals"] ["room","cabin","riders"] (ae qq):=by ac_rfl
abbrev j6:Stmt:=bN 17
theorem nZ:ai ["floor","light","riders","ways"] ["floor","light","riders"] (ae j6):=by ac_rfl
abbrev vz:Stmt:=bN 18
theorem DZ:ai ["sort","cabin","tasks","riders","floor","light"] ["sort","cabin","tasks","riders"] (ae vz):=by ac_rfl
abbrev D7:Stmt:=bN 19
theorem KY:ai ["sort","room","cabin","riders","floor","tasks","next_up","next_down","up","down"] ["sort","room","cabin","riders"] (ae D7):=by ac_rfl
abbrev vd:Stmt:=bN 20
theorem DO:ai ["sort","cabin","word","goals","light"] ["sort","cabin","word"] (ae vd):=by ac_rfl
abbrev qD:Stmt:=bN 21
theorem BP:ai ["floors","cabin","word"] ["floors","cabin","word"] (ae qD):=by ac_rfl
abbrev gL:Stmt:=bN 22
theorem sh:ai ["cabin","place","light","door"] ["cabin","place","light","door"] (ae gL):=by ac_rfl
abbrev qr:Stmt:=bN 23
theorem BD:ai ["sort","floors","turns","cabin","word","place","light","door","done"] ["sort","floors","turns","cabin","word"] (ae qr):=by ac_rfl
abbrev jZ:Stmt:=bN 24
theorem w6:ai ["sort","light","start","goal"] ["sort","light","start","goal"] (ae jZ):=by ac_rfl
abbrev j8:Stmt:=bN 25
theorem c5:ai ["sort","room","cabin","riders","floor","light","outs","ins","aboard","tag","start","goal","lift"] ["sort","room","cabin","riders"] (ae j8):=by ac_rfl
abbrev fM:Stmt:=bN 37
theorem qe:ai ["text"] ["text"] (ae fM):=by ac_rfl
abbrev mz:Stmt:=bN 38
theorem y3:ai ["text"] ["text"] (ae mz):=by ac_rfl
abbrev j4:Stmt:=bN 42
theorem xh:ai ["cabin"] ["cabin"] (ae j4):=by ac_rfl
abbrev qv:Stmt:=bN 43
theorem BF:ai ["cabins"] ["cabins"] (ae qv):=by ac_rfl
abbrev gM:Stmt:=bN 44
theorem si:ai ["cabins","first","many","step","lift"] ["cabins","first"] (ae gM):=by ac_rfl
abbrev d7:Stmt:=bN 45
theorem KZ:ai ["cabins","waiting","rider","last","place"] ["cabins","waiting","rider","last"] @gf:=by ac_rfl
abbrev cN:Stmt:=bN 46
theorem vc:ai ["cabins","waiting","rider","last","dealt","fewest"] ["cabins","waiting","rider","last"] @gg:=by ac_rfl
abbrev qC:Stmt:=bN 47
theorem BO:ai ["cabins","waiting","rider","last","lift"] ["cabins","waiting","rider","last"] (ae qC):=by ac_rfl
abbrev cX:Stmt:=bN 48
theorem DN:ai ["lifts"] ["lifts"] (ae cX):=by ac_rfl
abbrev ce:Stmt:=bN 49
theorem BK:ai ["lifts"] ["lifts"] (ae ce):=by ac_rfl
abbrev jW:Stmt:=bN 50
theorem nX:ai ["words","house","lifts"] ["words","house"] (ae jW):=by ac_rfl
abbrev mT:Stmt:=bN 51
theorem zo:ai ["text","house","words","lifts"] ["text","house"] (ae mT):=by ac_rfl
abbrev jX:Stmt:=bN 53
theorem w5:ai ["house","floor"] ["house","floor"] (ae jX):=by ac_rfl
abbrev mF:Stmt:=bN 54
theorem y9:ai ["house","lift"] ["house","lift"] (ae mF):=by ac_rfl
abbrev mE:Stmt:=bN 55
theorem y7:ai ["house","start","goal"] ["house","start","goal"] (ae mE):=by ac_rfl
abbrev mG:Stmt:=bN 56
theorem za:ai ["house","deed"] ["house","deed"] (ae mG):=by ac_rfl
abbrev vA:Stmt:=bN 61
theorem D2:ai ["kind","turns"] ["kind","turns"] (ae vA):=by ac_rfl
abbrev vf:Stmt:=bN 63
theorem DP:ai ["house","lift"] ["house","lift"] (ae vf):=by ac_rfl
abbrev qp:Stmt:=bN 64
theorem Bz:ai ["house","lift"] ["house","lift"] (ae qp):=by ac_rfl
abbrev vy:Stmt:=bN 65
theorem DY:ai ["house","lift"] ["house","lift"] (ae vy):=by ac_rfl
abbrev qu:Stmt:=bN 70
theorem BE:ai ["moment"] ["moment"] (ae qu):=by ac_rfl
abbrev ve:Stmt:=bN 71
theorem wY:ai ["state","tags","place","light","door","marks","aboard"] ["state"] (ae ve):=by ac_rfl
abbrev jY:Stmt:=bN 72
theorem nY:ai ["house","state","deeds","taken","deed"] ["house","state","deeds"] (ae jY):=by ac_rfl
abbrev vC:Stmt:=bN 73
theorem D4:ai ["moment","tag","start","goal","key"] ["moment","tag","start","goal","key"] (ae vC):=by ac_rfl
abbrev qB:Stmt:=bN 74
theorem BL:ai ["rider","lift"] ["rider","lift"] (ae qB):=by ac_rfl
abbrev jT:Stmt:=bN 75
theorem wW:ai ["cabin","marks"] ["cabin","marks"] (ae jT):=by ac_rfl
abbrev qw:Stmt:=bN 76
theorem BG:ai ["moment","lift","mark","cabin"] ["moment","lift","mark"] (ae qw):=by ac_rfl
abbrev mI:Stmt:=bN 77
theorem zc:ai ["moment","lift","mark","cabin"] ["moment","lift","mark"] (ae mI):=by ac_rfl
abbrev vB:Stmt:=bN 81
theorem D3:ai ["moment","deed","name"] ["moment","deed"] (ae vB):=by ac_rfl
abbrev AK:Stmt:=bN 82
theorem D5:ai ["moment","dealer","place","rider","told"] ["moment","dealer","place","rider"] (ae AK):=by ac_rfl
abbrev kU:Stmt:=bN 83
theorem BM:ai ["moment","dealer","place","rider"] ["moment","dealer"] (ae kU):=by ac_rfl
abbrev mJ:Stmt:=bN 84
theorem ze:ai ["moment","word","tags","lift","floor"] ["moment","word","tags","lift"] (ae mJ):=by ac_rfl
abbrev mP:Stmt:=bN 87
theorem qj:ai ["moment","lift","riders","house","told","cabin","outs","ins","door","count"] ["moment","lift","riders"] (ae mP):=by ac_rfl
abbrev mM:Stmt:=bN 88
theorem qi:ai ["moment","rule","lift","riders","house","cabin","word"] ["moment","rule","lift","riders"] (ae mM):=by ac_rfl
abbrev fe:Stmt:=bN 89
theorem io:ai ["moment","rule","lift","cabin","riders"] ["moment","rule","lift"] (ae fe):=by ac_rfl
abbrev QM:Stmt:=bN 90
theorem QL:ai ["moment","rule","lift"] ["moment","rule","lift"] (ae QM):=by ac_rfl
abbrev fN:Stmt:=bN 96
theorem qf:ai ["light","here","up","down"] ["light","here","up","down"] (ae fN):=by ac_rfl
abbrev zx:Stmt:=bN 100
theorem Ha:ai ["_law_script","_law_k"] ["_law_script","_law_k"] (ae zx):=by ac_rfl
abbrev zv:Stmt:=bN 101
theorem G9:ai ["_law_script","_law_k","_law_prime","_law_many"] ["_law_script","_law_k","_law_prime","_law_many"] (ae zv):=by ac_rfl
abbrev vq:Stmt:=bN 102
theorem xc:ai ["_law_script","_law_k","_law_most","_law_mixed"] ["_law_script","_law_k","_law_most"] (ae vq):=by ac_rfl
abbrev vj:Stmt:=bN 103
theorem DU:ai ["_law_thing"] ["_law_thing"] (ae vj):=by ac_rfl
abbrev D8:Stmt:=bN 104
theorem K0:ai ["_law_script","_law_number","_law_far"] ["_law_script","_law_number"] (ae D8):=by ac_rfl
abbrev zu:Stmt:=bN 105
theorem G8:ai ["_law_script","_law_at_here","_law_floors","_law_kind","_law_start"] ["_law_script","_law_at_here","_law_floors"] (ae zu):=by ac_rfl
abbrev vp:Stmt:=bN 106
theorem DW:ai ["_law_script","_law_most","_law_floors","_law_many","_law_locked","_law_sort"] ["_law_script","_law_most"] (ae vp):=by ac_rfl
abbrev vt:Stmt:=bN 107
theorem xf:ai ["_law_house_here","_law_place","_law_light","_law_fire","_law_floors"] ["_law_house_here","_law_place","_law_light","_law_fire"] (ae vt):=by ac_rfl
abbrev vw:Stmt:=bN 108
theorem iN:ai ["_law_script","_law_at_here","_law_house_here","_law_number","_law_fire","_law_lift_here","_law_place","_law_light","_law_count","_law_door","_law_marks","_law_goals_here","_law_aboard","_law_k","_law_goal"] ["_law_script","_law_at_here","_law_house_here","_law_number","_law_fire"] (ae vw):=by ac_rfl
abbrev vn:Stmt:=bN 109
theorem DV:ai ["_law_script","_law_at_here","_law_house_here","_law_tag_here","_law_lifts","_law_start","_law_goal"] ["_law_script","_law_at_here","_law_house_here","_law_tag_here","_law_lifts"] (ae vn):=by ac_rfl
abbrev vk:Stmt:=bN 110
theorem qh:ai ["_law_script","_law_house_here","_law_fire","_law_cabins","_law_lifts","_law_waiting","_law_k"] ["_law_script","_law_house_here","_law_fire"] (ae vk):=by ac_rfl
abbrev mL:Stmt:=bN 111
theorem zh:ai ["_law_script","_law_at_here"] ["_law_script","_law_at_here"] (ae mL):=by ac_rfl
abbrev qy:Stmt:=bN 112
theorem BH:ai ["_law_cabins","_law_lift_here","_law_many","_law_step"] ["_law_cabins","_law_lift_here"] (ae qy):=by ac_rfl
abbrev K2:Stmt:=bN 113
theorem N8:ai ["_law_cabins","_law_lift_here"] ["_law_cabins","_law_lift_here"] (ae K2):=by ac_rfl
abbrev zy:Stmt:=bN 114
theorem Hd:ai ["_law_cabins","_law_worths","_law_best_here","_law_k"] ["_law_cabins","_law_worths"] (ae zy):=by ac_rfl
abbrev zt:Stmt:=bN 115
theorem G7:ai ["_law_cabins","_law_start"] ["_law_cabins","_law_start"] (ae zt):=by ac_rfl
abbrev vo:Stmt:=bN 116
theorem xb:ai ["_law_cabins","_law_waiting","_law_lifts"] ["_law_cabins","_law_waiting"] (ae vo):=by ac_rfl
abbrev zr:Stmt:=bN 117
theorem G6:ai ["_law_log","_law_row","_law_number"] ["_law_log"] (ae zr):=by ac_rfl
abbrev mK:Stmt:=bN 118
theorem zf:ai ["_law_script","_law_word","_law_house_here","_law_count"] ["_law_script","_law_word","_law_house_here"] (ae mK):=by ac_rfl
abbrev j3:Stmt:=bN 119
theorem w9:ai ["_law_word","_law_numbers_here","_law_cabins","_law_waiting","_law_rider_here","_law_last"] ["_law_word","_law_numbers_here","_law_cabins","_law_waiting","_law_rider_here","_law_last"] (ae j3):=by ac_rfl
abbrev vx:Stmt:=bN 120
theorem DX:ai ["_law_script","_law_house_here","_law_lift_here","_law_way"] ["_law_script","_law_house_here"] (ae vx):=by ac_rfl
abbrev qx:Stmt:=bN 121
theorem mx:ai ["_law_cabins","_law_deeds","_law_made","_law_deed","_law_marks"] ["_law_cabins","_law_deeds"] (ae qx):=by ac_rfl
abbrev vv:Stmt:=bN 122
theorem xg:ai ["_law_word","_law_numbers_here","_law_cabins","_law_riders","_law_last","_law_waiting","_law_log","_law_k","_law_lift_here"] ["_law_word","_law_numbers_here","_law_cabins","_law_riders","_law_last"] (ae vv):=by ac_rfl
abbrev vm:Stmt:=bN 123
theorem xa:ai ["_law_told","_law_due","_law_waiting","_law_log","_law_last","_law_row","_law_ins"] ["_law_told","_law_due"] (ae vm):=by ac_rfl
abbrev K1:Stmt:=bN 124
theorem qg:ai ["_law_script","_law_house_here","_law_state_here","_law_word","_law_numbers_here","_law_rule","_law_court","_law_deeds","_law_cabins","_law_riders","_law_k","_law_one","_law_due","_law_beside"] ["_law_script"] (ae K1):=by ac_rfl
abbrev mR:Stmt:=lK (bN 58) 0
theorem zn:ai ["self","turns"] ["self","turns"] (ae mR):=by ac_rfl
abbrev mQ:Stmt:=lK (bN 58) 1
theorem zm:ai ["self","count","blocked","stepped"] ["self","count","blocked","stepped"] (ae mQ):=by ac_rfl
abbrev j5:Stmt:=lK (bN 59) 0
theorem xi:ai ["self","count","blocked","stepped"] ["self","count","blocked","stepped"] (ae j5):=by ac_rfl
abbrev my:Stmt:=lK (bN 60) 0
theorem yZ:ai ["self","count","blocked","stepped"] ["self","count","blocked","stepped"] (ae my):=by ac_rfl
abbrev iO:Stmt:=lK (bN 69) 0
theorem va:ai ["self","house","state"] ["self","house","state"] (ae iO):=by ac_rfl
abbrev j9:Stmt:=lK (bN 91) 0
theorem xj:ai ["self","house","rule","dealer"] ["self","house","rule","dealer"] (ae j9):=by ac_rfl
abbrev gO:Stmt:=lK (bN 91) 2
theorem oa:ai ["self","state","deeds","moment","deed","lift"] ["self","state","deeds"] (ae gO):=by ac_rfl
abbrev jV:Stmt:=lK (bN 98) 0
theorem w4:ai ["self","letters"] ["self","letters"] (ae jV):=by ac_rfl
abbrev jU:Stmt:=lK (bN 98) 1
theorem wZ:ai ["self","seen"] ["self","seen"] (ae jU):=by ac_rfl
section
variable {P:Program}{w:World}{K:Fg}{mg:Str->Option Value}{base:Heap}{f:Addr}{fd:FuncData}
theorem Bq {n:Nat}(h:n<1000000):n<sizeLine:=by rw [sizeLine_eq];lia
def wr (K:Fg)(H:Hp)(a:Addr)(ns:List Int):Prop:=Rl K H a ns/\∀i∈ns,Builtin.Int.intBits i<=2^20
theorem wr.same {H H':Hp}{a:Addr}{R:List Int}(h:wr K H a R)(s:aj H H'):wr K H' a R:=⟨⟨s.seq h.1.1,h.1.2⟩,h.2⟩
def xW (ns:List Int)(k:Int):Int:=if k<(ns.length:Int) then ns.getD k.toNat 0 else 0
def Ra (ns:List Int)(k p m:Int):Int:=(xW ns k*48271+7919*k*k+11)% p% m
def Ru (ns:List Int)(k m:Int):Int:=(xW ns k*48271+7919*k*k+11)*(2305843009213693951^(4:Int).toNat)% (m+1)
inductive p9 (K:Fg)(vs:List V)(H:Hp)(Q:VK)(_e:XK):Prop
 |mk (a ns k:_) (_:vs=[.ref a,.int k]) (_:wr K H a ns) (_:0<=k) (_:∀i:Int,i=xW ns k->Builtin.Int.intBits i<=2^20->Q (.int i) H)
abbrev Z0:=λK n s f fd=>bA K n n s f fd
theorem IB (F:Z0 K "_law_cell" zx f fd)(J:mg "len"=none):au P w K mg base aZ 1 f fd ["_law_script","_law_k"] (p9 K):=by
 rwa[F.ok Ha (by symm) (λz A outer s H O Q E L h=> ?_)];obtain ⟨a,R,k,rfl,⟨⟨S,I⟩,j⟩,G,q⟩:=h;rwa[⟨_,(aa @U @eG),?_⟩];erw[b6 S ?_];rw [length_map];rwa[eh @fJ @fJ]
 ·ext;rwa[aN S (Gg G W) (q _ (by unfold xW;rw [if_pos W]) (j _ ?_))]
  first|exact getElem_mem _|exact List.get_mem _ _|(rw [getD_eq_getElem?_getD,getElem?_eq_getElem @c];exact getElem_mem _)
 ·exact q 0 (by unfold xW;rw [if_neg W]) @b
inductive kK (K:Fg)(vs:List V)(H:Hp)(Q:VK)(_e:XK):Prop
 |mk (a ns k p m:_) (_:vs=[.ref a,.int k,.int p,.int m]) (_:wr K H a ns) (_:0<=k) (_:k<1000) (_:0<p) (_:0<m) (_:∀i:Int,i=Ra ns k p m->0<=i->i<m->Q (.int i) H)
theorem lH {H:Hp}{a:Addr}{R:List Int}{k p m:Int}{Q:VK}{E:XK}(h1:wr K H a R)(h2:0<=k)(L:k<1000)(j:0<p)(U:0<m)(g:∀i:Int,0<=i->i<m->Q (.int i) H):kK K [.ref a,.int k,.int p,.int m] H Q E:=⟨a,R,k,p,m,rfl,h1,h2,L,j,U,λi _=>g i⟩
theorem OE (F:Z0 K "_law_draw" zv f fd)(L:aR P w K mg base 1 "_law_cell" ["_law_script","_law_k"] (p9 K)):au P w K mg base aZ 2 f fd ["_law_script","_law_k","_law_prime","_law_many"] (kK K):=by
 rwa[F.ok G9 (by symm) (λj A outer s H U Q E J h=> ?_)];obtain ⟨a,R,k,p,m,rfl,S,I,O,Z,G,q⟩:=h;rwa[⟨_,@j,?_⟩];rwa[p9.mk _ _ _ rfl S I λi z hi=> ?_];rwa[⟨hV @b @b,cZ @b @b,hV @c @c,by lia,by lia,?_⟩];exact q _ (by rw [z];rfl) (Int.emod_nonneg _ @c) (Int.emod_lt_of_pos _ G)
inductive KO (K:Fg)(vs:List V)(H:Hp)(Q:VK)(_e:XK):Prop
 |mk (a ns k m:_) (_:vs=[.ref a,.int k,.int m]) (_:wr K H a ns) (_:0<=k) (_:k<1000) (_:0<=m) (_:∀i:Int,i=Ru ns k m->0<=i->i<=m->Q (.int i) H)
theorem OC (F:Z0 K "_law_great" vq f fd)(L:aR P w K mg base 1 "_law_cell" ["_law_script","_law_k"] (p9 K)):au P w K mg base aZ 2 f fd ["_law_script","_law_k","_law_most"] (KO K):=by
 rwa[F.ok xc (by symm) (λj A outer s H U Q E S h=> ?_)];obtain ⟨a,R,k,m,rfl,z,G,J,O,q⟩:=h;rwa[⟨_,(aa (bD (i:=3) xc.nd rfl @q (bZ @ci (bZ @ci (bZ uN (b7 L S @b rfl (aq (wv 0) @bl)) aM) (bZ uN (bZ uN aM (wv 1)) (wv 1))) aM)) (ac (ao (bZ JD (bZ uN (wv 3) (bZ JB aM aM)) (bZ @ci (wv 2) aM))))),?_⟩];rwa[p9.mk _ _ _ rfl z G λi I hi=> ?_];rwa[⟨(hV @b @b).ok,(cZ @b @b).ok,(hV @c @c).ok,?_⟩];rwa[⟨xS @b @b @b,FA hi G J,?_⟩];rwa[⟨by lia,?_⟩];exact q _ (by rw [I];rfl) (Int.emod_nonneg _ @c) (Int.le_of_lt_add_one (Int.emod_lt_of_pos _ @c))
inductive kE (vs:List V)(H:Hp)(Q:VK)(_e:XK):Prop
 |mk (i:Int) (_:vs=[.int i]) (_:Q (.bl true) H)
theorem EE (F:Z0 K "_law_whole" vj f fd)(j:mg "isinstance"=none)(I:mg "int"=none)(G:mg "bool"=none):au P w K mg base aZ 1 f fd ["_law_thing"] kE:=by
 rwa[F.ok DU (by symm) @bW];obtain ⟨i,rfl,q⟩:=h;rwa[⟨_,(ac (ao (yB (aY (yD rfl) rfl j boot_isinstance (aq (wv 0) (aq (jo (v:= .ty "int") rfl I boot_int rfl) am))) (zE (C7 rfl (aY (yD rfl) rfl j boot_isinstance (aq (wv 0) (aq (jo (v:= .ty "bool") rfl G boot_bool rfl) am)))))))),?_⟩];rwa[⟨rfl,bL rfl ⟨rfl,q⟩⟩]
def OU (ns:List Int):Int:=Ru ns 5 ((10:Int)^(57:Int).toNat)
def fL (ns:List Int)(n:Int):Int:=if Ra ns 5 50021 3=0 then n else if Ra ns 5 50021 3=1 then OU ns*100+n else n*(10:Int)^(58:Int).toNat+OU ns
theorem AD {R:List Int}{m n:Int}(h:fL R m=fL R n):m=n:=by
 unfold fL at h;split at h
 ·exact h
 ·split at h
  ·lia
  ·have e:(10:Int)^(58:Int).toNat=10000000000000000000000000000000000000000000000000000000000:=by decide
   rw [e] at h;lia
inductive pN (K:Fg)(vs:List V)(H:Hp)(Q:VK)(_e:XK):Prop
 |mk (a ns k:_) (_:vs=[.ref a,.int k]) (_:wr K H a ns) (_:0<=k) (_:k<1000) (_:∀i:Int,i=fL ns k->Q (.int i) H)
abbrev Z00:=λP w K mg base=>aR P w K mg base 2 "_law_draw" ["_law_script","_law_k","_law_prime","_law_many"] (kK K)
theorem Lz (F:Z0 K "_law_tag" D8 f fd)(W:Z00 P w K mg base)(rP:aR P w K mg base 2 "_law_great" ["_law_script","_law_k","_law_most"] (KO K)):au P w K mg base aZ 3 f fd ["_law_script","_law_number"] (pN K):=by
 rwa[F.ok K0 (by symm) (λJ A outer s H vs Q E R h=> ?_)];obtain ⟨a,ns,k,rfl,S,k0,k1,q⟩:=h;rwa[⟨_,(aa @a (aa (aB @a @dl ar) (aa @U @j))),?_⟩];rwa[⟨xS @b @b @b,?_⟩];rwa[KO.mk _ _ _ _ rfl S @b @b @b λx ex x0 U=> ?_];rwa[kK.mk _ _ _ _ _ rfl S @b @b @b @b λi G L Z=> ?_];rwa[eh @k @k]
 ·have z:i=0:=z;exact q _ (by unfold fL;rw [if_pos (by rw [<-G];exact z)])
 have z: ¬i=0:=z;rwa[kK.mk _ _ _ _ _ rfl S @b @b @b @b λj I Y O=> ?_];rwa[eh @cU @cU]
 ·have y:j=1:=y;exact ⟨hV @b @b,q _ (by unfold fL;rw [if_neg (by rw [<-G];exact z),if_pos (by rw [<-I];exact y),ex];rfl)⟩
 ·have y: ¬j=1:=y;rwa[⟨xS @b @b @b,?_⟩];exact ⟨cZ @c @c,q _ (by unfold fL;rw [if_neg (by rw [<-G];exact z),if_neg (by rw [<-I];exact y),ex];rfl)⟩
def vN (ks:List Nat):List V:=ks.map λk:Nat=>V.int (k:Int)
def Op:Option Nat->V
 |none=> .non
 |some n=> .int (n:Int)
theorem Hq (n:Nat):(1:Int)*2^((n:Int)).toNat=((2^n:Nat):Int):=by rw [Int.toNat_natCast,Int.natCast_pow];simp
inductive kP (vs:List V)(H:Hp)(Q:VK)(_e:XK):Prop
 |mk (n:Nat) (_:vs=[.int (n:Int)]) (_:n<=1000) (_:Q (.int ((2^n:Nat):Int)) H)
theorem LN (F:Z0 K "bit" K5 f fd):au P w K mg base aZ 1 f fd ["k"] kP:=by
 rwa[F.ok Oa (by symm) @o];obtain ⟨n,rfl,z,q⟩:=h;rwa[⟨_,@j,?_⟩];rwa[⟨xS @c @c @b,?_⟩];rw [<-Hq] at q;exact q
inductive fw (vs:List V)(H:Hp)(Q:VK)(_e:XK):Prop
 |mk (M n:Nat) (_:vs=[.int (M:Int),.int (n:Int)]) (_:n<=1000) (_:Q (.bl (M.testBit n)) H)
theorem LJ (F:Z0 K "has" K4 f fd)(G:aR P w K mg base 1 "bit" ["k"] kP):au P w K mg base aZ 2 f fd ["mask","k"] fw:=by
 rwa[F.ok N9 (by symm) @o];obtain ⟨M,n,rfl,z,q⟩:=h;rwa[⟨_,@j,?_⟩];rwa[jA @c ?_];rwa[kP.mk _ rfl z ?_];show Q (.bl (!decide (Builtin.bitAnd (M:Int) ((2^n:Nat):Int)=0))) H;rw [Js]
 have e:decide (((M&&&2^n:Nat):Int)=0)= !M.testBit n:=by
  rw [<-testBit_and];exact decide_eq_decide.mpr @c
 rw [e,Bool.not_not];exact q
inductive gI (vs:List V)(H:Hp)(Q:VK)(_e:XK):Prop
 |mk (M n:Nat) (_:vs=[.int (M:Int),.int (n:Int)]) (_:n<=1000) (_:Q (.int ((M|||2^n:Nat):Int)) H)
theorem ED (F:Z0 K "with_bit" qo f fd)(G:aR P w K mg base 1 "bit" ["k"] kP):au P w K mg base aZ 2 f fd ["mask","k"] gI:=by
 rwa[F.ok By (by symm) @o];obtain ⟨M,n,rfl,z,q⟩:=h;rwa[⟨_,@j,?_⟩];rwa[kP.mk _ rfl z ?_];rw [<-Ll] at q;exact q
inductive kQ (vs:List V)(H:Hp)(Q:VK)(_e:XK):Prop
 |mk (M n:Nat) (_:vs=[.int (M:Int),.int (n:Int)]) (_:n<=1000) (_:Q (.int ((M% 2^n:Nat):Int)) H)
theorem E4 (F:Z0 K "below" zz f fd)(G:aR P w K mg base 1 "bit" ["k"] kP):au P w K mg base aZ 2 f fd ["mask","k"] kQ:=by
 rwa[F.ok He (by symm) @o];obtain ⟨M,n,rfl,z,q⟩:=h;rwa[⟨_,(aa (aB @a @eG ar) @j),?_⟩];rwa[dF @c ?_];rwa[kP.mk _ rfl z ⟨?_,?_⟩]
 ·have:=Nat.two_pow_pos n;lia
 ·rw [Int.natCast_emod] at q;exact q
inductive u6 (vs:List V)(H:Hp)(Q:VK)(_e:XK):Prop
 |mk (M n:Nat) (_:vs=[.int (M:Int),.int (n:Int)]) (_:n<1000) (_:Q (.int ((M - M% 2^(n+1):Nat):Int)) H)
theorem E6 (F:Z0 K "above" zA f fd)(G:aR P w K mg base 2 "below" ["mask","k"] kQ):au P w K mg base aZ 3 f fd ["mask","k"] u6:=by
 rwa[F.ok Hf (by symm) @o];obtain ⟨M,n,rfl,z,q⟩:=h;rwa[⟨_,@j,?_⟩];rwa[kQ.mk _ (n+1) rfl z ?_]
 have e:((M - M% 2^(n+1):Nat):Int)=(M:Int) - ((M% 2^(n+1):Nat):Int):=by
  have:=Nat.mod_le M (2^(n+1));lia
 rw [e] at q;exact q
inductive kJ (K:Fg)(vs:List V)(H:Hp)(Q:VK)(_e:XK):Prop
 |mk (p:Addr) (ks:List Nat) (_:vs=[.ref p]) (_:aA K H p (vN ks)) (_:(∀k∈ks,k<=1000)) (_:Q (.int (og ks:Int)) H)
theorem Kt {ks:List Nat}{i:Nat}{x:V}(h:(vN ks)[i]? =some x):∃k,ks[i]? =some k/\x=V.int (k:Int):=by
 unfold vN at h;rw [getElem?_map] at h
 cases e:ks[i]? with
 |none=>rw [e] at h;cases h
 |some k=>rw [e] at h;exact ⟨k,rfl,(Option.some.inj h).symm⟩
theorem Dm (ks:List Nat):(vN ks).length=ks.length:=length_map _
theorem BY (F:Z0 K "mask_of" vg f fd)(J:aR P w K mg base 2 "with_bit" ["mask","k"] gI):au P w K mg base aZ 3 f fd ["numbers"] (kJ K):=by
 rwa[F.ok DQ (by symm) (λG A outer s H L Q E I h=> ?_)];obtain ⟨p,ks,rfl,S,R,q⟩:=h;rwa[⟨_,(aa @a (aa (cm PassesOwn.never rfl @a @a (ac @a)) @dl)),?_⟩];rwa[bK S ?_];rwa[dM (xs:=vN ks) (λi σ H'=>H'=H/\∃o,σ=[some (.ref p),some (.int (og (ks.take i):Int)),o]) ⟨rfl,_,by rfl⟩ (λi σ H' _ h=>by rw [h.1];exact S) ?_ ?_]
 ·rintro i x σ H' j ⟨rfl,o,rfl⟩;obtain ⟨k,z,rfl⟩:=Kt j;rwa[gI.mk _ _ rfl (R k (mem_of_getElem? z)) ⟨rfl,some (.int (k:Int)),?_⟩]
  have e:og (ks.take (i+1))=og (ks.take i)|||2^k:=by
   unfold og;rw [take_add_one,z,foldl_append];rfl
  rw [e];rfl
 ·rintro σ H' ⟨rfl,o,rfl⟩;rw [Dm,take_of_length_le @f];exact q
inductive yS (vs:List V)(H:Hp)(Q:VK)(_e:XK):Prop
 |mk (M:Nat) (_:vs=[.int (M:Int)]) (_:M<2^200) (_:∀p,H p=none->Q (.ref p) (upd H p (.lst (vN (jB M)))))
abbrev Z04:=λP w K mg base=>aR P w K mg base 2 "has" ["mask","k"] fw
theorem B3 (F:Z0 K "listed" vi f fd)(J:mg "range"=none)(O:Z04 P w K mg base):au P w K mg base aZ 3 f fd ["mask"] yS:=by
 rwa[F.ok DT (by symm) (λj A outer s H U Q E S h=> ?_)];obtain ⟨M,rfl,z,q⟩:=h;have R:=Pp z;have I:=sizeLine_eq;rwa[⟨_,(ac (ao (bb rfl (ay (N':=["k","mask"]) (pk:=[none,some 0]) @l) (bE rfl J (aq (C8 rfl PySem.F.plainAttrs_int PySem.F.slot_int_bit_length PySem.F.type_int_bit_length Dh (wv 0)) am)) @h @N @H))),?_⟩];rwa[⟨rfl,⟨by show -4611686018427387904<=((L M:Nat):Int);lia,by show ((L M:Nat):Int)<4611686018427387904;lia⟩,?_⟩];show rA (GF 0 (L M)) _ _ _ _ _ _ _
 refine cE (λi ys H'=>H'=H/\ys=vN (jN M i)) @c (λi ys H' p=>by
  rw [p.2,Dm];unfold jN;exact Nat.le_trans @bp @e) ⟨rfl,rfl⟩ ?_ ?_
 ·rintro i ys H' hi ⟨rfl,rfl⟩;erw[⟨N6,?_⟩];show fw [.int (M:Int),.int (0+(i:Int))] _ _ _;rw [Int.zero_add];rwa[fw.mk _ _ rfl @c ?_];show if M.testBit i=true then _ else _
  cases h:M.testBit i with
  |true=>
   rw [if_pos rfl];rwa[⟨rfl,?_⟩];rw [kq,h];unfold vN;rw [map_append];rfl
  |false=>
   rw [if_neg Bool.false_ne_true];rwa[⟨rfl,?_⟩];rw [kq,h];simp
 ·rintro ys H' ⟨rfl,rfl⟩ p G;exact q p G
inductive pO (vs:List V)(H:Hp)(Q:VK)(_e:XK):Prop
 |mk (M:Nat) (_:vs=[.int (M:Int)]) (_:M<2^200) (_:∀H',aj H H'->Q (Op (jB M)[0]?) H')
theorem D6 {H:Hp}{p:Addr}(h:H p=none)(o:HO):aj H @eW:=λb u q=>by rw [ak (bB q h)];exact q
theorem B1 (F:Z0 K "lowest" vh f fd)(O:aR P w K mg base 3 "listed" ["mask"] yS):au P w K mg base aZ 4 f fd ["mask"] pO:=by
 rwa[F.ok DS (by symm) (λJ A outer s H R Q E S h=> ?_)];obtain ⟨M,rfl,L,q⟩:=h;rwa[⟨_,(aa @a @j),?_⟩];erw[yS.mk _ rfl L λp I=> ?_];have z:=q _ (D6 I (.lst (vN (jB M))));rwa[G3 @fs ?_]
 cases G:jB M with
 |nil=>
  rw [G] at z;exact be rfl z
 |cons k ks=>
  rw [G] at z;rwa[bL rfl ?_];exact aN @fs (bz (j:=0) (v:=V.int (k:Int)) rfl) z
inductive mq (vs:List V)(H:Hp)(Q:VK)(_e:XK):Prop
 |mk (M:Nat) (_:vs=[.int (M:Int)]) (_:Q (Op (if M=0 then none else some (L M - 1))) H)
theorem zP (F:Z0 K "highest" qz f fd):au P w K mg base aZ 1 f fd ["mask"] mq:=by
 rwa[F.ok BI (by symm) @bW];obtain ⟨M,rfl,q⟩:=h;rwa[⟨_,(ac (ao (Av @a (bZ JA (C8 rfl PySem.F.plainAttrs_int PySem.F.slot_int_bit_length PySem.F.type_int_bit_length Dh (wv 0)) aM) zF))),?_⟩];rwa[eh (λh=> ?_) (λh=> ?_)]
 ·rwa[⟨rfl,?_⟩]
  have j:M≠0:=by lia
  rw [if_neg j] at q
  have e:((L M - 1:Nat):Int)=((L M:Nat):Int) - 1:=by
   have:=Gr M;rw [if_neg j] at this;lia
  show Q (.int (((L M:Nat):Int) - 1)) H;rw [<-e];exact q
 ·have j:M=0:=by lia
  rw [if_pos j] at q;exact q
def iR (p:Int×Int):D:= .tup [.int p.1,.int p.2]
def O8 (pl li dr mk:Int)(ps:List (Int×Int)):List D:=[.int pl,.int li,.int dr,.int mk,.tup @eZ]
inductive bQ (K:Fg)(H:Hp)(t:Addr)(pl li dr mk:Int)(ps:List (Int×Int)):Prop
 |mk (b xs:_) (_:H t=some (.tup [.int pl,.int li,.int dr,.int mk,.ref b])) (_:H b=some (.tup xs)) (_:ax K H xs @eZ)
theorem bQ.same {H H':Hp}{t:Addr}{pl li dr j:Int}{ps:List (Int×Int)}(h:bQ K H t pl li dr j ps)(s:aj H H'):bQ K H' t pl li dr j ps:=by
 obtain ⟨b,xs,R,O,d⟩:=h;exact ⟨b,xs,s.get R,s.get O,ax.same d s⟩
theorem bQ.den {H:Hp}{t:Addr}{pl li dr j:Int}{ps:List (Int×Int)}(h:bQ K H t pl li dr j ps):bH K H (.ref t) (.tup (O8 pl li dr j ps)):=by
 obtain ⟨b,xs,R,O,d⟩:=h;exact hI (aC.of R) (.cons (.int _) (.cons (.int _) (.cons (.int _) (.cons (.int _) (.cons (hI (aC.of O) d) .nil)))))
theorem QI:5<=sizeLine:=by rw [sizeLine_eq];lia
noncomputable def cq (so:Str)(pl li:Int)(ps:List (Int×Int))(wd:Str):Str:=
 if so=s!"free"\/ps=[] then wd else if ps.any (λp=>decide (2*p.2=pl))=true then s!"o" else if wd=s!"x" then s!"o" else
 if (wd=s!"u"/\li<0)\/(wd=s!"d"/\0<li) then s!"s" else wd
noncomputable def gG:List Str:=[s!"o",s!"x",s!"u",s!"d",s!"s"]
theorem Q8 {x:Str}(h:x∈gG):x=s!"o"\/x=s!"x"\/x=s!"u"\/x=s!"d"\/x=s!"s":=by
 simpa [gG] using h
theorem wL {so:Str}{pl li:Int}{ps:List (Int×Int)}{j:Str}(h:j∈gG):cq so pl li ps j∈gG:=by
 unfold cq;split
 ·exact h
 split
 ·exact .head _
 split
 ·exact .head _
 split
 ·exact .tail _ (.tail _ (.tail _ (.tail _ (.head _))))
 ·exact h
noncomputable def d9 (fl tu pl li dr:Int)(ps:List (Int×Int))(x:Str):Int×Int×Int:=
 if x=s!"o" then (pl,li,tu) else if x=s!"x" then (pl,0,tu) else if x=s!"u"/\pl / 2<fl - 1 then (pl+1,1,dr) else if x=s!"d"/\0<pl then (pl - 1,-1,dr) else (pl,if ps=[] then 0 else li,dr)
section
variable {fl tu pl li dr:Int}{ps:List (Int×Int)}
theorem O0:d9 fl tu pl li dr ps "o"=(pl,li,tu):=if_pos rfl
theorem OY:d9 fl tu pl li dr ps "x"=(pl,0,tu):=by unfold d9;rw [if_neg @b,if_pos rfl]
theorem Mv (h:pl / 2<fl - 1):d9 fl tu pl li dr ps "u"=(pl+1,1,dr):=by unfold d9;rw [if_neg @b,if_neg @b,if_pos ⟨rfl,h⟩]
theorem Mw (h: ¬pl / 2<fl - 1):d9 fl tu pl li dr ps "u"=(pl,if ps=[] then 0 else li,dr):=by unfold d9;rw [if_neg @b,if_neg @b,if_neg @dY,if_neg @s]
theorem Mx (h:0<pl):d9 fl tu pl li dr ps "d"=(pl - 1,-1,dr):=by unfold d9;rw [if_neg @b,if_neg @b,if_neg @s,if_pos ⟨rfl,h⟩]
theorem Mz (h: ¬0<pl):d9 fl tu pl li dr ps "d"=(pl,if ps=[] then 0 else li,dr):=by unfold d9;rw [if_neg @b,if_neg @b,if_neg @s,if_neg @dY]
theorem OZ:d9 fl tu pl li dr ps "s"=(pl,if ps=[] then 0 else li,dr):=by unfold d9;rw [if_neg @b,if_neg @b,if_neg @s,if_neg @s]
end
def pF (ps:List (Int×Int)):Prop:=ps.length<=100/\∀p∈ps,0<=p.2/\p.2<100
inductive cr (K:Fg)(vs:List V)(H:Hp)(Q:VK)(_e:XK):Prop
 |mk (c pl li dr mk ps:_) (_:vs=[.ref c]) (_:bQ K H c pl li dr mk ps) (_:Q (.int (pl / 2)) H)
theorem EY (F:Z0 K "floor_of" qA f fd):au P w K mg base aZ 1 f fd ["cabin"] (cr K):=by
 rwa[F.ok BJ (by symm) @o];obtain ⟨c,pl,li,dr,z,ps,rfl,I,q⟩:=h;obtain ⟨b,xs,G,U,dx⟩:=id I;rwa[⟨_,@j,?_⟩];left;exact q
def dL (ps:List (Int×Int)):List V:=ps.map λp=>V.int p.2
inductive gJ (K:Fg)(vs:List V)(H:Hp)(Q:VK)(_e:XK):Prop
 |mk (c pl li dr mk ps:_) (_:vs=[.ref c]) (_:bQ K H c pl li dr mk ps) (_:ps.length<=100) (_:∀p H',aj H H'->H p=none->H' p=some (.lst (dL ps))->Q (.ref p) H')
theorem EX (F:Z0 K "goals_aboard" gN f fd):au P w K mg base aZ 1 f fd ["cabin"] (gJ K):=by
 rwa[F.ok sj (by symm) (λL A outer s H vs Q E hr h=> ?_)];obtain ⟨c,pl,li,dr,R,ps,rfl,O,Y,q⟩:=h;obtain ⟨b,xs,ec,U,dx⟩:=id O;have hx:=aD dx;rwa[⟨_,(ac (ao (bb rfl (ay (N':=["tag","goal"]) (pk:=[none,none]) @l) @a @v @r (λC s H ex=>(wv 1))))),?_⟩];left;rwa[fg @bX ?_];rwa[dB (xs:=xs) (λi ys H'=>H'=H/\ys=(dL ps).take i) @S (λi ys H' p=>by rw [p.2,length_take];exact Nat.min_le_left _ _) ⟨rfl,rfl⟩ (λi ys H' _ p=>by rw [p.1];exact aC.of U) (λi x ys H' j p=> ?_) (λys H' p I W=> ?_)]
 ·obtain ⟨rfl,rfl⟩:=p;obtain ⟨S,z,J⟩:=bc dx j;obtain ⟨u,us,rfl,Z,G⟩:=J.outT
  cases G with|cons q0 t0=>cases t0 with|cons q1 t1=>
  cases t1;cases q0.isInt;cases q1.isInt;left;rwa[⟨kB,?_⟩];left;rwa[⟨rfl,?_⟩];rw [take_succ];congr 1;unfold dL;rw [getElem?_map,z];rfl
 ·obtain ⟨rfl,rfl⟩:=p;rwa[q I _ (.upd W) W ?_];rw [af,take_of_length_le (by unfold dL;rw [length_map];lia)]
structure aH where
 tag:Int
 start:Int
 goal:Int
 lift:Int
def aH.d (r:aH):D:= .tup [.int r.tag,.int r.start,.int r.goal,.int r.lift]
def MP (rs:List aH):Prop:=rs.length<=64/\∀r∈rs,r.start≠r.goal
theorem fz (rs:List aH):noLs @K=true:=by
 induction rs with
 |nil=>rfl
 |cons r rs ih=>rw [map_cons,noLs,ih];rfl
theorem mV (ps:List (Int×Int)):noLs @eZ=true:=by
 induction ps with
 |nil=>rfl
 |cons r rs ih=>rw [map_cons,noLs,ih];rfl
theorem aj.updF {H0 H1:Hp}{o:Addr}{x:HO}(s:aj H0 H1)(h:H0 o=none):aj H0 (upd H1 o x):=λb u z=>by
 rw [ak (λe=>by rw [e,h] at z;cases z)];exact s b u z
def uM (s g:Int):Int:=if s<g then 1 else -1
inductive pM (vs:List V)(H:Hp)(Q:VK)(_e:XK):Prop
 |mk (s g:Int) (_:vs=[.int s,.int g]) (_:Q (.int (uM s g)) H)
theorem Ly (F:Z0 K "way_of" zq f fd):au P w K mg base aZ 1 f fd ["start","goal"] pM:=by
 rwa[F.ok G5 (by symm) @o];obtain ⟨s,g,rfl,q⟩:=h;rwa[⟨_,@j,?_⟩];unfold uM at q;by_cases h:s<g
 ·rw [if_pos h] at q;left;exact q
 ·rw [if_neg h] at q;left;exact q
theorem FV (rs:List aH):rf (.lst @K)<=60:=by
 have:deps @K<=1:=by
  induction rs with
  |nil=>decide
  |cons r rs ih=>show max (rf @ey) (deps @K)<=1;exact Nat.max_le.mpr ⟨(by show max 0 (max 0 (max 0 (max 0 0)))+1<=1;lia),ih⟩
 show deps @K+1<=60;lia
def tk (room:Int)(ps:List (Int×Int))(rs:List aH)(f:Int):Bool:=ps.any (λp=>decide (p.2=f))||(decide ((ps.length:Int)<room)&&rs.any (λr=>decide (r.start=f)))
def CY (t:Int->Bool)(f u:Int):Prop:=(u=0/\∀j:Int,1<=j->j<=7->t (f+j)=false)\/(1<=u/\u<=7/\t (f+u)=true/\∀j:Int,1<=j->j<u->t (f+j)=false)
def CZ (t:Int->Bool)(f d:Int):Prop:=(d=0/\∀j:Int,1<=j->j<=7->j<=f->t (f - j)=false)\/(1<=d/\d<=7/\d<=f/\t (f - d)=true/\∀j:Int,1<=j->j<d->t (f - j)=false)
def JZ (ps:List (Int×Int))(f:Int):Bool:=ps.any λp=>decide (p.2=f)
def Jv (rs:List aH)(f li:Int):Bool:=rs.any λr=>decide (r.start=f)&&decide (uM r.start r.goal=li)
noncomputable def lB (so:Str)(li:Int)(t0 ab al:Bool):Int:=if t0=false then 0 else if so=s!"free"\/li=0 then 2 else if ab=true\/al=true then 2 else 1
def PR (ps:List (Int×Int))(rs:List aH):Prop:=(∀p∈ps,0<=p.2/\p.2<8)/\(∀r∈rs,0<=r.start/\r.start<8)/\ps.length<=64/\rs.length<=64
theorem mW (ks:List Nat)(i:Nat):(og ks).testBit i=decide (i∈ks):=by
 unfold og;rw [qJ];simp
theorem xn {ks:List Nat}(h:∀k∈ks,k<8):og ks<2^8:=Nat.lt_pow_two_of_testBit _ λi hi=>by
 rw [mW]
 exact decide_eq_false λz=>by have:=h i z;lia
theorem FC {ps:List (Int×Int)}(h:∀p∈ps,0<=p.2/\p.2<8):dL ps=vN @cZ:=by
 unfold dL vN;rw [map_map];rwa[map_congr_left λp G=> ?_];show V.int p.2=V.int ((p.2.toNat:Nat):Int);rw [Int.toNat_of_nonneg (h p G).1]
def dh (rs:List aH):List V:=rs.map λr=>V.int r.start
theorem Bt {rs:List aH}(h:∀r∈rs,0<=r.start/\r.start<8):dh rs=vN (rs.map λr=>r.start.toNat):=by
 unfold dh vN;rw [map_map];rwa[map_congr_left λp G=> ?_];show V.int p.start=V.int ((p.start.toNat:Nat):Int);rw [Int.toNat_of_nonneg (h p G).1]
theorem ue {ps:List (Int×Int)}(h:∀p∈ps,0<=p.2/\p.2<8)(i:Nat):decide (i∈ps.map λp=>p.2.toNat)=ps.any λp=>decide (p.2=(i:Int)):=by
 rw [Bool.eq_iff_iff,decide_eq_true_eq,mem_map,any_eq_true];constructor
 ·rintro ⟨p,G,e⟩;exact ⟨p,G,decide_eq_true (by have:=h p G;lia)⟩
 ·rintro ⟨p,G,e⟩;exact ⟨p,G,by have:=of_decide_eq_true e;lia⟩
theorem zU {rs:List aH}(h:∀r∈rs,0<=r.start/\r.start<8)(i:Nat):decide (i∈rs.map λr=>r.start.toNat)=rs.any λr=>decide (r.start=(i:Int)):=by
 rw [Bool.eq_iff_iff,decide_eq_true_eq,mem_map,any_eq_true];constructor
 ·rintro ⟨p,G,e⟩;exact ⟨p,G,decide_eq_true (by have:=h p G;lia)⟩
 ·rintro ⟨p,G,e⟩;exact ⟨p,G,by have:=of_decide_eq_true e;lia⟩
theorem m6 (ps:List (Int×Int)):(dL ps).length=ps.length:=by unfold dL;rw [length_map]
inductive uP (K:Fg)(vs:List V)(H:Hp)(Q:VK)(_e:XK):Prop
 |mk (room c p pl li dr mk ps xs:_) (rs:List aH) (_:vs=[.int room,.ref c,.ref p]) (_:bQ K H c pl li dr mk ps) (_:H p=some (.lst xs)) (_:ax K H xs @K) (_:PR ps rs) (_:∀(M:Nat) H',aj H H'->(∀i:Nat,M.testBit i=tk room ps rs i)->M<2^8->Q (.int (M:Int)) H')
theorem EH (F:Z0 K "tasks_of" qq f fd)(aU:mg "len"=none)(cg:aR P w K mg base 1 "goals_aboard" ["cabin"] (gJ K))(rJ:aR P w K mg base 3 "mask_of" ["numbers"] (kJ K)):au P w K mg base aZ 4 f fd ["room","cabin","riders"] (uP K):=by
 rwa[F.ok BC (by symm) (λae A outer s H vs Q E hr h=> ?_)];obtain ⟨I,c,p,pl,li,dr,mk,ps,xs,z,rfl,hc,ep,dp,j,q⟩:=h;have xl:=aD dp;have ad:=j.2.2.2;have ab:=j.2.2.1;rwa[⟨_,(aa @a (aa @U (ac (ao (b7 rJ hr @b rfl (aq (bZ @ci (wv 3) (bb rfl @Q @a @w @r (λC s H ex=>(wv 1)))) am)))))),?_⟩];left;rwa[gJ.mk _ _ _ _ _ _ rfl hc @c λg H1 L n1 e1=> ?_];have ev:=FC j.1;left;rw [m6];rwa[eh @ct @ct]
 ·left
  refine kJ.mk _ @cZ rfl (aA.of (by rw [<-ev];exact e1)) (λk R=>by
   obtain ⟨p,G,rfl⟩:=mem_map.mp R
   have:=j.1 p G;lia) ?_
  refine q _ H1 L (λi=> ?_) (xn λk R=>by
   obtain ⟨p,G,rfl⟩:=mem_map.mp R
   have:=j.1 p G;lia)
  rw [mW,ue j.1];unfold tk;rw [decide_eq_false (show ¬(ps.length:Int)<I by lia),Bool.false_and,Bool.or_false]
 ·left;rwa[bK @bX ?_];rwa[bu (xs:=xs) (λi ys H'=>H'=H1/\ys=(dh z).take i) @S (λi ys H' p=>by rw [p.2,length_take];exact Nat.min_le_left _ _) ⟨rfl,rfl⟩ (λi ys H' _ p=>by rw [p.1];exact L.seq (aA.of ep)) (λi x ys H' W p=> ?_) (λys H' p J n2=> ?_)]
  ·obtain ⟨rfl,rfl⟩:=p;obtain ⟨r,U,Y⟩:=bc dp W;obtain ⟨u,us,rfl,hu,O⟩:=Y.outT
   cases O with|cons q0 r0=>cases r0 with|cons q1 r1=>cases r1 with|cons q2 r2=>cases r2 with|cons q3 r3=>
   cases r3;cases q0.isInt;cases q1.isInt;cases q2.isInt;cases q3.isInt;left;rwa[⟨pK,?_⟩];left;rwa[⟨rfl,?_⟩];rw [take_succ];congr 1;unfold dh;rw [getElem?_map,U];rfl
  ·obtain ⟨rfl,rfl⟩:=p
   have e2:upd H' J (.lst ((dh z).take xs.length)) J=some (.lst (dh z)):=by rw [af,take_of_length_le (by unfold dh;rw [length_map];lia)]
   have Z:aj H' (upd H' J (.lst ((dh z).take xs.length))):= .upd n2;generalize upd H' J (.lst ((dh z).take xs.length))=H2 at e2 Z ⊢
   have sl:(dh z).length=z.length:=by unfold dh;rw [length_map]
   erw[F7 (Z.get e1) e2 (bt (by rw [m6,sl];lia)) λl3 H3 s3 n3 e3=> ?_];have S:=Bt j.2.1
   refine kJ.mk _ (@cZ++z.map λr=>r.start.toNat) rfl (aA.of (by rw [e3,ev,S];unfold vN;rw [map_append])) (λk R=>by
    rcases mem_append.mp R with R|R
    ·obtain ⟨p,G,rfl⟩:=mem_map.mp R;have:=j.1 p G;lia
    ·obtain ⟨p,G,rfl⟩:=mem_map.mp R
     have:=j.2.1 p G;lia) ?_
   refine q _ H3 ((L.trans Z).trans s3) (λi=> ?_) (xn λk R=>by
    rcases mem_append.mp R with R|R
    ·obtain ⟨p,G,rfl⟩:=mem_map.mp R;have:=j.1 p G;lia
    ·obtain ⟨p,G,rfl⟩:=mem_map.mp R
     have:=j.2.1 p G;lia)
   rw [mW];unfold tk;rw [decide_eq_true (show (ps.length:Int)<I by lia),Bool.true_and,<-ue j.1,<-zU j.2.1,<-Bool.decide_or];exact decide_eq_decide.mpr mem_append
inductive uZ (K:Fg)(vs:List V)(H:Hp)(Q:VK)(_e:XK):Prop
 |mk (f li p xs:_) (rs:List aH) (_:vs=[.int f,.int li,.ref p]) (_:H p=some (.lst xs)) (_:ax K H xs @K) (_:rs.length<=64) (_:∀H',aj H H'->Q (.bl (Jv rs f li)) H')
def iC (rs:List aH)(f:Int):List V:=(rs.filter λr=>decide (r.start=f)).map λr=>V.int (uM r.start r.goal)
theorem IY {rs:List aH}{f li:Int}:yu (.int li) (iC rs f)=Jv rs f li:=by
 unfold yu iC Jv;rw [any_map,any_filter];rfl
theorem E5 (F:Z0 K "goes_along" j6 f fd)(ib:aR P w K mg base 1 "way_of" ["start","goal"] pM):au P w K mg base aZ 2 f fd ["floor","light","riders"] (uZ K):=by
 rwa[F.ok nZ (by symm) (λW A outer s H vs Q E hr h=> ?_)];obtain ⟨f,li,p,xs,j,rfl,S,O,ad,q⟩:=h;have xl:=aD O;rwa[⟨_,(aa (gE (i:=3) rfl nZ.nd rfl @q (ay (N':=["tag","start","goal","lift","floor"]) (pk:=[none,none,none,none,some 0]) @l) @a @w @N @h) @j),?_⟩];rwa[bK (aA.of S) ?_]
 refine bu (xs:=xs) (λi ys H'=>H'=H/\ys=iC (j.take i) f) @S (λi ys H' p=>by
  rw [p.2];unfold iC;rw [length_map];have:=length_filter_le (λr:aH=>decide (r.start=f)) (j.take i);rw [length_take] at this;lia) ⟨rfl,rfl⟩ (λi ys H' _ p=>by rw [p.1];exact aA.of S) (λi x ys H' J p=> ?_) (λys H' p I Z=> ?_)
 ·obtain ⟨rfl,rfl⟩:=p;obtain ⟨r,G,Y⟩:=bc O J;obtain ⟨u,us,rfl,hu,L⟩:=Y.outT
  cases L with|cons q0 r0=>cases r0 with|cons q1 r1=>cases r1 with|cons q2 r2=>cases r2 with|cons q3 r3=>
  cases r3;cases q0.isInt;cases q1.isInt;cases q2.isInt;cases q3.isInt;left;rwa[⟨pK,?_⟩];show if decide (r.start=f)=true then _ else _
  have e:iC (j.take (i+1)) f=iC (j.take i) f++if decide (r.start=f)=true then [V.int (uM r.start r.goal)] else []:=by
   unfold iC;rw [take_succ,G,filter_append,map_append];congr 1;cases z:decide (r.start=f)<;>simp [z]
  by_cases h1:r.start=f
  ·rw [if_pos @ej];rwa[pM.mk _ _ rfl ?_];rw [e,if_pos @ej];exact ⟨rfl,rfl⟩
  ·rw [if_neg (by rw [decide_eq_false h1];decide),e,if_neg (by rw [decide_eq_false h1];decide),append_nil];exact ⟨rfl,rfl⟩
 ·obtain ⟨rfl,rfl⟩:=p
  have U:upd H' I (.lst @cV) I=some (.lst (iC j f)):=by rw [af,take_of_length_le @c]
  have R:aj H' (upd H' I (.lst @cV)):= .upd Z;generalize upd H' I (.lst @cV)=H2 at U R ⊢;rwa[yY (aA.of U) rfl ?_ ?_]
  ·rwa[all_eq_true.mpr λx hx=> ?_];obtain ⟨r,_,rfl⟩:=mem_map.mp hx;rfl
  ·rw [IY];exact q H2 R
inductive yU (K:Fg)(vs:List V)(H:Hp)(Q:VK)(_e:XK):Prop
 |mk (so c p pl li dr mk ps xs:_) (rs:List aH) (M f0:Nat) (_:vs=[.str so,.ref c,.int (M:Int),.ref p]) (_:bQ K H c pl li dr mk ps) (_:H p=some (.lst xs)) (_:ax K H xs @K) (_:PR ps rs) (_:pl=2*(f0:Int)) (_:f0<8) (_:∀H',aj H H'->Q (.int (lB so li (M.testBit f0) (JZ ps f0) (Jv rs f0 li))) H')
theorem Fx {f:Int}{ps:List (Int×Int)}:yu (.int f) (dL ps)=JZ ps f:=by
 unfold yu dL JZ;rw [any_map];rfl
theorem rc (ps:List (Int×Int)):(dL ps).all c6=true:=by
 rwa[all_eq_true.mpr λx z=> ?_];obtain ⟨p,_,rfl⟩:=mem_map.mp z;rfl
abbrev Z02:=λP w K mg base=>aR P w K mg base 1 "floor_of" ["cabin"] (cr K)
theorem Ix (F:Z0 K "here_of" vz f fd)(bU:Z02 P w K mg base)(oO:Z04 P w K mg base)(cg:aR P w K mg base 1 "goals_aboard" ["cabin"] (gJ K))(oB:aR P w K mg base 2 "goes_along" ["floor","light","riders"] (uZ K)):au P w K mg base aZ 3 f fd ["sort","cabin","tasks","riders"] (yU K):=by
 rwa[F.ok DZ (by symm) (λaf A outer s H vs Q E hr h=> ?_)];obtain ⟨S,c,p,pl,li,dr,mk,ps,xs,rs,M,U,rfl,I,ep,Z,O,ad,W,q⟩:=h;obtain ⟨b,bs,ec,eb,db⟩:=id I;have ae:=O.2.2.2;have ab:=O.2.2.1;rwa[⟨_,(aa @a (aa @a (aa (aB (d6 @a) @eG ar) (aa (aB @a @eG ar) @j)))),?_⟩]
 have e0:pl / 2=(U:Int):=by lia
 left;rwa[cr.mk _ _ _ _ _ _ rfl I ?_];rw [e0];left;rwa[fw.mk _ _ rfl @c ?_];unfold lB at q
 cases J:M.testBit U with
 |false=>rw [J,if_pos rfl] at q;left;exact q H (.refl _)
 |true=>
  rw [J,if_neg @b] at q;left;by_cases h1:S=s!"free"
  ·rw [if_pos (.inl h1)] at q;left;exact q H (.refl _)
  ·by_cases h2:li=0
   ·rw [if_pos (.inr h2)] at q;left;exact q H (.refl _)
   ·rw [if_neg (λz=>z.elim h1 h2)] at q;left;rwa[gJ.mk _ _ _ _ _ _ rfl I @c λg H1 L n1 Y=> ?_];rwa[yY (aA.of Y) rfl (rc ps) ?_];rw [Fx]
    cases R:JZ ps U with
    |true=>rw [R,if_pos (.inl rfl)] at q;left;exact q H1 L
    |false=>
     rw [R] at q;left;rwa[uZ.mk _ _ _ _ _ rfl (L.get ep) (ax.same Z L) @c λH2 G=> ?_]
     cases j:Jv rs U li with
     |true=>rw [j,if_pos (.inr rfl)] at q;left;exact q H2 (L.trans G)
     |false=>rw [j,if_neg @b] at q;left;exact q H2 (L.trans G)
theorem yi (M:Nat):(jB M).Pairwise (· < ·):=List.Pairwise.filter _ pairwise_lt_range
theorem nz (M n i:Nat):(M - M% 2^(n+1)).testBit i=(M.testBit i&&decide (n<i)):=by
 have e:M - M% 2^(n+1)=2^(n+1)*(M / 2^(n+1)):=by have:=Nat.div_add_mod M (2^(n+1));lia
 rw [e,Nat.testBit_two_pow_mul,Nat.testBit_div_two_pow];by_cases h:n<i
 ·rw [decide_eq_true h,decide_eq_true (show i≥n+1 from h),Nat.sub_add_cancel h,Bool.true_and,Bool.and_true]
 ·rw [decide_eq_false h,decide_eq_false (show ¬i≥n+1 by lia),Bool.false_and,Bool.and_false]
theorem NS {M n:Nat}{t:Int->Bool}(J:∀i:Nat,M.testBit i=t i)(R:M<2^8):CY t n (match ((jB (M - M% 2^(n+1)))[(0:Nat)]? :Option Nat) with|none=>0|some k=>(k:Int) - n):=by
 cases I:jB (M - M% 2^(n+1)) with
 |nil=>
  rwa[.inl ⟨rfl,λj O Y=> ?_⟩];have W:=Ge.mp I;have:=nz M n (n+j.toNat);rw [W,Nat.zero_testBit,decide_eq_true @c,Bool.and_true,J] at this;rw [<-this.symm];congr 1;lia
 |cons k ks=>
  have hs:=yi (M - M% 2^(n+1));rw [I] at hs
  have S:k∈jB (M - M% 2^(n+1)):=by rw [I];exact .head _
  have F:=lu.mp S;rw [nz,Bool.and_eq_true] at F;have Z:=of_decide_eq_true F.2;have k8:k<8:=Bi (M:=M) R (lu.mpr F.1);rwa[.inr ⟨by show 1<=(k:Int) - n;lia,by show (k:Int) - n<=7;lia,?_,λj O L=> ?_⟩]
  ·show t ((n:Int)+((k:Int) - n))=true;rw [show (n:Int)+((k:Int) - n)=(k:Int) by lia,<-J];exact F.1
  ·have L:j<(k:Int) - n:=L
   cases z:t ((n:Int)+j) with
   |false=>rfl
   |true=>
    have U:M.testBit (n+j.toNat)=true:=by rw [J,<-z];congr 1;lia
    have G:n+j.toNat∈jB (M - M% 2^(n+1)):=lu.mpr (by rw [nz,U,decide_eq_true @c];rfl);rw [I] at G
    rcases mem_cons.mp G with e|G
    ·lia
    ·have:=rel_of_pairwise_cons hs G;lia
theorem O2 {M n:Nat}{t:Int->Bool}(Y:n<8)(J:∀i:Nat,M.testBit i=t i)(O:M<2^8):CZ t n (match (if M% 2^n=0 then none else some (L (M% 2^n) - 1):Option Nat) with|none=>0|some k=>(n:Int) - k):=by
 by_cases F:M% 2^n=0
 ·rw [if_pos F];rwa[.inl ⟨rfl,λj I j7 U=> ?_⟩];have:=Nat.testBit_mod_two_pow M n (n - j.toNat);rw [F,Nat.zero_testBit,decide_eq_true @c,Bool.true_and,J] at this;rw [<-this.symm];congr 1;lia
 ·rw [if_neg F];have R:=AC F;have W:=Po (M% 2^n);rw [Nat.testBit_mod_two_pow,Bool.and_eq_true] at R;have Z:=of_decide_eq_true R.1;have k8:L (M% 2^n) - 1<8:=Bi (M:=M) O (lu.mpr R.2);rwa[.inr ⟨by show 1<=(n:Int) - ((L (M% 2^n) - 1:Nat):Int);lia,?_,by show (n:Int) - ((L (M% 2^n) - 1:Nat):Int)<=n;lia,?_,λj I G=> ?_⟩]
  ·show (n:Int) - ((L (M% 2^n) - 1:Nat):Int)<=7;lia
  ·show t ((n:Int) - ((n:Int) - ((L (M% 2^n) - 1:Nat):Int)))=true;rw [show (n:Int) - ((n:Int) - ((L (M% 2^n) - 1:Nat):Int))=((L (M% 2^n) - 1:Nat):Int) by lia,<-J];exact R.2
  ·have G:j<(n:Int) - ((L (M% 2^n) - 1:Nat):Int):=G
   cases z:t ((n:Int) - j) with
   |false=>rfl
   |true=>
    have S:(M% 2^n).testBit (n - j.toNat)=true:=by rw [Nat.testBit_mod_two_pow,decide_eq_true @c,J,Bool.true_and,<-z];congr 1;lia
    have:=Nat.testBit_lt_two_pow (Nat.lt_of_lt_of_le W (Nat.pow_le_pow_right @b (show L (M% 2^n)<=n - j.toNat by lia)));rw [S] at this;cases this
noncomputable def JJ (room:Int)(so:Str)(li:Int)(ps:List (Int×Int))(rs:List aH)(f0:Nat)(u d:Int):List V:=[.int (f0:Int),.int li,.int (lB so li (tk room ps rs f0) (JZ ps f0) (Jv rs f0 li)),.int u,.int d]
inductive yL (K:Fg)(vs:List V)(H:Hp)(Q:VK)(_e:XK):Prop
 |mk (so room c p pl li dr mk ps xs:_) (rs:List aH) (f0:Nat) (_:vs=[.str so,.int room,.ref c,.ref p]) (_:bQ K H c pl li dr mk ps) (_:H p=some (.lst xs)) (_:ax K H xs @K) (_:PR ps rs) (_:pl=2*(f0:Int)) (_:f0<8) (_:∀r u d H',aj H H'->CY (tk room ps rs) f0 u->CZ (tk room ps rs) f0 d->H' r=some (.tup (JJ room so li ps rs f0 u d))->Q (.ref r) H')
theorem ON {M n:Nat}(h:M<2^8):M - n<2^200:=Nat.lt_of_le_of_lt (Nat.sub_le _ _) (Nat.lt_trans h @b)
theorem Ih (F:Z0 K "view" D7 f fd)(bU:Z02 P w K mg base)(uB:aR P w K mg base 4 "tasks_of" ["room","cabin","riders"] (uP K))(Gc:aR P w K mg base 3 "above" ["mask","k"] u6)(Bd:aR P w K mg base 4 "lowest" ["mask"] pO)(wg:aR P w K mg base 2 "below" ["mask","k"] kQ)(x9:aR P w K mg base 1 "highest" ["mask"] mq)(ya:aR P w K mg base 3 "here_of" ["sort","cabin","tasks","riders"] (yU K)):au P w K mg base aZ 5 f fd ["sort","room","cabin","riders"] (yL K):=by
 rwa[F.ok KY (by symm) (λah A outer s H vs Q E hr h=> ?_)];obtain ⟨so,I,c,p,pl,li,dr,mk,ps,xs,Z,j,rfl,J,ep,dp,hf,ad,W,q⟩:=h;obtain ⟨b,bs,ec,eb,db⟩:=id J;rwa[⟨_,(aa @a (aa @a (aa @a (aa @a @cW)))),?_⟩]
 have e0:pl / 2=(j:Int):=by lia
 rwa[cr.mk _ _ _ _ _ _ rfl J ?_];rw [e0];rwa[uP.mk _ _ _ _ _ _ _ _ _ _ rfl J ep dp hf λM H1 s1 hM Y=> ?_];rwa[u6.mk _ _ rfl @c ?_];rwa[pO.mk _ rfl (ON Y) λH2 s2=> ?_];have U:=NS (n:=j) hM Y;generalize ((jB (M - M% 2^(j+1)))[(0:Nat)]? :Option Nat)=ou at U ⊢;rwa[kQ.mk _ _ rfl @c ?_];rwa[mq.mk _ rfl ?_];have D:=O2 (n:=j) W hM Y;generalize (if M% 2^j=0 then none else some (L (M% 2^j) - 1):Option Nat)=od at D ⊢;have O:=s1.trans s2;have G:=J.same O;have ae:∀u d:Int,CY (tk I ps Z) j u->CZ (tk I ps Z) j d->∀r R z,aj H2 R->aj R z->z r=some (.tup (JJ I so li ps Z j u d))->Q (.ref r) z:=λu d U D r R z s5 S e6=>q r u d z ((O.trans s5).trans S) U D e6;obtain ⟨b2,af,ab,_⟩:=id G;cases ou<;>cases od
 all_goals
  ext
  first|refine bL rfl ?_|refine be rfl ?_
  ext
  first|refine bL rfl ?_|refine be rfl ?_
  rwa[ag (aC.of ab) rfl ?_];rwa[yU.mk _ _ _ _ _ _ _ _ _ _ _ _ rfl G (O.get ep) (ax.same dp O) hf ad W λR s5=> ?_];rw [hM];exact bX QI λr z S _ e6=>ae _ _ U D r _ _ s5 S e6
theorem Cw {pl:Int}{f0:Int}{ps:List (Int×Int)}(h:pl=2*f0):yu (.int (pl / 2)) (dL ps)=ps.any (λp=>decide (2*p.2=pl)):=by
 unfold yu dL;rw [any_map];congr 1
 funext p
 show (p.2==pl / 2)=decide (2*p.2=pl);by_cases e:p.2=pl / 2
 ·rw [decide_eq_true @c,beq_iff_eq];exact e
 ·rw [decide_eq_false @c,beq_eq_false_iff_ne];exact e
inductive mh (K:Fg)(vs:List V)(H:Hp)(Q:VK)(_e:XK):Prop
 |mk (so c wd pl li dr mk ps f0:_) (_:vs=[.str so,.ref c,.str wd]) (_:bQ K H c pl li dr mk ps) (_:pF ps) (_:pl=2*f0) (_: -1<=li) (_:li<=1) (_:∀H',aj H H'->Q (.str @cK) H')
theorem zN (F:Z0 K "turned" vd f fd)(aU:mg "len"=none)(bU:Z02 P w K mg base)(cg:aR P w K mg base 1 "goals_aboard" ["cabin"] (gJ K)):au P w K mg base aZ 2 f fd ["sort","cabin","word"] (mh K):=by
 rwa[F.ok DO (by symm) @i];obtain ⟨so,c,J,pl,li,dr,mk,ps,f0,rfl,I,hg,j,W,ad,q⟩:=h;obtain ⟨b,xs,ec,eb,dx⟩:=id I;rwa[⟨_,(aa @a (aa @a (aa (aB @a @bO ar) (aa @bY (aa @bY @bO))))),?_⟩];unfold cq at q;left;rwa[gJ.mk _ _ _ _ _ _ rfl I hg.1 λp H1 L n1 S=> ?_];left;rwa[eh @ct @ct]
 ·rw [if_pos (.inl h1)] at q;left;exact q H1 L
 left;rw [m6];rwa[eh @bJ @bJ]
 ·rw [if_pos (.inr (length_eq_zero_iff.mp @c))] at q;left;exact q H1 L
 rw [if_neg (λz=>z.elim h1 λz=>h2 (by rw [z];rfl))] at q;left;rwa[cr.mk _ _ _ _ _ _ rfl @cC ?_];left;rwa[yY (aA.of S) rfl (rc ps) ?_];rw [Cw j];rwa[q9 (λG=> ?_) (λG=> ?_)]
 ·rw [if_pos G] at q;left;exact q H1 L
 rw [if_neg (by rw [G];decide)] at q;left;rwa[eh (λO=> ?_) (λO=> ?_)]
 ·rw [if_pos O] at q;left;exact q H1 L
 rw [if_neg O] at q;by_cases U:J=s!"u"
 ·have R: ¬J=s!"d":=by rw [U];decide
  by_cases Y:li= -1
  ·rw [if_pos (.inl ⟨U,by lia⟩)] at q;left;exact q H1 L
  ·rw [if_neg (λz=>z.elim (λz=>Y @c) @dZ)] at q;left;exact q H1 L
 ·by_cases R:J=s!"d"
  ·by_cases Z:li=1
   ·rw [if_pos (.inr ⟨R,by lia⟩)] at q;left;exact q H1 L
   ·rw [if_neg (λz=>z.elim (λz=>U z.1) (λz=>Z @c))] at q;left;exact q H1 L
  ·rw [if_neg (λz=>z.elim (λz=>U z.1) @dZ)] at q;left;exact q H1 L
noncomputable def ba (fl pl:Int)(x:Str):Str:=if x=s!"u"/\pl / 2=fl - 1 then s!"s" else if x=s!"d"/\pl / 2=0 then s!"s" else x
inductive ms (K:Fg)(vs:List V)(H:Hp)(Q:VK)(_e:XK):Prop
 |mk (fl c wd pl li dr mk ps:_) (_:vs=[.int fl,.ref c,.str wd]) (_:bQ K H c pl li dr mk ps) (_:Q (.str (ba fl pl wd)) H)
theorem zQ (F:Z0 K "bounded" qD f fd)(O:Z02 P w K mg base):au P w K mg base aZ 2 f fd ["floors","cabin","word"] (ms K):=by
 rwa[F.ok BP (by symm) (λG A outer s H L Q E S h=> ?_)];obtain ⟨fl,c,j,pl,li,dr,J,ps,rfl,I,q⟩:=h;rwa[⟨_,(aa @bY (aa @bY @bO)),?_⟩];unfold ba at q;by_cases h1:j=s!"u"
 ·have R: ¬j=s!"d":=by rw [h1];decide
  left;rwa[cr.mk _ _ _ _ _ _ rfl I ?_];rwa[eh @bJ @bJ]
  ·rw [if_pos ⟨h1,h2⟩] at q;left;exact q
  ·rw [if_neg (λz=>h2 z.2),if_neg @dZ] at q;left;exact q
 ·by_cases R:j=s!"d"
  ·left;rwa[cr.mk _ _ _ _ _ _ rfl I ?_];rwa[eh @bJ @bJ]
   ·rw [if_neg @fa,if_pos ⟨R,h2⟩] at q;left;exact q
   ·rw [if_neg @fa,if_neg (λz=>h2 z.2)] at q;left;exact q
  ·rw [if_neg @fa,if_neg @dZ] at q;left;exact q
inductive d5 (K:Fg)(vs:List V)(H:Hp)(Q:VK)(_e:XK):Prop
 |mk (c p l d pl li dr mk ps:_) (_:vs=[.ref c,.int p,.int l,.int d]) (_:bQ K H c pl li dr mk ps) (_:∀r H',aj H H'->bQ K H' r p l d mk ps->Q (.ref r) H')
theorem Ig (F:Z0 K "with_changes" gL f fd):au P w K mg base aZ 1 f fd ["cabin","place","light","door"] (d5 K):=by
 rwa[F.ok sh (by symm) (λj A outer s H J Q E S h=> ?_)];obtain ⟨c,p,l,d,pl,li,dr,z,ps,rfl,I,q⟩:=h;obtain ⟨b,xs,G,U,dx⟩:=id I;rwa[⟨_,@j,?_⟩];left;exact bX QI λr H1 L _ R=>q r H1 L ⟨b,xs,R,L.get U,ax.same dx L⟩
theorem Rh {fl pl:Int}:ba fl pl "o"=s!"o":=by unfold ba;rw [if_neg @s,if_neg @s]
theorem Rf {fl pl:Int}:ba fl pl "x"=s!"x":=by unfold ba;rw [if_neg @s,if_neg @s]
theorem Rg {fl pl:Int}:ba fl pl "s"=s!"s":=by unfold ba;rw [if_neg @s,if_neg @s]
theorem O9 {fl pl:Int}(h:pl / 2=fl - 1):ba fl pl "u"=s!"s":=by unfold ba;rw [if_pos ⟨rfl,h⟩]
theorem Pa {fl pl:Int}(h: ¬pl / 2=fl - 1):ba fl pl "u"=s!"u":=by unfold ba;rw [if_neg @dY,if_neg @s]
theorem Pb {fl pl:Int}(h:pl / 2=0):ba fl pl "d"=s!"s":=by unfold ba;rw [if_neg @s,if_pos ⟨rfl,h⟩]
theorem Pc {fl pl:Int}(h: ¬pl / 2=0):ba fl pl "d"=s!"d":=by unfold ba;rw [if_neg @s,if_neg @dY]
inductive me (K:Fg)(vs:List V)(H:Hp)(Q:VK)(_e:XK):Prop
 |mk (so fl tu c wd pl li dr mk ps f0:_) (_:vs=[.str so,.int fl,.int tu,.ref c,.str wd]) (_:bQ K H c pl li dr mk ps) (_:wd∈gG) (_:pF ps) (_:pl=2*f0) (_:0<=f0) (_:f0<fl) (_: -1<=li) (_:li<=1) (_:∀r H',aj H H'->bQ K H' r (d9 fl tu pl li dr ps @cK).1 (d9 fl tu pl li dr ps @cK).2.1 (d9 fl tu pl li dr ps @cK).2.2 mk ps->Q (.ref r) H')
theorem Dy {H:Hp}{so:Str}{fl tu:Int}{c:Addr}{j:Str}{pl li dr z:Int}{ps:List (Int×Int)}{f0:Int}{Q:VK}{E:XK}(h1:bQ K H c pl li dr z ps)(h2:j∈gG)(L:pF ps)(F:pl=2*f0)(U:0<=f0)(I:f0<fl)(R: -1<=li)(G:li<=1)
(g:∀r H',aj H H'->bQ K H' r (d9 fl tu pl li dr ps @ez).1 (d9 fl tu pl li dr ps @ez).2.1 (d9 fl tu pl li dr ps @ez).2.2 z ps->Q (.ref r) H'):me K [.str so,.int fl,.int tu,.ref c,.str j] H Q E:=⟨so,fl,tu,c,j,pl,li,dr,z,ps,f0,rfl,h1,h2,L,F,U,I,R,G,g⟩
theorem MA {fl tu pl li dr:Int}{ps:List (Int×Int)}{F:Str}(j:0<=pl)(h1:pl / 2<fl)(h2:pl% 2=0)(z:F∈gG):d9 fl tu pl li dr ps F=if ba fl pl F=s!"o" then (pl,li,tu) else if ba fl pl F=s!"x" then (pl,0,tu) else if ba fl pl F=s!"u" then (pl+1,1,dr) else if ba fl pl F=s!"d" then (pl - 1,-1,dr) else (pl,if ps=[] then 0 else li,dr):=by
 have L: ¬s!"s"=s!"o":=by decide+kernel
 have R: ¬s!"s"=s!"x":=by decide+kernel
 have O: ¬s!"s"=s!"u":=by decide+kernel
 have J: ¬s!"s"=s!"d":=by decide+kernel
 rcases Q8 z with rfl|rfl|rfl|rfl|rfl
 ·rw [Rh,O0,if_pos rfl]
 ·rw [Rf,OY,if_neg @g,if_pos rfl]
 ·by_cases h:pl / 2=fl - 1
  ·rw [O9 h,Mw @c,if_neg L,if_neg R,if_neg O,if_neg J]
  ·rw [Pa h,Mv @c,if_neg @g,if_neg @g,if_pos rfl]
 ·by_cases h:pl / 2=0
  ·rw [Pb h,Mz @c,if_neg L,if_neg R,if_neg O,if_neg J]
  ·rw [Pc h,Mx @c,if_neg @g,if_neg @g,if_neg @g,if_pos rfl]
 ·rw [Rg,OZ,if_neg L,if_neg R,if_neg O,if_neg J]
abbrev Z03:=λP w K mg base=>aR P w K mg base 1 "with_changes" ["cabin","place","light","door"] (d5 K)
theorem zM (F:Z0 K "steered" qr f fd)(aU:mg "len"=none)(Bc:aR P w K mg base 2 "turned" ["sort","cabin","word"] (mh K))(yf:aR P w K mg base 2 "bounded" ["floors","cabin","word"] (ms K))(cf:Z03 P w K mg base):au P w K mg base aZ 3 f fd ["sort","floors","turns","cabin","word"] (me K):=by
 rwa[F.ok BD (by symm) @P];obtain ⟨so,fl,tu,c,wd,pl,li,dr,mk,ps,f0,rfl,I,hw,hg,Z,ae,af,U,ab,q⟩:=h;obtain ⟨b,xs,ec,eb,dx⟩:=id I;have hx:=aD dx;rwa[⟨_,(aa @a (aa @a (aa @a (aa @a (aa @U (aa @U (aa @U (aa @U @j)))))))),?_⟩];left;rwa[mh.mk _ _ _ _ _ _ _ _ _ rfl I hg Z U ab λH1 L=> ?_];rwa[ms.mk _ _ _ _ _ _ _ _ rfl @cC ?_];have R:=wL (so:=so) (pl:=pl) (li:=li) (ps:=ps) hw;generalize cq so pl li ps wd=w' at R q ⊢;have j:=MA (fl:=fl) (tu:=tu) (li:=li) (dr:=dr) (ps:=ps) (pl:=pl) @c @c @c R
 have O:∀J G Y,d9 fl tu pl li dr ps w'=(J,G,Y)->∀r H',aj H1 H'->bQ K H' r J G Y mk ps->Q (.ref r) H':=λJ G Y e r H' s2 er=>by
  rwa[q r H' (L.trans s2) ?_];rw [e];exact er
 generalize ba fl pl w'=x at j ⊢;rwa[eh @k @fK]
 ·ext;exact d5.mk _ _ _ _ _ _ _ _ _ rfl @cC (O _ _ _ (by rw [j,if_pos z]))
 rwa[eh @k @fJ]
 ·ext;exact d5.mk _ _ _ _ _ _ _ _ _ rfl @cC (O _ _ _ (by rw [j,if_neg S,if_pos z]))
 rwa[eh @k @ft]
 ·ext;exact d5.mk _ _ _ _ _ _ _ _ _ rfl @cC (O _ _ _ (by rw [j,if_neg S,if_neg W,if_pos z]))
 rwa[eh @k (λz4=> ?_)]
 ·ext;exact d5.mk _ _ _ _ _ _ _ _ _ rfl @cC (O _ _ _ (by rw [j,if_neg S,if_neg W,if_neg z3,if_pos z]))
 rw [if_neg S,if_neg W,if_neg z3,if_neg z4] at j;rwa[ag (aC.of (L _ _ ec)) rfl ?_];rwa[cI (aC.of (L _ _ eb)) ?_];rwa[eh @k @k]
 ·ext;exact d5.mk _ _ _ _ _ _ _ _ _ rfl @cC (O _ _ _ (by rw [j,if_neg (λy=>by subst y;rw [hx] at z;exact absurd z @b)]))
 ·ext;exact d5.mk _ _ _ _ _ _ _ _ _ rfl @cC (O _ _ _ (by rw [j,if_pos (length_eq_zero_iff.mp @c)]))
def De (r:aH):Int:=if r.start<r.goal then 1 else -1
structure GD where
 light:Int
 kept:List (Int×Int)
 ins:List Int
noncomputable def ju (so:Str)(room pl:Int)(s:GD)(r:aH):Bool:=decide (2*r.start=pl)&&decide ((s.kept.length:Int)<room)&&decide (so=s!"free"\/s.light=0\/s.light=De r)
noncomputable def im (so:Str)(room pl:Int)(s:GD)(r:aH):GD:=if ju so room pl s r=true then ⟨if so=s!"way" then De r else s.light,s.kept++[(r.tag,r.goal)],s.ins++[r.tag]⟩ else s
noncomputable def cW (so:Str)(room pl:Int)(s:GD)(rs:List aH):GD:=rs.foldl (im so room pl) s
theorem dg {so:Str}{room pl:Int}{s:GD}{rs:List aH}{i:Nat}{r:aH}(h:rs[i]? =some r):cW so room pl s (rs.take (i+1))=im so room pl (cW so room pl s @du) r:=by
 rw [take_succ,h];unfold cW;rw [foldl_append];rfl
theorem Dx {so:Str}{room pl:Int}(s:GD)(r:aH):(im so room pl s r).kept.length<=s.kept.length+1/\(im so room pl s r).ins.length<=s.ins.length+1:=by
 unfold im;split<;>simp
theorem lZ {so:Str}{room pl:Int}:∀(rs:List aH) (s:GD),(cW so room pl s rs).kept.length<=s.kept.length+rs.length/\(cW so room pl s rs).ins.length<=s.ins.length+rs.length
 |[],s=>⟨Nat.le_refl _,Nat.le_refl _⟩
 |r::rs,s=>by
  have h1:=lZ (so:=so) (room:=room) (pl:=pl) rs @ek;have h2:=Dx (so:=so) (room:=room) (pl:=pl) s r;show (cW so room pl @ek rs).kept.length<=_/\(cW so room pl @ek rs).ins.length<=_;rw [length_cons];lia
def iu (pl:Int)(ps:List (Int×Int)):List (Int×Int):=ps.filter λp=> !decide (2*p.2=pl)
def dz (pl:Int)(ps:List (Int×Int)):List Int:=(ps.filter λp=>decide (2*p.2=pl)).map (·.1)
noncomputable def vY (so:Str)(room pl li:Int)(ps:List (Int×Int))(rs:List aH):GD:=cW so room pl ⟨li,iu pl ps,[]⟩ rs
theorem jt {α:Type}(f:α->Bool){xs:List α}{i:Nat}{x:α}(h:xs[i]? =some x):(xs.take (i+1)).filter f=(xs.take i).filter f++if f x=true then [x] else []:=by
 rw [take_succ,h,filter_append];congr 1;cases e:f x<;>simp [e]
def tK (K:Fg)(H0 H:Hp)(n k:Addr)(ins:List Int)(kept:List (Int×Int)):Prop:=aj H0 H/\H0 n=none/\H0 k=none/\n≠k/\H n=some (.lst (ins.map V.int))/\∃ks,H k=some (.lst ks)/\ax K H ks (kept.map iR)
theorem tK.pushN {H0 H:Hp}{n k:Addr}{z:List Int}{j:List (Int×Int)}(g:tK K H0 H n k z j)(t:Int):tK K H0 (upd H n (.lst (z.map V.int++[.int t]))) n k (z++[t]) j:=by
 obtain ⟨s,F,R,L,G,ks,J,I⟩:=g;rwa[⟨aj.updF s F,F,R,L,by rw [af,map_append];rfl,ks,by rw [ak (Ne.symm L)];exact J,dA I (mV j) G⟩]
theorem tK.same {H0 H H':Hp}{n k:Addr}{z:List Int}{j:List (Int×Int)}(g:tK K H0 H n k z j)(s':aj H H'):tK K H0 H' n k z j:=by
 obtain ⟨s,G,R,L,F,ks,J,I⟩:=g;exact ⟨s.trans s',G,R,L,s'.get F,ks,s'.get J,ax.same I s'⟩
theorem tK.pushK {H0 H:Hp}{n k l:Addr}{z:List Int}{j:List (Int×Int)}{ks:List V}{t g:Int}(G:tK K H0 H n k z j)(L:H k=some (.lst ks))(S:H l=some (.tup [.int t,.int g])):tK K H0 (upd H k (.lst (ks++[.ref l]))) n k z (j++[(t,g)]):=by
 obtain ⟨s,O,R,I,J,W,F,U⟩:=G;rw [L] at F;cases F;rwa[⟨aj.updF s R,O,R,I,by rw [ak I];exact J,_,af,?_⟩];rw [map_append];exact Paired.app (dA U (mV j) L) (.cons (bH.noL (d:=iR (t,g)) (hI (aC.of S) (.cons (.int _) (.cons (.int _) .nil))) rfl L) .nil)
def Gn (K:Fg)(H0 H:Hp)(r:Addr)(pl li dr mk:Int)(kept:List (Int×Int))(outs ins:List Int):Prop:=∃c o n,H r=some (.tup [.ref c,.ref o,.ref n])/\bQ K H c pl li dr mk kept/\H o=some (.lst (outs.map V.int))/\H n=some (.lst (ins.map V.int))/\H0 o=none/\H0 n=none/\o≠n
inductive DC (vs:List V)(H:Hp)(Q:VK)(_e:XK):Prop
 |mk (so:_) (li s g:Int) (_:vs=[.str so,.int li,.int s,.int g]) (_:Q (.bl (decide (so=s!"free"\/li=0\/li=uM s g))) H)
theorem LF (F:Z0 K "may_step_in" jZ f fd)(G:aR P w K mg base 1 "way_of" ["start","goal"] pM):au P w K mg base aZ 2 f fd ["sort","light","start","goal"] DC:=by
 rwa[F.ok w6 (by symm) (λj A outer s H R Q E I h=> ?_)];obtain ⟨S,li,s,g,rfl,q⟩:=h;rwa[⟨_,@j,?_⟩];by_cases h1:S=s!"free"
 ·rw [decide_eq_true (.inl h1)] at q;left;exact q
 ·by_cases h2:li=0
  ·rw [decide_eq_true (.inr (.inl h2))] at q;left;exact q
  ·left;rwa[pM.mk _ _ rfl ?_];have e:decide (S=s!"free"\/li=0\/li=uM s g)=decide (uM s g=li):=decide_eq_decide.mpr ⟨λz=>by rcases z with z|z|z;exact absurd z h1;exact absurd z h2;exact z.symm,λz=> .inr (.inr z.symm)⟩;rw [e] at q;exact q
inductive yV (K:Fg)(vs:List V)(H:Hp)(Q:VK)(_e:XK):Prop
 |mk (so room c p pl li dr mk ps xs:_) (rs:List aH) (f0:Int) (_:vs=[.str so,.int room,.ref c,.ref p]) (_:bQ K H c pl li dr mk ps) (_:ps.length<=64) (_:H p=some (.lst xs)) (_:ax K H xs @K) (_:MP rs) (_:pl=2*f0) (_:∀r H',aj H H'->Gn K H H' r pl (vY so room pl li ps rs).light dr mk (vY so room pl li ps rs).kept (dz pl ps) (vY so room pl li ps rs).ins->Q (.ref r) H')
theorem OV {H:Hp}{so:Str}{room:Int}{c p:Addr}{pl li dr j:Int}{ps:List (Int×Int)}{xs:List V}{rs:List aH}{f0:Int}{Q:VK}{E:XK}(h1:bQ K H c pl li dr j ps)(h2:ps.length<=64)(L:H p=some (.lst xs))(z:ax K H xs @K)(U:MP rs)(I:pl=2*f0)
(g:∀r H',aj H H'->Gn K H H' r pl (vY so room pl li ps rs).light dr j (vY so room pl li ps rs).kept (dz pl ps) (vY so room pl li ps rs).ins->Q (.ref r) H'):yV K [.str so,.int room,.ref c,.ref p] H Q E:=⟨so,room,c,p,pl,li,dr,j,ps,xs,rs,f0,rfl,h1,h2,L,z,U,I,g⟩
theorem Iy (F:Z0 K "exchanged" j8 f fd)(aU:mg "len"=none)(bo:mg "tuple"=none)(bU:Z02 P w K mg base)(ib:aR P w K mg base 1 "way_of" ["start","goal"] pM)(ie:aR P w K mg base 2 "may_step_in" ["sort","light","start","goal"] DC):au P w K mg base aZ 3 f fd ["sort","room","cabin","riders"] (yV K):=by
 rwa[F.ok c5 (by symm) (λaM A outer s H vs Q E hr h=> ?_)];obtain ⟨J,I,c,p,pl,li,dr,mk,ps,xs,rs,f0,rfl,hc,aN,ep,dp,aw,hf,q⟩:=h;obtain ⟨b,bs,ec,eb,db⟩:=id hc;have bl:=aD db;have xl:=aD dp;rwa[⟨_,(aa @a (aa @a (aa (gE (i:=6) rfl c5.nd rfl @q (ay (N':=["tag","goal","floor"]) (pk:=[none,none,some 4]) @l) @a @v @N @H) (aa @a (aa (gE (i:=8) rfl c5.nd rfl @q (ay (N':=["tag","goal","floor"]) (pk:=[none,none,some 4]) @l) @a @v @N @h) (aa (cm PassesOwn.never rfl @a (eS (K:=K) (n:=4) rfl rfl (aF @a (aF @a (aF (pf (i:=11) c5.nd rfl @q) (aF (pf (i:=12) c5.nd rfl @q) de))))) (ac (aB (PW.pt (yy (ck (tS rfl hr) @fD (wv 4) (bR _)) (yy @a (AL (iA rfl (b7 ie hr @b rfl (aq (wv 0) (aq (wv 5) (aq @fD @cy))))))))) (aa @fb (aa (aK (fu rfl PySem.F.plainAttrs_list PySem.F.slot_list_append PySem.F.type_list_append iF (wv 8) (aq (eX (aq (wv 9) @cy)) am))) (ac (bD (i:=5) c5.nd rfl @q (Av @a (b7 ib hr @b rfl (aq @fD @cy)) (wv 5)))))) ar))) (ac (ao (eX (aq (eX (aq @a (aq (wv 5) (aq @a (aq @a (aq (aI @da rfl bo boot_tuple (aq (wv 8) am)) am)))))) (aq (wv 6) (aq (wv 7) am)))))))))))),?_⟩];left;rwa[cr.mk _ _ _ _ _ _ rfl hc ?_];left;rwa[fg @bX ?_]
 refine dB (xs:=bs) (λi ys H'=>H'=H/\ys=(dz pl @fc).map V.int) @S (λi ys H' p=>by
  rw [p.2,length_map];unfold dz;rw [length_map];have:=length_filter_le (λp=>decide (2*p.2=pl)) @fc;rw [length_take] at this;lia) ⟨rfl,rfl⟩ (λi ys H' _ p=>by rw [p.1];exact aC.of eb) (λi x ys H' ah p=> ?_) (λys H' p o n1=> ?_)
 ·obtain ⟨rfl,rfl⟩:=p;obtain ⟨W,ad,ae⟩:=bc db ah;obtain ⟨u,us,rfl,hu,R⟩:=ae.outT
  cases R with|cons q0 r0=>cases r0 with|cons q1 r1=>
  cases r1;cases q0.isInt;cases q1.isInt;left;rwa[⟨kB,?_⟩];show if decide (W.2=pl / 2)=true then _ else _;unfold dz;rw [jt _ ad];by_cases h1:W.2=pl / 2
  ·rw [if_pos @ej,if_pos (decide_eq_true (show 2*W.2=pl by lia)),map_append,map_append];exact ⟨rfl,rfl⟩
  ·rw [if_neg (by rw [decide_eq_false h1];decide),if_neg (by rw [decide_eq_false (show ¬2*W.2=pl by lia)];decide),append_nil];exact ⟨rfl,rfl⟩
 obtain ⟨rfl,rfl⟩:=p;rw [take_of_length_le (show ps.length<=bs.length by lia)];have e1:upd H' o (.lst ((dz pl ps).map V.int)) o=some (.lst ((dz pl ps).map V.int)):=af;have s1:aj H' (upd H' o (.lst ((dz pl ps).map V.int))):= .upd n1;generalize upd H' o (.lst ((dz pl ps).map V.int))=H1 at e1 s1 ⊢;left;rwa[gm (bt (by first|decide|simp)) λn H2 s2 n2 e2=> ?_]
 have no:n≠o:=λz=>by rw [z,e1] at n2;cases n2
 have nH:H' n=none:=s1.free n2;left;rwa[fg @bX ?_]
 refine dB (xs:=bs) (λi ys j=>aj H2 j/\ax K j ys ((iu pl @fc).map iR)) @S (λi ys j p=>by
  rw [aD p.2];unfold iu;have:=length_filter_le (λp=> !decide (2*p.2=pl)) @fc;rw [length_take] at this;lia) ⟨.refl _,.nil⟩ (λi ys j _ p=>p.1.seqT (s2.seqT (s1.seqT (aC.of eb)))) (λi x ys j ah p=> ?_) (λys j p k Y=> ?_)
 ·obtain ⟨U,dy⟩:=p;obtain ⟨W,ad,ae⟩:=bc db ah;obtain ⟨u,us,rfl,hu,R⟩:=ae.outT
  cases R with|cons q0 r0=>cases r0 with|cons q1 r1=>
  cases r1;cases q0.isInt;cases q1.isInt;left;rwa[⟨kB,?_⟩];show if (!decide (W.2=pl / 2))=true then _ else _;unfold iu;rw [jt _ ad];by_cases h1:W.2=pl / 2
  ·rw [if_neg (by rw [decide_eq_true h1];decide),if_neg (by rw [decide_eq_true (show 2*W.2=pl by lia)];decide),append_nil];exact ⟨U,dy⟩
  ·rw [if_pos (by rw [decide_eq_false h1];rfl),if_pos (by rw [decide_eq_false (show ¬2*W.2=pl by lia)];rfl)];rwa[bX (bt (by first|decide|simp)) λl HY sy ny ey=> ?_];rwa[⟨U.trans sy,?_⟩];rw [map_append];exact Paired.app (ax.same dy sy) (.cons (hI (aC.of ey) (.cons (.int _) (.cons (.int _) .nil))) .nil)
 obtain ⟨U,dy⟩:=p;rw [take_of_length_le (show ps.length<=bs.length by lia)] at dy
 have nk:n≠k:=λz=>by rw [<-z,U.get e2] at Y;cases Y
 have ok:o≠k:=λz=>by rw [<-z,U.get (s2.get e1)] at Y;cases Y
 have kH:H' k=none:=s1.free (s2.free (U.free Y));have ab:aj H' (upd j k (.lst ys)):=((s1.trans s2).trans U).trans (.upd Y);have e3:upd j k (.lst ys) n=some (.lst []):=(aj.upd Y).get (U.get e2);have Z:upd j k (.lst ys) o=some (.lst ((dz pl ps).map V.int)):=(aj.upd Y).get (U.get (s2.get e1));have an:upd j k (.lst ys) k=some (.lst ys):=af;have al:ax K (upd j k (.lst ys)) ys ((iu pl ps).map iR):=ax.same dy (.upd Y);generalize upd j k (.lst ys)=H3 at ab e3 Z an al ⊢;left;rwa[bK (ab.seq (aA.of ep)) ?_];rwa[dM (xs:=xs) (λi σ j=>tK K H' j n k (cW J I pl ⟨li,iu pl ps,[]⟩ @du).ins (cW J I pl ⟨li,iu pl ps,[]⟩ @du).kept/\j o=some (.lst ((dz pl ps).map V.int))/\∃t1 t2 t3 t4,σ=[some (.str J),some (.int I),some (.ref c),some (.ref p),some (.int (pl / 2)),some (.int (cW J I pl ⟨li,iu pl ps,[]⟩ @du).light),some (.ref o),some (.ref n),some (.ref k),t1,t2,t3,t4]) ⟨⟨ab,nH,kH,nk,e3,ys,an,al⟩,Z,_,_,_,_,rfl⟩ (λi σ j _ pv=>by obtain ⟨⟨sm,_⟩,_⟩:=pv;exact sm.seq (aA.of ep)) (λi x σ j hx pv=> ?_) (λσ j pv=> ?_)]
 ·obtain ⟨G,Z,t1,t2,t3,t4,rfl⟩:=pv;obtain ⟨r,L,aE⟩:=bc dp hx;obtain ⟨u,us,rfl,hu,R⟩:=aE.outT
  cases R with|cons q0 r0=>cases r0 with|cons q1 r1=>cases r1 with|cons q2 r2=>cases r2 with|cons q3 r3=>
  cases r3;cases q0.isInt;cases q1.isInt;cases q2.isInt;cases q3.isInt;have sm:=G.1
  have lp:i<rs.length:=by have:=(List.getElem?_eq_some_iff.mp L).1;lia
  have ll:=lZ (so:=J) (room:=I) (pl:=pl) @du ⟨li,iu pl ps,[]⟩;rw [length_take] at ll;have aJ:=aw.1;have kp:(iu pl ps).length<=ps.length:=length_filter_le _ _;generalize hS:cW J I pl ⟨li,iu pl ps,[]⟩ @du=S at *;simp only [length_nil] at ll
  have O:ju J I pl S r=false->im J I pl S r=S:=λe=>by unfold im;rw [e];rfl
  obtain ⟨ks,ek,dk⟩:=G.2.2.2.2.2;have kl:=aD dk;left;rwa[eh @ct @ct]
  ·have az:2*r.start=pl:=by lia
   left;rw [kl];rwa[eh @bJ @bJ]
   ·left;rwa[DC.mk _ _ _ _ rfl ?_]
    have ap:(J=s!"free"\/S.light=0\/S.light=uM r.start r.goal)->im J I pl S r=⟨if J=s!"way" then De r else S.light,S.kept++[(r.tag,r.goal)],S.ins++[r.tag]⟩:=λz=>by
     unfold im ju;rw [if_pos (by rw [decide_eq_true az,decide_eq_true h2,decide_eq_true (show J=s!"free"\/S.light=0\/S.light=De r from z)];rfl)]
    have aH:=G.2.2.2.2.1;rwa[eh (λh4=> ?_) (λh4=> ?_)]
    ·left;rwa[gB G.2.2.2.2.1 (AJ (by rw [length_map];lia)) ?_];have GB:=G.pushN r.tag
     have av:upd j n (.lst (S.ins.map V.int++[.int r.tag])) o=some (.lst ((dz pl ps).map V.int)):=by rw [ak (Ne.symm no)];exact Z
     generalize upd j n (.lst (S.ins.map V.int++[.int r.tag]))=HB at GB av ⊢;obtain ⟨aP,aL,aO⟩:=GB.2.2.2.2.2;left;erw[bX (bt (by first|decide|simp)) λlA HA sA nA eA=> ?_];have GA:=GB.same sA;obtain ⟨ai,as,aG⟩:=GA.2.2.2.2.2;rwa[gB as (AJ (by rw [aD aG];lia)) ?_];have GC:=GA.pushK as eA
     have ag:upd HA k (.lst (ai++[.ref lA])) o=some (.lst ((dz pl ps).map V.int)):=by rw [ak ok];exact sA.get av
     generalize upd HA k (.lst (ai++[.ref lA]))=HC at GC ag ⊢;ext;by_cases h5:J=s!"way"
     ·left;erw[pM.mk _ _ rfl ?_];rw [dg L,hS,ap h4,if_pos h5];exact ⟨GC,ag,_,_,_,_,rfl⟩
     ·left;rw [dg L,hS,ap h4,if_neg h5];exact ⟨GC,ag,_,_,_,_,rfl⟩
    ·left;rw [dg L,hS,O (by unfold ju;rw [decide_eq_false (show ¬(J=s!"free"\/S.light=0\/S.light=De r) from h4),Bool.and_false])];exact ⟨G,Z,_,_,_,_,rfl⟩
   ·left;rw [dg L,hS,O (by unfold ju;rw [decide_eq_false h2,Bool.and_false];rfl)];exact ⟨G,Z,_,_,_,_,rfl⟩
  ·left;rw [dg L,hS,O (by unfold ju;rw [decide_eq_false (show ¬2*r.start=pl by lia)];rfl)];exact ⟨G,Z,_,_,_,_,rfl⟩
 ·obtain ⟨G,Z,t1,t2,t3,t4,rfl⟩:=pv;rw [take_of_length_le (show rs.length<=xs.length by lia)] at G ⊢;obtain ⟨ks,ek,dk⟩:=G.2.2.2.2.2;have sm:=G.1;left;rwa[fJ (aA.of ek) λl HA sA nA eA=> ?_];left;rwa[bX QI λc' HB sB nB eB=> ?_];left;rwa[bX (bt (by first|decide|simp)) λr' HC sC nC eC=> ?_];exact q r' HC (((G.1.trans sA).trans sB).trans sC) ⟨c',o,n,eC,⟨l,ks,sC.get eB,sC.get (sB.get eA),by walk_at "l3sq"⟩,by walk_at "l3sq",sC.get (sB.get (sA.get G.2.2.2.2.1)),n1,nH,Ne.symm no⟩
abbrev JN:Str:=s!"plain"
abbrev hst:Str:=s!"hasty"
abbrev Gz:Str:=s!"slow"
def ki (k:Str):Prop:=k=JN\/k=hst\/k=Gz
def kc (kD kH kS:Addr)(k:Str):Addr:=if k=hst then kH else if k=Gz then kS else kD
theorem Mg {j F z:Addr}:kc j F z JN=j:=by unfold kc;rw [if_neg @b,if_neg @b]
theorem Mh {j F z:Addr}:kc j F z hst=F:=by unfold kc;rw [if_pos rfl]
theorem Mf {j F z:Addr}:kc j F z Gz=z:=by unfold kc;rw [if_neg @b,if_pos rfl]
noncomputable def ix (k:Str)(t n:Int)(b s:Bool):Int:=if (k=JN/\b=true)\/(k=Gz/\(b=true\/s=true)) then t else if k=hst/\b=true then n else n - 1
abbrev Jg (C dx:Addr)(t:Int):HO:= .ins C dx [(s!"turns",.int t)]
inductive jR (K:Fg)(vs:List V)(H:Hp)(Q:VK)(_e:XK):Prop
 |mk (a t C dx:_) (_:vs=[.ref a,.int t]) (_:H a=some (.ins C dx [])) (_:tM K C) (_:bw K C "turns") (_:Q .non (upd H a @fW))
theorem Iw (F:bA K "__init__" "Door.__init__" mR f fd):au P w K mg base aZ 1 f fd ["self","turns"] (jR K):=by
 rwa[F.ok zn (by symm) @bZ];obtain ⟨a,t,C,dx,rfl,O,S,j,q⟩:=h;rwa[⟨_,(ac @ce),?_⟩];exact cO O S j @b q
inductive iJ (K:Fg)(k:Str)(vs:List V)(H:Hp)(Q:VK)(_e:XK):Prop
 |mk (a n b s t C dx:_) (_:vs=[.ref a,.int n,.bl b,.bl s]) (_:H a=some @fW) (_:tM K C) (_:bw K C "turns") (_:Q (.int (ix k t n b s)) H)
theorem EV (F:bA K "left" "Door.left" mQ f fd):au P w K mg base aZ 1 f fd ["self","count","blocked","stepped"] (iJ K JN):=by
 rwa[F.ok zm (by symm) @bZ];obtain ⟨a,n,b,s,t,C,dx,rfl,O,S,j,q⟩:=h;rwa[⟨_,@j,?_⟩];cases b
 ·rw [show ix JN t n false s=n - 1 from by unfold ix;rw [if_neg (by cases s<;>decide),if_neg @b]] at q;left;exact q
 ·rw [show ix JN t n true s=t from by unfold ix;rw [if_pos (.inl ⟨rfl,rfl⟩)]] at q;left;exact fS O S j rfl q
theorem EU (F:bA K "left" "Hasty.left" j5 f fd):au P w K mg base aZ 1 f fd ["self","count","blocked","stepped"] (iJ K hst):=by
 rwa[F.ok xi (by symm) (λj A outer s H R Q E G h=> ?_)];obtain ⟨a,n,b,s,t,C,dx,rfl,O,S,z,q⟩:=h;rwa[⟨_,@j,?_⟩];cases b
 ·rw [show ix hst t n false s=n - 1 from by unfold ix;rw [if_neg (by cases s<;>decide),if_neg @b]] at q;left;exact q
 ·rw [show ix hst t n true s=n from by unfold ix;rw [if_neg (by cases s<;>decide),if_pos ⟨rfl,rfl⟩]] at q;left;exact q
theorem ET (F:bA K "left" "Slow.left" my f fd):au P w K mg base aZ 1 f fd ["self","count","blocked","stepped"] (iJ K Gz):=by
 rwa[F.ok yZ (by symm) @bZ];obtain ⟨a,n,b,s,t,C,dx,rfl,O,S,j,q⟩:=h;rwa[⟨_,@j,?_⟩];cases b
 ·cases s
  ·rw [show ix Gz t n false false=n - 1 from by unfold ix;rw [if_neg @b,if_neg @b]] at q;left;exact q
  ·rw [show ix Gz t n false true=t from by unfold ix;rw [if_pos (.inr ⟨rfl,.inr rfl⟩)]] at q;left;exact fS O S j rfl q
 ·rw [show ix Gz t n true s=t from by unfold ix;rw [if_pos (.inr ⟨rfl,.inl rfl⟩)]] at q;left;exact fS O S j rfl q
structure J6 (K:Fg)(C:Addr):Prop where
 i:tJ K C
 n:bw K C "turns"
unseal iU in
theorem LQ {C:Addr}{E:XK}{t:Int}{H:Hp}{Q:VK}(c:J6 K C)(g:∀a dx H',aj H H'->H a=none->H' a=some @fW->Q (.ref a) H'):iU C (jR K) E [.int t] H Q:=by
 show ∀a dx,H a=none->H dx=none->dx≠a->jR K (.ref a::([.int t]++[])) @u (λv H2=>v= .non/\Q (.ref a) H2) E;intro a dx h1 h2 L;rwa[jR.mk _ _ _ _ rfl af c.i.cl c.n ⟨rfl,g a dx _ ?_ h1 af⟩];intro b u z;rw [ak (λe=>by rw [e,h1] at z;cases z)];exact fY h1 h2 b u z
inductive pW (K:Fg)(kD kH kS:Addr)(vs:List V)(H:Hp)(Q:VK)(_e:XK):Prop
 |mk (k t:_) (_:vs=[.str k,.int t]) (_:ki k) (_:∀a dx H',aj H H'->H a=none->H' a=some (Jg @gh dx t)->Q (.ref a) H')
theorem Ca (F:Z0 K "door_of" vA f fd)(O:J6 K ss)(I:J6 K lz)(J:J6 K vP)(j:jO P w K mg base aZ 1 "Door" ss (jR K))(z:jO P w K mg base aZ 1 "Hasty" lz (jR K))(L:jO P w K mg base aZ 1 "Slow" vP (jR K)):au P w K mg base aZ 3 f fd ["kind","turns"] (pW K ss lz vP):=by
 rwa[F.ok D2 (by symm) (λG A outer s H U Q E S h=> ?_)];obtain ⟨k,t,rfl,R,q⟩:=h;rwa[⟨_,(aa (aB @a (ac (ao (gH z iq S @b rfl @bl))) ar) (aa (aB @a (ac (ao (gH L iq S @b rfl @bl))) ar) (ac (ao (gH j iq S @b rfl @bl))))),?_⟩]
 rcases R with rfl|rfl|rfl
 ·rw [Mg] at q;left;exact LQ O q
 ·rw [Mh] at q;left;exact LQ I q
 ·rw [Mf] at q;left;exact LQ J q
structure Lf where
 st:Int
 rm:Int
 tn:Int
 kd:Str
structure Hs where
 fl:Int
 ls:List Lf
 lo:Nat
 so:Str
structure Hs.ok (h:Hs):Prop where
 f2:2<=h.fl
 f8:h.fl<=8
 l1:1<=h.ls.length
 l3:h.ls.length<=3
 lf:∀l∈h.ls,1<=l.rm/\l.rm<=6/\1<=l.tn/\l.tn<=4/\ki l.kd
 so:h.so=s!"free"\/h.so=s!"way"
def MR (K:Fg)(H:Hp)(x:V)(l:Lf):Prop:=∃b,x= .ref b/\aC K H b [.int l.st,.int l.rm,.int l.tn,.str l.kd]
def jD (K:Fg)(H:Hp)(a:Addr)(h:Hs):Prop:=h.ok/\∃p xs,aC K H a [.int h.fl,.ref p,.int (h.lo:Int),.str h.so]/\aC K H p xs/\Paired (MR K H) xs h.ls
theorem jD.keep {H H':Hp}{a:Addr}{h:Hs}(c:jD K H a h)(s:aJ H H'):jD K H' a h:=by
 obtain ⟨o,p,xs,h1,h2,L⟩:=c;exact ⟨o,p,xs,s.sqT h1,s.sqT h2,Paired.imp' (λx l ⟨b,e,z⟩=>⟨b,e,s.sqT z⟩) L⟩
theorem jD.same {H H':Hp}{a:Addr}{h:Hs}(c:jD K H a h)(s:aj H H'):jD K H' a h:=c.keep s.st
theorem jD.at {H:Hp}{a:Addr}{h:Hs}(c:jD K H a h){i:Int}{l:Lf}(F:0<=i)(W:h.ls[i.toNat]? =some l):∃p xs b,aC K H a [.int h.fl,.ref p,.int (h.lo:Int),.str h.so]/\aC K H p xs/\xs.length=h.ls.length/\lU xs i=some (.ref b)/\aC K H b [.int l.st,.int l.rm,.int l.tn,.str l.kd]:=by
 obtain ⟨o,p,xs,h1,h2,L⟩:=c;obtain ⟨j,rfl⟩:=Int.eq_ofNat_of_zero_le F;rw [show ((j:Int)).toNat=j by lia] at W
 have Z:j<xs.length:=by rw [L.len];exact (List.getElem?_eq_some_iff.mp W).1
 obtain ⟨G,I,b,U,z⟩:=L.get1 (getElem?_eq_getElem Z);rw [W] at I;cases I;exact ⟨p,xs,b,h1,h2,L.len,by rw [bz (getElem?_eq_getElem Z),U],z⟩
inductive ml (K:Fg)(g:Lf->V)(vs:List V)(H:Hp)(Q:VK)(_e:XK):Prop
 |mk (a h i l:_) (_:vs=[.ref a,.int i]) (_:jD K H a h) (_:0<=i) (_:h.ls[i.toNat]? =some l) (_:Q (g l) H)
theorem Io (F:Z0 K "room_of" vf f fd):au P w K mg base aZ 1 f fd ["house","lift"] @df:=by
 rwa[F.ok DP (by symm) @o];obtain ⟨a,h,i,l,rfl,G,L,W,q⟩:=h;obtain ⟨p,xs,b,h1,h2,I,z,U⟩:=G.at L W;rwa[⟨_,@j,?_⟩];rwa[ag h1 rfl ?_];rwa[ag h2 z ?_];exact ag U rfl q
theorem zL (F:Z0 K "turns_of" qp f fd):au P w K mg base aZ 1 f fd ["house","lift"] @dg:=by
 rwa[F.ok Bz (by symm) @o];obtain ⟨a,h,i,l,rfl,G,L,W,q⟩:=h;obtain ⟨p,xs,b,h1,h2,I,z,U⟩:=G.at L W;rwa[⟨_,@j,?_⟩];rwa[ag h1 rfl ?_];rwa[ag h2 z ?_];exact ag U rfl q
theorem B9 (F:Z0 K "kind_of" vy f fd):au P w K mg base aZ 1 f fd ["house","lift"] (ml K λl=> .str l.kd):=by
 rwa[F.ok DY (by symm) @o];obtain ⟨a,h,i,l,rfl,G,L,W,q⟩:=h;obtain ⟨p,xs,b,h1,h2,I,z,U⟩:=G.at L W;rwa[⟨_,@j,?_⟩];rwa[ag h1 rfl ?_];rwa[ag h2 z ?_];exact ag U rfl q
structure Cb where
 pl:Int
 li:Int
 dr:Int
 mr:Int
 ps:List (Int×Int)
def b9 (K:Fg)(H:Hp)(x:V)(c:Cb):Prop:=∃t,x= .ref t/\bQ K H t c.pl c.li c.dr c.mr c.ps
theorem bQ.keep {H H':Hp}{t:Addr}{pl li dr j:Int}{ps:List (Int×Int)}(h:bQ K H t pl li dr j ps)(s:aJ H H'):bQ K H' t pl li dr j ps:=by
 obtain ⟨b,xs,R,O,d⟩:=h;exact ⟨b,xs,s.tup R,s.tup O,s.dens d (mV ps)⟩
theorem b9.keep {H H':Hp}{x:V}{c:Cb}(h:b9 K H x c)(s:aJ H H'):b9 K H' x c:=let ⟨t,e,z⟩:=h;⟨t,e,z.keep s⟩
structure MS where
 cs:List Cb
 ws:List aH
 last:Int
 fire:Bool
 bl:Nat
 log:List D
abbrev sr (h lc lw:Addr)(last:Int)(fire:Bool)(bl:Nat)(ll:Addr):List (Str×V):=[(s!"house",.ref h),(s!"cabins",.ref lc),(s!"waiting",.ref lw),(s!"last",.int last),(s!"fire",.bl fire),(s!"blocked",.int (bl:Int)),(s!"log",.ref ll)]
structure wt (K:Fg)(C:Addr):Prop where
 i:tJ K C
 house:bw K C "house"
 cabins:bw K C "cabins"
 waiting:bw K C "waiting"
 last:bw K C "last"
 fire:bw K C "fire"
 blocked:bw K C "blocked"
 log:bw K C "log"
structure c4 (K:Fg)(C:Addr)(H0 H:Hp)(m h dx lc lw ll:Addr)(xs ys zs:List V)(M:MS):Prop where
 s:aj H0 H
 nm:H0 m=none
 nc:H0 lc=none
 nw:H0 lw=none
 nl:H0 ll=none
 cw:lc≠lw
 cl:lc≠ll
 wl:lw≠ll
 em:H m=some (.ins C dx @en)
 ec:H lc=some (.lst xs)
 ew:H lw=some (.lst ys)
 el:H ll=some (.lst zs)
 dc:Paired @fE xs M.cs
 dw:ax K H ys @fd
 dl:ax K H zs M.log
 ln:noLs M.log=true
inductive gD (K:Fg)(C:Addr)(H0 H:Hp)(m h:Addr)(M:MS):Prop
 |mk (dx lc lw ll xs ys zs:_) (_:c4 K C H0 H m h dx lc lw ll xs ys zs M)
section
variable {C:Addr}{H0 H H':Hp}{m h dx lc lw ll:Addr}{xs ys zs:List V}{M:MS}
theorem c4.same (a:c4 K C H0 H m h dx lc lw ll xs ys zs M)(s':aj H H'):c4 K C H0 H' m h dx lc lw ll xs ys zs M:=
 ⟨a.s.trans s',a.nm,a.nc,a.nw,a.nl,a.cw,a.cl,a.wl,s' _ _ a.em,s' _ _ a.ec,s' _ _ a.ew,s' _ _ a.el,Paired.imp' (λx c z=>b9.keep z s'.st) a.dc,ax.same a.dw s',ax.same a.dl s',a.ln⟩
theorem gD.same (a:gD K C H0 H m h M)(s':aj H H'):gD K C H0 H' m h M:=let ⟨dx,lc,lw,ll,xs,ys,zs,z⟩:=a;⟨dx,lc,lw,ll,xs,ys,zs,z.same s'⟩
theorem b9.nt {H H':Hp}(s:aP H H'){v:V}{c:Cb}(h:b9 K H v c):b9 K H' v c:=by
 obtain ⟨t,e,b,j,h1,h2,L⟩:=h;exact ⟨t,e,b,j,s _ _ (λ_ z=>by cases z) h1,s _ _ (λ_ z=>by cases z) h2,s.dens L⟩
theorem c4.sameN (a:c4 K C H0 H m h dx lc lw ll xs ys zs M)(j:NT H0)(s':aP H H'):c4 K C H0 H' m h dx lc lw ll xs ys zs M:=
 ⟨aP.onto j a.s s',a.nm,a.nc,a.nw,a.nl,a.cw,a.cl,a.wl,s' _ _ (λ_ z=>by cases z) a.em,s' _ _ (λ_ z=>by cases z) a.ec,s' _ _ (λ_ z=>by cases z) a.ew,s' _ _ (λ_ z=>by cases z) a.el,Paired.imp' (λx c z=>b9.nt s' z) a.dc,s'.dens a.dw,s'.dens a.dl,a.ln⟩
theorem c4.setC (a:c4 K C H0 H m h dx lc lw ll xs ys zs M){i:Nat}{v:V}{c:Cb}(Y:b9 K H v c):c4 K C H0 (upd H lc (.lst @fO)) m h dx lc lw ll @fO ys zs {M with cs:=M.cs.set i c}:=by
 have st:aJ H (upd H lc (.lst @fO)):= .updL a.ec;rwa[⟨λb u z=> ?_,a.nm,a.nc,a.nw,a.nl,a.cw,a.cl,a.wl,?_,af,?_,?_,gR (Paired.imp' @be a.dc) (Y.keep st),st.dens a.dw (fz _),st.dens a.dl a.ln,a.ln⟩]
 ·rw [ak (λe=>by rw [e,a.nc] at z;cases z)];exact a.s b u z
 ·rw [ak (λe=>by have:=a.em;rw [e,a.ec] at this;cases this)];exact a.em
 ·rw [ak a.cw.symm];exact a.ew
 ·rw [ak a.cl.symm];exact a.el
theorem c4.setL (a:c4 K C H0 H m h dx lc lw ll xs ys zs M){vs:List V}{ds:List D}(Y:ax K H vs ds)(j:noLs ds=true):c4 K C H0 (upd H ll (.lst (zs++vs))) m h dx lc lw ll xs ys (zs++vs) {M with log:=M.log++ds}:=by
 have st:aJ H (upd H ll (.lst (zs++vs))):= .updL a.el;rwa[⟨λb u z=> ?_,a.nm,a.nc,a.nw,a.nl,a.cw,a.cl,a.wl,?_,?_,?_,af,Paired.imp' @be a.dc,st.dens a.dw (fz _),Paired.app (st.dens a.dl a.ln) (st.dens Y j),qR a.ln j⟩]
 ·rw [ak (λe=>by rw [e,a.nl] at z;cases z)];exact a.s b u z
 ·rw [ak (λe=>by have:=a.em;rw [e,a.el] at this;cases this)];exact a.em
 ·rw [ak a.cl];exact a.ec
 ·rw [ak a.wl];exact a.ew
theorem c4.setW (a:c4 K C H0 H m h dx lc lw ll xs ys zs M){vs:List V}{rs:List aH}(Y:ax K H vs @K):c4 K C H0 (upd H lw (.lst vs)) m h dx lc lw ll xs vs zs {M with ws:=rs}:=by
 have st:aJ H (upd H lw (.lst vs)):= .updL a.ew;rwa[⟨λb u z=> ?_,a.nm,a.nc,a.nw,a.nl,a.cw,a.cl,a.wl,?_,?_,af,?_,Paired.imp' @be a.dc,st.dens Y (fz _),st.dens a.dl a.ln,a.ln⟩]
 ·rw [ak (λe=>by rw [e,a.nw] at z;cases z)];exact a.s b u z
 ·rw [ak (λe=>by have:=a.em;rw [e,a.ew] at this;cases this)];exact a.em
 ·rw [ak a.cw];exact a.ec
 ·rw [ak a.wl.symm];exact a.el
theorem c4.putW (a:c4 K C H0 H m h dx lc lw ll xs ys zs M){l:Addr}{vs:List V}{rs:List aH}(F:H0 l=none)(G:lc≠l)(j:l≠ll)(e:H l=some (.lst vs))(Y:ax K H vs @K):c4 K C H0 (upd H m (.ins C dx (sr h lc l M.last M.fire M.bl ll))) m h dx lc l ll xs vs zs {M with ws:=rs}:=by
 have st:aJ H (upd H m (.ins C dx (sr h lc l M.last M.fire M.bl ll))):= .updI a.em
 have nm:∀ {p:Addr} {I:List V},H p=some (.lst I)->p≠m:=λ{p I} e z=>by rw [z,a.em] at e;cases e
 rwa[⟨λb u z=> ?_,a.nm,a.nc,F,a.nl,G,a.cl,j,af,?_,?_,?_,Paired.imp' @be a.dc,st.dens Y (fz _),st.dens a.dl a.ln,a.ln⟩]
 ·rw [ak (λe=>by rw [e,a.nm] at z;cases z)];exact a.s b u z
 ·rw [ak (nm a.ec)];exact a.ec
 ·rw [ak (nm e)];exact e
 ·rw [ak (nm a.el)];exact a.el
theorem c4.putF (a:c4 K C H0 H m h dx lc lw ll xs ys zs M)(last:Int)(j:Bool)(F:Nat):c4 K C H0 (upd H m (.ins C dx (sr h lc lw last j F ll))) m h dx lc lw ll xs ys zs {M with last:=last,fire:=j,bl:=F}:=by
 have st:aJ H (upd H m (.ins C dx (sr h lc lw last j F ll))):= .updI a.em
 have nm:∀ {p:Addr} {G:List V},H p=some (.lst G)->p≠m:=λ{p G} e z=>by rw [z,a.em] at e;cases e
 rwa[⟨λb u z=> ?_,a.nm,a.nc,a.nw,a.nl,a.cw,a.cl,a.wl,af,?_,?_,?_,Paired.imp' @be a.dc,st.dens a.dw (fz _),st.dens a.dl a.ln,a.ln⟩]
 ·rw [ak (λe=>by rw [e,a.nm] at z;cases z)];exact a.s b u z
 ·rw [ak (nm a.ec)];exact a.ec
 ·rw [ak (nm a.ew)];exact a.ew
 ·rw [ak (nm a.el)];exact a.el
end
inductive Dd where
 |come (t s g:Int) (k:Bool)
 |lf (x:Str) (n:Int)
 |sg (x:Str)
abbrev AE:Str:=s!"come"
noncomputable def Dd.v:Dd->List V
 | .come t s g k=>[.str AE,.int t,.int s,.int g,.bl k]
 | .lf x n=>[.str x,.int n]
 | .sg x=>[.str x]
def Dd.ok:Dd->Prop
 | .come _ _ _ _=>True
 | .lf x _=>x=s!"block"\/x=s!"stick"\/x=s!"free"\/x=s!"goods"\/x=s!"back"
 | .sg x=>x=s!"fire"\/x=s!"calm"
def rY (H:Hp)(a:Addr)(d:Dd):Prop:=H a=some (.tup d.v)/\d.ok
theorem rY.keep {H H':Hp}{a:Addr}{d:Dd}(h:rY H a d)(s:aJ H H'):rY H' a d:=⟨s.tup h.1,h.2⟩
theorem rY.same {H H':Hp}{a:Addr}{d:Dd}(h:rY H a d)(s:aj H H'):rY H' a d:=⟨s _ _ h.1,h.2⟩
def Od (t:Int):D:= .tup [.str "barred",.int t]
def K6 (t:Int):D:= .tup [.str "sent",.int t]
noncomputable def c7 (lo:Nat)(M:MS)(t s g:Int)(k:Bool):MS:=if lo.testBit g.toNat=true/\k=false then {M with log:=M.log++[Od t]} else if M.fire=true then {M with log:=M.log++[K6 t]} else {M with ws:=M.ws++[⟨t,s,g,-1⟩]}
theorem b8 {C:Addr}{H0 H:Hp}{m h dx lc lw ll:Addr}{xs ys zs:List V}{M:MS}{j:Str}{v:V}{Q:VK}(a:c4 K C H0 H m h dx lc lw ll xs ys zs M)(c:tM K C)(n:bw K C j)(e:(sr h lc lw M.last M.fire M.bl ll).lookup j=some v)(g:Q v H):xK K j m H Q:=fS a.em c n e g
inductive yW (K:Fg)(C:Addr)(vs:List V)(H:Hp)(Q:VK)(_e:XK):Prop
 |mk (m t s g k h hs H0 M:_) (_:vs=[.ref m,.int t,.int s,.int g,.bl k]) (_:jD K H h hs) (_:gD K C H0 H m h M) (_:M.ws.length<=1000) (_:M.log.length<=1000) (_:0<=g) (_:g<1000) (_:∀H',aJ H H'->gD K C H0 H' m h (c7 hs.lo M t s g k)->Q .non H')
theorem IA {C:Addr}{U:Tok}(F:Z0 K "do_come" vC f fd)(j:wt K C)(bf:mg "NO_LIFT"=some (.int (-1) U))(oO:Z04 P w K mg base):au P w K mg base aZ 3 f fd ["moment","tag","start","goal","key"] (yW K C):=by
 have ff:aE (.int (-1)) (.int (-1) U):=⟨_,rfl⟩;rwa[F.ok D4 (by symm) (λaa A outer s H vs Q E hr h=> ?_)];obtain ⟨m,t,s,g,k,h,hs,H0,M,rfl,hH,W,wl,Y,Z,g1,q⟩:=h;obtain ⟨dx,lc,lw,ll,xs,ys,zs,a⟩:=W;obtain ⟨o,p,ps,h1,h2,h3⟩:=hH;obtain ⟨I,rfl⟩:=Int.eq_ofNat_of_zero_le Z;have yl:=aD a.dw;have zl:zs.length=M.log.length:=a.dl.len;have S:=j.i.cl;rwa[⟨_,(ac (aB @a @D (ac (aB @a @D @D)))),?_⟩];rwa[b8 a S j.house rfl ?_];rwa[ag h1 rfl ?_];rwa[fw.mk _ _ rfl @c ?_];unfold c7 at q;rw [show ((I:Int)).toNat=I by lia] at q;ext;by_cases O:hs.lo.testBit I=true
 ·rwa[bL O ?_]
  cases k with
  |false=>
   rw [if_pos ⟨O,rfl⟩] at q;rwa[bL rfl ?_];rwa[b8 a S j.log (v:= .ref ll) rfl ?_];rwa[⟨.inl ⟨rfl,_,aA.of a.el⟩,?_⟩];rwa[bX (bt (by show 2<=1000000;decide)) λr H1 L J R=> ?_];rwa[gB @fP @dh ?_];exact q _ @ca ⟨dx,lc,lw,ll,xs,ys,_,(a.same L).setL (ds:=[Od t]) (.cons @bg .nil) rfl⟩
  |true=>
   rw [if_neg (λz=>by cases z.2)] at q;rwa[be rfl ?_];erw[b8 a S j.fire (v:= .bl M.fire) rfl ?_]
   cases G:M.fire with
   |true=>
    rw [if_pos G] at q;rwa[bL rfl ?_];rwa[b8 a S j.log (v:= .ref ll) rfl ?_];rwa[⟨.inl ⟨rfl,_,aA.of a.el⟩,?_⟩];rwa[bX (bt (by show 2<=1000000;decide)) λr H1 L J R=> ?_];rwa[gB @fP @dh ?_];exact q _ @ca ⟨dx,lc,lw,ll,xs,ys,_,(a.same L).setL (ds:=[K6 t]) (.cons @bg .nil) rfl⟩
   |false=>
    rw [if_neg (by rw [G];decide)] at q;rwa[be rfl ?_];rwa[b8 a S j.waiting (v:= .ref lw) rfl ?_];rwa[⟨.inl ⟨rfl,_,aA.of a.ew⟩,?_⟩];rwa[bX (bt (by show 4<=1000000;decide)) λr H1 L J R=> ?_];rwa[gB @eL @dh ?_];rwa[q _ (L.st.trans (.updL @eL)) ⟨dx,lc,lw,ll,xs,_,zs,(a.same L).setW (rs:=M.ws++[⟨t,s,(I:Int),-1⟩]) ?_⟩];rw [map_append];exact Paired.app (ax.same a.dw L) (.cons (hI (aC.of R) (.cons (.int _) (.cons (.int _) (.cons (.int _) (.cons (.int _) .nil))))) .nil)
 ·rwa[be (by simpa using O) ?_];rwa[be rfl ?_];rw [if_neg (λz=>O z.1)] at q;erw[b8 a S j.fire (v:= .bl M.fire) rfl ?_]
  cases G:M.fire with
  |true=>
   rw [if_pos G] at q;rwa[bL rfl ?_];rwa[b8 a S j.log (v:= .ref ll) rfl ?_];rwa[⟨.inl ⟨rfl,_,aA.of a.el⟩,?_⟩];rwa[bX (bt (by show 2<=1000000;decide)) λr H1 L J R=> ?_];rwa[gB @fP @dh ?_];exact q _ @ca ⟨dx,lc,lw,ll,xs,ys,_,(a.same L).setL (ds:=[K6 t]) (.cons @bg .nil) rfl⟩
  |false=>
   rw [if_neg (by rw [G];decide)] at q;rwa[be rfl ?_];rwa[b8 a S j.waiting (v:= .ref lw) rfl ?_];rwa[⟨.inl ⟨rfl,_,aA.of a.ew⟩,?_⟩];rwa[bX (bt (by show 4<=1000000;decide)) λr H1 L J R=> ?_];rwa[gB @eL @dh ?_];rwa[q _ (L.st.trans (.updL @eL)) ⟨dx,lc,lw,ll,xs,_,zs,(a.same L).setW (rs:=M.ws++[⟨t,s,(I:Int),-1⟩]) ?_⟩];rw [map_append];exact Paired.app (ax.same a.dw L) (.cons (hI (aC.of R) (.cons (.int _) (.cons (.int _) (.cons (.int _) (.cons (.int _) .nil))))) .nil)
theorem cJ {H:Hp}{x:V}{r:aH}(h:bH K H x r.d):∃a,x= .ref a/\aC K H a [.int r.tag,.int r.start,.int r.goal,.int r.lift]:=by
 obtain ⟨a,xs,rfl,h1,h2⟩:=h.outT
 cases h2 with|cons q0 t0=>cases t0 with|cons q1 t1=>cases t1 with|cons q2 t2=>cases t2 with|cons q3 t3=>
 cases t3;cases q0.isInt;cases q1.isInt;cases q2.isInt;cases q3.isInt;exact ⟨a,rfl,h1⟩
inductive jm (K:Fg)(vs:List V)(H:Hp)(Q:VK)(_e:XK):Prop
 |mk (x r i:_) (_:vs=[x,.int i]) (_:bH K H x @ey) (_:∀v H',aj H H'->bH K H' v (aH.d {r with lift:=i})->Q v H')
theorem EZ (F:Z0 K "dealt_to" qB f fd):au P w K mg base aZ 1 f fd ["rider","lift"] (jm K):=by
 rwa[F.ok BL (by symm) (λj A outer s H z Q E S h=> ?_)];obtain ⟨x,r,i,rfl,J,q⟩:=h;obtain ⟨a,rfl,L⟩:=cJ J;rwa[⟨_,@j,?_⟩];rwa[ag L rfl ?_];rwa[ag L rfl ?_];rwa[ag L rfl ?_];exact bX (bt (by show 4<=1000000;decide)) λb H2 R W O=>q _ H2 R (hI (aC.of O) (.cons (.int _) (.cons (.int _) (.cons (.int _) (.cons (.int _) .nil)))))
inductive wT (K:Fg)(vs:List V)(H:Hp)(Q:VK)(_e:XK):Prop
 |mk (c i pl li dr mk ps:_) (_:vs=[.ref c,.int i]) (_:bQ K H c pl li dr mk ps) (_:∀r H',aj H H'->bQ K H' r pl li dr i ps->Q (.ref r) H')
theorem Lw (F:Z0 K "with_marks" jT f fd):au P w K mg base aZ 1 f fd ["cabin","marks"] (wT K):=by
 rwa[F.ok wW (by symm) (λj A outer s H I Q E S h=> ?_)];obtain ⟨c,i,pl,li,dr,z,ps,rfl,⟨b,xs,G,U,dx⟩,q⟩:=h;rwa[⟨_,@j,?_⟩];have L:=aC.of (K:=K) G;rwa[ag L rfl ?_];rwa[ag L rfl ?_];rwa[ag L rfl ?_];rwa[ag L rfl ?_];exact bX (bt (by show 5<=1000000;decide)) λr H2 R W O=>q r H2 R ⟨b,xs,O,R _ _ U,ax.same dx R⟩
def ir (M n:Nat):Nat:=if M.testBit n=true then M - 2^n else M
theorem MI {M n:Nat}(h:M.testBit n=true):2^n<=M:=Nat.ge_two_pow_of_testBit h
inductive md (vs:List V)(H:Hp)(Q:VK)(_e:XK):Prop
 |mk (M n:Nat) (_:vs=[.int (M:Int),.int (n:Int)]) (_:n<=1000) (_:Q (.int ((ir M n:Nat):Int)) H)
theorem zK (F:Z0 K "without" qm f fd)(I:aR P w K mg base 1 "bit" ["k"] kP)(O:Z04 P w K mg base):au P w K mg base aZ 3 f fd ["mask","k"] md:=by
 rwa[F.ok Bx (by symm) (λG A outer s H R Q E S h=> ?_)];obtain ⟨M,n,rfl,z,q⟩:=h;rwa[⟨_,(aa @U (ac (ao (wv 0)))),?_⟩];erw[fw.mk _ _ rfl z ?_];unfold ir at q;by_cases j:M.testBit n=true
 ·rw [if_pos j] at q;rwa[bL j ?_];rwa[kP.mk _ rfl z ?_];have:=MI j;rw [show ((M - 2^n:Nat):Int)=(M:Int) - ((2^n:Nat):Int) by lia] at q;exact q
 ·rw [if_neg j] at q;rwa[be (by simpa using j) ?_];exact q
def atC (M:MS)(i:Int)(c:Cb):Prop:=0<=i/\M.cs[i.toNat]? =some c
theorem c4.atC {C:Addr}{H0 H:Hp}{m h dx lc lw ll:Addr}{xs ys zs:List V}{M:MS}(a:c4 K C H0 H m h dx lc lw ll xs ys zs M){i:Int}{c:Cb}(I:atC M i c):∃t,xs[i.toNat]? =some (.ref t)/\lU xs i=some (.ref t)/\bQ K H t c.pl c.li c.dr c.mr c.ps/\i.toNat<xs.length:=by
 obtain ⟨L,I⟩:=I;obtain ⟨j,rfl⟩:=Int.eq_ofNat_of_zero_le L;rw [show ((j:Int)).toNat=j by lia] at I ⊢
 have Z:j<xs.length:=by rw [a.dc.len];exact (List.getElem?_eq_some_iff.mp I).1
 obtain ⟨F,af,t,z,J⟩:=a.dc.get1 (getElem?_eq_getElem Z);rw [I] at af;cases af;exact ⟨t,by rw [getElem?_eq_getElem Z,z],by rw [bz (getElem?_eq_getElem Z),z],J,Z⟩
theorem xy {xs:List V}{i:Int}(F:0<=i)(h1:i.toNat<xs.length):yt xs.length i=some i.toNat:=by
 unfold yt;rw [if_pos @c,if_pos @c]
def gv (i:Int)(ws:List aH):List aH:=ws.map λr=>if r.lift=i then {r with lift:= -1} else r
def qE (i:Int)(k:Nat)(c:Cb)(M:MS):MS:= {M with cs:=M.cs.set i.toNat {c with mr:=((c.mr.toNat|||2^k:Nat):Int)},ws:=gv i M.ws}
def kg (i:Int)(k:Nat)(c:Cb)(M:MS):MS:= {M with cs:=M.cs.set i.toNat {c with mr:=((ir c.mr.toNat k:Nat):Int)}}
inductive uR (K:Fg)(C:Addr)(vs:List V)(H:Hp)(Q:VK)(_e:XK):Prop
 |mk (m i h H0 M c:_) (k:Nat) (_:vs=[.ref m,.int i,.int (k:Int)]) (_:k<=1000) (_:gD K C H0 H m h M) (_:M.ws.length<=1000) (_:atC M i c) (_:0<=c.mr) (_:∀H',aJ H H'->gD K C H0 H' m h (qE i k c M)->Q .non H')
abbrev Z07:=λP w K mg base=>aR P w K mg base 1 "dealt_to" ["rider","lift"] (jm K)
theorem Ip {C:Addr}{t1:Tok}(F:Z0 K "put_mark" qw f fd)(S:wt K C)(bf:mg "NO_LIFT"=some (.int (-1) t1))(eF:aR P w K mg base 2 "with_bit" ["mask","k"] gI)(fD:aR P w K mg base 1 "with_marks" ["cabin","marks"] (wT K))(eQ:Z07 P w K mg base):au P w K mg base aZ 3 f fd ["moment","lift","mark"] (uR K C):=by
 have ff:aE (.int (-1)) (.int (-1) t1):=⟨_,rfl⟩;rwa[F.ok BG (by symm) (λam A outer s H vs Q E hr h=> ?_)];obtain ⟨m,i,h,H0,M,c,k,rfl,k1,⟨dx,lc,lw,ll,xs,ys,zs,a⟩,wl,hc,m0,q⟩:=h;obtain ⟨t,hx,hi,ht,ai⟩:=a.atC hc;obtain ⟨mn,W⟩:=Int.eq_ofNat_of_zero_le m0;have cl:=S.i.cl;rwa[⟨_,(aa @a (aa @cN (ac (cL rfl (wv 0) (bb rfl (ay (N':=["rider","lift"]) (pk:=[none,some 1]) @l) @a @h @r @h))))),?_⟩];rwa[b8 a cl S.cabins (v:= .ref lc) rfl ?_];erw[aN @bI hi ?_];obtain ⟨b,bs,et,eb,db⟩:=id ht;rwa[ag @fu rfl ?_];rw [W] at ht ⊢;rwa[gI.mk _ _ rfl k1 ?_];erw[wT.mk _ _ _ _ _ _ _ rfl ht λt2 H1 s1 ab=> ?_];have a1:=a.same s1;rwa[b8 a1 cl S.cabins (v:= .ref lc) rfl ?_];rwa[nW (j:=i.toNat) a1.ec (xy hc.1 ai) ?_];have R:=a1.setC (i:=i.toNat) (c:= {c with mr:=((mn|||2^k:Nat):Int)}) ⟨t2,rfl,ab⟩;generalize al:upd H1 lc (.lst (xs.set i.toNat (.ref t2)))=H2 at R
 have ah:aJ H H2:=by rw [<-al];exact s1.st.trans (.updL a1.ec)
 clear al;rwa[b8 R cl S.waiting (v:= .ref lw) rfl ?_];rwa[bK (aA.of R.ew) ?_];have yl:ys.length=M.ws.length:=aD a.dw;rwa[bu (xs:=ys) (λj G I=>aj H2 I/\G.length=j/\ax K I G ((gv i @gk).map aH.d)) @S (λj G I h=>Nat.le_of_eq h.2.1) ⟨.refl _,rfl,.nil⟩ (λj G I _ h=>h.1.seq (aA.of R.ew)) (λj y G I hy hP=> ?_) (λG I hP l n=> ?_)]
 ·obtain ⟨U,J,Y⟩:=hP;obtain ⟨r,L,dr⟩:=bc (f:=aH.d) R.dw hy;have L:M.ws[j]? =some r:=L;obtain ⟨ra,rfl,hT⟩:=cJ @ea
  have nx:gv i (M.ws.take (j+1))=gv i @gk++[if r.lift=i then {r with lift:= -1} else r]:=by
   unfold gv;rw [take_add_one,L,map_append];rfl
  rwa[⟨bg,?_⟩];rwa[ag hT rfl ?_];rwa[eh @k @k]
  ·ext;rwa[jm.mk _ _ _ rfl @ea λv H3 O dv=>⟨U.trans O,by simp [J],?_⟩];rw [nx,if_pos z,map_append];exact Paired.app (ax.same Y O) (.cons dv .nil)
  ·ext;rwa[⟨U,by simp [J],?_⟩];rw [nx,if_neg z,map_append];exact Paired.app Y (.cons @ea .nil)
 obtain ⟨U,J,Y⟩:=hP;rw [yl,take_of_length_le @f] at Y;have aX:=R.same U;have O:aj I (upd I l (.lst G)):= .upd n;have Z:=aX.same O;have e3:upd I l (.lst G) l=some (.lst G):=af;generalize ak:upd I l (.lst G)=H3 at O Z e3 ⊢
 have ae:lc≠l:=λz=>by rw [<-z,aX.ec] at n;cases n
 have ad:l≠ll:=λz=>by rw [z,aX.el] at n;cases n
 rwa[cO Z.em cl S.waiting (by show 7<1000;decide) ?_];have a4:=Z.putW (rs:=gv i M.ws) (none_of aX.s n) ae ad e3 (ax.same Y O);rwa[q _ ((ah.trans (U.trans O).st).trans (.updI Z.em)) ⟨dx,lc,l,ll,xs.set i.toNat (.ref t2),G,zs,?_⟩]
 have ec:qE i k c M= {M with cs:=M.cs.set i.toNat {c with mr:=((mn|||2^k:Nat):Int)},ws:=gv i M.ws}:=by
  unfold qE;rw [W];rfl
 rw [ec];exact a4
inductive oY (K:Fg)(C:Addr)(vs:List V)(H:Hp)(Q:VK)(_e:XK):Prop
 |mk (m i h H0 M c:_) (k:Nat) (_:vs=[.ref m,.int i,.int (k:Int)]) (_:k<=1000) (_:gD K C H0 H m h M) (_:atC M i c) (_:0<=c.mr) (_:∀H',aJ H H'->gD K C H0 H' m h (kg i k c M)->Q .non H')
theorem EO {C:Addr}(F:Z0 K "lose_mark" mI f fd)(G:wt K C)(xZ:aR P w K mg base 3 "without" ["mask","k"] md)(fD:aR P w K mg base 1 "with_marks" ["cabin","marks"] (wT K)):au P w K mg base aZ 4 f fd ["moment","lift","mark"] (oY K C):=by
 rwa[F.ok zc (by symm) @P];obtain ⟨m,i,h,H0,M,c,k,rfl,k1,⟨dx,lc,lw,ll,xs,ys,zs,a⟩,R,Z,q⟩:=h;obtain ⟨t,hx,hi,J,I⟩:=a.atC R;obtain ⟨U,W⟩:=Int.eq_ofNat_of_zero_le Z;have S:=G.i.cl;rwa[⟨_,(aa @a (ac @cN)),?_⟩];rwa[b8 a S G.cabins (v:= .ref lc) rfl ?_];erw[aN @bI hi ?_];obtain ⟨b,bs,Y,eb,db⟩:=id J;rwa[ag (aC.of Y) rfl ?_];rw [W] at J ⊢;rwa[md.mk _ _ rfl k1 ?_];erw[wT.mk _ _ _ _ _ _ _ rfl J λO H1 L ab=> ?_];have z:=a.same L;rwa[b8 z S G.cabins (v:= .ref lc) rfl ?_];rwa[nW (j:=i.toNat) z.ec (xy R.1 I) ?_];have a2:=z.setC (i:=i.toNat) (c:= {c with mr:=((ir U k:Nat):Int)}) ⟨O,rfl,ab⟩;rwa[q _ (L.st.trans (.updL z.ec)) ⟨dx,lc,lw,ll,xs.set i.toNat (.ref O),ys,zs,?_⟩]
 have ec:kg i k c M= {M with cs:=M.cs.set i.toNat {c with mr:=((ir U k:Nat):Int)}}:=by
  unfold kg;rw [W];rfl
 rw [ec];exact a2
def m7 (M:MS)(i:Int):Cb:=M.cs.getD i.toNat ⟨0,0,0,0,[]⟩
noncomputable def bP (lo:Nat)(M:MS):Dd->MS
 | .come t s g k=>c7 lo M t s g k
 | .lf x i=>if x=s!"block" then {M with bl:=M.bl|||2^i.toNat} else if x=s!"stick" then qE i 0 @dU M else if x=s!"goods" then qE i 1 @dU M else if x=s!"free" then kg i 0 @dU M else kg i 1 @dU M
 | .sg _=>M
section
variable {lo:Nat}{M:MS}{i:Int}
theorem hU:bP lo M (.lf "block" i)= {M with bl:=M.bl|||2^i.toNat}:=by unfold bP;dsimp only;rw [if_pos rfl]
theorem fk:bP lo M (.lf "stick" i)=qE i 0 @dU M:=by unfold bP;dsimp only;rw [if_neg @g,if_pos rfl]
theorem fm:bP lo M (.lf "goods" i)=qE i 1 @dU M:=by unfold bP;dsimp only;rw [if_neg @g,if_neg @g,if_pos rfl]
theorem gx:bP lo M (.lf "free" i)=kg i 0 @dU M:=by unfold bP;dsimp only;rw [if_neg @g,if_neg @g,if_neg @g,if_pos rfl]
theorem gy:bP lo M (.lf "back" i)=kg i 1 @dU M:=by unfold bP;dsimp only;rw [if_neg @g,if_neg @g,if_neg @g,if_neg @g]
end
def Dd.fit (fl:Int)(n:Nat):Dd->Prop
 | .come _ s g _=>0<=s/\s<fl/\0<=g/\g<fl/\s≠g
 | .lf _ i=>0<=i/\i<(n:Int)
 | .sg _=>False
inductive GY (K:Fg)(C:Addr)(vs:List V)(H:Hp)(Q:VK)(_e:XK):Prop
 |mk (m a d h hs H0 M:_) (_:vs=[.ref m,.ref a]) (_:jD K H h hs) (_:rY H a d) (_:d.fit hs.fl hs.ls.length) (_:gD K C H0 H m h M) (_:M.ws.length<=1000) (_:M.log.length<=1000) (_:M.cs.length=hs.ls.length) (_:(∀c∈M.cs,0<=c.mr)) (_:∀H',aJ H H'->gD K C H0 H' m h (bP hs.lo M d)->Q .non H')
theorem OF {C:Addr}{t1 t2:Tok}(F:Z0 K "do_deed" vB f fd)(W:wt K C)(vV:mg "STUCK"=some (.int 0 t1))(FI:mg "TAKEN"=some (.int 1 t2))(ye:aR P w K mg base 3 "do_come" ["moment","tag","start","goal","key"] (yW K C))(eF:aR P w K mg base 2 "with_bit" ["mask","k"] gI)(uC:aR P w K mg base 3 "put_mark" ["moment","lift","mark"] (uR K C))(rK:aR P w K mg base 4 "lose_mark" ["moment","lift","mark"] (oY K C)):au P w K mg base aZ 5 f fd ["moment","deed"] (GY K C):=by
 have K8:aE (.int 0) (.int 0 t1):=⟨_,rfl⟩;have S:aE (.int 1) (.int 1 t2):=⟨_,rfl⟩;rwa[F.ok D3 (by symm) @P];obtain ⟨m,da,d,h,hs,H0,M,rfl,Y,⟨hd,ok⟩,J,O,Z,gl,cn,ab,q⟩:=h;have f8:=Y.1.f8;have l3:=Y.1.l3;rwa[⟨_,(aa @a (ac (aB @a @D (ac (aB @a (ac @cO) (ac (aB @a @D (ac (aB @a @D (ac (aB @a @D (ac (aB @a @D (ac (aB @a @fe @fe))))))))))))))),?_⟩]
 cases d with
 |come t s' g k=>
  have L:aC K H da [.str AE,.int t,.int s',.int g,.bl k]:=aC.of hd;have f8:=Y.1.f8;obtain ⟨_,_,g0,g1,_⟩:=J;rwa[ag L rfl ?_];rwa[bL rfl ?_];rwa[ag L rfl ?_];rwa[ag L rfl ?_];rwa[ag L rfl ?_];rwa[ag L rfl ?_];exact yW.mk _ _ _ _ _ _ _ _ _ rfl Y O Z gl g0 @c λH' st I=>q H' st I
 |lf x i=>
  obtain ⟨i0,i1⟩:=J;obtain ⟨j,rfl⟩:=Int.eq_ofNat_of_zero_le i0;have L:aC K H da [.str x,.int (j:Int)]:=aC.of hd
  have hj:j<M.cs.length:=by lia
  have R:atC M (j:Int) (m7 M (j:Int)):=⟨i0,by
   show M.cs[((j:Int)).toNat]? =some (M.cs.getD ((j:Int)).toNat _)
   rw [show ((j:Int)).toNat=j by lia,getD_eq_getElem?_getD,getElem?_eq_getElem hj];rfl⟩
  have U:0<=(m7 M (j:Int)).mr:=ab _ (mem_of_getElem? R.2);have ne:∀y z:Str,y≠z-> ¬y=z:=λ_ _ h=>h;rwa[ag L rfl ?_]
  rcases ok with G|G|G|G|G
  ·rw [G,hU,show ((j:Int)).toNat=j by lia] at q;rwa[dF (by rw [G];decide+kernel) ?_];rwa[jA G ?_];obtain ⟨dx,lc,lw,ll,xs,ys,zs,a⟩:=O;rwa[b8 a W.i.cl W.blocked (v:= .int (M.bl:Int)) rfl ?_];rwa[ag L rfl ?_];rwa[gI.mk _ _ rfl @c ?_];rwa[cO a.em W.i.cl W.blocked (by show 7<1000;decide) ?_];exact q _ (.updI a.em) ⟨dx,lc,lw,ll,xs,ys,zs,a.putF M.last M.fire (M.bl|||2^j)⟩
  ·ext;rwa[dF (by rw [G];decide+kernel) ?_];rwa[dF (by rw [G];decide+kernel) ?_];rwa[jA G ?_];erw[ag L rfl ?_];rw [G,fk] at q;exact uR.mk _ _ _ _ _ _ 0 rfl @b O Z R U λH' st I=>q H' st I
  ·ext;rwa[dF (by rw [G];decide+kernel) ?_];rwa[dF (by rw [G];decide+kernel) ?_];rwa[dF (by rw [G];decide+kernel) ?_];rwa[dF (by rw [G];decide+kernel) ?_];rwa[jA G ?_];erw[ag L rfl ?_];rw [G,gx] at q;exact oY.mk _ _ _ _ _ _ 0 rfl @b O R U λH' st I=>q H' st I
  ·ext;rwa[dF (by rw [G];decide+kernel) ?_];rwa[dF (by rw [G];decide+kernel) ?_];rwa[dF (by rw [G];decide+kernel) ?_];rwa[jA G ?_];erw[ag L rfl ?_];rw [G,fm] at q;exact uR.mk _ _ _ _ _ _ 1 rfl @b O Z R U λH' st I=>q H' st I
  ·ext;rwa[dF (by rw [G];decide+kernel) ?_];rwa[dF (by rw [G];decide+kernel) ?_];rwa[dF (by rw [G];decide+kernel) ?_];rwa[dF (by rw [G];decide+kernel) ?_];rwa[dF (by rw [G];decide+kernel) ?_];rwa[jA G ?_];erw[ag L rfl ?_];rw [G,gy] at q;exact oY.mk _ _ _ _ _ _ 1 rfl @b O R U λH' st I=>q H' st I
 |sg x=>exact False.elim J
abbrev uK:=List Cb->List aH->aH->Int->Int×Int
inductive pX (K:Fg)(GG LB:Hp->Prop)(pre:List Cb->List aH->aH->Int->Prop)(dl:uK)(vs:List V)(H:Hp)(Q:VK)(_e:XK):Prop
 |mk (tc tw x cs ws r last xs ys:_) (_:vs=[.ref tc,.ref tw,x,.int last]) (_:H tc=some (.tup xs)) (_:Paired @fE xs cs) (_:H tw=some (.tup ys)) (_:ax K H ys @fF) (_:bH K H x @ey) (_:GG H) (_:LB H) (_:pre cs ws r last) (_:∀t H',aP H H'->GG H'->H' t=some (.tup [.int (dl cs ws r last).1,.int (dl cs ws r last).2])->Q (.ref t) H')
noncomputable def ka (t i:Int):D:= .tup [.str "deal",.int t,.int i]
noncomputable def cR (dl:uK)(M:MS)(p:Nat)(r:aH):MS:=if (dl M.cs M.ws r M.last).1= -1 then {M with last:=(dl M.cs M.ws r M.last).2} else {M with last:=(dl M.cs M.ws r M.last).2,ws:=M.ws.set p {r with lift:=(dl M.cs M.ws r M.last).1},log:=M.log++[ka r.tag (dl M.cs M.ws r M.last).1]}
inductive pZ (P:Program)(w:World)(K:Fg)(mg:Str->Option Value)(base:Heap)(C:Addr)(GG LB:Hp->Prop)(pre:List Cb->List aH->aH->Int->Prop)(dl:uK)(vs:List V)(H:Hp)(Q:VK)(_e:XK):Prop
 |mk (m df x h H0 M r:_) (p:Nat) (_:vs=[.ref m,.ref df,.int (p:Int),x]) (_:iz P w K mg base 5 df @el) (_:GG H) (_:NT H0) (_:LB H0) (_:gD K C H0 H m h M) (_:bH K H x @ey) (_:p<M.ws.length) (_:M.ws.length<=1000) (_:M.log.length<=1000) (_:M.cs.length<=10) (_:pre M.cs M.ws r M.last) (_:∀H',dH H H'->GG H'->gD K C H0 H' m h @gl->Q .non H')
theorem Iz {C:Addr}{GG LB:Hp->Prop}{ah:List Cb->List aH->aH->Int->Prop}{dl:uK}{t1:Tok}(F:Z0 K "deal" AK f fd)(gT:GT GG)(lN:∀H H',aP H H'->LB H->LB H')(L:wt K C)(bo:mg "tuple"=none)(bf:mg "NO_LIFT"=some (.int (-1) t1))(eQ:Z07 P w K mg base):au P w K mg base aZ 6 f fd ["moment","dealer","place","rider"] (pZ P w K mg base C GG LB ah dl):=by
 have ff:aE (.int (-1)) (.int (-1) t1):=⟨_,rfl⟩;rwa[F.ok D5 (by symm) (λai A outer s H vs Q E hr h=> ?_)];obtain ⟨m,df,x,h,H0,M,r,p,rfl,Y,hg,nt,lb,⟨dx,lc,lw,ll,xs,ys,zs,a⟩,hx,pw,wl,gl,al,Z,q⟩:=h;have U:=L.i.cl;have yl:ys.length=M.ws.length:=aD a.dw;have zl:zs.length=M.log.length:=a.dl.len;obtain ⟨ra,rfl,hT⟩:=cJ hx;rwa[⟨_,(aa (bD (i:=4) D5.nd rfl @q (Ey 1 hr rfl @q (aq (aI @da rfl bo boot_tuple @C) (aq (aI @da rfl bo boot_tuple @C) (aq (wv 3) @C))))) (aa @cO (ac (aB @a (aa @cP @D) ar)))),?_⟩];rwa[⟨df,5,_,rfl,by decide,Y,?_⟩];rwa[b8 a U L.cabins (v:= .ref lc) rfl ?_];rwa[fJ @bI λtc H1 s1 n1 e1=> ?_];have a1:=a.same s1;rwa[b8 a1 U L.waiting (v:= .ref lw) rfl ?_];rwa[fJ (aA.of a1.ew) λtw H2 s2 n2 e2=> ?_];have a2:=a1.same s2;have R:=s1.trans s2;rwa[b8 a2 U L.last (v:= .int M.last) rfl ?_];rwa[⟨tc,tw,.ref ra,M.cs,M.ws,r,M.last,xs,ys,rfl,s2 _ _ e1,a2.dc,e2,a2.dw,bH.same hx R,gT _ _ R.st hg,lN _ _ a2.s.nt lb,Z,λt H3 s3 g3 e3=> ?_⟩];have a3:=a2.sameN nt s3;have ad:dH H H3:=R.st.sx.trans s3.sx;unfold cR at q;generalize ak:(dl M.cs M.ws r M.last).1=d1 at *;generalize aj:(dl M.cs M.ws r M.last).2=W at *;rwa[ag (aC.of e3) rfl ?_];rwa[cO a3.em U L.last (by show 7<1000;decide) ?_];have a4:=a3.putF W M.fire M.bl;have e0:putF "last" (.int W) @en=sr h lc lw W M.fire M.bl ll:=rfl;rw [e0];generalize G:upd H3 m (.ins C dx (sr h lc lw W M.fire M.bl ll))=H4 at a4 ⊢
 have J:dH H H4:=by rw [<-G];exact ad.trans (aJ.updI a3.em).sx
 have g4:GG H4:=by rw [<-G];exact gT _ _ (aJ.updI a3.em) g3
 have S:aC K H4 t [.int d1,.int W]:=by rw [<-G];exact (aJ.updI a3.em).sqT (aC.of e3)
 clear G;erw[ag S rfl ?_];by_cases z:d1= -1
 ·rw [if_pos z] at q;rwa[be (by simp [z]) ?_];exact q _ J g4 ⟨dx,lc,lw,ll,xs,ys,zs,a4⟩
 ·rw [if_neg z] at q;rwa[bL (by simp [z]) ?_];rwa[ag S rfl ?_];rwa[jm.mk _ _ _ rfl (J.den hx rfl) λv H5 s5 dv=> ?_];have O:=a4.same s5;rwa[b8 O U L.waiting (v:= .ref lw) rfl ?_];rwa[nW (j:=p) O.ew (by unfold yt;rw [if_pos @c,if_pos @c];congr 1) ?_]
  have ae:ax K H5 (ys.set p v) ((M.ws.set p {r with lift:=d1}).map aH.d):=by
   rw [map_set];exact gR O.dw dv
  have a6:=O.setW ae;generalize I:upd H5 lw (.lst (ys.set p v))=H6 at a6 ⊢
  have ab:dH H H6:=by rw [<-I];exact (J.trans s5.st.sx).trans (aJ.updL O.ew).sx
  have g6:GG H6:=by rw [<-I];exact gT _ _ (s5.st.trans (.updL O.ew)) g4
  have af:aC K H6 t [.int d1,.int W]:=by rw [<-I];exact (aJ.updL O.ew).sqT (s5.seqT S)
  clear I;rwa[b8 a6 U L.log (v:= .ref ll) rfl ?_];rwa[⟨.inl ⟨rfl,_,aA.of a6.el⟩,?_⟩];rwa[ag (ab.sqT hT) rfl ?_];rwa[ag af rfl ?_];rwa[bX (bt (by show 3<=1000000;decide)) λg7 H7 s7 n7 e7=> ?_];have a7:=a6.same s7;rwa[gB a7.el @dh ?_];exact q _ ((ab.trans s7.st.sx).trans (aJ.updL a7.el).sx) (gT _ _ (s7.st.trans (.updL a7.el)) g6) ⟨dx,lc,lw,ll,xs,_,_,a7.setL (ds:=[ka r.tag d1]) (.cons (hI (aC.of e7) (.cons (.str _) (.cons (.int _) (.cons (.int _) .nil)))) .nil) rfl⟩
noncomputable def az (dl:uK)(W:List aH):Nat->MS->MS
 |0,M=>M
 |i+1,M=>match W[i]? with
  |some r=>if r.lift= -1 then cR dl @gm i r else az dl W i M
  |none=>az dl W i M
inductive kO (P:Program)(w:World)(K:Fg)(mg:Str->Option Value)(base:Heap)(C:Addr)(GG LB:Hp->Prop)(pre:List Cb->List aH->aH->Int->Prop)(dl:uK)(vs:List V)(H:Hp)(Q:VK)(_e:XK):Prop
 |mk (m df h H0 M:_) (_:vs=[.ref m,.ref df]) (_:iz P w K mg base 5 df @el) (_:GG H) (_:NT H0) (_:LB H0) (_:gD K C H0 H m h M) (_:M.ws.length<=500) (_:M.log.length<=400) (_:M.cs.length<=10) (_:(∀i r,M.ws[i]? =some r->r.lift= -1->pre (az dl M.ws i M).cs (az dl M.ws i M).ws r (az dl M.ws i M).last)) (_:∀H',dH H H'->GG H'->gD K C H0 H' m h (az dl M.ws M.ws.length M)->Q .non H')
theorem CF {dl:uK}{M:MS}{p:Nat}{r:aH}:(cR dl M p r).ws.length=M.ws.length/\(cR dl M p r).cs=M.cs/\(cR dl M p r).log.length<=M.log.length+1:=by
 unfold cR;split
 ·exact ⟨rfl,rfl,Nat.le_succ _⟩
 ·exact ⟨length_set,rfl,by simp⟩
theorem dN {dl:uK}{W:List aH}{M:MS}:∀i,(az dl W i M).ws.length=M.ws.length/\(az dl W i M).cs=M.cs/\(az dl W i M).log.length<=M.log.length+i
 |0=>⟨rfl,rfl,by simp [az]⟩
 |i+1=>by
  have h:=dN (dl:=dl) (W:=W) (M:=M) i;unfold az;split
  ·rename_i r _;split
   ·have g:=CF (dl:=dl) (M:=az dl W i M) (p:=i) (r:=r);exact ⟨g.1.trans h.1,g.2.1.trans h.2.1,by have:=g.2.2;lia⟩
   ·exact ⟨h.1,h.2.1,by lia⟩
  ·exact ⟨h.1,h.2.1,by lia⟩
theorem iZ {dl:uK}{W:List aH}{M:MS}:∀i,(az dl W i M).fire=M.fire
 |0=>rfl
 |i+1=>by
  have j:=iZ (dl:=dl) (W:=W) (M:=M) i;unfold az;split
  ·split
   ·unfold cR;split
    ·exact j
    ·exact j
   ·exact j
  ·exact j
def i7 (H:Hp)(m lc lw ll:Addr):Hp:=λb=>if b=m\/b=lc\/b=lw\/b=ll then none else H b
theorem CJ {H:Hp}{m lc lw ll:Addr}:aj @cg H:=λb u z=>by
 unfold i7 at z;split at z
 ·cases z
 ·exact z
theorem jv {H:Hp}{m lc lw ll b:Addr}{u:HO}(h:H b=some u)(h1:b≠m)(h2:b≠lc)(L:b≠lw)(j:b≠ll):i7 H m lc lw ll b=some u:=by
 unfold i7;rw [if_neg (λz=>by rcases z with z|z|z|z;exact h1 z;exact h2 z;exact L z;exact j z)];exact h
theorem c4.wide {C:Addr}{H0 H:Hp}{m h dx lc lw ll:Addr}{xs ys zs:List V}{M:MS}(a:c4 K C H0 H m h dx lc lw ll xs ys zs M):c4 K C @cg H m h dx lc lw ll xs ys zs M/\aj H0 @cg:=by
 rwa[⟨⟨CJ,if_pos (.inl rfl),if_pos (.inr (.inl rfl)),if_pos (.inr (.inr (.inl rfl))),if_pos (.inr (.inr (.inr rfl))),a.cw,a.cl,a.wl,a.em,a.ec,a.ew,a.el,a.dc,a.dw,a.dl,a.ln⟩,λb u z=> ?_⟩];exact jv (a.s _ _ z) (λe=>by rw [e,a.nm] at z;cases z) (λe=>by rw [e,a.nc] at z;cases z) (λe=>by rw [e,a.nw] at z;cases z) (λe=>by rw [e,a.nl] at z;cases z)
theorem c4.wideN {C:Addr}{H0 H:Hp}{m h dx lc lw ll:Addr}{xs ys zs:List V}{M:MS}(j:NT H0)(a:c4 K C H0 H m h dx lc lw ll xs ys zs M):c4 K C (wx @cg) H m h dx lc lw ll xs ys zs M/\aj H0 (wx @cg):=by
 obtain ⟨b,s⟩:=a.wide;rwa[⟨⟨(qM _).trans b.s,k7 b.nm,k7 b.nc,k7 b.nw,k7 b.nl,a.cw,a.cl,a.wl,a.em,a.ec,a.ew,a.el,a.dc,a.dw,a.dl,a.ln⟩,λx u z=> ?_⟩];exact qO (s _ _ z) (λps e=>j x ps (by rw [z,e]))
theorem gD.onto {C:Addr}{H0 j H:Hp}{m h:Addr}{M:MS}(s:aj H0 j)(z:gD K C j H m h M):gD K C H0 H m h M:=by
 obtain ⟨dx,lc,lw,ll,xs,ys,zs,a⟩:=z;exact ⟨dx,lc,lw,ll,xs,ys,zs,s.trans a.s,none_of s a.nm,none_of s a.nc,none_of s a.nw,none_of s a.nl,a.cw,a.cl,a.wl,a.em,a.ec,a.ew,a.el,a.dc,a.dw,a.dl,a.ln⟩
theorem gD.s {C:Addr}{H0 H:Hp}{m h:Addr}{M:MS}(z:gD K C H0 H m h M):aj H0 H:=let ⟨_,_,_,_,_,_,_,a⟩:=z;a.s
theorem E2 {C:Addr}{GG U:Hp->Prop}{ah:List Cb->List aH->aH->Int->Prop}{dl:uK}{t1:Tok}(F:Z0 K "deal_all" kU f fd)(gT:GT GG)(lN:∀H H',aP H H'->U H->U H')(cM:wt K C)(cc:mg "list"=none)(cz:mg "enumerate"=none)(bf:mg "NO_LIFT"=some (.int (-1) t1))(Bg:aR P w K mg base 6 "deal" ["moment","dealer","place","rider"] (pZ P w K mg base C GG U ah dl)):au P w K mg base aZ 7 f fd ["moment","dealer"] (kO P w K mg base C GG U ah dl):=by
 have ff:aE (.int (-1)) (.int (-1) t1):=⟨_,rfl⟩;rwa[F.ok BM (by symm) (λaj A outer s H vs Q E hr h=> ?_)];obtain ⟨m,df,h,H0,M,rfl,Y,hg,nt,lb,⟨dx,lc,lw,ll,xs,ys,zs,a⟩,wl,gl,al,ad,q⟩:=h;have cl:=cM.i.cl;have yl:ys.length=M.ws.length:=aD a.dw;rwa[⟨_,(ac (cm PassesOwn.never rfl (Au rfl rfl cz @cb) @a (ac (aB @a @D ar)))),?_⟩];rwa[b8 a cl cM.waiting (v:= .ref lw) rfl ?_];rwa[fC (.inl @fQ) λlk H1 s1 n1 e1=> ?_];have a1:=a.same s1;have ak:H0 lk=none:=none_of a.s n1;erw[.inl ⟨ys,aA.of e1,?_⟩];obtain ⟨aw,sw⟩:=a1.wideN nt;have ab:NT (wx @eA):=E7 _;have O:U (wx @eA):=lN _ _ sw.nt lb;generalize ae:wx @eA=Hc at aw sw ab O
 have kk:∀ {p:Addr} {us:List V},H1 p=some (.lst us)->p≠m:=λ{p us} e z=>by rw [z,a1.em] at e;cases e
 have I:∀ {p:Addr} {o:HO},H p=some o->lk≠p:=λ{p o} e z=>by rw [<-z,n1] at e;cases e
 have ek:Hc lk=some (.lst ys):=by rw [<-ae];exact qO (jv e1 (kk e1) (I a.ec) (I a.ew) (I a.el)) (λ_ z=>by cases z)
 have dy:∀ {i:Nat} {x:V},ys[i]? =some x->∃r b,M.ws[i]? =some r/\x= .ref b/\bH K H1 (.ref b) r.d:=λ{i x} J=>by
  obtain ⟨r,aa,dr⟩:=bc (f:=aH.d) a1.dw J;obtain ⟨b,rfl,_⟩:=cJ dr;exact ⟨r,b,aa,rfl,dr⟩
 rwa[FK (xs:=ys) (λi σ L=>dH H1 L/\gD K C Hc L m h @gd/\GG L/\∃o2 o3,σ=[some (.ref m),some (.ref df),o2,o3]) ⟨.refl _,⟨dx,lc,lw,ll,xs,ys,zs,aw⟩,gT _ _ s1.st hg,_,_,rfl⟩ (λi σ L _ R=>aA.of (R.2.1.s _ _ ek)) (λi x σ L T HY J R sT eT=> ?_) (λσ L R=> ?_)]
 ·obtain ⟨st,hM,gX,o2,o3,rfl⟩:=R;have gY:=gT _ _ sT.st gX;obtain ⟨r,b,aa,rfl,dr⟩:=dy J;have hi:i<M.ws.length:=(List.getElem?_eq_some_iff.mp aa).1;have hl:=dN (dl:=dl) (W:=M.ws) (M:=M) i;have j:=st.trans sT.st.sx;have G:=hM.same sT;have S:bH K HY (.ref b) r.d:=j.den dr rfl;obtain ⟨b',af,hT⟩:=cJ S;cases af
  have nx:az dl M.ws (i+1) M=if r.lift= -1 then cR dl @gd i r else az dl M.ws i M:=by
   show (match M.ws[i]? with|some r=>_|none=>_)=_;rw [aa]
  rwa[kz (aC.of eT) rfl ?_];erw[ag hT rfl ?_];by_cases z:r.lift= -1
  ·rw [if_pos z] at nx;rwa[bL @X ?_];rwa[pZ.mk _ _ _ _ _ _ _ _ rfl Y gY ab O G S @c @c @c (by rw [hl.2.1];lia) (ad i r aa z) λHZ ai gZ Z=> ?_];rw [<-nx] at Z;exact ⟨j.trans ai,Z,gZ,_,_,rfl⟩
  ·rw [if_neg z] at nx;rwa[be (decide_eq_false z) ?_];rw [<-nx] at G;exact ⟨j,G,gY,_,_,rfl⟩
 ·obtain ⟨st,hM,gX,o2,o3,rfl⟩:=R;rw [yl] at hM;exact q _ (s1.st.sx.trans st) gX (hM.onto sw)
def Hh (wd:Str)(t i fl:Int):D:= .tup [.str wd,.int t,.int i,.int fl]
theorem Ed (j:Str)(i fl:Int)(ts:List Int):noLs (ts.map λt=>Hh j t i fl)=true:=by
 induction ts with
 |nil=>rfl
 |cons r rs ih=>rw [map_cons,noLs,ih];rfl
def Aa (M:MS)(wd:Str)(ts:List Int)(i:Int)(c:Cb):MS:= {M with log:=M.log++ts.map λt=>Hh wd t i (c.pl / 2)}
inductive yR (K:Fg)(C:Addr)(vs:List V)(H:Hp)(Q:VK)(_e:XK):Prop
 |mk (m wd tg i h H0 M c:_) (ts:List Int) (_:vs=[.ref m,.str wd,.ref tg,.int i]) (_:gD K C H0 H m h M) (_:atC M i c) (_:(∃us,aA K H0 tg us/\us=ts.map V.int)) (_:ts.length<=1000) (_:M.log.length<=3000) (_:∀H',aJ H H'->gD K C H0 H' m h (Aa M wd ts i c)->Q .non H')
theorem JR {C:Addr}{H H0:Hp}{m tg h:Addr}{j:Str}{i:Int}{M:MS}{c:Cb}{ts:List Int}{Q:VK}{E:XK}(h1:gD K C H0 H m h M)(h2:atC M i c)(L:aA K H0 tg (ts.map V.int))(z:ts.length<=1000)(U:M.log.length<=3000)(q:∀H',aJ H H'->gD K C H0 H' m h (Aa M j ts i c)->Q .non H'):yR K C [.ref m,.str j,.ref tg,.int i] H Q E:=⟨m,j,tg,i,h,H0,M,c,ts,rfl,h1,h2,⟨_,L,rfl⟩,z,U,q⟩
theorem Iu {C:Addr}(F:Z0 K "log_steps" mJ f fd)(S:wt K C)(bU:Z02 P w K mg base):au P w K mg base aZ 2 f fd ["moment","word","tags","lift"] (yR K C):=by
 rwa[F.ok ze (by symm) @i];obtain ⟨m,wd,tg,i,h,H0,M,c,W,rfl,⟨dx,lc,lw,ll,xs,ys,zs,a⟩,hc,⟨z,R,rfl⟩,tl,gl,q⟩:=h;obtain ⟨t,hx,hi,ht,ad⟩:=a.atC hc;have cl:=S.i.cl;have zl:zs.length=M.log.length:=a.dl.len;rwa[⟨_,(aa @a (ac (aK (fu rfl PySem.F.plainAttrs_list PySem.F.slot_list_extend PySem.F.type_list_extend pH @a (aq (bb rfl (ay (N':=["tag","word","lift","floor"]) (pk:=[none,some 1,some 3,some 4]) @l) @a @h @r @h) am))))),?_⟩];rwa[b8 a cl S.cabins (v:= .ref lc) rfl ?_];rwa[aN @bI hi ?_];rwa[cr.mk _ _ _ _ _ _ rfl ht ?_];rwa[b8 a cl S.log (v:= .ref ll) rfl ?_];erw[⟨.inl ⟨rfl,_,aA.of a.el⟩,?_⟩];have hL:=a.s.seq R;rwa[bK hL ?_];rwa[bu (xs:=W.map V.int) (λj z G=>aj H G/\z.length=j/\ax K G z ((W.take j).map λt=>Hh wd t i (c.pl / 2))) (bt (by rw [length_map];lia)) (λj z G h=>Nat.le_of_eq h.2.1) ⟨.refl _,rfl,.nil⟩ (λj z G _ h=>h.1.seq hL) (λj y z G hy Y=> ?_) (λz G Y l n=> ?_)]
 ·obtain ⟨U,J,I⟩:=Y;rw [getElem?_map] at hy;obtain ⟨v,hv,rfl⟩:=Option.map_eq_some_iff.mp hy;rwa[⟨bg,?_⟩];rwa[bX (bt (by show 4<=1000000;decide)) λb H3 O n3 L=>⟨U.trans O,by simp [J],?_⟩];rw [take_add_one,hv,map_append];exact Paired.app (ax.same I O) (.cons (hI (aC.of L) (.cons (.str _) (.cons (.int _) (.cons (.int _) (.cons (.int _) .nil))))) .nil)
 obtain ⟨U,J,I⟩:=Y;rw [length_map,take_of_length_le @f] at I;rw [length_map] at J;have aX:=a.same U;have O:aj G (upd G l (.lst z)):= .upd n;have Z:=aX.same O;have L:upd G l (.lst z) l=some (.lst z):=af;generalize ak:upd G l (.lst z)=H3 at O Z L ⊢;rwa[JU Z.el L @S ?_];exact q _ ((U.trans O).st.trans (.updL Z.el)) ⟨dx,lc,lw,ll,xs,ys,_,Z.setL (ax.same I O) (Ed wd i _ W)⟩
noncomputable def kR (M:MS)(i:Int)(c:Cb):MS:= {M with cs:=M.cs.set i.toNat c}
theorem EA {H:Hp}{bs:List V}{ps:List (Int×Int)}(d:ax K H bs @eZ){j:Nat}{y:V}(O:bs[j]? =some y):∃p t,ps[j]? =some p/\y= .ref t/\aC K H t [.int p.1,.int p.2]:=by
 obtain ⟨p,G,J⟩:=bc (f:=iR) d O;obtain ⟨t,xs,rfl,h1,h2⟩:=J.outT
 cases h2 with|cons q0 t0=>cases t0 with|cons q1 t1=>
 cases t1;cases q0.isInt;cases q1.isInt;exact ⟨p,t,G,rfl,h1⟩
theorem A0 {a:Int}{bs:List Int}:yu (.int a) (bs.map V.int)=decide (a∈bs):=by
 unfold yu;rw [any_map,Bool.eq_iff_iff,any_eq_true,decide_eq_true_eq];constructor
 ·rintro ⟨x,j,z⟩;have z:(x==a)=true:=z;rw [<-eq_of_beq z];exact j
 ·intro h;exact ⟨a,h,beq_self_eq_true a⟩
theorem uu (bs:List Int):(bs.map V.int).all c6=true:=by
 rw [all_map,all_eq_true];intro x _;rfl
noncomputable def jL (hs:Hs)(c:Cb)(l:Lf)(rs:List aH):GD:=vY hs.so l.rm c.pl c.li c.ps rs
noncomputable def uv (hs:Hs)(M:MS)(i:Int)(c:Cb)(l:Lf)(rs:List aH):MS:=
 {kR (Aa (Aa M "out" (dz c.pl c.ps) i c) (s!"in") (jL hs c l rs).ins i c) i ⟨c.pl,(jL hs c l rs).light,ix l.kd l.tn c.dr (M.bl.testBit i.toNat) (decide (((dz c.pl c.ps).length:Int)+((jL hs c l rs).ins.length:Int)>0)),c.mr,(jL hs c l rs).kept⟩ with ws:=M.ws.filter λr=> !decide (r.tag∈(jL hs c l rs).ins)}
structure J4 (P:Program)(w:World)(K:Fg)(mg:Str->Option Value)(base:Heap)(kD kH kS:Addr):Prop where
 c:∀k,ki k->J6 K @gh
 m:∀k,ki k->oP P w K mg base aZ 1 "left" (kc kD kH kS k) (iJ K k)
theorem xO {hs:Hs}{c:Cb}{l:Lf}{rs:List aH}:(jL hs c l rs).ins.length<=rs.length:=by
 have:=(lZ (so:=hs.so) (room:=l.rm) (pl:=c.pl) rs ⟨c.li,iu c.pl c.ps,[]⟩).2;simpa [jL,vY] using this
theorem xm {pl:Int}{ps:List (Int×Int)}:(dz pl ps).length<=ps.length:=by
 unfold dz;rw [length_map];exact length_filter_le _ _
inductive DF (K:Fg)(C:Addr)(vs:List V)(H:Hp)(Q:VK)(_e:XK):Prop
 |mk (m i rl h hs l H0 M c xr rs:_) (_:vs=[.ref m,.int i,.ref rl]) (_:jD K H0 h hs) (_:hs.ls[i.toNat]? =some l) (_:gD K C H0 H m h M) (_:atC M i c) (_:i<1000) (_:c.ps.length<=64) (_:M.log.length<=2000) (_:M.ws.length<=1000) (_:(∃f0,c.pl=2*f0)) (_:H0 rl=some (.lst xr)) (_:ax K H0 xr @K) (_:MP rs) (_:∀H',aJ H H'->gD K C H0 H' m h (uv hs M i c l rs)->Q .non H')
theorem LL {C kD kH kS:Addr}(F:Z0 K "exchange" mP f fd)(cM:wt K C)(D:J4 P w K mg base kD kH kS)(aU:mg "len"=none)(lQ:aR P w K mg base 1 "room_of" ["house","lift"] @df)(jw:aR P w K mg base 1 "turns_of" ["house","lift"] @dg)(x8:aR P w K mg base 1 "kind_of" ["house","lift"] (ml K λl=> .str l.kd))(rV:aR P w K mg base 3 "exchanged" ["sort","room","cabin","riders"] (yV K))(rL:aR P w K mg base 2 "log_steps" ["moment","word","tags","lift"] (yR K C))(yb:aR P w K mg base 3 "door_of" ["kind","turns"] (pW K kD kH kS))(oO:Z04 P w K mg base)(cf:Z03 P w K mg base):au P w K mg base aZ 4 f fd ["moment","lift","riders"] (DF K C):=by
 rwa[F.ok qj (by symm) (λbe A outer s H vs Q E hr h=> ?_)];obtain ⟨m,i,rl,h,hs,l,H0,M,c,xr,rs,rfl,hH,hl,⟨dx,lc,lw,ll,xs,ys,zs,a⟩,L,i1,Y,gl,wl,⟨f0,aW⟩,er,dr,an,q⟩:=h;obtain ⟨t,hx,hi,ht,bn⟩:=a.atC L;have cl:=cM.i.cl;obtain ⟨j,hj⟩:=Int.eq_ofNat_of_zero_le L.1;obtain ⟨ph,bj,pb,aY,bf,bs,bo,bi⟩:=(hH.same a.s).at L.1 hl;have S:ki l.kd:=(hH.1.lf l (mem_of_getElem? hl)).2.2.2.2;rwa[⟨_,(aa @a (aa @a (aa @a (aa @a (aa @a (aa @fb (aa @fb (aa @a (aa (bD (i:=9) qj.nd rfl @q (kx (n:=1) iq hr @b (wv 8) (aq @a (aq @a @C)))) (aa @cN (ac (cL rfl (wv 0) (bb rfl (ay (N':=["rider","ins"]) (pk:=[none,some 7]) @l) @a @h (λC s H ex=>(dj (ck (oS rfl) @a (wv 1) @Y))) @H))))))))))))),?_⟩];rwa[b8 a cl cM.house (v:= .ref h) rfl ?_];rwa[ag aY rfl ?_];rwa[ml.mk (g:=λl=> .int l.rm) _ _ _ _ rfl @gn L.1 hl ?_];rwa[b8 a cl cM.cabins (v:= .ref lc) rfl ?_];rwa[aN @bI hi ?_];rwa[OV ht Y (a.s _ _ er) (ax.same dr a.s) an aW λr H1 s1 aF=> ?_];obtain ⟨cn,co,ci,a7,az,eo,ei,no,ni,bm⟩:=aF;have e1:vY hs.so l.rm c.pl c.li c.ps rs=jL hs c l rs:=rfl;rw [e1] at az ei;generalize hE:jL hs c l rs=Z at *;generalize hO:dz c.pl c.ps=O at *
 have el:Z.ins.length<=rs.length:=by rw [<-hE];exact xO
 have ol:O.length<=64:=by rw [<-hO];exact Nat.le_trans xm Y
 have bd:rs.length<=64:=an.1;have a1:=a.same s1;obtain ⟨aw,sw⟩:=a1.wide
 have nk:∀ {p q:Addr} {o:HO},H p=none->H q=some o->p≠q:=λ{p q o} h1 h2 z=>by rw [z,h2] at h1;cases h1
 have ae:i7 H1 m lc lw ll co=some (.lst (O.map V.int)):=jv eo (nk no a.em) (nk no a.ec) (nk no a.ew) (nk no a.el);have R:i7 H1 m lc lw ll ci=some (.lst (Z.ins.map V.int)):=jv ei (nk ni a.em) (nk ni a.ec) (nk ni a.ew) (nk ni a.el);generalize bp:i7 H1 m lc lw ll=Hc at aw sw ae R;have I:=aC.of (K:=K) a7;rwa[ag I rfl ?_];rwa[ag I rfl ?_];erw[ag I rfl ?_];have a0:gD K C Hc H1 m h M:=⟨dx,lc,lw,ll,xs,ys,zs,aw⟩;rwa[JR (ts:=O) a0 L (aA.of ae) @c @c λH2 aQ a2=> ?_];rwa[JR (ts:=Z.ins) (c:=c) a2 L (aA.of R) @c (by show (M.log++_).length<=_;rw [length_append,length_map];lia) λH3 aS aG=> ?_];have aB:=aQ.trans aS;obtain ⟨aP,U,aO,aE,al,ak,aM,a3⟩:=aG;have av:=hH.same (sw.trans a3.s);rwa[ml.mk (g:=λl=> .str l.kd) _ _ _ _ rfl av L.1 hl ?_];rwa[ml.mk (g:=λl=> .int l.tn) _ _ _ _ rfl av L.1 hl ?_];rwa[pW.mk _ _ rfl S λda bh H4 s4 n4 e4=> ?_];have a4:=a3.same s4;have ad:=aB.trans s4.st;have ab:bQ K H4 cn c.pl Z.light c.dr c.mr Z.kept:=az.keep ad;obtain ⟨nb,bk,aV,bq,bv⟩:=id ab;have ai:=aC.of (K:=K) aV;rwa[lq e4 rfl (D.m _ S) ?_];rwa[ag ai rfl ?_];erw[b8 a4 cl cM.blocked (v:= .int (M.bl:Int)) rfl ?_];rw [hj];rwa[fw.mk _ _ rfl @c ?_];rwa[b6 (aA.of (a4.s _ _ ae)) ?_];rw [length_map];rwa[b6 (aA.of (a4.s _ _ R)) ?_];rw [length_map];rwa[iJ.mk _ _ _ _ _ _ _ rfl e4 (D.c _ S).i.cl (D.c _ S).n ?_];rwa[ag ai rfl ?_];rwa[ag ai rfl ?_];rwa[d5.mk _ _ _ _ _ _ _ _ _ rfl ab λt5 H5 s5 ba=> ?_];have a5:=a4.same s5;obtain ⟨_,_,_,_,ao⟩:=a3.atC (c:=c) L;erw[b8 a5 cl cM.cabins (v:= .ref U) rfl ?_];rw [<-hj];rwa[nW (j:=i.toNat) a5.ec (xy L.1 ao) ?_];have a6:=a5.setC (i:=i.toNat) (c:=⟨c.pl,Z.light,ix l.kd l.tn c.dr (M.bl.testBit j) (decide ((O.length:Int)+(Z.ins.length:Int)>0)),c.mr,Z.kept⟩) ⟨t5,rfl,ba⟩;generalize ar:upd H5 U (.lst (al.set i.toNat (.ref t5)))=H6 at a6 ⊢
 have as:aJ H1 H6:=by rw [<-ar];exact (ad.trans s5.st).trans (.updL a5.ec)
 clear ar;have yl:ak.length=M.ws.length:=aD a3.dw;rwa[b8 a6 cl cM.waiting (v:= .ref aO) rfl ?_];rwa[bK (aA.of a6.ew) ?_];rwa[bu (xs:=ak) (λj G J=>aj H6 J/\G.length<=j/\ax K J G (((M.ws.take j).filter λr=> !decide (r.tag∈Z.ins)).map aH.d)) @S (λj G J h=>h.2.1) ⟨.refl _,Nat.le_refl _,.nil⟩ (λj G J _ h=>h.1.seq (aA.of a6.ew)) (λj y G J hy hP=> ?_) (λG J hP l7 n7=> ?_)]
 ·obtain ⟨W,aI,hd⟩:=hP;obtain ⟨r,ah,ap⟩:=bc (f:=aH.d) a6.dw hy;have ah:M.ws[j]? =some r:=ah;obtain ⟨ra,rfl,hT⟩:=cJ (bH.same ap W);have nx:=jt (λr:aH=> !decide (r.tag∈Z.ins)) ah;rwa[⟨bg,?_⟩];rwa[ag hT rfl ?_];rwa[tZ (aA.of (W _ _ (a6.s _ _ R))) rfl (uu _) ?_];rw [A0];show if (!decide (r.tag∈Z.ins))=true then _ else _
  cases hb:(!decide (r.tag∈Z.ins)) with
  |true=>
   rw [if_pos rfl];rwa[⟨W,by rw [length_append];show _+1<=_;lia,?_⟩];rw [nx,hb,if_pos rfl,map_append];exact Paired.app hd (.cons (bH.same ap W) .nil)
  |false=>
   rw [if_neg @b];rwa[⟨W,by lia,?_⟩];rw [nx,hb,if_neg @b,append_nil];exact hd
 obtain ⟨W,aI,hd⟩:=hP;rw [yl,take_of_length_le @f] at hd;have aX:=a6.same W;have s8:aj J (upd J l7 (.lst G)):= .upd n7;have a8:=aX.same s8;have e8:upd J l7 (.lst G) l7=some (.lst G):=af;generalize br:upd J l7 (.lst G)=H8 at s8 a8 e8 ⊢
 have aT:U≠l7:=λz=>by rw [<-z,aX.ec] at n7;cases n7
 have aL:l7≠aE:=λz=>by rw [z,aX.el] at n7;cases n7
 rwa[cO a8.em cl cM.waiting (by show 7<1000;decide) ?_];have a9:=a8.putW (rs:=M.ws.filter λr=> !decide (r.tag∈Z.ins)) (none_of aX.s n7) aT aL e8 (ax.same hd s8);rwa[q _ ((s1.st.trans as).trans (((W.trans s8).st).trans (.updI a8.em))) (gD.onto sw ⟨aP,U,l7,aE,al.set i.toNat (.ref t5),G,aM,?_⟩)]
 have ee:uv hs M i c l rs= {kR (Aa (Aa M "out" O i c) (s!"in") Z.ins i c) i ⟨c.pl,Z.light,ix l.kd l.tn c.dr (M.bl.testBit j) (decide ((O.length:Int)+(Z.ins.length:Int)>0)),c.mr,Z.kept⟩ with ws:=M.ws.filter λr=> !decide (r.tag∈Z.ins)}:=by
  unfold uv;rw [hE,hO,hj,show ((j:Int)).toNat=j by lia]
 rw [ee];exact a9
structure Go (li he up dn:Int):Prop where
 l0: -1<=li
 l1:li<=1
 h0:0<=he
 h1:he<=2
 u0:0<=up
 d0:0<=dn
abbrev Wf:=Int->Int->Int->Int->Int->Str
inductive C2 (P:Program)(w:World)(K:Fg)(mg:Str->Option Value)(base:Heap)(H:Hp)(a:Addr)(wf:Wf):Prop
 |mk (C dx fs sp:_) (_:H a=some (.ins C dx fs)) (_:fs.lookup (s!"word")=none) (_:oP P w K mg base aZ 2 "word" C sp) (_:(∀fl li he up dn,Go li he up dn->wf fl li he up dn∈gG)) (_:∀(H':Hp) (sa:Addr) (fl li he up dn:Int) (Q:VK) (E:XK),H' a=some (.ins C dx fs)->aC K H' sa [.int fl,.int li,.int he,.int up,.int dn]->Go li he up dn->Q (.str (wf fl li he up dn)) H'->sp [.ref a,.ref sa] H' Q E)
theorem C2.same {H H':Hp}{a:Addr}{wf:Wf}(r:C2 P w K mg base H a wf)(s:aj H H'):C2 P w K mg base H' a wf:=by
 obtain ⟨C,dx,fs,sp,h1,h2,L,j,U⟩:=r;exact ⟨C,dx,fs,sp,s _ _ h1,h2,L,j,U⟩
noncomputable def Dz (hs:Hs)(l:Lf)(c:Cb)(wd:Str):Cb:=⟨(d9 hs.fl l.tn c.pl c.li c.dr c.ps @cz).1,(d9 hs.fl l.tn c.pl c.li c.dr c.ps @cz).2.1,(d9 hs.fl l.tn c.pl c.li c.dr c.ps @cz).2.2,c.mr,c.ps⟩
def Rr (hs:Hs)(wf:Wf)(M:MS)(i:Int)(c:Cb)(l:Lf)(rs:List aH)(M':MS):Prop:=∃(f0:Nat) (u d:Int),c.pl=2*(f0:Int)/\CY (tk l.rm c.ps rs) f0 u/\CZ (tk l.rm c.ps rs) f0 d/\M'=kR M i (Dz hs l c (wf f0 c.li (lB hs.so c.li (tk l.rm c.ps rs f0) (JZ c.ps f0) (Jv rs f0 c.li)) u d))
structure tN (fl:Int)(c:Cb):Prop where
 p0:0<=c.pl
 p1:c.pl<=2*(fl - 1)
 l0: -1<=c.li
 l1:c.li<=1
 m0:0<=c.mr
 ev:0<c.dr->c.pl% 2=0
 len:c.ps.length<=64
 gs:∀p∈c.ps,0<=p.2/\p.2<fl
structure gC (fl:Int)(r:aH):Prop where
 s0:0<=r.start
 s1:r.start<fl
 g0:0<=r.goal
 g1:r.goal<fl
 ne:r.start≠r.goal
theorem A1 {so:Str}{li:Int}{a b c:Bool}:0<=lB so li a b c/\lB so li a b c<=2:=by
 unfold lB;split
 ·decide
 split
 ·decide
 split
 ·decide
 ·decide
theorem CY.nn {t:Int->Bool}{f u:Int}(h:CY t f u):0<=u:=by rcases h with ⟨h,_⟩|⟨h,_⟩<;>lia
theorem CZ.nn {t:Int->Bool}{f u:Int}(h:CZ t f u):0<=u:=by rcases h with ⟨h,_⟩|⟨h,_⟩<;>lia
inductive DH (P:Program)(w:World)(K:Fg)(mg:Str->Option Value)(base:Heap)(C:Addr)(vs:List V)(H:Hp)(Q:VK)(_e:XK):Prop
 |mk (m ru i rl h hs l H0 M c xr rs wf:_) (_:vs=[.ref m,.ref ru,.int i,.ref rl]) (_:jD K H0 h hs) (_:hs.ls[i.toNat]? =some l) (_:C2 P w K mg base H0 ru wf) (_:gD K C H0 H m h M) (_:atC M i c) (_:tN hs.fl c) (_:c.pl% 2=0) (_:H0 rl=some (.lst xr)) (_:ax K H0 xr @K) (_:(∀r∈rs,gC hs.fl r)) (_:rs.length<=64) (_:∀M' H',Rr hs wf M i c l rs M'->aJ H H'->gD K C H0 H' m h M'->Q .non H')
theorem LM {C:Addr}(F:Z0 K "go_by_rule" mM f fd)(Y:wt K C)(lQ:aR P w K mg base 1 "room_of" ["house","lift"] @df)(jw:aR P w K mg base 1 "turns_of" ["house","lift"] @dg)(JX:aR P w K mg base 5 "view" ["sort","room","cabin","riders"] (yL K))(x6:aR P w K mg base 3 "steered" ["sort","floors","turns","cabin","word"] (me K)):au P w K mg base aZ 6 f fd ["moment","rule","lift","riders"] (DH P w K mg base C):=by
 rwa[F.ok qi (by symm) (λan A outer s H vs Q E Z h=> ?_)];obtain ⟨m,ru,i,rl,h,hs,l,H0,M,c,xr,J,wf,rfl,hH,hl,ad,⟨dx,lc,lw,ll,xs,ys,zs,a⟩,O,W,ev,er,dr,aw,bd,q⟩:=h;obtain ⟨t,hx,hi,ht,aj⟩:=a.atC O;have cl:=Y.i.cl;have f8:=hH.1.f8;obtain ⟨ph,bj,pb,G,bf,bs,bo,bi⟩:=(hH.same a.s).at O.1 hl;obtain ⟨kC,al,ao,ap,kr,ak,kM,kw,ks⟩:=ad;obtain ⟨U,z⟩:∃U:Nat,c.pl=2*(U:Int):=⟨(c.pl / 2).toNat,by have:=W.p0;lia⟩
 have ae:(U:Int)<hs.fl:=by have:=W.p1;lia
 have ab:PR c.ps J:=⟨λp R=>⟨(W.gs p R).1,by have:=(W.gs p R).2;lia⟩,λr Z=>⟨(aw r Z).s0,by have:=(aw r Z).s1;lia⟩,W.len,bd⟩;have ai:pF c.ps:=⟨by have:=W.len;lia,λp R=>⟨(W.gs p R).1,by have:=(W.gs p R).2;lia⟩⟩;rwa[⟨_,(aa @a (aa @a (aa (bD (i:=6) qi.nd rfl @q (kx (n:=2) iq Z @b (wv 1) @C)) (ac @cP)))),?_⟩];rwa[b8 a cl Y.house (v:= .ref h) rfl ?_];rwa[b8 a cl Y.cabins (v:= .ref lc) rfl ?_];rwa[aN @bI hi ?_];rwa[lq (a.s _ _ kr) ak kM ?_];rwa[ag G rfl ?_];rwa[ml.mk (g:=λl=> .int l.rm) _ _ _ _ rfl @gn O.1 hl ?_];rwa[yL.mk _ _ _ _ _ _ _ _ _ _ _ _ rfl ht (a.s _ _ er) (ax.same dr a.s) ab z @c λv u d H1 L hu hd ah=> ?_];have a1:=a.same L;have sn:Go c.li (lB hs.so c.li (tk l.rm c.ps J U) (JZ c.ps U) (Jv J U c.li)) u d:=⟨W.l0,W.l1,A1.1,A1.2,hu.nn,hd.nn⟩;rwa[ks H1 v U c.li _ u d _ _ (a1.s _ _ kr) (aC.of ah) sn ?_];have I:=kw U _ _ _ _ sn;generalize S:wf U c.li (lB hs.so c.li (tk l.rm c.ps J U) (JZ c.ps U) (Jv J U c.li)) u d=wd at I ⊢;rwa[ag (L.seqT G) rfl ?_];rwa[ag (L.seqT G) rfl ?_];rwa[ml.mk (g:=λl=> .int l.tn) _ _ _ _ rfl (hH.same a1.s) O.1 hl ?_];rwa[Dy (f0:=(U:Int)) (ht.same L) I ai z @c ae W.l0 W.l1 λr H2 s2 af=> ?_];have a2:=a1.same s2;rwa[b8 a2 cl Y.cabins (v:= .ref lc) rfl ?_];rwa[nW (j:=i.toNat) a2.ec (xy O.1 aj) ?_];rwa[q (kR M i (Dz hs l c wd)) _ ⟨U,u,d,z,hu,hd,by rw [S]⟩ ((L.trans s2).st.trans (.updL a2.ec)) ⟨dx,lc,lw,ll,_,ys,zs,a2.setC (i:=i.toNat) (c:=Dz hs l c wd) ⟨r,rfl,af⟩⟩]
def fO (i:Int)(M:MS):List aH:=M.ws.filter λr=>decide (r.lift=i)
def GH (hs:Hs)(wf:Wf)(M:MS)(i:Int)(c:Cb)(l:Lf)(M':MS):Prop:=if 0<c.dr then M'=uv hs M i c l @fG else if c.pl% 2=1 then M'=kR M i ⟨c.pl+c.li,c.li,0,c.mr,c.ps⟩ else Rr hs wf M i c l @fG M'
section
variable {hs:Hs}{wf:Wf}{M M':MS}{i:Int}{c:Cb}{l:Lf}
theorem RS (z:0<c.dr):GH hs wf M i c l (uv hs M i c l @fG):=by unfold GH;rw [if_pos z]
theorem RR (z: ¬0<c.dr)(U:c.pl% 2=1):GH hs wf M i c l (kR M i ⟨c.pl+c.li,c.li,0,c.mr,c.ps⟩):=by unfold GH;rw [if_neg z,if_pos U]
theorem RQ (z: ¬0<c.dr)(U: ¬c.pl% 2=1)(h:Rr hs wf M i c l @fG M'):GH hs wf M i c l M':=by unfold GH;rw [if_neg z,if_neg U];exact h
end
inductive DE (P:Program)(w:World)(K:Fg)(mg:Str->Option Value)(base:Heap)(C:Addr)(vs:List V)(H:Hp)(Q:VK)(_e:XK):Prop
 |mk (m ru i h hs l H0 M c wf:_) (_:vs=[.ref m,.ref ru,.int i]) (_:jD K H0 h hs) (_:hs.ls[i.toNat]? =some l) (_:C2 P w K mg base H0 ru wf) (_:gD K C H0 H m h M) (_:atC M i c) (_:tN hs.fl c) (_:i<1000) (_:(∀r∈M.ws,gC hs.fl r)) (_:M.ws.length<=64) (_:M.log.length<=2000) (_:∀M' H',GH hs wf M i c l M'->aJ H H'->gD K C H0 H' m h M'->Q .non H')
theorem LK {C:Addr}(F:Z0 K "go_without_fire" fe f fd)(cM:wt K C)(uF:aR P w K mg base 4 "exchange" ["moment","lift","riders"] (DF K C))(cf:Z03 P w K mg base)(oC:aR P w K mg base 6 "go_by_rule" ["moment","rule","lift","riders"] (DH P w K mg base C)):au P w K mg base aZ 7 f fd ["moment","rule","lift"] (DE P w K mg base C):=by
 rwa[F.ok io (by symm) (λap A outer s H vs Q E hr h=> ?_)];obtain ⟨m,ru,i,h,hs,l,H0,M,c,wf,rfl,hH,hl,al,⟨dx,lc,lw,ll,xs,ys,zs,a⟩,hc,ok,i1,an,wl,gl,q⟩:=h;obtain ⟨t,hx,hi,ht,am⟩:=a.atC hc;obtain ⟨b,bs,et,eb,db⟩:=id ht;have hT:=aC.of (K:=K) et;have cl:=cM.i.cl;have yl:ys.length=M.ws.length:=aD a.dw;rwa[⟨_,(aa @a (aa (gE (i:=4) rfl io.nd rfl @q (ay (N':=["rider","lift"]) (pk:=[none,some 2]) @l) @a @h @N @H) (ac (aB @a @D (ac (aB @a (ac @cP) @D)))))),?_⟩];rwa[b8 a cl cM.cabins (v:= .ref lc) rfl ?_];rwa[aN @bI hi ?_];rwa[b8 a cl cM.waiting (v:= .ref lw) rfl ?_];rwa[bK @fQ ?_];rwa[bu (xs:=ys) (λj G I=>aj H I/\G.length<=j/\ax K I G (((M.ws.take j).filter λr=>decide (r.lift=i)).map aH.d)) @S (λj G I h=>h.2.1) ⟨.refl _,Nat.le_refl _,.nil⟩ (λj G I _ h=>h.1.seq @fQ) (λj y G I hy hP=> ?_) (λG I hP Y n1=> ?_)]
 ·obtain ⟨L,ai,hd⟩:=hP;obtain ⟨r,S,ad⟩:=bc (f:=aH.d) a.dw hy;obtain ⟨ra,rfl,ah⟩:=cJ (bH.same ad L);have nx:=jt (λr:aH=>decide (r.lift=i)) S;rwa[⟨bg,?_⟩];rwa[ag ah rfl ?_];show if decide (r.lift=i)=true then _ else _
  cases hb:decide (r.lift=i) with
  |true=>
   rw [if_pos rfl];rwa[⟨L,by rw [length_append];show _+1<=_;lia,?_⟩];rw [nx,hb,if_pos rfl,map_append];exact Paired.app hd (.cons (bH.same ad L) .nil)
  |false=>
   rw [if_neg @b];rwa[⟨L,by lia,?_⟩];rw [nx,hb,if_neg @b,append_nil];exact hd
 obtain ⟨L,ai,hd⟩:=hP;rw [yl,take_of_length_le @f] at hd;have W:aj I (upd I Y (.lst G)):= .upd n1;have e2:upd I Y (.lst G) Y=some (.lst G):=af;have d2:=ax.same hd W;generalize aq:upd I Y (.lst G)=H2 at W e2 d2 ⊢;have R:=L.trans W;have a2:=a.same R;obtain ⟨aw,Z⟩:=a2.wide
 have nk:∀ {p:Addr} {o:HO},H p=some o->Y≠p:=λ{p o} e z=>by rw [<-z] at e;rw [L _ _ e] at n1;cases n1
 have J:i7 H2 m lc lw ll Y=some (.lst G):=jv e2 (nk a.em) (nk a.ec) (nk a.ew) (nk a.el)
 have dC:ax K (i7 H2 m lc lw ll) G ((fO i M).map aH.d):=by
  rwa[aJ.dens (λb o z1 U e=> ?_) d2 (fz _)];exact jv e (λz=>by rw [z,a2.em] at e;cases e;exact U _ _ _ rfl) (λz=>by rw [z,a2.ec] at e;cases e;exact z1 _ rfl) (λz=>by rw [z,a2.ew] at e;cases e;exact z1 _ rfl) (λz=>by rw [z,a2.el] at e;cases e;exact z1 _ rfl)
 generalize ao:i7 H2 m lc lw ll=Hc at aw Z J dC;have ae:gD K C Hc H2 m h M:=⟨dx,lc,lw,ll,xs,ys,zs,aw⟩;have ab:∀r∈fO i M,gC hs.fl r:=λr hr=>an r ((mem_filter.mp hr).1);have bd:(fO i M).length<=64:=Nat.le_trans @bp wl;rwa[ag @dv rfl ?_];rwa[eh @k @k]
 ·have z:0<c.dr:=z;exact DF.mk _ _ _ _ _ _ _ _ _ _ _ rfl (hH.same Z) hl ae hc i1 ok.len gl @c ⟨c.pl / 2,by have:=ok.ev z;lia⟩ J dC ⟨bd,λr hr=>(ab r hr).ne⟩ λH' st O=>q _ H' (RS z) (R.st.trans st) (O.onto Z)
 have z: ¬0<c.dr:=z;rwa[ag @dv rfl ?_];rwa[⟨by decide,?_⟩];rwa[eh @eH @eH]
 ·have U:c.pl% 2=1:=U;rwa[ag @dv rfl ?_];rwa[ag @dv rfl ?_];rwa[ag @dv rfl ?_];rwa[d5.mk _ _ _ _ _ _ _ _ _ rfl (ht.same R) λr H3 s3 S=> ?_];have a3:=a2.same s3;rwa[b8 a3 cl cM.cabins (v:= .ref lc) rfl ?_];rwa[nW (j:=i.toNat) a3.ec (xy hc.1 am) ?_];exact q _ _ (RR z U) ((R.trans s3).st.trans (.updL a3.ec)) ⟨dx,lc,lw,ll,_,ys,zs,a3.setC (i:=i.toNat) (c:=⟨c.pl+c.li,c.li,0,c.mr,c.ps⟩) ⟨r,rfl,S⟩⟩
 ·have U: ¬c.pl% 2=1:=U;exact DH.mk _ _ _ _ _ _ _ _ _ _ _ _ _ rfl (hH.same Z) hl (al.same Z) ae hc ok @c J dC ab bd λM' H' ak st O=>q M' H' (RQ z U ak) (R.st.trans st) (O.onto Z)
def Pu (hs:Hs)(wf:Wf)(M:MS)(i:Int)(c:Cb)(l:Lf)(M':MS):Prop:=(c.mr.toNat.testBit 0=true/\M'=M)\/(c.mr.toNat.testBit 0=false/\M.fire=true/\M'=M)\/(c.mr.toNat.testBit 0=false/\M.fire=false/\GH hs wf M i c l M')
inductive GX (P:Program)(w:World)(K:Fg)(mg:Str->Option Value)(base:Heap)(C:Addr)(vs:List V)(H:Hp)(Q:VK)(_e:XK):Prop
 |mk (m ru i h hs l H0 M c wf:_) (_:vs=[.ref m,.ref ru,.int i]) (_:jD K H0 h hs) (_:hs.ls[i.toNat]? =some l) (_:C2 P w K mg base H0 ru wf) (_:gD K C H0 H m h M) (_:atC M i c) (_:tN hs.fl c) (_:i<1000) (_:(∀r∈M.ws,gC hs.fl r)) (_:M.ws.length<=64) (_:M.log.length<=2000) (_:M.fire=false) (_:∀M' H',Pu hs wf M i c l M'->aJ H H'->gD K C H0 H' m h M'->Q .non H')
theorem OD {C:Addr}{t1:Tok}(F:Z0 K "go" QM f fd)(z:wt K C)(vV:mg "STUCK"=some (.int 0 t1))(oO:Z04 P w K mg base)(gA:aR P w K mg base 7 "go_without_fire" ["moment","rule","lift"] (DE P w K mg base C)):au P w K mg base aZ 8 f fd ["moment","rule","lift"] (GX P w K mg base C):=by
 have K8:aE (.int 0) (.int 0 t1):=⟨_,rfl⟩;rwa[F.ok QL (by symm) @i];obtain ⟨m,ru,i,h,hs,l,H0,M,c,wf,rfl,hH,hl,ad,Y,O,Z,i1,J,wl,gl,R,q⟩:=h;have j:=Y;obtain ⟨dx,lc,lw,ll,xs,ys,zs,a⟩:=Y;obtain ⟨t,hx,hi,ht,ae⟩:=a.atC O;obtain ⟨b,bs,et,eb,db⟩:=id ht;have S:=z.i.cl;obtain ⟨U,W⟩:=Int.eq_ofNat_of_zero_le Z.m0;rwa[⟨_,(aa (aB @a (ac Hm) ar) (ac (aB @a @fe @D))),?_⟩];rwa[b8 a S z.cabins (v:= .ref lc) rfl ?_];rwa[aN @bI hi ?_];rwa[ag @fu rfl ?_];rw [W]
 have L:c.mr.toNat=U:=by rw [W];rfl
 erw[fw.mk _ 0 rfl @b ?_];by_cases G:U.testBit 0=true
 ·rwa[bL G ?_];exact q M H (.inl ⟨by rw [L];exact G,rfl⟩) (.refl _) j
 ·have an:U.testBit 0=false:=by simpa using G
  rwa[be an ?_];rwa[b8 a S z.fire (v:= .bl M.fire) rfl ?_];rwa[be R ?_];exact DE.mk _ _ _ _ _ _ _ _ _ _ rfl hH hl ad j O Z i1 J wl gl λM' H' hg st I=>q M' H' (.inr (.inr ⟨by rw [L];exact an,R,hg⟩)) st I
inductive jb (K:Fg)(H:Hp)(st:Addr)(cs:List Cb)(ws:List aH)(last:Int)(fire:Bool):Prop
 |mk (tc tw xs ys:_) (_:aC K H st [.ref tc,.ref tw,.int last,.bl fire]) (_:aC K H tc xs) (_:aC K H tw ys) (_:Paired @fE xs cs) (_:ax K H ys @fF)
theorem jb.keep {H H':Hp}{st:Addr}{cs:List Cb}{ws:List aH}{last:Int}{j:Bool}(h:jb K H st cs ws last j)(s:aJ H H'):jb K H' st cs ws last j:=by
 obtain ⟨tc,G,xs,ys,h1,h2,L,F,U⟩:=h;exact ⟨tc,G,xs,ys,s.sqT h1,s.sqT h2,s.sqT L,Paired.imp' (λx c z=>b9.keep z s) F,s.dens U (fz _)⟩
inductive DD (K:Fg)(vs:List V)(H:Hp)(Q:VK)(_e:XK):Prop
 |mk (a h st C dx tc tw xs ys last fire:_) (_:vs=[.ref a,.ref h,.ref st]) (_:H a=some (.ins C dx [])) (_:wt K C) (_:aC K H st [.ref tc,.ref tw,.int last,.bl fire]) (_:aC K H tc xs) (_:aC K H tw ys) (_:∀lc lw ll H',dD a H H'->H lc=none->H lw=none->H ll=none->lc≠lw->lc≠ll->lw≠ll->H' a=some (.ins C dx (sr h lc lw last fire 0 ll))->H' lc=some (.lst xs)->H' lw=some (.lst ys)->H' ll=some (.lst [])->Q .non H')
theorem fZ {a:Addr}{H H':Hp}{C dx:Addr}{fs:List (Str×V)}(s:dD a H H')(e:H a=some (.ins C dx fs)){p:Addr}{xs:List V}(h:aC K H p xs):aC K H' p xs:=by
 rcases h with (h|⟨u,h⟩)|h
 ·exact .inl (.inl (s _ _ (λz=>by rw [z,e] at h;cases h) h))
 ·exact .inl (.inr ⟨u,s _ _ (λz=>by rw [z,e] at h;cases h) h⟩)
 ·exact .inr h
theorem EN (F:bA K "__init__" "Moment.__init__" iO f fd)(cc:mg "list"=none):au P w K mg base aZ 1 f fd ["self","house","state"] (DD K):=by
 rwa[F.ok va (by symm) (λaD A outer s H vs Q E hr h=> ?_)];obtain ⟨a,h,st,C,dx,tc,tw,xs,ys,J,R,rfl,Z,U,h1,h2,h3,q⟩:=h;have W:=U.i.cl;rwa[⟨_,(aa @ce (aa (cL rfl (wv 0) @cb) (aa (cL rfl (wv 0) @cb) (aa @cO (aa @cO (aa (cL rfl (wv 0) aM) (ac (cL rfl (wv 0) (yA am))))))))),?_⟩];rwa[cO Z W U.house @b ?_];generalize Y:upd H a _=H1
 have p1:dD a H H1:=by rw [<-Y];exact λb o n e=>by rw [ak n];exact e
 have ad:H1 a=some (.ins C dx [(s!"house",.ref h)]):=by rw [<-Y];exact af
 clear Y;rwa[ag (fZ p1 Z h1) rfl ?_];rwa[fC (.inr (fZ p1 Z h2)) λlc H2 s2 n2 e2=> ?_];have as:=s2 _ _ ad;rwa[cO as W U.cabins (by show 1<1000;decide) ?_];generalize O:upd H2 a _=H3
 have p3:dD a H H3:=by rw [<-O];exact λb o n e=>by rw [ak n];exact s2 _ _ (p1 b o n e)
 have ai:H3 a=some (.ins C dx [(s!"house",.ref h),(s!"cabins",.ref lc)]):=by rw [<-O];exact af
 have ae:lc≠a:=λz=>by rw [z,ad] at n2;cases n2
 have e3:H3 lc=some (.lst xs):=by rw [<-O,ak ae];exact e2
 have al:H lc=none:=by
  cases y:H lc with
  |none=>rfl
  |some o=>rw [p1 _ _ ae y] at n2;cases n2
 clear O;rwa[ag (fZ p3 Z h1) rfl ?_];rwa[fC (.inr (fZ p3 Z h3)) λlw H4 s4 n4 e4=> ?_];have ao:=s4 _ _ ai;rwa[cO ao W U.waiting (by show 2<1000;decide) ?_];generalize L:upd H4 a _=H5
 have p5:dD a H H5:=by rw [<-L];exact λb o n e=>by rw [ak n];exact s4 _ _ (p3 b o n e)
 have an:H5 a=some (.ins C dx [(s!"house",.ref h),(s!"cabins",.ref lc),(s!"waiting",.ref lw)]):=by rw [<-L];exact af
 have j:lw≠a:=λz=>by rw [z,ai] at n4;cases n4
 have aA:lc≠lw:=λz=>by rw [<-z,e3] at n4;cases n4
 have e5:H5 lw=some (.lst ys):=by rw [<-L,ak j];exact e4
 have ap:H5 lc=some (.lst xs):=by rw [<-L,ak ae];exact s4 _ _ e3
 have az:H lw=none:=by
  cases y:H lw with
  |none=>rfl
  |some o=>rw [p3 _ _ j y] at n4;cases n4
 clear L;rwa[ag (fZ p5 Z h1) rfl ?_];rwa[cO an W U.last (by show 3<1000;decide) ?_];generalize I:upd H5 a _=H6
 have p6:dD a H H6:=by rw [<-I];exact λb o n e=>by rw [ak n];exact p5 b o n e
 have ay:H6 a=some (.ins C dx [(s!"house",.ref h),(s!"cabins",.ref lc),(s!"waiting",.ref lw),(s!"last",.int J)]):=by rw [<-I];exact af
 have e6:H6 lw=some (.lst ys):=by rw [<-I,ak j];exact e5
 have aC:H6 lc=some (.lst xs):=by rw [<-I,ak ae];exact ap
 clear I;rwa[ag (fZ p6 Z h1) rfl ?_];rwa[cO ay W U.fire (by show 4<1000;decide) ?_];generalize G:upd H6 a _=H7
 have p7:dD a H H7:=by rw [<-G];exact λb o n e=>by rw [ak n];exact p6 b o n e
 have ax:H7 a=some (.ins C dx [(s!"house",.ref h),(s!"cabins",.ref lc),(s!"waiting",.ref lw),(s!"last",.int J),(s!"fire",.bl R)]):=by rw [<-G];exact af
 have e7:H7 lw=some (.lst ys):=by rw [<-G,ak j];exact e6
 have aB:H7 lc=some (.lst xs):=by rw [<-G,ak ae];exact aC
 clear G;rwa[cO ax W U.blocked (by show 5<1000;decide) ?_];generalize br:upd H7 a _=H8
 have p8:dD a H H8:=by rw [<-br];exact λb o n e=>by rw [ak n];exact p7 b o n e
 have ah:H8 a=some (.ins C dx [(s!"house",.ref h),(s!"cabins",.ref lc),(s!"waiting",.ref lw),(s!"last",.int J),(s!"fire",.bl R),(s!"blocked",.int 0)]):=by rw [<-br];exact af
 have e8:H8 lw=some (.lst ys):=by rw [<-br,ak j];exact e7
 have aj:H8 lc=some (.lst xs):=by rw [<-br,ak ae];exact aB
 clear br;rwa[gm (bt (by show 0<=1000000;decide)) λll H9 s9 S e9=> ?_];have ar:=s9 _ _ ah;rwa[cO ar W U.log (by show 6<1000;decide) ?_]
 have ab:ll≠a:=λz=>by rw [z,ah] at S;cases S
 have av:lc≠ll:=λz=>by rw [<-z,aj] at S;cases S
 have aw:lw≠ll:=λz=>by rw [<-z,e8] at S;cases S
 rwa[q lc lw ll _ (λb o n e=> ?_) al az ?_ aA av aw af ?_ ?_ ?_]
 ·rw [ak n];exact s9 _ _ (p8 b o n e)
 ·cases y:H ll with
  |none=>rfl
  |some o=>rw [p8 _ _ ab y] at S;cases S
 ·rw [ak ae];exact s9 _ _ aj
 ·rw [ak j];exact s9 _ _ e8
 ·rw [ak ab];exact e9
unseal iU in
theorem QU {C:Addr}{E:XK}{H:Hp}{h st:Addr}{cs:List Cb}{ws:List aH}{last:Int}{j:Bool}{Q:VK}(cM:wt K C)(hs:jb K H st cs ws last j)(g:∀m H',gD K C H H' m h ⟨cs,ws,last,j,0,[]⟩->Q (.ref m) H'):iU C (DD K) E [.ref h,.ref st] H Q:=by
 show ∀a dx,H a=none->H dx=none->dx≠a->DD K (.ref a::([.ref h,.ref st]++[])) @u (λv H2=>v= .non/\Q (.ref a) H2) E;intro a dx h1 h2 h3;have G:aj H @u:=fY h1 h2;obtain ⟨tc,J,xs,ys,O,i2,Y,i4,Z⟩:=hs;rwa[⟨a,h,st,C,dx,tc,J,xs,ys,last,j,rfl,af,cM,G.seqT O,G.seqT i2,G.seqT Y,λlc lw ll H' sp nc W L U F wl R ec ew S=>⟨rfl,g a H' ?_⟩⟩];have I:aj H H':=λb o e=>sp b o (λz=>by rw [z,h1] at e;cases e) (G b o e);exact ⟨dx,lc,lw,ll,xs,ys,[],I,h1,none_of G nc,none_of G W,none_of G L,U,F,wl,R,ec,ew,S,Paired.imp' (λx c z=>b9.keep z I.st) i4,ax.same Z I,.nil,rfl⟩
inductive AF (K:Fg)(C:Addr)(vs:List V)(H:Hp)(Q:VK)(_e:XK):Prop
 |mk (m h H0 M:_) (_:vs=[.ref m]) (_:gD K C H0 H m h M) (_:∀st H',aj H H'->jb K H' st M.cs M.ws M.last M.fire->Q (.ref st) H')
theorem LA {C:Addr}(F:Z0 K "state_of" qu f fd)(j:wt K C)(I:mg "tuple"=none):au P w K mg base aZ 1 f fd ["moment"] (AF K C):=by
 rwa[F.ok BE (by symm) (λY A outer s H vs Q E hr h=> ?_)];obtain ⟨m,h,H0,M,rfl,⟨dx,lc,lw,ll,xs,ys,zs,a⟩,q⟩:=h;have S:=j.i.cl;rwa[⟨_,(ac (ao (eX (aq (aI @da rfl I boot_tuple @C) (aq (aI @da rfl I boot_tuple @C) (aq @a @C)))))),?_⟩];rwa[b8 a S j.cabins (v:= .ref lc) rfl ?_];rwa[fJ @bI λtc H1 L n1 U=> ?_];have z:=a.same L;rwa[b8 z S j.waiting (v:= .ref lw) rfl ?_];rwa[fJ (aA.of z.ew) λW H2 R n2 e2=> ?_];have G:=z.same R;rwa[b8 G S j.last (v:= .int M.last) rfl ?_];rwa[b8 G S j.fire (v:= .bl M.fire) rfl ?_];rwa[bX (bt (by show 4<=1000000;decide)) λst J O n3 e3=> ?_];have Z:=G.same O;exact q st J (L.trans (R.trans O)) ⟨tc,W,xs,ys,aC.of e3,aC.of (O _ _ (R _ _ U)),aC.of (O _ _ e2),Z.dc,Z.dw⟩
structure oF (hs:Hs)(n:Nat)(M:MS):Prop where
 len:M.cs.length=hs.ls.length
 cs:∀c∈M.cs,tN hs.fl c
 ws:∀r∈M.ws,gC hs.fl r
 sum:M.log.length+M.ws.length<=n
theorem vK {α:Type}{l:List α}{i:Nat}{x y:α}(h:y∈l.set i x):y∈l\/y=x:=mem_or_eq_of_mem_set h
theorem tN.mk' {fl:Int}{c:Cb}(o:tN fl c){k:Int}(h:0<=k):tN fl {c with mr:=k}:=⟨o.p0,o.p1,o.l0,o.l1,h,o.ev,o.len,o.gs⟩
theorem FF {M:MS}{i:Int}(h:i.toNat<M.cs.length):m7 M i∈M.cs:=by
 unfold m7;rw [getD_eq_getElem?_getD,getElem?_eq_getElem h];exact getElem_mem h
theorem oF.setMk {hs:Hs}{n:Nat}{M:MS}(o:oF hs n M){i:Int}{k:Int}(hi:i.toNat<M.cs.length)(h:0<=k){ws:List aH}(j:∀r∈ws,gC hs.fl r)(W:ws.length<=M.ws.length):oF hs n {M with cs:=M.cs.set i.toNat {m7 M i with mr:=k},ws:=ws}:=by
 rwa[⟨by rw [length_set];exact o.len,λc I=> ?_,j,by have:=o.sum;show M.log.length+ws.length<=n;lia⟩]
 rcases vK I with z|z
 ·exact o.cs c z
 ·rw [z];exact (o.cs _ (FF hi)).mk' h
theorem xH {hs:Hs}{i:Int}{ws:List aH}(h:∀r∈ws,gC hs.fl r):∀r∈gv i ws,gC hs.fl r:=λr S=>by
 obtain ⟨s,F,rfl⟩:=mem_map.mp S;have o:=h s F;split
 ·exact ⟨o.s0,o.s1,o.g0,o.g1,o.ne⟩
 ·exact o
theorem oF.deed {hs:Hs}{n:Nat}{M:MS}(o:oF hs n M){d:Dd}(O:d.ok)(F:d.fit hs.fl hs.ls.length):oF hs (n+1) (bP hs.lo M d):=by
 have j:∀ {M':MS},oF hs n M'->oF hs (n+1) M':=λz=>⟨z.len,z.cs,z.ws,by have:=z.sum;lia⟩
 cases d with
 |come t s g k=>
  obtain ⟨W,L,Z,J,I⟩:=F;show oF hs (n+1) (c7 hs.lo M t s g k);unfold c7;have U:=o.sum;split
  ·exact ⟨o.len,o.cs,o.ws,by show (M.log++_).length+M.ws.length<=_;rw [length_append];simp;lia⟩
  split
  ·exact ⟨o.len,o.cs,o.ws,by show (M.log++_).length+M.ws.length<=_;rw [length_append];simp;lia⟩
  ·rwa[⟨o.len,o.cs,λr S=> ?_,by show M.log.length+(M.ws++_).length<=_;rw [length_append];simp;lia⟩]
   rcases mem_append.mp S with z|z
   ·exact o.ws r z
   ·rw [mem_singleton.mp z];exact ⟨W,L,Z,J,I⟩
 |lf x i=>
  obtain ⟨R,Y⟩:=F
  have hi:i.toNat<M.cs.length:=by rw [o.len];lia
  have G:(gv i M.ws).length<=M.ws.length:=by unfold gv;rw [length_map];exact Nat.le_refl _
  rcases O with rfl|rfl|rfl|rfl|rfl
  ·rw [hU];exact j ⟨o.len,o.cs,o.ws,o.sum⟩
  ·rw [fk];exact j (o.setMk hi @c (xH o.ws) G)
  ·rw [gx];exact j (o.setMk hi @c o.ws @f)
  ·rw [fm];exact j (o.setMk hi @c (xH o.ws) G)
  ·rw [gy];exact j (o.setMk hi @c o.ws @f)
 |sg x=>exact False.elim F
theorem oF.dealt {hs:Hs}{n:Nat}{M:MS}(o:oF hs n M){dl:uK}{p:Nat}{r:aH}(S:gC hs.fl r):oF hs (n+1) @gl:=by
 unfold cR;have G:=o.sum;split
 ·exact ⟨o.len,o.cs,o.ws,by show M.log.length+M.ws.length<=_;lia⟩
 ·rwa[⟨o.len,o.cs,λs F=> ?_,by show (M.log++_).length+(M.ws.set _ _).length<=_;rw [length_append,length_set];simp;lia⟩]
  rcases vK F with z|z
  ·exact o.ws s z
  ·rw [z];exact ⟨S.s0,S.s1,S.g0,S.g1,S.ne⟩
theorem oF.deals {hs:Hs}{n:Nat}{M:MS}(o:oF hs n M){dl:uK}{W:List aH}(F:∀r∈W,gC hs.fl r):∀i,oF hs (n+i) @gm
 |0=>o
 |i+1=>by
  have h:=oF.deals (dl:=dl) o F i;unfold az;split
  ·rename_i r S;split
   ·exact h.dealt (F r (mem_of_getElem? S))
   ·exact ⟨h.len,h.cs,h.ws,by have:=h.sum;lia⟩
  ·exact ⟨h.len,h.cs,h.ws,by have:=h.sum;lia⟩
def MW (hs:Hs)(wf:Wf):Nat->MS->MS->Prop
 |0,M,M'=>M'=M
 |i+1,M,M''=>∃M' c l,MW hs wf i M M'/\atC M' (i:Int) c/\hs.ls[i]? =some l/\Pu hs wf M' (i:Int) c l M''
structure lW (hs:Hs)(M0:MS)(i:Nat)(M:MS):Prop where
 len:M.cs.length=M0.cs.length
 cs:∀j,i<=j->M.cs[j]? =M0.cs[j]?
 ws:∀r∈M.ws,r∈M0.ws
 wl:M.ws.length<=M0.ws.length
 log:M.log.length<=M0.log.length+128*i
 fire:M.fire=M0.fire
theorem lW.set {hs:Hs}{z M:MS}{i:Nat}(o:lW hs z i M){c:Cb}{lg:List D}{ws:List aH}(F:∀r∈ws,r∈M.ws)(W:ws.length<=M.ws.length)(G:lg.length<=M.log.length+128):lW hs z (i+1) {M with cs:=M.cs.set i c,ws:=ws,log:=lg}:=by
 rwa[⟨by rw [length_set];exact o.len,λj Z=> ?_,λr S=>o.ws r (F r S),Nat.le_trans W o.wl,by have:=o.log;show lg.length<=_;lia,o.fire⟩];rw [getElem?_set_ne @c];exact o.cs j @c
theorem lW.go {hs:Hs}{wf:Wf}{G M M':MS}{i:Nat}{c:Cb}{l:Lf}(o:lW hs G i M)(J:c.ps.length<=64)(L:M.ws.length<=64)(h:Pu hs wf M (i:Int) c l M'):lW hs G (i+1) M':=by
 have z:lW hs G (i+1) M:=⟨o.len,λj Z=>o.cs j @c,o.ws,o.wl,by have:=o.log;lia,o.fire⟩
 have e:((i:Int)).toNat=i:=by lia
 have F:∀I,lW hs G (i+1) (kR M (i:Int) I):=λI=>by
  have:=o.set (c:=I) (lg:=M.log) (ws:=M.ws) (λr h=>h) @f @c;unfold kR;rw [e];exact this
 rcases h with ⟨_,rfl⟩|⟨_,_,rfl⟩|⟨_,_,h⟩
 ·exact z
 ·exact z
 ·unfold GH at h;split at h
  ·rw [h];unfold uv kR Aa;rw [e];rwa[o.set (λr h=>(mem_filter.mp h).1) @bp ?_];rw [length_append,length_append,length_map,length_map];have h1:=xm (pl:=c.pl) (ps:=c.ps);have h2:=xO (hs:=hs) (c:=c) (l:=l) (rs:=fO (i:Int) M);have O:(fO (i:Int) M).length<=M.ws.length:=length_filter_le _ _;lia
  split at h
  ·rw [h];exact F _
  ·obtain ⟨U,u,d,_,_,_,rfl⟩:=h;exact F _
noncomputable def NW:Dd->List Int
 | .come t _ _ _=>[t]
 |_=>[]
def oN (fl:Int)(n:Nat):List Int->List Dd->Prop
 |_,[]=>True
 |ts,d::ds=>d.fit fl n/\(∀t∈NW d,t∉ts)/\oN fl n (ts++NW d) ds
theorem FG {fl:Int}{n:Nat}:∀ {ds:List Dd} {ts:List Int},oN fl n ts ds->∀d∈ds,d.fit fl n
 |[],_,_,d,J=>by cases J
 |e::ds,ts,h,d,J=>by
  rcases mem_cons.mp J with rfl|J
  ·exact h.1
  ·exact FG h.2.2 d J
def fK (cs:List Cb)(ws:List aH):List Int:=ws.map (·.tag)++cs.flatMap λc=>c.ps.map (·.1)
def Bl (K:Fg)(H:Hp)(p:Addr)(ds:List Dd):Prop:=∃xs,aA K H p xs/\Paired (λx d=>∃a,x=V.ref a/\rY H a d) xs ds
inductive AG (K:Fg)(vs:List V)(H:Hp)(Q:VK)(_e:XK):Prop
 |mk (h st dl hs cs ws last fire ds:_) (_:vs=[.ref h,.ref st,.ref dl]) (_:jD K H h hs) (_:jb K H st cs ws last fire) (_:Bl K H dl ds) (_:ws.length<=64) (_:(∀c∈cs,c.ps.length<=64)) (_:cs.length<=10) (_:ds.length<=100) (_:oN (Hs.fl hs) hs.ls.length @fv ds) (_:∀H',aj H H'->Q .non H')
structure MY (K:Fg)(C:Addr):Prop where
 i:tJ K C
 house:bw K C "house"
 rule:bw K C "rule"
 dealer:bw K C "dealer"
abbrev v5 (h ru df:Addr):List (Str×V):=[(s!"house",.ref h),(s!"rule",.ref ru),(s!"dealer",.ref df)]
noncomputable def bp (lo:Nat)(M:MS)(ds:List Dd):MS:=ds.foldl (bP lo) M
noncomputable def zT (dl:uK)(M:MS):MS:=az dl M.ws M.ws.length M
theorem Jh {lo:Nat}{M:MS}{d:Dd}:(bP lo M d).fire=M.fire:=by
 cases d with
 |come t s g k=>
  show (c7 lo M t s g k).fire=M.fire;unfold c7;split
  ·rfl
  ·split<;>rfl
 |lf x i=>
  unfold bP;dsimp only;split
  ·rfl
  split
  ·rfl
  split
  ·rfl
  split<;>rfl
 |sg x=>rfl
theorem ow {lo:Nat}:∀ {ds:List Dd} {M:MS},(bp lo M ds).fire=M.fire
 |[],M=>rfl
 |d::ds,M=>(ow (ds:=ds) (M:=bP lo M d)).trans Jh
inductive yM (P:Program)(w:World)(K:Fg)(mg:Str->Option Value)(base:Heap)(GG LB:Hp->Prop)(pre:List Cb->List aH->aH->Int->Prop)(dl:uK)(vs:List V)(H:Hp)(Q:VK)(_e:XK):Prop
 |mk (a st dp C dx h ru df hs wf cs ws last ds:_) (_:vs=[.ref a,.ref st,.ref dp]) (_:H a=some (.ins C dx @fR)) (_:MY K C) (_:jD K H h hs) (_:C2 P w K mg base H ru wf) (_:iz P w K mg base 5 df @el) (_:GG H) (_:LB H) (_:jb K H st cs ws last false) (_:Bl K H dp ds) (_:oF hs ws.length ⟨cs,ws,last,false,0,[]⟩) (_:ws.length+ds.length<=64) (_:oN (Hs.fl hs) hs.ls.length @fv ds) (_:(∀i r,(bp hs.lo ⟨cs,ws,last,false,0,[]⟩ ds).ws[i]? =some r->r.lift= -1->pre (az dl (bp hs.lo ⟨cs,ws,last,false,0,[]⟩ ds).ws i @bb).cs (az dl (bp hs.lo ⟨cs,ws,last,false,0,[]⟩ ds).ws i @bb).ws r (az dl (bp hs.lo ⟨cs,ws,last,false,0,[]⟩ ds).ws i @bb).last)) (_:(∀r st' ll zs M' H',aP H H'->GG H'->H' r=some (.tup [.ref st',.ref ll])->jb K H' st' M'.cs M'.ws M'.last M'.fire->H' ll=some (.lst zs)->ax K H' zs M'.log->MW hs wf hs.ls.length (zT dl @bb) M'->M'.log.length<=2000->Q (.ref r) H'))
theorem rh {lo:Nat}{M:MS}{ds:List Dd}{i:Nat}{d:Dd}(h:ds[i]? =some d):bp lo M (ds.take (i+1))=bP lo (bp lo M @ff) d:=by
 unfold bp;rw [take_add_one,h,foldl_append];rfl
theorem oF.deeds {hs:Hs}{n:Nat}{M:MS}(o:oF hs n M):∀ {ds:List Dd},(∀d∈ds,d.ok/\d.fit hs.fl hs.ls.length)->∀i,oF hs (n+i) (bp hs.lo M @ff)
 |ds,h,0=>by
  rw [take_zero];exact o
 |ds,h,i+1=>by
  have z:=oF.deeds o h i
  cases e:ds[i]? with
  |none=>
   rw [take_add_one,e];simp only [Option.toList_none,append_nil];exact ⟨z.len,z.cs,z.ws,by have:=z.sum;lia⟩
  |some d=>
   rw [rh e];have:=h d (mem_of_getElem? e);exact z.deed this.1 this.2
theorem xC {H H':Hp}(s:aP H H'){a:Addr}{h:Hs}(c:jD K H a h):jD K H' a h:=by
 obtain ⟨o,p,xs,h1,h2,L⟩:=c;exact ⟨o,p,xs,s.sqT h1,s.sqT h2,Paired.imp' (λx l ⟨b,e,z⟩=>⟨b,e,s.sqT z⟩) L⟩
theorem Ec {H H':Hp}(s:aP H H'){a:Addr}{wf:Wf}(r:C2 P w K mg base H a wf):C2 P w K mg base H' a wf:=by
 obtain ⟨C,dx,fs,sp,h1,h2,L,j,U⟩:=r;exact ⟨C,dx,fs,sp,s _ _ (λ_ z=>by cases z) h1,h2,L,j,U⟩
theorem DA {H H':Hp}(s:aP H H'){st:Addr}{cs:List Cb}{ws:List aH}{last:Int}{j:Bool}(h:jb K H st cs ws last j):jb K H' st cs ws last j:=by
 obtain ⟨tc,G,xs,ys,h1,h2,L,F,U⟩:=h;exact ⟨tc,G,xs,ys,s.sqT h1,s.sqT h2,s.sqT L,Paired.imp' (λx c z=>b9.nt s z) F,s.dens U⟩
theorem Ii {Z:Addr}{GG LB:Hp->Prop}{a1:List Cb->List aH->aH->Int->Prop}{dl:uK}(gT:GT GG)(lN:∀H H',aP H H'->LB H->LB H')(F:bA K "turn" "Court.turn" gO f fd)(cM:wt K Z)(aU:mg "len"=none)(aG:mg "range"=none)(fE:aR P w K mg base 7 "need_deeds" ["house","state","deeds"] (AG K))(ly:jO P w K mg base aZ 1 "Moment" Z (DD K))(lT:aR P w K mg base 5 "do_deed" ["moment","deed"] (GY K Z))(jy:aR P w K mg base 7 "deal_all" ["moment","dealer"] (kO P w K mg base Z GG LB a1 dl))(bm:aR P w K mg base 8 "go" ["moment","rule","lift"] (GX P w K mg base Z))(jx:aR P w K mg base 1 "state_of" ["moment"] (AF K Z)):au P w K mg base aZ 9 f fd ["self","state","deeds"] (yM P w K mg base GG LB a1 dl):=by
 rwa[F.ok oa (by symm) (λbq A outer s H vs Q E hr h=> ?_)];obtain ⟨a,st,dp,C,dx,h,ru,df,hs,wf,cs,ws,aI,ds,rfl,ea,cC,hH,bd,az,a8,a3,ay,aS,ae,bw,ai,L,q⟩:=h;have R:=cC.i.cl;have cl:=cM.i.cl;have l3:=hH.1.l3
 have aL:cs.length<=10:=by have:=ae.len;have:cs.length=hs.ls.length:=this;lia
 have aN:∀c∈cs,c.ps.length<=64:=λc hc=>(ae.cs c hc).len;rwa[⟨_,(aa @fb (aa (bD (i:=3) oa.nd rfl @q (gH ly iq hr @b rfl (aq @a @bl))) (aa (cm PassesOwn.never rfl @a @a @D) (fA (aB (d6 @a) @D ar) (aa (cm PassesOwn.never rfl @bQ @a @D) @j))))),?_⟩];rwa[fS ea R cC.house (v:= .ref h) rfl ?_];rwa[AG.mk _ _ _ _ _ _ _ _ _ rfl hH ay aS @c aN aL @c ai λH1 U=> ?_];have ba:=FG ai;obtain ⟨xd,a4,pd⟩:=aS
 have aO:∀d∈ds,d.ok/\d.fit hs.fl hs.ls.length:=λd hd=>by
  obtain ⟨i,hi⟩:=mem_iff_getElem?.mp hd;obtain ⟨x,hx,ad,_,as⟩:=pd.get2 hi;exact ⟨as.2,ba d hd⟩
 have j:=U _ _ ea;rwa[fS j R cC.house (v:= .ref h) rfl ?_];rwa[QU cM (ay.keep U.st) λm H2 a2=> ?_];have a5:=gT _ _ (U.trans a2.s).st a8;have bi:=a2.s.st;have a2:=a2.onto (qM H1);have aF:=E7 H1;have aA:LB (wx H1):=lN _ _ (U.nt.trans (AT H1)) a3;have s2:=a2.s;have j:=qO j (λ_ z=>by cases z);generalize aM:(⟨cs,ws,aI,false,0,[]⟩:MS)=M0 at a2 ae L q
 have bg:M0.fire=false:=by rw [<-aM]
 have bC:M0.ws.length=ws.length:=by rw [<-aM]
 have al:=(AT H1).sqL (U.seq a4);rwa[bK (s2.seq al) ?_];have xl:xd.length=ds.length:=pd.len;have ap:=xC (AT H1) (hH.same U);have af:=Ec (AT H1) (bd.same U);have bj:aJ (wx H1) H1:=(qM H1).st;generalize a7:wx H1=Hb at a2 aF aA s2 j al ap af bj;have aY:∀i,oF hs (ws.length+i) (bp hs.lo M0 @ff):=λi=>ae.deeds aO i;rwa[dM (xs:=xd) (λi σ O=>gD K Z Hb O m h (bp hs.lo M0 @ff)/\aJ H1 O/\GG O/\∃Y W,σ=[some (.ref a),some (.ref st),some (.ref dp),some (.ref m),Y,W]) ⟨by rw [take_zero];exact a2,bi,a5,_,_,rfl⟩ (λi σ O _ pv=>pv.1.s.seq al) (λi x σ O hx pv=> ?_) (λσ O pv=> ?_)]
 ·obtain ⟨hM,ab,gX,Y,W,rfl⟩:=pv;obtain ⟨d,hd,ad,rfl,as⟩:=pd.get1 hx;have il:i<ds.length:=(List.getElem?_eq_some_iff.mp hd).1;have S:=aY i;have sm:=S.sum;rwa[GY.mk _ _ _ _ _ _ _ rfl ((hH.same U).keep ab) ((as.same U).keep ab) (aO d (mem_of_getElem? hd)).2 hM @c @c S.len (λc hc=>(S.cs c hc).m0) λH' G I=> ?_];rw [<-rh hd] at I;exact ⟨I,ab.trans G,gT _ _ G gX,_,_,rfl⟩
 obtain ⟨hM,ab,gX,Y,W,rfl⟩:=pv;rw [xl,take_of_length_le @f] at hM;have S:=aY ds.length;rw [take_of_length_le @f] at S;have aw:(bp hs.lo M0 ds).fire=false:=ow.trans bg;generalize bH:bp hs.lo M0 ds=M1 at hM S L q aw;have bu:=S.sum;have aQ:=hM;obtain ⟨bB,bF,bI,bo,bG,bv,bn,ma⟩:=hM;rwa[xR (λσ H3=>gD K Z Hb H3 m h (zT dl M1)/\GG H3/\∃Y W,σ=[some (.ref a),some (.ref st),some (.ref dp),some (.ref m),Y,W]) ?_ ?_]
 ·ext;rwa[b8 ma cl cM.fire (v:= .bl M1.fire) rfl ?_];rwa[bL (by rw [aw];rfl) ?_];rwa[fS (aQ.s _ _ j) R cC.dealer (v:= .ref df) rfl ?_];exact kO.mk _ _ _ _ _ rfl az gX aF aA aQ @c @c (by rw [S.len];lia) L λH' G gY I=>⟨I,gY,_,_,rfl⟩
 rintro σ' H3 ⟨ak,g3,Y,W,rfl⟩;have J:oF hs (ws.length+ds.length+M1.ws.length) (zT dl M1):=S.deals S.ws M1.ws.length;have h1:(zT dl M1).ws.length=M1.ws.length:=(dN _).1;have aV:(zT dl M1).fire=false:=(iZ _).trans aw;generalize bk:zT dl M1=M2 at ak J q h1 aV
 have bz:M2.ws.length<=64:=by lia
 have bx:=J.sum;have s3:=ak.s;rwa[fS (s3 _ _ j) R cC.house (v:= .ref h) rfl ?_];obtain ⟨_,ph,br,bh,bf,bs⟩:=ap.same s3;rwa[ag bh rfl ?_];rwa[cI bf ?_];rw [bs.len];rwa[⟨⟨by lia,by lia⟩,?_⟩];rwa[cB (λi σ O=>∃M',gD K Z Hb O m h M'/\MW hs wf i M2 M'/\lW hs M2 i M'/\GG O/\∃Y W,σ=[some (.ref a),some (.ref st),some (.ref dp),some (.ref m),Y,W]) ⟨M2,ak,rfl,⟨rfl,λ_ _=>rfl,λ_ h=>h,Nat.le_refl _,by lia,rfl⟩,g3,_,_,rfl⟩ (λi σ O hi pv=> ?_) (λσ O pv=> ?_)]
 ·obtain ⟨M',I,hg,ah,ax,Y,W,rfl⟩:=pv
  have i0:(0:Int)+(i:Nat)=((i:Nat):Int):=by lia
  rw [i0]
  have il:i<hs.ls.length:=by lia
  have hl:hs.ls[i]? =some hs.ls[i]:=getElem?_eq_getElem il
  have ic:i<M2.cs.length:=by rw [J.len];exact il
  have hc:M'.cs[i]? =some M2.cs[i]:=by rw [ah.cs i @f];exact getElem?_eq_getElem ic
  have aj:tN hs.fl M2.cs[i]:=J.cs _ (getElem_mem ic);have aC:atC M' (i:Int) M2.cs[i]:=⟨by lia,by rw [show ((i:Int)).toNat=i by lia];exact hc⟩
  have a0:M'.ws.length<=64:=by have:=ah.wl;lia
  rwa[fS (I.s _ _ j) R cC.rule (v:= .ref ru) rfl ?_];rwa[GX.mk _ _ _ _ _ _ _ _ _ _ rfl ap (by rw [show ((i:Int)).toNat=i by lia];exact hl) af I aC aj @c (λr hr=>J.ws r (ah.ws r hr)) a0 (by have:=ah.log;lia) (ah.fire.trans aV) λM'' H' aD G aT=> ?_];exact ⟨M'',aT,⟨M',_,_,hg,aC,hl,aD⟩,ah.go aj.len a0 aD,gT _ _ G ax,_,_,rfl⟩
 obtain ⟨M',I,hg,ah,ax,Y,W,rfl⟩:=pv;rw [show ((hs.ls.length:Int)).toNat=hs.ls.length by lia] at hg;obtain ⟨a6,be,bc,an,bb,a9,aE,fa⟩:=I;rwa[AF.mk _ _ _ _ rfl ⟨a6,be,bc,an,bb,a9,aE,fa⟩ λG H4 s4 aX=> ?_];have aW:=fa.same s4;rwa[b8 aW cl cM.log (v:= .ref an) rfl ?_];rwa[bX (bt (by show 2<=1000000;decide)) λr H5 s5 n5 e5=> ?_];have av:=aW.same s5;exact q r G an aE M' H5 (U.nt.trans (LP (by rw [a7];exact av.s))) (gT _ _ (s4.trans s5).st ax) e5 (aX.keep s5.st) av.el av.dl hg (by have:=ah.log;lia)
def yn (K:Fg)(H:Hp)(a:Addr)(fl:Int)(n:Nat):Prop:=∃p c0 so ls,aC K H a [.int fl,.ref p,c0,so]/\aC K H p ls/\ls.length=n/\2<=fl/\fl<=8/\1<=n/\n<=3
theorem yn.same {H H':Hp}{a:Addr}{fl:Int}{n:Nat}(h:yn K H a fl n)(s:aj H H'):yn K H' a fl n:=by
 obtain ⟨p,z,S,j,h1,h2,r⟩:=h;exact ⟨p,z,S,j,s.seqT h1,s.seqT h2,r⟩
theorem jD.at' {H:Hp}{h:Addr}{hs:Hs}(c:jD K H h hs):yn K H h hs.fl hs.ls.length:=by
 obtain ⟨o,p,xs,h1,h2,L⟩:=c;exact ⟨p,_,_,xs,h1,h2,L.len,o.f2,o.f8,o.l1,o.l3⟩
inductive kI (K:Fg)(vs:List V)(H:Hp)(Q:VK)(_e:XK):Prop
 |mk (h fl n i:_) (_:vs=[.ref h,.int i]) (_:yn K H h fl n) (_:0<=i) (_:i<fl) (_:Q .non H)
theorem BX (F:Z0 K "need_floor" jX f fd):au P w K mg base aZ 1 f fd ["house","floor"] (kI K):=by
 rwa[F.ok w5 (by symm) (λj A outer s H vs Q E L h=> ?_)];obtain ⟨h,fl,n,i,rfl,⟨p,I,S,W,O,G,Z,R,z,J,Y⟩,z1,U,q⟩:=h;rwa[⟨_,(ac (aB (d6 @a) @fe ar)),?_⟩];left;exact q
inductive uV (K:Fg)(vs:List V)(H:Hp)(Q:VK)(_e:XK):Prop
 |mk (h fl:_) (n:Nat) (i:Int) (_:vs=[.ref h,.int i]) (_:yn K H h fl n) (_:0<=i) (_:i<(n:Int)) (_:Q .non H)
theorem EM (F:Z0 K "need_lift" mF f fd)(aU:mg "len"=none):au P w K mg base aZ 1 f fd ["house","lift"] (uV K):=by
 rwa[F.ok y9 (by symm) (λj A outer s H vs Q E Y h=> ?_)];obtain ⟨h,fl,n,i,rfl,⟨p,I,S,G,J,L,W,Z,O,R,n3⟩,z1,U,q⟩:=h
 have z:(G.length:Int)=n:=by rw [W]
 rwa[⟨_,(ac (aB (d6 @a) @fe ar)),?_⟩];left;exact q
inductive uU (K:Fg)(vs:List V)(H:Hp)(Q:VK)(_e:XK):Prop
 |mk (h fl n st go:_) (_:vs=[.ref h,.int st,.int go]) (_:yn K H h fl n) (_:0<=st) (_:st<fl) (_:0<=go) (_:go<fl) (_:st≠go) (_:Q .non H)
theorem EL (F:Z0 K "need_ride" mE f fd)(O:aR P w K mg base 1 "need_floor" ["house","floor"] (kI K)):au P w K mg base aZ 2 f fd ["house","start","goal"] (uU K):=by
 rwa[F.ok y7 (by symm) @o];obtain ⟨h,fl,n,st,z,rfl,G,W,L,Z,J,I,q⟩:=h;rwa[⟨_,(aa @fb (aa @fb (ac (aB @a @fe ar)))),?_⟩];rwa[kI.mk _ _ _ _ rfl G W L ?_];rwa[kI.mk _ _ _ _ rfl G Z J ?_];left;exact q
inductive yQ (K:Fg)(vs:List V)(H:Hp)(Q:VK)(_e:XK):Prop
 |mk (h fl n a d:_) (_:vs=[.ref h,.ref a]) (_:yn K H h fl n) (_:rY H a d) (_:Dd.fit fl n d) (_:∀H',aj H H'->Q .non H')
theorem Iq (F:Z0 K "need_deed" mG f fd)(rF:aR P w K mg base 2 "need_ride" ["house","start","goal"] (uU K))(rG:aR P w K mg base 1 "need_lift" ["house","lift"] (uV K)):au P w K mg base aZ 3 f fd ["house","deed"] (yQ K):=by
 rwa[F.ok za (by symm) (λaa A outer s H vs Q E hr h=> ?_)];obtain ⟨h,fl,n,a,d,rfl,I,⟨Y,W⟩,J,q⟩:=h;have L:=aC.of (K:=K) Y;rwa[⟨_,(ac (aB @a @D (ac (aB (ck (oS rfl) @a @a @Y) @D ar)))),?_⟩]
 cases d with
 |come t s g k=>
  have L:aC K H a [.str AE,.int t,.int s,.int g,.bl k]:=L;obtain ⟨s0,j,Z,g1,R⟩:=J;rwa[ag L rfl ?_];rwa[bL rfl ?_];left;exact uU.mk _ _ _ _ _ rfl I s0 j Z g1 R (q _ (.refl _))
 |lf x i=>
  obtain ⟨O,U⟩:=J;have G:x=s!"block"\/x=s!"stick"\/x=s!"free"\/x=s!"goods"\/x=s!"back":=W;have L:aC K H a [.str x,.int i]:=L;rwa[ag L rfl ?_];rwa[dF (by rcases G with z|z|z|z|z<;>rw [z]<;>decide+kernel) ?_];rwa[ag L rfl ?_];rwa[bX (bt (by show 2<=1000000;decide)) λl1 H1 j n1 S=> ?_];rwa[Bv (aC.of S) rfl rfl ?_];rw [show yu (.str x) [.str "fire",.str "calm"]=false by rcases G with z|z|z|z|z<;>rw [z]<;>rfl];rwa[bL rfl ?_];rwa[ag (j.seqT L) rfl ?_];exact uV.mk _ _ _ _ rfl (I.same j) O U (q _ j)
 |sg x=>exact False.elim J
inductive yO (K:Fg)(vs:List V)(H:Hp)(Q:VK)(_e:XK):Prop
 |mk (st cs ws last fire:_) (_:vs=[.ref st]) (_:jb K H st cs ws last fire) (_:ws.length<=64) (_:(∀c∈cs,c.ps.length<=64)) (_:cs.length<=10) (_:∀l H',aj H H'->H' l=some (.lst ((fK cs ws).map V.int))->Q (.ref l) H')
theorem xL {cs:List Cb}(h:∀c∈cs,c.ps.length<=64):(cs.flatMap λc=>c.ps.map (·.1)).length<=64*cs.length:=by
 induction cs with
 |nil=>simp
 |cons c cs ih=>
  rw [flatMap_cons,length_append,length_map,length_cons];have:=h c (.head _);have:=ih λc I=>h c (.tail _ I);lia
theorem Ik (F:Z0 K "tags_in" ve f fd):au P w K mg base aZ 1 f fd ["state"] (yO K):=by
 rwa[F.ok wY (by symm) (λan A outer s H vs Q E hr h=> ?_)];obtain ⟨st,Y,J,ak,ah,rfl,⟨tc,tw,xs,ys,h1,h2,h3,h4,h5⟩,wl,Z,cl,q⟩:=h;have yl:ys.length=J.length:=aD h5;have xl:xs.length=Y.length:=h4.len;rwa[⟨_,(aa (gE (i:=1) rfl wY.nd rfl @q @Q @a @w @r @H) (aa (cm PassesOwn.never rfl @a @a (ac (aK (fu rfl PySem.F.plainAttrs_list PySem.F.slot_list_extend PySem.F.type_list_extend pH (wv 1) (aq (bb rfl (ay (N':=["tag","goal"]) (pk:=[none,none]) @l) @a @v @r @H) am))))) @dl)),?_⟩];rwa[ag h1 rfl ?_];rwa[fg h3 ?_];rwa[dB (xs:=ys) (λj G z=>aj H z/\G=((J.take j).map (·.tag)).map V.int) @S (λj G z h=>by rw [h.2,length_map,length_map,length_take];exact Nat.min_le_left _ _) ⟨.refl _,rfl⟩ (λj G z _ h=>h.1.seqT h3) (λj y G z hy O=> ?_) (λG z O l n=> ?_)]
 ·obtain ⟨U,rfl⟩:=O;obtain ⟨r,ab,dr⟩:=bc (f:=aH.d) h5 hy;obtain ⟨ra,rfl,hT⟩:=cJ @ea;rwa[kz hT rfl ?_];rwa[⟨pK,?_⟩];rwa[⟨U,?_⟩];rw [take_add_one,ab,map_append,map_append];rfl
 obtain ⟨U,rfl⟩:=O;rw [yl,take_of_length_le @f];have s2:aj z (upd z l (.lst ((J.map (·.tag)).map V.int))):= .upd n;have e2:upd z l (.lst ((J.map (·.tag)).map V.int)) l=some (.lst ((J.map (·.tag)).map V.int)):=af;generalize ap:upd z l (.lst ((J.map (·.tag)).map V.int))=H2 at s2 e2 ⊢;have n0:H l=none:=none_of U n;have R:=U.trans s2;rwa[ag (R.seqT h1) rfl ?_];rwa[fg (R.seqT h2) ?_];rwa[xI (xs:=xs) (λi σ I=>aj H I/\I l=some (.lst ((J.map (·.tag)++(Y.take i).flatMap λc=>c.ps.map (·.1)).map V.int))/\∃o2 o3 o4 o5 o6,σ=[some (.ref st),some (.ref l),o2,o3,o4,o5,o6]) ⟨R,by rw [take_zero,flatMap_nil,append_nil];exact e2,_,_,_,_,_,rfl⟩ (λi σ I _ W=>W.1.seqT h2) (λi x σ I hx W=> ?_) (λσ I W=> ?_)]
 ·obtain ⟨sY,S,o2,o3,o4,o5,o6,rfl⟩:=W;obtain ⟨c,hc,t,rfl,ad⟩:=h4.get1 hx;obtain ⟨b,bs,et,eb,db⟩:=ad.keep sY.st;have bl:bs.length=c.ps.length:=aD db;have ai:=Z c (mem_of_getElem? hc);rwa[kz @fu rfl ?_];rwa[⟨.inl ⟨rfl,_,aA.of S⟩,?_⟩];rwa[fg (aC.of eb) ?_];rwa[dB (xs:=bs) (λj G z=>aj I z/\G=((c.ps.take j).map (·.1)).map V.int) @S (λj G z h=>by rw [h.2,length_map,length_map,length_take];exact Nat.min_le_left _ _) ⟨.refl _,rfl⟩ (λj G z _ h=>h.1.seqT (aC.of eb)) (λj y G z hy O=> ?_) (λG HZ O l3 n3=> ?_)]
  ·obtain ⟨U,rfl⟩:=O;obtain ⟨p,pt,hp,rfl,ae⟩:=EA db hy;rwa[kz (U.seqT ae) rfl ?_];rwa[⟨kB,?_⟩];rwa[⟨U,?_⟩];rw [take_add_one,hp,map_append,map_append];rfl
  obtain ⟨U,rfl⟩:=O;rw [bl,take_of_length_le @f];have s3:aj HZ (upd HZ l3 (.lst ((c.ps.map (·.1)).map V.int))):= .upd n3;have e3:upd HZ l3 (.lst ((c.ps.map (·.1)).map V.int)) l3=some (.lst ((c.ps.map (·.1)).map V.int)):=af;generalize al:upd HZ l3 (.lst ((c.ps.map (·.1)).map V.int))=H3 at s3 e3 ⊢;have L:=U.trans s3;rwa[JU (L _ _ S) e3 (bt ?_) ?_]
  ·have h1:((Y.take i).flatMap λc=>c.ps.map (·.1)).length<=64*(Y.take i).length:=xL λc hc=>Z c (mem_of_mem_take hc)
   have h2:(Y.take i).length<=10:=by rw [length_take];lia
   simp only [length_map,length_append];lia
  ·rwa[⟨aj.updF (sY.trans L) n0,?_,_,_,_,_,_,rfl⟩];rw [af,take_add_one,hc];simp only [Option.toList_some,flatMap_append,flatMap_cons,flatMap_nil,append_nil,map_append,append_assoc]
 obtain ⟨sY,S,o2,o3,o4,o5,o6,rfl⟩:=W;rw [xl,take_of_length_le @f] at S;exact q l I sY S
def jF (ts:List Int)(kvs:List (cG×V)):Prop:=∀t:Int,(fb kvs (Sum.inl t)).isSome=decide (t∈ts)
theorem jF.nil:jF [] []:=λt=>by
 show (none:Option V).isSome=_;simp
theorem jF.put {ts:List Int}{j:List (cG×V)}(h:jF ts j)(t:Int)(v:V):jF (ts++[t]) (dE j (Sum.inl t) v):=λu=>by
 rw [iG];by_cases e:u=t
 ·subst e;rw [if_pos rfl];simp
 ·rw [if_neg (λz=>e (by cases z;rfl)),h u];simp [e]
theorem CB {ts:List Int}:∀ {us:List Int} {kvs:List (cG×V)},jF us kvs->jF (us++ts) (gw kvs (ts.map λt=>(Sum.inl t,V.bl true))):=by
 induction ts with
 |nil=>intro us kvs h;rw [append_nil];exact h
 |cons t ts ih=>
  intro us kvs h;have:=ih (h.put t (V.bl true));rw [append_assoc] at this;exact this
theorem LD (F:Z0 K "need_deeds" jY f fd)(Fi:mg "dict"=none)(x5:aR P w K mg base 1 "tags_in" ["state"] (yO K))(rH:aR P w K mg base 3 "need_deed" ["house","deed"] (yQ K)):au P w K mg base aZ 7 f fd ["house","state","deeds"] (AG K):=by
 rwa[F.ok nY (by symm) (λaE A outer s H vs Q E hr h=> ?_)];obtain ⟨h,st,dl,hs,cs,ws,aD,az,ds,rfl,hH,ak,⟨xd,a4,pd⟩,wl,ae,aL,av,gd,q⟩:=h;have xl:xd.length=ds.length:=pd.len;rwa[⟨_,(aa (bD (i:=3) nY.nd rfl @q (aI (GM rfl) rfl Fi boot_dict (aq (bb rfl (ay (N':=["tag"]) (pk:=[none]) @l) @a @h @r @h) am))) (ac (cm PassesOwn.never rfl @a @a (aa @fb (ac (aB @a (aa (aB (Lb (Lk (Fy hr) @a (wv 3))) @fe ar) (ac (Hn (Fy hr) (wv 3) @a fB rfl))) ar)))))),?_⟩];rwa[yO.mk _ _ _ _ _ rfl ak wl ae aL λl H1 s1 e1=> ?_]
 have tl:(fK cs ws).length<=1000:=by
  unfold fK;rw [length_append,length_map];have:=xL ae;lia
 generalize aG:fK cs ws=I at e1 gd tl;rwa[bK @dj ?_];rwa[bu (xs:=I.map V.int) (λj L O=>aj H1 O/\Paired (λx (p:cG×V)=>∃b,x=V.ref b/\O b=some (.tup [kV p.1,p.2])) L ((I.take j).map λt=>(Sum.inl t,V.bl true))) (bt (by rw [length_map];lia)) (λj L O h=>by have:=h.2.len;rw [length_map,length_take] at this;lia) ⟨.refl _,.nil⟩ (λj L O _ h=>h.1.seq @dj) (λj y L O hy hP=> ?_) (λL O hP l2 n2=> ?_)]
 ·obtain ⟨sx,hp⟩:=hP;rw [getElem?_map] at hy;obtain ⟨v,hv,rfl⟩:=Option.map_eq_some_iff.mp hy;rwa[⟨bg,?_⟩];rwa[bX (bt (by show 2<=1000000;decide)) λb H3 s3 n3 e3=>⟨sx.trans s3,?_⟩];rw [take_add_one,hv,map_append];exact Paired.app (Paired.imp' (λx p ⟨c,ec,hc⟩=>⟨c,ec,s3 _ _ hc⟩) hp) (.cons ⟨b,rfl,e3⟩ .nil)
 obtain ⟨sx,hp⟩:=hP;rw [length_map,take_of_length_le @f] at hp;have s2:aj O (upd O l2 (.lst L)):= .upd n2;have e2:upd O l2 (.lst L) l2=some (.lst L):=af;generalize aF:upd O l2 (.lst L)=H2 at s2 e2 ⊢;have ai:=s1.trans (sx.trans s2);rwa[⟨L,I.map λt=>(Sum.inl t,V.bl true),e2,Paired.imp' (λx p ⟨c,ec,hc⟩=>⟨c,ec,s2 _ _ hc⟩) hp,Bq (by rw [length_map];lia),λd nd=> ?_⟩];have s3:aj H2 (upd H2 d (.dK (gw [] (I.map λt=>(Sum.inl t,V.bl true))))):= .upd nd;have e3:upd H2 d (.dK (gw [] (I.map λt=>(Sum.inl t,V.bl true)))) d=some (.dK (gw [] (I.map λt=>(Sum.inl t,V.bl true)))):=af;generalize aH:upd H2 d (.dK (gw [] (I.map λt=>(Sum.inl t,V.bl true))))=H3 at s3 e3 ⊢;have ao:H d=none:=none_of ai nd
 have k0:jF I (gw [] (I.map λt=>(Sum.inl t,V.bl true))):=by
  have:=CB (ts:=I) jF.nil;rw [nil_append] at this;exact this
 have ap:∀(Y:List (cG×V)) (a:List (cG×V)),(gw a Y).length<=a.length+Y.length:=by
  intro Y
  induction Y with
  |nil=>intro a;exact Nat.le_refl _
  |cons p Y ih=>
   intro a;have h1:=ih (dE a p.1 p.2);have h2:=cA a p.1 p.2;show (gw (dE a p.1 p.2) Y).length<=_;rw [length_cons];lia
 have l0:=ap (I.map λt=>(Sum.inl t,V.bl true)) [];rw [length_map,length_nil] at l0;have Z:=ai.trans s3;generalize aJ:gw [] (I.map λt=>((Sum.inl t:cG),V.bl true))=an at e3 k0 l0;rwa[bK (Z.seq a4) ?_];rwa[dM (xs:=xd) (λi σ W=>aj H W/\∃z G o4,W d=some (.dK G)/\jF z G/\G.length<=1000+i/\oN hs.fl hs.ls.length z (ds.drop i)/\σ=[some (.ref h),some (.ref st),some (.ref dl),some (.ref d),o4]) ⟨Z,I,an,_,e3,k0,by lia,gd,rfl⟩ (λi σ W _ pv=>pv.1.seq a4) (λi x σ W U pv=> ?_) (λσ W pv=> ?_)]
 ·obtain ⟨sY,z,G,o4,eY,kk,kl,J,rfl⟩:=pv;obtain ⟨dd,S,ad,rfl,ax⟩:=pd.get1 U;have il:i<ds.length:=(List.getElem?_eq_some_iff.mp S).1;have R:=ax.same sY
  have aw:ds.drop i=dd::ds.drop (i+1):=by
   rw [drop_eq_getElem_cons il];rw [getElem?_eq_getElem il] at S;cases S;rfl
  rw [aw] at J;obtain ⟨g1,g2,g3⟩:=J;rwa[yQ.mk _ _ _ _ _ rfl ((hH.same sY).at') R g1 λHZ sZ=> ?_];have ah:=sY.trans sZ;have eZ:=sZ _ _ eY;obtain ⟨ab,as⟩:=R.same sZ
  cases dd with
  |come t' s' g' k'=>
   have hT:aC K HZ ad [.str AE,.int t',.int s',.int g',.bl k']:=aC.of ab;rwa[ag hT rfl ?_];rwa[bL rfl ?_];rwa[ag hT rfl ?_];rwa[⟨d,_,rfl,tL.k (k:=Sum.inl t') eZ,?_⟩];rwa[⟨_,rfl,?_⟩];rwa[be (by rw [kk t'];exact decide_eq_false (g2 t' (.head _))) ?_];rwa[ag hT rfl ?_];rwa[⟨d,_,rfl,Gy.k (k:=Sum.inl t') eZ @dh,?_⟩];exact ⟨aj.updF ah ao,z++[t'],_,_,af,kk.put t' (.bl true),by have:=cA G (Sum.inl t') (V.bl true);lia,g3,rfl⟩
  |lf x' i'=>
   have hT:aC K HZ ad [.str x',.int i']:=aC.of ab;have g3:oN hs.fl hs.ls.length (z++[]) (ds.drop (i+1)):=g3;rw [append_nil] at g3;erw[ag hT rfl ?_];have al:x'=s!"block"\/x'=s!"stick"\/x'=s!"free"\/x'=s!"goods"\/x'=s!"back":=as;rwa[dF (by rcases al with U|U|U|U|U<;>rw [U]<;>decide+kernel) ?_];exact ⟨ah,z,G,_,eZ,kk,by lia,g3,rfl⟩
  |sg x'=>exact False.elim g1
 ·obtain ⟨sY,z,G,o4,eY,kk,kl,J,rfl⟩:=pv;exact q W sY
def mZ:List Nat:=[111,120,117,100,115]
theorem Co:(s!"oxuds").cps.toList=mZ:=by decide+kernel
unseal ik A3 in
theorem Br (c:Nat):ik ⟨#[c]⟩ @fL=decide (c∈mZ):=by
 unfold ik;rw [PySem.StrLaws.found_one,Co]
def AR (s:Str):Prop:=s.length=36/\∀c∈s.cps.toList,c∈mZ
instance (s:Str):Decidable (AR s):=by unfold AR;infer_instance
inductive kF (K:Fg)(kX:Addr)(vs:List V)(H:Hp)(Q:VK)(E:XK):Prop
 |mk (a s C dx:_) (_:vs=[.ref a,.str s]) (_:H a=some (.ins C dx [])) (_:tM K C) (_:bw K C "letters") (_:s.length<=1000) (_:PB s) (_:(AR s->∀H',(∀b o,b≠a->H b=some o->H' b=some o)->H' a=some (.ins C dx [(s!"letters",.str s)])->Q .non H')) (_:(¬AR s->∀H',aj H H'->E (.ref kX) none H'))
theorem KD {j:Addr}{H:Hp}{a:Addr}{s:Str}{C dx:Addr}{Q:VK}{E:XK}(h1:H a=some (.ins C dx []))(h2:tM K C)(L:bw K C "letters")(z:s.length<=1000)(U:PB s)
(g:AR s->∀H',(∀b o,b≠a->H b=some o->H' b=some o)->H' a=some (.ins C dx [(s!"letters",.str s)])->Q .non H')(b: ¬AR s->∀H',aj H H'->E (.ref j) none H'):kF K j [.ref a,.str s] H Q E:=⟨a,s,C,dx,rfl,h1,h2,L,z,U,g,b⟩
theorem EI {O:Addr}{t1 t2:Tok}(F:bA K "__init__" "Table.__init__" jV f fd)(aU:mg "len"=none)(Ck:mg "any"=none)(on:mg "TABLE_SIZE"=some (.int 36 t1))(FH:mg "WORDS"=some (.str "oxuds" t2))(vW:mg "NoRule"=some (.ref O))
(vS:W.excIn K O [.type "ValueError",.type "Exception",.type "BaseException",.type "object"] "ValueError.__new__"=true):au P w K mg base @ch 1 f fd ["self","letters"] (kF K O):=by
 have j:aE (.int 36) (.int 36 t1):=⟨_,rfl⟩;have G:aE (.str "oxuds") (.str "oxuds" t2):=⟨_,rfl⟩;rwa[F.okX w4 (by symm) @i];obtain ⟨a,z,C,dx,rfl,ea,cl,na,hz,hA,q,qb⟩:=h;rwa[⟨_,(aa (aB (PW.pt (tO @a (vD (iA rfl (aY (JG rfl rfl) rfl Ck boot_any (aq (bb rfl (ay (N':=["letter"]) (pk:=[none]) @l) @a @h @r (λC s H ex=>(dQ (oS rfl) (wv 0) @a @Y))) am)))))) (ac (qG lD rfl vS PySem.F.excBase_ValueError rfl vW (aq (tQ (Em (wv 1) (El En))) am))) ar) (ac @ce)),?_⟩];have I:z.length<=sizeLine:=bt @c;have rl:=Ef hA
 have Z:∀H',aj H H'-> ¬AR z->(reprText z).length<=sizeLine/\(Str.empty++reprText z).length<=sizeLine/\(Str.empty++reprText z++s!" is no table").length<=sizeLine/\(Str.empty++reprText z++s!" is no table").length<=sizeLine/\[V.str (Str.empty++reprText z++s!" is no table")].length<=sizeLine/\E (.ref O) none H':=λH' sm n=>by
  have e2:(s!" is no table").length<=100:=by decide
  rwa[⟨bt @c,bt ?_,bt ?_,bt ?_,bt @e,qb n H' sm⟩]
  ·rw [strLen_append,show Str.empty.length=0 from rfl];lia
  ·rw [strLen_append,strLen_append,show Str.empty.length=0 from rfl];lia
  ·rw [strLen_append,strLen_append,show Str.empty.length=0 from rfl];lia
 rwa[⟨I,?_⟩];by_cases U:(z.length:Int)=36
 ·left;rwa[xT (λi ys H'=>H'=H/\ys=(z.cps.toList.take i).map λc=>V.bl (!decide (c∈mZ))) (by show z.length<=sizeLine;exact I) (λi ys H' p=>by rw [p.2,length_map,length_take];exact Nat.min_le_left _ _) ⟨rfl,rfl⟩ (λi c ys H' J p=> ?_) (λys H' p l n=> ?_)]
  ·obtain ⟨rfl,rfl⟩:=p;rwa[⟨bg,?_⟩]
   have S:z.cps.toList[i]? =some c:=by rw [Array.getElem?_toList];exact J
   rwa[⟨rfl,?_⟩];show _++[V.bl (!ik ⟨#[c]⟩ @fL)]=_;rw [Br,take_add_one,S,map_append];rfl
  ·obtain ⟨rfl,rfl⟩:=p
   have e1:upd H' l (.lst ((z.cps.toList.take z.cps.size).map λc=>V.bl (!decide (c∈mZ)))) l=some (.lst (List.map V.bl (z.cps.toList.map λc=> !decide (c∈mZ)))):=by
    rw [af,take_of_length_le @e,map_map];rfl
   have L:aj H' (upd H' l (.lst ((z.cps.toList.take z.cps.size).map λc=>V.bl (!decide (c∈mZ))))):= .upd n;generalize upd H' l (.lst ((z.cps.toList.take z.cps.size).map λc=>V.bl (!decide (c∈mZ))))=H1 at e1 L ⊢;rwa[JY @dj ?_];rw [any_map];rwa[q9 (λY=> ?_) (λY=> ?_)]
   ·left;rwa[Z H1 L λk=> ?_];obtain ⟨c,J,e⟩:=any_eq_true.mp Y;have:=decide_eq_true (k.2 c J);simp only [Function.comp,id,this] at e;cases e
   ·have hk:AR z:=⟨by lia,λc J=>by
     have:=any_eq_false.mp Y c J
     simpa using this⟩
    left;rwa[cO (L.get ea) cl na @b ?_];rwa[q hk _ (λb o R e=> ?_) af];rw [ak R];exact L b o e
 ·left;exact Z H (.refl _) λk=>U (by rw [k.1];rfl)
def vH (li he up dn:Int):Int:=12*(li+1)+4*he+2*(if 0<up then 1 else 0)+(if 0<dn then 1 else 0)
theorem qK {li U j z:Int}(s:Go li U j z):0<=vH li U j z/\vH li U j z<36:=by
 have:=s.l0;have:=s.l1;have:=s.h0;have:=s.h1;unfold vH;split<;>split<;>lia
inductive uS (vs:List V)(H:Hp)(Q:VK)(_e:XK):Prop
 |mk (li he up dn:Int) (_:vs=[.int li,.int he,.int up,.int dn]) (_:Q (.int @eP) H)
theorem EK (F:Z0 K "place_in_table" fN f fd):au P w K mg base aZ 1 f fd ["light","here","up","down"] uS:=by
 rwa[F.ok qf (by symm) @o];obtain ⟨li,U,I,G,rfl,q⟩:=h;rwa[⟨_,@j,?_⟩];unfold vH at q;by_cases z:0<I<;>by_cases J:0<G
 ·rw [if_pos z,if_pos J] at q;left;exact q
 ·rw [if_pos z,if_neg J] at q;left;exact q
 ·rw [if_neg z,if_pos J] at q;left;exact q
 ·rw [if_neg z,if_neg J] at q;left;exact q
def JS (s:Str)(k:Int):Str:=⟨#[s.cps.toList.getD k.toNat 0]⟩
structure Py (K:Fg)(C:Addr):Prop where
 i:tJ K C
 l:bw K C "letters"
inductive KL (K:Fg)(vs:List V)(H:Hp)(Q:VK)(_e:XK):Prop
 |mk (t a s C dx fl li he up dn:_) (_:vs=[.ref a,.ref s]) (_:AR t) (_:H a=some (.ins C dx [(s!"letters",.str t)])) (_:Py K C) (_:aC K H s [.int fl,.int li,.int he,.int up,.int dn]) (_:Go li he up dn) (_:Q (.str (JS t @eP)) H)
theorem BW (F:bA K "word" "Table.word" jU f fd)(iw:aR P w K mg base 1 "place_in_table" ["light","here","up","down"] uS):au P w K mg base aZ 2 f fd ["self","seen"] (KL K):=by
 rwa[F.ok wZ (by symm) (λI A outer s H vs Q E Z h=> ?_)];obtain ⟨t,a,z,C,dx,fl,li,U,G,j,rfl,W,R,S,hs,O,q⟩:=h;rwa[⟨_,@j,?_⟩];obtain ⟨J,L⟩:=qK O;left;rwa[fS R S.i.cl S.l rfl ?_];left;erw[uS.mk _ _ _ _ rfl ?_]
 have Y:t.cps.toList.length=36:=by rw [gq];exact W.1
 rwa[u8 (bt (by rw [W.1];decide)) (c:=t.cps.toList.getD (vH li U G j).toNat 0) ?_ q];unfold lU yt;rw [if_pos J,if_pos (by rw [Y];exact L)];show t.cps.toList[(vH li U G j).toNat]? =_;rw [getElem?_eq_getElem @c,getD_eq_getElem?_getD,getElem?_eq_getElem @c];rfl
unseal iU in
theorem OJ {C j:Addr}{E:XK}{s:Str}{H:Hp}{Q:VK}(c:Py K C)(F:s.length<=1000)(U:PB s)(g:AR s->∀a dx H',aj H H'->H a=none->H' a=some (.ins C dx [(s!"letters",.str s)])->Q (.ref a) H')(b: ¬AR s->∀H',aj H H'->E (.ref j) none H'):iU C (kF K j) E [.str s] H Q:=by
 show ∀a dx,H a=none->H dx=none->dx≠a->kF K j (.ref a::([.str s]++[])) @u (λv H2=>v= .non/\Q (.ref a) H2) E;intro a dx h1 h2 R;rwa[KD af c.i.cl c.l F U (λW H' I O=>⟨rfl,g W a dx H' (λL o e=> ?_) h1 O⟩) (λJ H' G=>b J H' ((fY h1 h2).trans G))];exact I L o (λz=>by rw [z,h1] at e;cases e) (fY h1 h2 L o e)
theorem QY {c:Nat}(h:c∈mZ):(⟨#[c]⟩:Str)∈gG:=by
 unfold mZ at h;simp only [mem_cons,not_mem_nil,or_false] at h
 rcases h with rfl|rfl|rfl|rfl|rfl
 ·exact (show (⟨#[111]⟩:Str)=s!"o" by decide+kernel)▸ .head _
 ·exact (show (⟨#[120]⟩:Str)=s!"x" by decide+kernel)▸ .tail _ (.head _)
 ·exact (show (⟨#[117]⟩:Str)=s!"u" by decide+kernel)▸ .tail _ (.tail _ (.head _))
 ·exact (show (⟨#[100]⟩:Str)=s!"d" by decide+kernel)▸ .tail _ (.tail _ (.tail _ (.head _)))
 ·exact (show (⟨#[115]⟩:Str)=s!"s" by decide+kernel)▸ .tail _ (.tail _ (.tail _ (.tail _ (.head _))))
theorem yI {C:Addr}{H:Hp}{a dx:Addr}{t:Str}(c:Py K C)(m:oP P w K mg base aZ 2 "word" C (KL K))(W:AR t)(e:H a=some (.ins C dx [(s!"letters",.str t)])):C2 P w K mg base H a (λ_ li he up dn=>JS t @eP):=by
 rwa[⟨C,dx,_,_,e,rfl,m,λfl li he up dn O=> ?_,λH' z fl li he up dn Q E j hs O q=>⟨t,a,z,C,dx,fl,li,he,up,dn,rfl,W,j,c,hs,O,q⟩⟩];obtain ⟨J,G⟩:=qK O;rwa[QY ?_]
 have F:t.cps.toList.length=36:=by rw [gq];exact W.1
 rw [getD_eq_getElem?_getD,getElem?_eq_getElem @c];exact W.2 _ (getElem_mem _)
inductive GZ (K:Fg)(vs:List V)(H:Hp)(Q:VK)(_e:XK):Prop
 |mk (a h ru df C dx:_) (_:vs=[.ref a,.ref h,.ref ru,.ref df]) (_:H a=some (.ins C dx [])) (_:MY K C) (_:∀H',dD a H H'->H' a=some (.ins C dx @fR)->Q .non H')
theorem E3 (F:bA K "__init__" "Court.__init__" j9 f fd):au P w K mg base aZ 1 f fd ["self","house","rule","dealer"] (GZ K):=by
 rwa[F.ok xj (by symm) @bW];obtain ⟨a,h,G,I,C,dx,rfl,O,j,q⟩:=h;rwa[⟨_,(aa @ce (aa (cL rfl (wv 0) (wv 2)) (ac (cL rfl (wv 0) (wv 3))))),?_⟩];rwa[cO O j.i.cl j.house @b ?_];rwa[cO af j.i.cl j.rule (by show 1<1000;decide) ?_];rwa[cO af j.i.cl j.dealer (by show 2<1000;decide) ?_];rwa[q _ (λb o n e=> ?_) af];rw [ak n,ak n,ak n];exact e
unseal iU in
theorem OK {C:Addr}{E:XK}{H:Hp}{h j I:Addr}{Q:VK}(F:MY K C)(g:∀a dx H',aj H H'->H a=none->H' a=some (.ins C dx (v5 h j I))->Q (.ref a) H'):iU C (GZ K) E [.ref h,.ref j,.ref I] H Q:=by
 show ∀a dx,H a=none->H dx=none->dx≠a->GZ K (.ref a::([.ref h,.ref j,.ref I]++[])) @u (λv H2=>v= .non/\Q (.ref a) H2) E;intro a dx h1 h2 L;have G:aj H @u:=fY h1 h2;exact ⟨a,h,j,I,C,dx,rfl,af,F,λH' sp e=>⟨rfl,g a dx H' (λb o e=>sp b o (λz=>by rw [z,h1] at e;cases e) (G b o e)) h1 e⟩⟩
seal xA
theorem IT {i:Int}(F:0<=i)(h1:i<3):∃s:Str,lU [V.str JN,.str hst,.str Gz] i=some (.str s)/\ki s:=by
 rcases (show i=0\/i=1\/i=2 by lia) with rfl|rfl|rfl
 ·exact ⟨_,rfl,.inl rfl⟩
 ·exact ⟨_,rfl,.inr (.inl rfl)⟩
 ·exact ⟨_,rfl,.inr (.inr rfl)⟩
def Pm (l:Lf):Prop:=1<=l.rm/\l.rm<=6/\1<=l.tn/\l.tn<=4/\ki l.kd
inductive uY (K:Fg)(vs:List V)(H:Hp)(Q:VK)(_e:XK):Prop
 |mk (a ns k fl:_) (_:vs=[.ref a,.int k,.int fl]) (_:wr K H a ns) (_:0<=k) (_:k<1000) (_:0<fl) (_:∀v l H',aj H H'->MR K H' v l->Pm l->Q v H')
theorem ES (F:Z0 K "_law_lift" zu f fd)(aO:Z00 P w K mg base):au P w K mg base aZ 3 f fd ["_law_script","_law_at_here","_law_floors"] (uY K):=by
 rwa[F.ok G8 (by symm) @i];obtain ⟨a,ns,k,fl,rfl,S,G,L,Z,q⟩:=h;rwa[⟨_,@cW,?_⟩];rwa[gm (bt (by show 3<=1000000;decide)) λl1 H1 z n1 R=> ?_];have aL:=S.same z;erw[lH aL G L @b @b λi I J=> ?_];obtain ⟨sk,W,hk⟩:=IT I J;rwa[aN (aA.of R) W ?_];rwa[lH aL G L @b Z λi2 _ _=> ?_];rwa[lH aL G L @b @b λY a0 a1=> ?_];rwa[lH aL G L @b @b λj b0 b1=> ?_];exact bX (bt (by show 4<=1000000;decide)) λr H2 U n2 O=>q _ ⟨i2,1+Y,1+j,sk⟩ H2 (z.trans U) ⟨r,rfl,aC.of O⟩ ⟨by show 1<=1+Y;lia,by show 1+Y<=6;lia,by show 1<=1+j;lia,by show 1+j<=4;lia,hk⟩
inductive pR (K:Fg)(vs:List V)(H:Hp)(Q:VK)(_e:XK):Prop
 |mk (a ns:_) (_:vs=[.ref a,.int 3]) (_:wr K H a ns) (_:∀r hs H',aj H H'->jD K H' r hs->Q (.ref r) H')
theorem B4 (F:Z0 K "_law_house" vp f fd)(bo:mg "tuple"=none)(aG:mg "range"=none)(aO:Z00 P w K mg base)(uE:aR P w K mg base 3 "_law_lift" ["_law_script","_law_at_here","_law_floors"] (uY K)):au P w K mg base aZ 4 f fd ["_law_script","_law_most"] (pR K):=by
 rwa[F.ok DW (by symm) (λah A outer s H vs Q E hr h=> ?_)];obtain ⟨a,ns,rfl,S,q⟩:=h;rwa[⟨_,(aa @a (aa @a (aa @a (fA @bf (aa @a (ac (ao (eX (aq (wv 2) (aq (aI @da rfl bo boot_tuple (aq (bb rfl (ay (N':=["_law_k","_law_script","_law_floors"]) (pk:=[none,some 0,some 2]) @l) (bE rfl aG @bN) @h @r @h) am)) (aq (wv 4) (aq (wv 5) am)))))))))))),?_⟩];rwa[lH S @b @b @b @b λi i0 i1=> ?_];rwa[lH S @b @b @b @b λn n0 n1=> ?_];rwa[⟨xS @c @c @b,?_⟩];rwa[lH S @b @b @b (by first|exact Int.pow_pos @b|exact Int.mul_pos @b (Int.pow_pos @b)|(show (0:Int)<1*2^_;rw [Int.one_mul];exact Int.pow_pos @b)) λlk ak _=> ?_];rwa[⟨JW @b @b,?_⟩];rwa[⟨hV @b @b,?_⟩];rwa[xR (λσ H'=>H'=H/\∃lo:Int,0<=lo/\σ=[some (.ref a),some (.int 3),some (.int (2+i)),some (.int (1+n)),some (.int lo),none]) ?_ ?_]
 ·ext;rwa[lH S @b @b @b @b λj _ _=> ?_];rwa[eh @k @k]
  ·exact ⟨rfl,0,by decide,rfl⟩
  ·exact ⟨rfl,lk / 2*2,by lia,rfl⟩
 rintro σ' H' ⟨rfl,lo,ad,rfl⟩;obtain ⟨O,rfl⟩:=Int.eq_ofNat_of_zero_le ad;rwa[gm (bt @e) λl1 H1 U ai e1=> ?_];erw[lH (S.same U) @b @b @b @b λj j0 j1=> ?_]
 obtain ⟨so,ab,Z⟩:∃s:Str,lU [V.str "free",.str "way"] j=some (.str s)/\(s=s!"free"\/s=s!"way"):=by
  rcases (show j=0\/j=1 by lia) with rfl|rfl
  ·exact ⟨_,rfl,.inl rfl⟩
  ·exact ⟨_,rfl,.inr rfl⟩
 rwa[aN @dj ab ?_];rwa[⟨⟨by lia,by lia⟩,?_⟩];rwa[cE (λi ys H'=>aj H1 H'/\ys.length=i/\∃G:List Lf,Paired (MR K H') ys G/\∀l∈G,Pm l) @S (λi ys H' p=>Nat.le_of_eq p.2.1) ⟨.refl _,rfl,[],.nil,λy Y=>nomatch Y⟩ @dm (λys H' p l nl=> ?_)]
 ·obtain ⟨J,rfl,G,L,ae⟩:=p;erw[⟨bg,?_⟩]
  have ag:(ys.length:Int)<3:=by lia
  rwa[uY.mk _ _ _ _ rfl ((S.same U).same J) @c @c @c λv l H2 R hv W=>⟨J.trans R,by simp,G++[l],?_,λy Y=> ?_⟩]
  ·exact Paired.app (Paired.imp' (λx l ⟨b,e,z⟩=>⟨b,e,R.seqT z⟩) L) (.cons hv .nil)
  rcases mem_append.mp Y with z|z
  ·exact ae y z
  ·rw [mem_singleton.mp z];exact W
 obtain ⟨J,W,G,L,ae⟩:=p;have R:aj H' (upd H' l (.lst ys)):= .upd nl;rwa[fJ @fs λpt H3 s3 n3 e3=> ?_];rwa[bX (bt @e) λr H4 s4 n4 e4=> ?_]
 have ll:G.length=(1+n).toNat:=by have:=L.len;lia
 have I:=(R.trans s3).trans s4;rwa[q r ⟨2+i,G,O,so⟩ H4 ((U.trans J).trans I) ⟨⟨by show 2<=2+i;lia,by show 2+i<=8;lia,by show 1<=G.length;lia,by show G.length<=3;lia,λl W=>ae l W,Z⟩,pt,ys,aC.of e4,s4.seqT (aC.of e3),Paired.imp' (λx l ⟨b,e,z⟩=>⟨b,e,I.seqT z⟩) L⟩]
theorem FD {fl pl li:Int}(R:2<=fl)(Z:0<=pl)(S:pl<2*fl - 1)(W:li= -1\/li=0\/li=1)(G:pl% 2=0\/li≠0):∃f:Nat,(f:Int)<fl/\(2*(f:Int)=pl\/(2*(f:Int) - pl)*li>0):=by
 by_cases e:pl% 2=0
 ·exact ⟨(pl / 2).toNat,by lia,.inl @c⟩
 ·rcases W with rfl|rfl|rfl
  ·exact ⟨((pl - 1) / 2).toNat,by lia,.inr @c⟩
  ·rcases G with z|z
   ·exact absurd z e
   ·exact absurd rfl z
  ·exact ⟨((pl+1) / 2).toNat,by lia,.inr @c⟩
inductive pS (K:Fg)(vs:List V)(H:Hp)(Q:VK)(_e:XK):Prop
 |mk (h hs pl li fi:_) (_:vs=[.ref h,.int pl,.int li,.bl fi]) (_:jD K H h hs) (_:0<=pl) (_:pl<2*hs.fl - 1) (_:(li= -1\/li=0\/li=1)) (_:(fi=true\/(pl% 2=0\/li≠0))) (_:∀(p:Addr) (gs:List Int) H',aj H H'->H' p=some (.lst (gs.map V.int))->gs≠[]->gs.length<=8->(∀x∈gs,0<=x/\x<hs.fl)->Q (.ref p) H')
theorem Ee {fl:Int}(R:2<=fl)(z:fl<=8):Builtin.Range.small 0 fl 1=true/\Builtin.Range.rangeSize 0 fl 1=fl.toNat:=by
 rcases (show fl=2\/fl=3\/fl=4\/fl=5\/fl=6\/fl=7\/fl=8 by lia) with rfl|rfl|rfl|rfl|rfl|rfl|rfl<;>decide
theorem B5 (F:Z0 K "_law_goals" vt f fd)(cc:mg "list"=none)(aG:mg "range"=none):au P w K mg base aZ 1 f fd ["_law_house_here","_law_place","_law_light","_law_fire"] (pS K):=by
 rwa[F.ok xf (by symm) (λaj A outer s H vs Q E hr h=> ?_)];obtain ⟨h,hs,pl,li,fi,rfl,⟨ho,p,ls,hh,hp,hl⟩,p0,p1,S,R,q⟩:=h;have f2:=ho.f2;have f8:=ho.f8;generalize ah:hs.fl=fl at *;generalize ai:hs.so=so at *
 have Y:∀x∈(List.range fl.toNat).map (λi:Nat=>(i:Int)),0<=x/\x<fl:=λx hx=>by
  obtain ⟨i,hi,rfl⟩:=mem_map.mp hx;have:=mem_range.mp hi;lia
 rwa[⟨_,(aa (bD (i:=4) xf.nd rfl @q (uL rfl rfl cc rfl aG @a)) (aa (aB @a (ac (ao (wv 4))) ar) (ac (ao (bb rfl (ay (N':=["_law_floor","_law_place","_law_light"]) (pk:=[none,some 1,some 2]) @l) @a @h @N @H))))),?_⟩];rwa[ag hh rfl ?_];rwa[OO (Ee f2 f8).1 (Ee f2 f8).2 @c λl1 H1 s1 ak e1=> ?_]
 have ad:H1 l1=some (.lst (((List.range fl.toNat).map λi:Nat=>(i:Int)).map V.int)):=by rw [e1,map_map];rfl
 rwa[ag (s1.seqT hh) rfl ?_];rwa[eh @k @k]
 ·ext;rwa[bL rfl ?_];rwa[q l1 _ H1 s1 ad @k (by rw [length_map,length_range];lia) Y];have:=congrArg List.length z;rw [length_map,length_range] at this;simp at this;lia
 cases fi with
 |true=>
  rwa[bL rfl ?_];rwa[q l1 _ H1 s1 ad @k (by rw [length_map,length_range];lia) Y];have:=congrArg List.length z;rw [length_map,length_range] at this;simp at this;lia
 |false=>
 have R:pl% 2=0\/li≠0:=R.elim (λz=>by cases z) id;rwa[be rfl ?_];rwa[bK @dj ?_]
 have L:((List.range fl.toNat).map λi:Nat=>V.int (i:Int)).length=fl.toNat:=by rw [length_map,length_range]
 rwa[bu (xs:=(List.range fl.toNat).map λi:Nat=>V.int (i:Int)) (λi zs W=>W=H1/\∃j:List Int,zs=j.map V.int/\j.length<=i/\(∀x∈j,0<=x/\x<fl)/\∀f:Nat,f<i->(2*(f:Int)=pl\/(2*(f:Int) - pl)*li>0)->j≠[]) (bt (by rw [L];lia)) (λi zs W O=>by obtain ⟨_,j,rfl,e,_⟩:=O;rw [length_map];exact e) ⟨rfl,[],rfl,Nat.le_refl _,(λx hx=>nomatch hx),λf hf=>absurd hf @c⟩ (λi zs W _ O=>by rw [O.1];exact aA.of e1) (λi x zs W ab O=> ?_) (λzs W O l2 n2=> ?_)]
 ·obtain ⟨rfl,j,rfl,U,G,I⟩:=O;rw [getElem?_map] at ab;obtain ⟨k,hk,rfl⟩:=Option.map_eq_some_iff.mp ab;obtain ⟨hi,hk⟩:=List.getElem?_eq_some_iff.mp hk;rw [List.getElem_range] at hk;subst hk
  have Z:∀x∈j++[(i:Int)],0<=x/\x<fl:=λx hx=>by
   rcases mem_append.mp hx with z|z
   ·exact G x z
   ·rw [mem_singleton.mp z];rw [length_range] at hi;lia
  rwa[⟨bg,?_⟩];rwa[⟨cZ @b @b,?_⟩];by_cases z1:2*(i:Int)=pl
  ·show su (decide (2*(i:Int)=pl)) _ _;rwa[jA z1 ?_];show if true=true then _ else _;rw [if_pos rfl];exact ⟨rfl,j++[(i:Int)],by rw [map_append];rfl,by rw [length_append];show _+1<=_;lia,Z,λf hf J z=>by simp at z⟩
  ·show su (decide (2*(i:Int)=pl)) _ _;rwa[dF z1 ?_];rwa[⟨cZ @b @b,?_⟩]
   refine ⟨by
    rcases S with rfl|rfl|rfl
    ·exact hV @b @b
    ·exact hV @b @b
    ·exact hV @b @b,?_⟩
   show if decide ((2*(i:Int) - pl)*li>0)=true then _ else _;by_cases z2:(2*(i:Int) - pl)*li>0
   ·rw [if_pos (decide_eq_true z2)];exact ⟨rfl,j++[(i:Int)],by rw [map_append];rfl,by rw [length_append];show _+1<=_;lia,Z,λf hf J z=>by simp at z⟩
   ·rw [if_neg (by rw [decide_eq_false z2];decide)];rwa[⟨rfl,j,rfl,by lia,G,λf hf J=> ?_⟩];by_cases y:f=i
    ·subst y
     rcases J with J|J
     ·exact absurd J z1
     ·exact absurd J z2
    ·exact I f @c J
 obtain ⟨rfl,j,rfl,U,G,I⟩:=O;rw [L] at U I;obtain ⟨f0,al,ae⟩:=FD f2 p0 p1 S R;exact q l2 j _ (s1.trans (.upd n2)) af (I f0 @c ae) @c G
def PV (ns:List Int)(m:Nat)(c:Cb):Prop:=0<=c.dr/\∃n:Nat,n<=6/\c.ps.map (·.1)=(List.range n).map λj:Nat=>fL ns (6*(m:Int)+(j:Int))
inductive pU (K:Fg)(vs:List V)(H:Hp)(Q:VK)(_e:XK):Prop
 |mk (a ns k h hs m fi:_) (_:vs=[.ref a,.int k,.ref h,.int m,.bl fi]) (_:wr K H a ns) (_:0<=k) (_:k<900) (_:jD K H h hs) (_:0<=m) (_:m<(hs.ls.length:Int)) (_:∀v c H',aj H H'->b9 K H' v c->tN hs.fl c->c.mr<=3->PV ns m.toNat c->Q v H')
abbrev Z06:=λP w K mg base=>aR P w K mg base 3 "_law_tag" ["_law_script","_law_number"] (pN K)
theorem B7 (F:Z0 K "_law_cabin" vw f fd)(aU:mg "len"=none)(aG:mg "range"=none)(bo:mg "tuple"=none)(aO:Z00 P w K mg base)(dU:Z06 P w K mg base)(rQ:aR P w K mg base 1 "_law_goals" ["_law_house_here","_law_place","_law_light","_law_fire"] (pS K)):au P w K mg base aZ 4 f fd ["_law_script","_law_at_here","_law_house_here","_law_number","_law_fire"] (pU K):=by
 rwa[F.ok iN (by symm) (λa0 A outer s H vs Q E hr h=> ?_)];obtain ⟨a,ns,k,h,hs,m,fi,rfl,S,J,k9,hH,m0,m1,q⟩:=h;obtain ⟨U,rfl⟩:=Int.eq_ofNat_of_zero_le m0
 have ae:U<hs.ls.length:=by lia
 obtain ⟨p,ls,W,hh,hp,hl,aH,an⟩:=hH.at m0 (l:=hs.ls[U]) (by rw [show ((U:Int)).toNat=U by lia];exact getElem?_eq_getElem ae);obtain ⟨r1,r6,t1,t4,_⟩:=hH.1.lf _ (getElem_mem ae);generalize a3:hs.ls[U].rm=rm at *;generalize a6:hs.ls[U].tn=tn at *;have f2:=hH.1.f2;have l3:=hH.1.l3;have aS:=hH;generalize ad:hs.fl=fl at *;rwa[⟨_,(aa @a (aa @a (aa @a (aa @a (fA @bf (aa @a (fA @bf (aa @a (aa (bD (i:=11) iN.nd rfl @q @a) (aa (bD (i:=12) iN.nd rfl @q (yA am)) (aa (cm PassesOwn.never rfl (bE rfl aG (aq (wv 8) am)) (pf (i:=13) iN.nd rfl @q) (aa (bD (i:=14) iN.nd rfl @q (cQ (fI rfl) (wv 11) (b7 aO hr @b rfl (aq (wv 0) (aq (bZ @ci @a (wv 13)) (aq aM (aq (aY @fH rfl aU PySem.boot_len @cy) am))))) @ba)) (ac (aK (fu rfl PySem.F.plainAttrs_list PySem.F.slot_list_append PySem.F.type_list_append iF (wv 12) (aq (eX (aq (b7 dU hr @b rfl (aq (wv 0) (aq (bZ @ci @a (wv 13)) am))) (aq (wv 14) am))) am)))))) (ac (ao (eX (aq (wv 6) (aq (wv 7) (aq (wv 9) (aq @fD (aq (aI @da rfl bo boot_tuple @eQ) am))))))))))))))))))),?_⟩];rwa[ag hh rfl ?_];rwa[ag hp aH ?_];rwa[ag hh rfl ?_];rwa[⟨cZ @b @b,?_⟩];rwa[lH S J @c @b (by show (0:Int)<2*fl - 1;lia) λpl p0 p1=> ?_];have p1:pl<2*fl - 1:=p1;rwa[lH S J @c @b @b λG l0 l3=> ?_];rwa[ag an rfl ?_];rwa[lH S J @c @b (by show (0:Int)<rm+1;lia) λct a2 ai=> ?_];have ai:ct<rm+1:=ai;rwa[xR (λσ H'=>H'=H/\∃li:Int,(li= -1\/li=0\/li=1)/\(pl% 2=0\/li≠0)/\σ=[some (.ref a),some (.int k),some (.ref h),some (.int (U:Nat)),some (.bl fi),some (.ref W),some (.int pl),some (.int li),some (.int ct),none,none,none,none,none,none]) ?_ ?_]
 ·have az:∀(Pr:Prop),(∀d:Int,0<=d->d<2->Pr)->Pr:=λPr z=>z 0 @b @b;rwa[eh @k @k]
  ·have z:G - 1=0:=z;rwa[⟨by decide,?_⟩];rwa[eh @cU @cU]
   ·have y:pl% 2=1:=y;rwa[bL rfl ?_];rwa[lH S J @c @b @b λd d0 d1=> ?_];rwa[⟨cZ @b @b,?_⟩];exact ⟨rfl,1 - 2*d,by lia,.inr @c,rfl⟩
   ·have y: ¬pl% 2=1:=y;rwa[ag hh rfl ?_];rwa[eh (λx=> ?_) (λx=> ?_)]
    ·ext;rwa[eh @cX @cX]
     ·ext
      cases fi with
      |false=>
       rwa[bL rfl ?_];rwa[lH S J @c @b @b λd d0 d1=> ?_];rwa[⟨cZ @b @b,?_⟩];exact ⟨rfl,1 - 2*d,by lia,.inr @c,rfl⟩
      |true=>
       rwa[be rfl ?_];exact ⟨rfl,G - 1,by lia,.inl @c,rfl⟩
     ·ext;rwa[be rfl ?_];exact ⟨rfl,G - 1,by lia,.inl @c,rfl⟩
    ·ext;rwa[be rfl ?_];exact ⟨rfl,G - 1,by lia,.inl @c,rfl⟩
  ·have z: ¬G - 1=0:=z;rwa[be rfl ?_];exact ⟨rfl,G - 1,by lia,.inr z,rfl⟩
 rintro σ' H' ⟨rfl,li,aw,aF,rfl⟩;rwa[xR (λσ H2=>H2=H'/\∃dr:Int,0<=dr/\(0<dr->pl% 2=0)/\σ=[some (.ref a),some (.int k),some (.ref h),some (.int (U:Nat)),some (.bl fi),some (.ref W),some (.int pl),some (.int li),some (.int ct),some (.int dr),none,none,none,none,none]) ?_ ?_]
 ·ext;rwa[⟨by decide,?_⟩];rwa[eh @k @k]
  ·ext;rwa[ag an rfl ?_];rwa[lH S J @c @b (by show (0:Int)<tn+1;lia) λd d0 d1=> ?_];exact ⟨rfl,d,d0,λ_=>z,rfl⟩
  ·exact ⟨rfl,0,by decide,λw=>absurd w @b,rfl⟩
 rintro σ' H2 ⟨rfl,dr,aD,al,rfl⟩;rwa[gm (bt (by show 6<=1000000;decide)) λl1 H1 s1 a4 e1=> ?_];erw[lH (S.same s1) J @c @b @b λO a1 a5=> ?_]
 obtain ⟨Z,aP,ay,aV⟩:∃Z:Int,lU [V.int 0,.int 0,.int 0,.int 1,.int 2,.int 3] O=some (.int Z)/\0<=Z/\Z<=3:=by
  rcases (show O=0\/O=1\/O=2\/O=3\/O=4\/O=5 by lia) with rfl|rfl|rfl|rfl|rfl|rfl<;>exact ⟨_,rfl,by decide⟩
 rwa[aN @dj aP ?_];rwa[pS.mk _ _ _ _ _ rfl (aS.same s1) p0 (by rw [ad];exact p1) aw (.inr aF) λgp I H3 s3 e3 aE gl gb=> ?_];rwa[gm (bt (by show 0<=1000000;decide)) λl4 H4 s4 n4 e4=> ?_];rwa[⟨⟨by lia,by lia⟩,?_⟩];have aL:aj H2 H4:=s1.trans (s3.trans s4);have aW:H4 gp=some (.lst @go):=s4 _ _ e3
 have aT:gp≠l4:=λz=>by rw [z] at e3;rw [n4] at e3;cases e3
 have aQ:H2 l4=none:=by
  cases y:H2 l4 with
  |none=>rfl
  |some o=>rw [(s1.trans s3) _ _ y] at n4;cases n4
 have aX:0<I.length:=length_pos_iff.mpr aE;rwa[cB (λi σ HX=>aj H2 HX/\HX gp=some (.lst @go)/\∃(Y:List (Int×Int)) (xs:List V) (o1 o2:Option V),HX l4=some (.lst xs)/\Y.length=i/\Y.map (·.1)=(List.range i).map (λj:Nat=>fL ns (6*(U:Int)+(j:Int)))/\(∀q∈Y,0<=q.2/\q.2<fl)/\Paired (λx (q:Int×Int)=>∃b,x=V.ref b/\HX b=some (.tup [.int q.1,.int q.2])) xs Y/\σ=[some (.ref a),some (.int k),some (.ref h),some (.int (U:Nat)),some (.bl fi),some (.ref W),some (.int pl),some (.int li),some (.int ct),some (.int dr),some (.int Z),some (.ref gp),some (.ref l4),o1,o2]) ⟨aL,aW,[],[],_,_,e4,rfl,rfl,(λq hq=>nomatch hq),.nil,rfl⟩ (λi σ HX hi pv=> ?_) (λσ HX pv=> ?_)]
 ·obtain ⟨sx,eg,Y,xs,o1,o2,el,av,R,L,hp,rfl⟩:=pv
  have i6:i<6:=by lia
  have i0:(0:Int)+(i:Nat)=((i:Nat):Int):=by lia
  rw [i0];rwa[b6 (aA.of eg) ?_];rwa[lH (S.same sx) @c @c @b (by rw [length_map];lia) λgi g0 g1=> ?_];have g1:gi<((I.map V.int).length:Int):=g1;rw [length_map] at g1;obtain ⟨gn,rfl⟩:=Int.eq_ofNat_of_zero_le g0
  have as:gn<I.length:=by lia
  rwa[aN (aA.of eg) (v:= .int I[gn]) (bz (by rw [getElem?_map,getElem?_eq_getElem as];rfl)) ?_];rwa[⟨.inl ⟨rfl,_,aA.of el⟩,?_⟩];rwa[⟨cZ @b @b,?_⟩];rwa[pN.mk _ _ _ rfl (S.same sx) @c @c λtg aJ=> ?_];erw[bX (bt (by show 2<=1000000;decide)) λb H5 s5 n5 e5=> ?_];have xl:=hp.len;rwa[gB (s5 _ _ el) @dh ?_]
  have ap:∀ {y:Addr} {zs:List V},H5 y=some (.tup zs)->y≠l4:=λ{y zs} e z=>by rw [z,s5 _ _ el] at e;cases e
  refine ⟨aj.updF (sx.trans s5) aQ,by rw [ak aT];exact s5 _ _ eg,Y++[(tg,I[gn])],xs++[.ref b],_,_,af,by simp [av],(by rw [map_append,R,range_succ,map_append,aJ];rfl),(λq hq=>by
   rcases mem_append.mp hq with z|z
   ·exact L q z
   ·rw [mem_singleton.mp z];have:=gb I[gn] (getElem_mem as);rw [ad] at this;exact this),Paired.app (Paired.imp' (λx q ⟨y,ey,hy⟩=>⟨y,ey,by rw [ak (ap (s5 _ _ hy))];exact s5 _ _ hy⟩) hp) (.cons ⟨b,rfl,by rw [ak (ap e5)];exact e5⟩ .nil),rfl⟩
 obtain ⟨sx,eg,Y,xs,o1,o2,el,av,R,L,hp,rfl⟩:=pv;rwa[fJ (aA.of el) λtb H6 s6 n6 e6=> ?_];rwa[bX (bt (by show 5<=1000000;decide)) λr H7 s7 n7 e7=> ?_]
 have ab:ax K H7 xs (Y.map iR):=by
  have h7:Paired (λx (q:Int×Int)=>bH K H7 x (iR q)) xs Y:=Paired.imp' (λx q ⟨y,ey,hy⟩=>by rw [ey];exact hI (aC.of (s7 _ _ (s6 _ _ hy))) (.cons (.int _) (.cons (.int _) .nil))) hp;rwa[PySem.Paired.of (by rw [length_map];exact h7.len) λi x d e1 e2=> ?_];rw [getElem?_map] at e2;obtain ⟨q,hq,rfl⟩:=Option.map_eq_some_iff.mp e2;obtain ⟨q',ah,z⟩:=h7.get1 e1;rw [hq] at ah;cases ah;exact z
 rwa[q _ ⟨pl,li,dr,Z,Y⟩ H7 (sx.trans (s6.trans s7)) ⟨r,rfl,tb,xs,e7,s7 _ _ e6,ab⟩ ⟨p0,by show pl<=2*(fl - 1);lia,by show -1<=li;lia,by show li<=1;lia,ay,al,by show Y.length<=64;lia,L⟩ aV ⟨aD,_,@c,R⟩]
inductive iK (K:Fg)(vs:List V)(H:Hp)(Q:VK)(_e:XK):Prop
 |mk (a ns k h hs tg l ls:_) (_:vs=[.ref a,.int k,.ref h,.int tg,.ref l]) (_:wr K H a ns) (_:0<=k) (_:k<1000) (_:jD K H h hs) (_:aA K H l (List.map V.int ls)) (_:ls≠[]) (_:ls.length<=100) (_:∀v r H',aj H H'->bH K H' v @ey->gC hs.fl r->r.tag=tg->r.lift∈ls->Q v H')
theorem B0 (F:Z0 K "_law_rider" vn f fd)(aU:mg "len"=none)(aO:Z00 P w K mg base):au P w K mg base aZ 3 f fd ["_law_script","_law_at_here","_law_house_here","_law_tag_here","_law_lifts"] (iK K):=by
 rwa[F.ok DV (by symm) @P];obtain ⟨a,ns,k,h,hs,tg,l,G,rfl,S,R,L,⟨ho,p,ls,I,hp,hl⟩,Y,O,il,q⟩:=h;have f2:=ho.f2;generalize ab:hs.fl=fl at *;rwa[⟨_,@cW,?_⟩];rwa[ag I rfl ?_];rwa[lH S R L @b @c λs s0 s1=> ?_];rwa[ag I rfl ?_];rwa[lH S R L @b (by show (0:Int)<fl - 1;lia) λj j0 W=> ?_];rwa[ag I rfl ?_];rwa[⟨by lia,?_⟩];erw[b6 Y ?_];have ip:0<G.length:=length_pos_iff.mpr O;rwa[lH S R L @b (by rw [length_map];lia) λi Z J=> ?_];have J:i<((G.map V.int).length:Int):=J;rw [length_map] at J;obtain ⟨m,rfl⟩:=Int.eq_ofNat_of_zero_le Z
 have U:m<G.length:=by lia
 erw[aN Y (v:= .int G[m]) (bz (by rw [getElem?_map,getElem?_eq_getElem U];rfl)) ?_];have W:j<fl - 1:=W;rwa[bX (bt (by show 4<=1000000;decide)) λr H2 s2 n2 e2=>q _ ⟨tg,s,(s+1+j)% fl,G[m]⟩ H2 s2 (hI (aC.of e2) (.cons (.int _) (.cons (.int _) (.cons (.int _) (.cons (.int _) .nil))))) ⟨s0,s1,Int.emod_nonneg _ @c,Int.emod_lt_of_pos _ @c,λz=> ?_⟩ rfl (getElem_mem U)];have z:s=(s+1+j)% fl:=z;by_cases w:s+1+j<fl
 ·rw [Int.emod_eq_of_lt @c w] at z;lia
 ·have e:(s+1+j)% fl=s+1+j - fl:=by
   rw [show s+1+j=(s+1+j - fl)+fl by lia,Int.add_emod_right,Int.emod_eq_of_lt @c @c];lia
  lia
def MQ (cs:List Cb)(l:Int):Prop:=l= -1\/∃(j:Nat) (c:Cb),l=(j:Int)/\cs[j]? =some c/\c.mr=0
inductive pP (K:Fg)(vs:List V)(H:Hp)(Q:VK)(_e:XK):Prop
 |mk (a ns h hs fi:_) (_:vs=[.ref a,.ref h,.bl fi]) (_:wr K H a ns) (_:jD K H h hs) (_:∀st cs ws last H',aj H H'->jb K H' st cs ws last fi->oF hs ws.length ⟨cs,ws,last,fi,0,[]⟩->ws.length<=10->0<=last->(∀c∈cs,c.mr<=3)->(fi=true->ws=[])->(∀j c,cs[j]? =some c->PV ns j c)->ws.map (·.tag)=(List.range ws.length).map (λj:Nat=>fL ns (20+(j:Int)))->(∀r∈ws,MQ cs r.lift)->Q (.ref st) H')
theorem MH {H:Hp}{x:V}{c:Cb}(h:b9 K H x c):∃a b,x= .ref a/\aC K H a [.int c.pl,.int c.li,.int c.dr,.int c.mr,.ref b]:=by
 obtain ⟨t,rfl,b,j,z,_⟩:=h;exact ⟨t,b,rfl,aC.of z⟩
abbrev Z05:=λP w K mg base=>aR P w K mg base 3 "_law_rider" ["_law_script","_law_at_here","_law_house_here","_law_tag_here","_law_lifts"] (iK K)
theorem BZ (F:Z0 K "_law_state" vk f fd)(aG:mg "range"=none)(aU:mg "len"=none)(bo:mg "tuple"=none)(aO:Z00 P w K mg base)(dU:Z06 P w K mg base)(rS:aR P w K mg base 4 "_law_cabin" ["_law_script","_law_at_here","_law_house_here","_law_number","_law_fire"] (pU K))(fq:Z05 P w K mg base):au P w K mg base aZ 5 f fd ["_law_script","_law_house_here","_law_fire"] (pP K):=by
 rwa[F.ok qh (by symm) (λbw A outer s H vs Q E hr h=> ?_)];obtain ⟨a,ns,h,hs,fi,rfl,hS,hH,q⟩:=h;have aS:=hH;obtain ⟨ho,p,ls,hh,hp,hl⟩:=hH;have l1:=ho.l1;have l3:=ho.l3;have ll:ls.length=hs.ls.length:=hl.len;rwa[⟨_,(aa (bD (i:=3) qh.nd rfl @dQ (bb rfl (ay (N':=["_law_k","_law_script","_law_house_here","_law_fire"]) (pk:=[none,some 0,some 1,some 2]) @l) @bQ @h @r @h)) (aa (bD (i:=4) qh.nd rfl @q (bZ @ci @a (bb rfl (ay (N':=["_law_k","_law_cabins"]) (pk:=[none,some 3]) @l) @bQ @h @N @H))) (aa @a (aa (cm PassesOwn.never rfl @bQ @a @D) (fA @bf (ac (ao (eX (aq (aI @da rfl bo boot_tuple @bN) (aq (aI @da rfl bo boot_tuple (aq (wv 5) am)) (aq @a @fg))))))))))),?_⟩];rwa[ag hh rfl ?_];rwa[cI hp ?_];rw [ll];rwa[⟨⟨by lia,by lia⟩,?_⟩]
 have a1:((hs.ls.length:Int)).toNat=hs.ls.length:=by lia
 rwa[cE (λi ys H'=>aj H H'/\ys.length=i/\∃J:List Cb,Paired (b9 K H') ys J/\(∀c∈J,tN hs.fl c)/\(∀j c,J[j]? =some c->PV ns j c)/\∀c∈J,c.mr<=3) @S (λi ys H' p=>Nat.le_of_eq p.2.1) ⟨.refl _,rfl,[],.nil,(λc W=>nomatch W),(λj c W=>nomatch W),λc W=>nomatch W⟩ @dm (λys H' p lc a4=> ?_)]
 ·obtain ⟨sm,rfl,J,hd,a6,av,aJ⟩:=p;rwa[⟨bg,?_⟩];rwa[⟨cZ @b @b,?_⟩]
  refine pU.mk _ _ _ _ _ _ _ rfl (hS.same sm) @c @c (aS.same sm) @c @c λv c H3 S hv W ak az=>⟨sm.trans S,by simp,J++[c],?_,λd I=> ?_,(λj d I=>by
   have bv:=hd.len;by_cases z:j<J.length
   ·rw [getElem?_append_left z] at I;exact av j d I
   ·rw [getElem?_append_right @c] at I;have:=(List.getElem?_eq_some_iff.mp I).1;rw [length_singleton] at this
    obtain rfl:j=ys.length:=by lia
    rw [show ys.length - J.length=0 by lia] at I;cases I;rw [show ((0:Int)+(ys.length:Nat)).toNat=ys.length by lia] at az
    exact az),λd I=> ?_⟩
  ·exact Paired.app (Paired.imp' (λx c z=>b9.keep z S.st) hd) (.cons hv .nil)
  ·rcases mem_append.mp I with z|z
   ·exact a6 d z
   ·rw [mem_singleton.mp z];exact W
  ·rcases mem_append.mp I with z|z
   ·exact aJ d z
   ·rw [mem_singleton.mp z];exact ak
 obtain ⟨sm,al,J,hd,aW,aF,ak⟩:=p;rw [a1] at al
 have bm:J.length=hs.ls.length:=by have:=hd.len;lia
 have an:aj H' (upd H' lc (.lst ys)):= .upd a4;have ec:upd H' lc (.lst ys) lc=some (.lst ys):=af;have ai:=Paired.imp' (λx c z=>b9.keep z an.st) hd;generalize bn:upd H' lc (.lst ys)=H2 at an ec ai ⊢;have s2:=sm.trans an;rwa[gm (bt (by show 1<=1000000;decide)) λlm H3 S n3 e3=> ?_];rwa[b6 (aA.of (S _ _ ec)) ?_];rw [al];rwa[⟨⟨by lia,by lia⟩,?_⟩];rwa[cE (λi zs HX=>HX=H3/\∃is:List Int,zs=is.map V.int/\is.length<=i/\∀x∈is,MQ J x) @S (λi zs HX p=>by obtain ⟨_,is,rfl,e,_⟩:=p;rw [length_map];exact e) ⟨rfl,[],rfl,Nat.le_refl _,(λx hx=>nomatch hx)⟩ (λi zs HX hi p=> ?_) (λzs HX p ab aM=> ?_)]
 ·obtain ⟨rfl,is,rfl,bx,aV⟩:=p
  have hi:i<ys.length:=by lia
  obtain ⟨c,W,z⟩:=ai.get1 (getElem?_eq_getElem hi);obtain ⟨ca,cb,ea,a7⟩:=MH (z.keep S.st);rwa[⟨bg,?_⟩];rwa[aN (aA.of (S _ _ ec)) (v:= .ref ca) (by rw [show (0:Int)+(i:Nat)=((i:Nat):Int) by lia,bz (getElem?_eq_getElem hi),ea]) ?_];rwa[ag a7 rfl ?_];show if decide (c.mr=0)=true then _ else _;by_cases z:c.mr=0
  ·rw [if_pos @X]
   exact ⟨rfl,is++[0+(i:Int)],by rw [map_append];rfl,by rw [length_append];show _+1<=_;lia,λx hx=>by
    rcases mem_append.mp hx with y|y
    ·exact aV x y
    ·rw [mem_singleton.mp y];exact .inr ⟨i,c,by lia,W,z⟩⟩
  ·rw [if_neg (by rw [decide_eq_false z];decide)];exact ⟨rfl,is,rfl,by lia,aV⟩
 obtain ⟨rfl,sv,rfl,br,ba⟩:=p;have L:aj HX (upd HX ab (.lst @eb)):= .upd aM;have aE:upd HX ab (.lst @eb) ab=some (.lst @eb):=af;generalize bp:upd HX ab (.lst @eb)=H4 at L aE ⊢;rwa[F7 (L _ _ e3) aE (bt (by rw [length_map];show 1+_<=_;lia)) λlf H5 s5 n5 e5=> ?_];have e5:H5 lf=some (.lst ((-1::sv).map V.int)):=e5;rwa[gm (bt (by show 0<=1000000;decide)) λwl H6 s6 aT bf=> ?_];have a3:aj H H6:=s2.trans (S.trans (L.trans @cA));have as:aj H H5:=s2.trans (S.trans (L.trans s5));have n0:H wl=none:=none_of as aT;have a2:H5 wl=none:=aT;rwa[lH (hS.same a3) @b @b @b @b λwc bu bs=> ?_];rwa[⟨⟨by lia,by lia⟩,?_⟩];rwa[cB (λi σ HY=>aj H5 HY/\∃(xs:List V) (U:List aH) (o6:Option V),HY wl=some (.lst xs)/\ax K HY xs (U.map aH.d)/\xs.length=i/\(U.map (·.tag)=(List.range i).map (λj:Nat=>fL ns (20+(j:Int)))/\∀r∈U,MQ J r.lift)/\(∀r∈U,gC hs.fl r)/\σ=[some (.ref a),some (.ref h),some (.bl fi),some (.ref lc),some (.ref lf),some (.ref wl),o6]) ⟨s6,[],[],_,bf,.nil,rfl,⟨rfl,(λr hr=>nomatch hr)⟩,(λr hr=>nomatch hr),rfl⟩ (λi σ HY hi pv=> ?_) @ec]
 ·obtain ⟨sx,xs,U,o5,el,Y,ad,R,aw,rfl⟩:=pv
  have i0:(0:Int)+(i:Nat)=((i:Nat):Int):=by lia
  rw [i0];have O:=as.trans sx;rwa[⟨.inl ⟨rfl,_,aA.of el⟩,?_⟩];rwa[pN.mk _ _ _ rfl (hS.same O) @c @c λtg bi=> ?_];rwa[iK.mk _ _ _ _ _ _ _ _ rfl (hS.same O) @c @c (aS.same O) (aA.of (sx _ _ e5)) @e (by show (-1::sv).length<=100;rw [length_cons];lia) λv r H7 s7 hv a5 aY bc=> ?_];rwa[gB @fX @dh ?_]
  refine ⟨aj.updF (sx.trans s7) a2,xs++[v],U++[r],_,af,?_,by simp [ad],⟨(by rw [map_append,R.1,range_succ,map_append,map_cons,aY,bi];rfl),(λr' ap=>by
   rcases mem_append.mp ap with z|z
   ·exact R.2 r' z
   ·rw [mem_singleton.mp z]
    rcases mem_cons.mp bc with y|y
    ·exact .inl y
    ·exact ba _ y)⟩,λr' ap=> ?_,rfl⟩
  ·rw [map_append];exact Paired.app (dA (ax.same Y s7) (fz U) @fX) (.cons (bH.noL (d:=aH.d r) hv rfl @fX) .nil)
  ·rcases mem_append.mp ap with z|z
   ·exact aw r' z
   ·rw [mem_singleton.mp z];exact a5
 obtain ⟨sx,xs,U,o6,el,Y,ad,R,aw,rfl⟩:=pv;have O:=as.trans sx;have ad:xs.length=wc.toNat:=ad;rwa[xR (λσ HZ=>aj HY HZ/\∃(a0:Addr) (Z:List V) (G:List aH),HZ a0=some (.lst Z)/\ax K HZ Z (G.map aH.d)/\(G.map (·.tag)=(List.range G.length).map (λj:Nat=>fL ns (20+(j:Int)))/\∀r∈G,MQ J r.lift)/\(∀r∈G,gC hs.fl r)/\G.length<=10/\(fi=true->G=[])/\σ=[some (.ref a),some (.ref h),some (.bl fi),some (.ref lc),some (.ref lf),some (.ref a0),o6]) ?_ ?_]
 ·ext
  cases fi with
  |true=>
   rwa[bL rfl ?_];exact gm (bt (by show 0<=1000000;decide)) λl9 H9 s9 n9 e9=>⟨s9,l9,[],[],e9,.nil,⟨rfl,(λr hr=>nomatch hr)⟩,(λr hr=>nomatch hr),by decide,@cn,rfl⟩
  |false=>
   rwa[be rfl ?_];have:=aD (f:=aH.d) Y
   have a8:U.length=wc.toNat:=by lia
   exact ⟨.refl _,wl,xs,U,el,Y,⟨by rw [a8];exact R.1,R.2⟩,aw,by lia,(λz=>by cases z),rfl⟩
 rintro σ' HZ ⟨sZ,a0,Z,G,a9,aL,ae,aX,bk,bd,rfl⟩;have aP:=O.trans sZ;have aQ:HZ lc=some (.lst ys):=sZ _ _ (sx _ _ (s5 _ _ (L _ _ (S _ _ ec))));have bj:Paired (b9 K HZ) ys J:=Paired.imp' (λx c z=>b9.keep z (S.trans (L.trans (s5.trans (sx.trans sZ)))).st) ai;rwa[fJ (aA.of aQ) λtc HA sA nA eA=> ?_];rwa[fJ (aA.of (sA _ _ a9)) λtw HB sB nB eB=> ?_];rwa[b6 (aA.of (sB _ _ (sA _ _ aQ))) ?_];rw [al];rwa[lH (hS.same (aP.trans (sA.trans sB))) @b @b @b @c λla bh bq=> ?_];rwa[bX (bt (by show 4<=1000000;decide)) λst HC sC nC eC=> ?_];have ah:=sA.trans (sB.trans sC);exact q st J G la HC (aP.trans ah) ⟨tc,tw,ys,Z,aC.of eC,aC.of (sC _ _ (sB _ _ eA)),aC.of (sC _ _ eB),Paired.imp' (λx c z=>b9.keep z ah.st) bj,ax.same aL ah⟩ ⟨bm,aW,aX,by show 0+G.length<=_;lia⟩ bk bh ak bd aF ae.1 ae.2
theorem Ma {i:Int}(F:0<=i)(h1:i<5):∃c,lU (s!"oxuds").cps.toList i=some c/\c∈mZ:=by
 rcases (show i=0\/i=1\/i=2\/i=3\/i=4 by lia) with rfl|rfl|rfl|rfl|rfl<;>exact ⟨_,rfl,by decide⟩
theorem xD:∀(ts:List Str),(Builtin.Str.glued "" ts).cps.toList=ts.flatMap λt=>t.cps.toList:=by
 have F:(s!"").cps= #[]:=by decide+kernel
 have z:∀(l:List Str) (j:Array Nat),(l.foldl (λj p=>j++(s!"").cps++p.cps) j).toList=j.toList++l.flatMap λt=>t.cps.toList:=by
  intro l
  induction l with
  |nil=>intro j;simp
  |cons p l ih=>
   intro j;rw [foldl_cons,ih,F,flatMap_cons];simp
 intro ts
 cases ts with
 |nil=>rfl
 |cons p l=>
  show (l.foldl (λj p=>j++(s!"").cps++p.cps) p.cps).toList=_;rw [z,flatMap_cons]
theorem ur:∀(cs:List Nat),((cs.map λc=>(⟨#[c]⟩:Str)).flatMap λt=>t.cps.toList)=cs
 |[]=>rfl
 |c::cs=>by rw [map_cons,flatMap_cons,ur cs];rfl
theorem wQ:∀(cs:List Nat),((cs.map λc=>(⟨#[c]⟩:Str)).map (·.length)).sum=cs.length
 |[]=>rfl
 |c::cs=>by rw [map_cons,map_cons,sum_cons,wQ cs,length_cons];show 1+_=_;lia
inductive yT (K:Fg)(vs:List V)(H:Hp)(Q:VK)(_e:XK):Prop
 |mk (a ns k:_) (_:vs=[.ref a,.int k]) (_:wr K H a ns) (_:0<=k) (_:k<1000) (_:∀t H',aj H H'->AR t->Q (.str t) H')
theorem Iv (F:Z0 K "_law_letters" mL f fd)(aG:mg "range"=none)(aO:Z00 P w K mg base):au P w K mg base aZ 3 f fd ["_law_script","_law_at_here"] (yT K):=by
 rwa[F.ok zh (by symm) @i];obtain ⟨a,ns,k,rfl,W,k0,k1,q⟩:=h;rwa[⟨_,(ac (ao (fu rfl PySem.F.plainAttrs_str PySem.F.slot_str_join PySem.F.type_str_join (yC rfl) cY (aq (bb rfl (ay (N':=["_law_k","_law_script","_law_at_here"]) (pk:=[none,some 0,some 1]) @l) (bE rfl aG (aq aM am)) @h @r @h) am)))),?_⟩];rwa[⟨rfl,?_⟩];rwa[⟨⟨by decide,by decide⟩,?_⟩];rwa[cE (λi ys H'=>H'=H/\∃z:List Nat,ys=(z.map λc=>(⟨#[c]⟩:Str)).map V.str/\z.length=i/\∀c∈z,c∈mZ) (bt @b) (λi ys H' p=>by obtain ⟨_,z,rfl,l,_⟩:=p;rw [length_map,length_map,l];exact Nat.le_refl _) ⟨rfl,[],rfl,rfl,λx G=>nomatch G⟩ @dm (λys H' p l n=> ?_)]
 ·obtain ⟨rfl,z,rfl,I,J⟩:=p;have aa:i<36:=hi;rwa[⟨bg,?_⟩];rwa[⟨cZ @b @b,?_⟩];erw[lH W k0 k1 (by show (0:Int)<60013+16*(0+(i:Int));lia) @b λj Z j1=> ?_];obtain ⟨c,ec,hL⟩:=Ma Z j1;rwa[u8 (bt @b) ec ?_];rwa[⟨rfl,z++[c],by rw [map_append,map_append];rfl,by rw [length_append,I];rfl,λx G=> ?_⟩]
  rcases mem_append.mp G with G|G
  ·exact J x G
  ·rw [mem_singleton.mp G];exact hL
 obtain ⟨rfl,z,rfl,I,J⟩:=p;have I:z.length=36:=I;have S:upd H' l (.lst ((z.map λc=>(⟨#[c]⟩:Str)).map V.str)) l=some (.lst ((z.map λc=>(⟨#[c]⟩:Str)).map V.str)):=af;have O:aj H' (upd H' l (.lst ((z.map λc=>(⟨#[c]⟩:Str)).map V.str))):= .upd n;generalize upd H' l (.lst ((z.map λc=>(⟨#[c]⟩:Str)).map V.str))=H1 at S O ⊢
 have R:(Builtin.Str.glued "" (z.map λc=>(⟨#[c]⟩:Str))).cps.toList=z:=by
  rw [xD,ur]
 have L:(Builtin.Str.glued "" (z.map λc=>(⟨#[c]⟩:Str))).length=36:=by rw [<-gq,R,I]
 have gf:(z.map λc=>(⟨#[c]⟩:Str)).toArray.foldl (· + ·.length+(s!"").length) 0<=sizeLine:=bt (by
  rw [PySem.StrLaws.joinTotal]
  have Y:(s!"").length=0:=by decide+kernel
  rw [wQ,Y,I];lia)
 rwa[Fs (ts:=z.map λc=>(⟨#[c]⟩:Str)) (aA.of S) gf (bt (by rw [L];decide)) ?_];exact q _ H1 O ⟨L,λc U=>J c (by rw [R] at U;exact U)⟩
def Gw (d:D):Prop:=∃(wd:Str) (i:Int) (is:List Int),d= .tup (.str wd:: .int i::is.map D.int)/\is.length<=10
inductive yP (K:Fg)(vs:List V)(H:Hp)(Q:VK)(_e:XK):Prop
 |mk (l zs ds:_) (_:vs=[.ref l]) (_:H l=some (.lst zs)) (_:ax K H zs ds) (_:(∀d∈ds,Gw d)) (_:ds.length<=4000) (_:∀H',aj H H'->Q (.bl true) H')
theorem lI {H:Hp}{xs:List V}{d:D}{ds:List D}(h:ax K H xs (d::ds)):∃y ys,xs=y::ys/\bH K H y d/\ax K H ys ds:=by
 cases h with|cons a b=>exact ⟨_,_,rfl,a,b⟩
theorem CD {H:Hp}:∀ {is:List Int} {ys:List V},ax K H ys (is.map D.int)->ys=is.map V.int:=by
 intro is
 induction is with
 |nil=>intro ys h;cases h;rfl
 |cons j is ih=>
  intro ys h;obtain ⟨y,zs,rfl,a,b⟩:=lI h;rw [a.isInt,ih b];rfl
theorem Hg {H:Hp}{x:V}{d:D}(h:bH K H x d)(S:Gw d):∃(a:Addr) (wd:Str) (i:Int) (is:List Int),x= .ref a/\aC K H a (.str wd:: .int i::is.map V.int)/\is.length<=10/\d= .tup (.str wd:: .int i::is.map D.int):=by
 obtain ⟨wd,i,is,rfl,W⟩:=S;obtain ⟨a,xs,rfl,h1,h2⟩:=h.outT;obtain ⟨L,I,rfl,G,j⟩:=lI h2;obtain ⟨O,z,rfl,J,F⟩:=lI j;rw [G.isStr,J.isInt,CD F] at h1;exact ⟨a,wd,i,is,rfl,h1,W,rfl⟩
theorem Im (F:Z0 K "_law_rows" zr f fd)(bv:mg "isinstance"=none)(cc:mg "list"=none)(bo:mg "tuple"=none)(Ci:mg "str"=none)(aU:mg "len"=none)(dO:aR P w K mg base 1 "_law_whole" ["_law_thing"] kE):au P w K mg base aZ 2 f fd ["_law_log"] (yP K):=by
 rwa[F.ok G6 (by symm) @P];obtain ⟨l,zs,ds,rfl,Z,hd,J,dl,q⟩:=h;have zl:zs.length=ds.length:=hd.len;rwa[⟨_,(aa (aB (d6 (iA rfl (aY (oU rfl) rfl bv boot_isinstance (aq (wv 0) (aq (jo (v:= .ty "list") rfl cc boot_list rfl) am))))) @bq ar) (aa (cm PassesOwn.never rfl (lY rfl (wv 0)) @a (aa (aB (PW.pt (tO (d6 (iA rfl (aY (oU rfl) rfl bv boot_isinstance (aq (wv 1) (aq (jo (v:= .ty "tuple") rfl bo boot_tuple rfl) am))))) (tO (ck w_lt (aY @fH rfl aU PySem.boot_len @bl) aM (bR _)) (vD (d6 (iA rfl (aY (oU rfl) rfl bv boot_isinstance (aq (cQ (fI rfl) (wv 1) aM @ba) (aq (jo (v:= .ty "str") rfl Ci boot_str rfl) am))))))))) @bq ar) (ac (cm PassesOwn.never rfl (lY rfl (kZ (Ax rfl) (wv 1) (oR aM) o9)) @a (ac (aB (d6 (iA rfl (b7 dO hr @b rfl @fg))) @bq ar)))))) @bq)),?_⟩];rwa[Fu rfl (.lst Z) rfl ?_];rwa[be rfl ?_];rwa[bK (aA.of Z) ?_];rwa[dM (xs:=zs) (λi σ I=>aj H I/\∃o1 G,σ=[some (.ref l),o1,G]) ⟨.refl _,_,_,rfl⟩ (λi σ I _ R=>R.1.seq (aA.of Z)) (λi x σ I hx R=> ?_) @eC]
 ·obtain ⟨U,o1,G,rfl⟩:=R;obtain ⟨d,ab,dx⟩:=hd.get1 hx;obtain ⟨a,wd,j,L,rfl,W,il,_⟩:=Hg (bH.same dx U) (J d (mem_of_getElem? ab));rwa[Mn W rfl rfl ?_];rwa[be rfl ?_];rwa[cI W ?_];rwa[dF (by show ¬(((V.str wd::V.int j::L.map V.int).length:Nat):Int)<2;rw [length_cons,length_cons];lia) ?_];rwa[ag W (v:= .str wd) @fh ?_];rwa[⟨rfl,?_⟩];rwa[be rfl ?_]
  refine gK W (by
   rintro ⟨z,_⟩;revert z;show ¬HT.sIx (L.map V.int).length.succ.succ 0 (some 1)=0
   simp [HT.sIx]) λsl H2 s2 n2 e2=> ?_
  rw [uz] at e2;rwa[fg (aC.of e2) ?_]
  have O:∀y∈(V.int j::L.map V.int),∃i:Int,y=V.int i:=λy Y=>by
   rcases mem_cons.mp Y with rfl|Y
   ·exact ⟨_,rfl⟩
   ·obtain ⟨i,_,rfl⟩:=mem_map.mp Y;exact ⟨_,rfl⟩
  rwa[xI (xs:=V.int j::L.map V.int) (λi σ S=>S=H2/\∃G,σ=[some (.ref l),some (.ref a),G]) ⟨rfl,_,rfl⟩ (λi σ S _ R=>by rw [R.1];exact aC.of e2) (λi x σ S hx R=> ?_) (λσ S R=> ?_)]
  ·obtain ⟨rfl,G,rfl⟩:=R;obtain ⟨i,rfl⟩:=O x (mem_of_getElem? hx);rwa[kE.mk _ rfl ?_];rwa[be rfl ?_];exact ⟨rfl,_,rfl⟩
  ·obtain ⟨rfl,G,rfl⟩:=R;exact ⟨U.trans s2,_,_,rfl⟩
 ·obtain ⟨U,o1,G,rfl⟩:=R;exact q I U
def bd (K:Fg)(H:Hp)(p:Addr)(cs:List jP):Prop:=∃xs,(aA K H p xs\/aC K H p xs)/\ax K H xs (cs.map jP.d)
theorem bd.same {H H':Hp}{p:Addr}{cs:List jP}(h:bd K H p cs)(s:aj H H'):bd K H' p cs:=let ⟨xs,h1,h2⟩:=h;⟨xs,s.any h1,ax.same h2 s⟩
theorem we {H:Hp}{x:V}{c:jP}(h:bH K H x c.d):∃a b,x= .ref a/\aC K H a [.int c.pl,.int c.li,.int c.dr,.int c.mr,.ref b]:=by
 obtain ⟨a,xs,rfl,h1,h2⟩:=h.outT
 cases h2 with|cons q0 t0=>cases t0 with|cons q1 t1=>cases t1 with|cons q2 t2=>cases t2 with|cons q3 t3=>cases t3 with|cons q4 t4=>
 cases t4;cases q0.isInt;cases q1.isInt;cases q2.isInt;cases q3.isInt;obtain ⟨b,ys,rfl,_⟩:=q4.outT;exact ⟨a,b,rfl,h1⟩
theorem iP {H:Hp}{x:V}{r:Rd}(h:bH K H x r.d):∃a,x= .ref a/\aC K H a [.int r.t,.int r.s,.int r.g,.int r.l]:=by
 obtain ⟨a,xs,rfl,h1,h2⟩:=h.outT
 cases h2 with|cons q0 t0=>cases t0 with|cons q1 t1=>cases t1 with|cons q2 t2=>cases t2 with|cons q3 t3=>
 cases t3;cases q0.isInt;cases q1.isInt;cases q2.isInt;cases q3.isInt;exact ⟨a,rfl,h1⟩
theorem bd.at {H:Hp}{p:Addr}{cs:List jP}(h:bd K H p cs){i:Int}(L:0<=i)(h1:i<cs.length){Q:VK}(g:∀c a b,cs[i.toNat]? =some c->aC K H a [.int c.pl,.int c.li,.int c.dr,.int c.mr,.ref b]->Q (.ref a) H):iM K p i H Q:=by
 obtain ⟨xs,G,J⟩:=h;have W:=aD J;obtain ⟨j,rfl⟩:=Int.eq_ofNat_of_zero_le L
 have Z:j<xs.length:=by lia
 obtain ⟨c,I,z⟩:=bc J (getElem?_eq_getElem Z);obtain ⟨a,b,O,F⟩:=we z;rwa[DM G (v:= .ref a) (bz (by rw [getElem?_eq_getElem Z,O])) (g c a b ?_ F)];rw [show ((j:Int)).toNat=j by lia];exact I
theorem bd.len {H:Hp}{p:Addr}{cs:List jP}(h:bd K H p cs){Q:VK}(g:Q (.int cs.length) H):iL K p H Q:=by
 obtain ⟨xs,z,J⟩:=h;rwa[G4 z ?_];rw [aD J];exact g
inductive tX (K:Fg)(vs:List V)(H:Hp)(Q:VK)(_e:XK):Prop
 |mk (a x0 x1 x2 m x4:_) (_:vs=[.ref a]) (_:aC K H a [x0,x1,x2,.int m,x4]) (_:Q (.bl (decide (m=0))) H)
theorem LH (F:Z0 K "is_serving" j4 f fd):au P w K mg base aZ 1 f fd ["cabin"] (tX K):=by
 rwa[F.ok xh (by symm) (λj A outer s H I Q E S h=> ?_)];obtain ⟨a,G,O,R,m,z,rfl,L,q⟩:=h;rwa[⟨_,@j,?_⟩];rwa[ag L rfl ?_];exact q
abbrev aT (cs:List jP):List Bool:=cs.map jP.srv
theorem pL {cs:List jP}{i:Nat}{c:jP}(h:cs[i]? =some c):(aT cs).getD i false=decide (c.mr=0):=by
 rw [getD_eq_getElem?_getD,getElem?_map,h];rfl
inductive uQ (K:Fg)(vs:List V)(H:Hp)(Q:VK)(_e:XK):Prop
 |mk (p cs first:_) (_:vs=[.ref p,.int first]) (_:bd K H p cs) (_:1<=cs.length) (_:cs.length<=3) (_:0<=first) (_:Q (.int (sf @bU first)) H)
theorem OA (F:Z0 K "serving_from" gM f fd)(aU:mg "len"=none)(aG:mg "range"=none){U:Tok}(bf:mg "NO_LIFT"=some (.int (-1) U))(fG:aR P w K mg base 1 "is_serving" ["cabin"] (tX K)):au P w K mg base aZ 2 f fd ["cabins","first"] (uQ K):=by
 have ff:aE (.int (-1)) (.int (-1) U):=⟨_,rfl⟩;rwa[F.ok si (by symm) @i];obtain ⟨p,G,first,rfl,Y,c1,c3,f0,q⟩:=h;have W:(aT G).length=G.length:=length_map _;rwa[⟨_,(aa @a (aa (cm PassesOwn.never rfl (bE rfl aG @fg) @a (aa @a (ac (aB @a (ac (ao (wv 4))) ar)))) @j)),?_⟩];rwa[Y.len ?_];rwa[⟨⟨by lia,by lia⟩,?_⟩];rwa[cB (λi σ I=>I=H/\sf (aT G) first=JK (aT G) first i (G.length - i)/\∃O L,σ=[some (.ref p),some (.int first),some (.int G.length),O,L]) ⟨rfl,by unfold sf;rw [W];rfl,_,_,rfl⟩ (λi σ I hi R=> ?_) @eC]
 ·obtain ⟨rfl,j,O,L,rfl⟩:=R
  have hi:i<G.length:=by lia
  have Z:(0:Int)+(i:Nat)=((i:Nat):Int):=by lia
  rw [Z];have S:0<=(first+(i:Int))% (G.length:Int):=Int.emod_nonneg _ @c;have J:(first+(i:Int))% (G.length:Int)<(G.length:Int):=Int.emod_lt_of_pos _ @c;rw [show G.length - i=(G.length - (i+1))+1 by lia] at j
  have j:sf (aT G) first=if (aT G).getD ((first+(i:Int))% (aT G).length).toNat false=true then (first+(i:Int))% (aT G).length else JK (aT G) first (i+1) (G.length - (i+1)):=j
  rw [W] at j;rwa[⟨by lia,?_⟩];rwa[Y.at S J λc a b hc hT=> ?_];rwa[tX.mk _ _ _ _ _ _ rfl hT ?_];rw [pL hc] at j;rwa[eh @k @k]
  ·rw [if_pos @X] at j;rw [j] at q;exact q
  ·rw [if_neg (by rw [decide_eq_false z];decide)] at j;exact ⟨rfl,j,_,_,rfl⟩
 obtain ⟨rfl,j,O,L,rfl⟩:=R;rw [show ((G.length:Int)).toNat=G.length by lia,Nat.sub_self] at j
 have j:sf (aT G) first= -1:=j
 rw [j] at q;exact q
inductive oW (K:Fg)(vs:List V)(H:Hp)(Q:VK)(_e:XK):Prop
 |mk (p cs x1 x2 last:_) (_:vs=[.ref p,x1,x2,.int last]) (_:bd K H p cs) (_:1<=cs.length) (_:cs.length<=3) (_:0<=last) (_:∀r H',aj H H'->H' r=some (.tup [.int (sf @bU (last+1)),.int (if sf @bU (last+1)= -1 then last else sf @bU (last+1))])->Q (.ref r) H')
abbrev Z01:=λP w K mg base=>aR P w K mg base 2 "serving_from" ["cabins","first"] (uQ K)
theorem EF (F:Z0 K "by_turns" qC f fd){j:Tok}(bf:mg "NO_LIFT"=some (.int (-1) j))(U:Z01 P w K mg base):au P w K mg base aZ 3 f fd ["cabins","waiting","rider","last"] (oW K):=by
 have Y:aE (.int (-1)) (.int (-1) j):=⟨_,rfl⟩;rwa[F.ok BO (by symm) (λI A outer s H vs Q E hr h=> ?_)];obtain ⟨p,Z,x1,x2,J,rfl,G,L,S,l0,q⟩:=h;rwa[⟨_,(aa @a @j),?_⟩];rwa[uQ.mk _ _ _ rfl G L S @c ?_];rwa[eh @k @k]
 ·ext;rw [if_pos z] at q;exact bX (bt (by show 2<=1000000;decide)) λr H2 R W O=>q r H2 R O
 ·ext;rw [if_neg z] at q;exact bX (bt (by show 2<=1000000;decide)) λr H2 R W O=>q r H2 R O
theorem nv {cs:List jP}:(aT cs).length=cs.length:=length_map _
inductive mf (K:Fg)(vs:List V)(H:Hp)(Q:VK)(_e:XK):Prop
 |mk (p cs:_) (_:vs=[.ref p]) (_:bd K H p cs) (_:cs.length<=3) (_:∀l H',aj H H'->H l=none->H' l=some (.lst ((srv @bU).map λi:Nat=>V.int i))->Q (.ref l) H')
theorem Il (F:Z0 K "serving" qv f fd)(cz:mg "enumerate"=none)(fG:aR P w K mg base 1 "is_serving" ["cabin"] (tX K)):au P w K mg base aZ 2 f fd ["cabins"] (mf K):=by
 rwa[F.ok BF (by symm) @i];obtain ⟨p,G,rfl,hC,c3,q⟩:=h;rwa[⟨_,(ac (ao (bb rfl (ay (N':=["lift","cabin"]) (pk:=[none,none]) @l) (Au rfl rfl cz (wv 0)) @v @N @H))),?_⟩];obtain ⟨xs,J,hd⟩:=hC;have hl:xs.length=G.length:=aD hd
 have Y:∀ys H',aj H H'/\ys=(jz (aT G) xs.length).map (λi:Nat=>V.int i)->∀p,H' p=none->Q (.ref p) (upd H' p (.lst ys)):=by
  rintro ys H' ⟨S,rfl⟩ p0 n0;rwa[q p0 _ (S.trans (.upd n0)) ?_ ?_]
  ·cases z:H p0 with
   |none=>rfl
   |some o=>rw [S _ _ z] at n0;cases n0
  ·rw [af,hl,<-nv (cs:=G)]
 have aa:∀(i:Nat) x (ys:List V) H1 T H',xs[i]? =some x->(aj H H1/\ys=(jz (aT G) i).map (λi:Nat=>V.int i))->aj H1 H'->H' T=some (.tup [.int i,x])->∃c a b,x= .ref a/\G[i]? =some c/\aC K H' a [.int c.pl,.int c.li,.int c.dr,.int c.mr,.ref b]/\aC K H' T [.int i,.ref a]/\aj H H':=by
  rintro i x ys H1 T H' j ⟨S,_⟩ R I;obtain ⟨c,L,dc⟩:=bc hd j;obtain ⟨a,b,rfl,Z⟩:=we dc;exact ⟨c,a,b,rfl,L,(S.trans R).seqT Z,aC.of I,S.trans R⟩
 have W:∀(i:Nat) (c:jP),G[i]? =some c->jz (aT G) (i+1)=jz (aT G) i++(if decide (c.mr=0)=true then [i] else []):=λi c L=>by rw [Bu,pL L]
 have U:∀(i:Nat) x (ys:List V) H1 T H',xs[i]? =some x->(aj H H1/\ys=(jz (aT G) i).map (λi:Nat=>V.int i))->aj H1 H'->H' T=some (.tup [.int i,x])->Bo K 2 T H' λxs=>
  yz (jK 0) (yz (jK 1) Jz) xs (cy [none,none] (L2.start [s!"cabins"] [V.ref p])) H' λσ2 H2=>tF (cy [none,none] (L2.start [s!"cabins"] [V.ref p])) σ2/\
   Nu K (wO (tX K) [] E0 (Du (Di 1) KC)) σ2 H2 λb H3=>if b=true then Di 0 σ2 H3 λv H4=>aj H H4/\ys++[v]=List.map (λi:Nat=>V.int i) (jz (aT G) (i+1)) else aj H H3/\ys=List.map (λi:Nat=>V.int i) (jz (aT G) (i+1)):=by
  intro i x ys H1 T H' j O R I;obtain ⟨c,a,b,rfl,L,Z,hT,s3⟩:=aa i x ys H1 T H' j O R I;rwa[kz hT rfl ?_];rwa[⟨⟨rfl,λi v h=>match i,h with|0,h=>(nomatch h)|1,h=>(nomatch h)|(i+2),h=>(nomatch h)⟩,?_⟩];rwa[tX.mk _ _ _ _ _ _ rfl Z ?_];show if decide (c.mr=0)=true then _ else _;by_cases z:c.mr=0
  ·rw [if_pos @X];rwa[⟨s3,?_⟩];rw [W i c L,if_pos @X,O.2,map_append];rfl
  ·rw [if_neg (by rw [decide_eq_false z];decide)];rwa[⟨s3,?_⟩];rw [W i c L,if_neg (by rw [decide_eq_false z];decide),O.2,append_nil]
 ext
 rcases J with J|J
 ·rwa[.inl ⟨xs,J,?_⟩];exact F4 (xs:=xs) (λi ys H'=>aj H H'/\ys=(jz (aT G) i).map (λi:Nat=>V.int i)) @S (λi ys H' h=>by rw [h.2,length_map];exact wS) ⟨.refl _,rfl⟩ (λi ys H' _ h=>h.1.seq J) (λi x ys H1 T H' j O R I=>U i x ys H1 T H' j O R I) (λys H' h=>Y ys H' h)
 ·rwa[.inr ⟨xs,J,?_⟩];exact F0 (xs:=xs) (λi ys H'=>aj H H'/\ys=(jz (aT G) i).map (λi:Nat=>V.int i)) @S (λi ys H' h=>by rw [h.2,length_map];exact wS) ⟨.refl _,rfl⟩ (λi ys H' _ h=>h.1.seqT J) (λi x ys H1 T H' j O R I=>U i x ys H1 T H' j O R I) (λys H' h=>Y ys H' h)
theorem aA.nt {H H':Hp}(s:aP H H'){a:Addr}{xs:List V}(h:aA K H a xs):aA K H' a xs:=by
 rcases h with (h|⟨o,h⟩)|h
 ·exact .inl (.inl (s _ _ (λps z=>by cases z) h))
 ·exact .inl (.inr ⟨o,s _ _ (λps z=>by cases z) h⟩)
 ·exact .inr h
theorem aC.nt {H H':Hp}(s:aP H H'){a:Addr}{xs:List V}(h:aC K H a xs):aC K H' a xs:=by
 rcases h with (h|⟨o,h⟩)|h
 ·exact .inl (.inl (s _ _ (λps z=>by cases z) h))
 ·exact .inl (.inr ⟨o,s _ _ (λps z=>by cases z) h⟩)
 ·exact .inr h
theorem bH.nt {H H':Hp}(s:aP H H'){x:V}{d:D}(h:bH K H x d):bH K H' x d:=by
 induction h with
 |non=>exact .non
 |bl a=>exact .bl a
 |int a=>exact .int a
 |str a=>exact .str a
 |lst h hl hi ih=>exact .lst (aA.nt s h) hl λi x d R O=>ih i x d R O
 |tup h hl hi ih=>exact .tup (aC.nt s h) hl λi x d R O=>ih i x d R O
theorem ax.nt {H H':Hp}(s:aP H H'){xs:List V}{ds:List D}(h:ax K H xs ds):ax K H' xs ds:=Paired.imp' (λ_ _ z=>bH.nt s z) h
theorem bd.nt {H H':Hp}(s:aP H H'){p:Addr}{cs:List jP}(h:bd K H p cs):bd K H' p cs:=let ⟨xs,h1,h2⟩:=h;⟨xs,h1.elim (λz=> .inl (aA.nt s z)) (λz=> .inr (aC.nt s z)),ax.nt s h2⟩
theorem AM {cs:List jP}{i:Nat}{c:jP}(h:cs[i]? =some c):Lg cs i=c.pl:=by unfold Lg;rw [h]
theorem pE {cs:List jP}{i:Nat}{c:jP}(h:cs[i]? =some c):ML cs i=c.ab.length:=by unfold ML;rw [h]
theorem ji {cs:List jP}{i:Nat}{v:V}(h:((srv @bU).map λi:Nat=>V.int i)[i]? =some v):∃j,(srv @bU)[i]? =some j/\v= .int (j:Nat)/\(srv @bU).getD i 0=j/\j<cs.length:=by
 rw [getElem?_map] at h;obtain ⟨j,Z,rfl⟩:=Option.map_eq_some_iff.mp h;rwa[⟨j,Z,rfl,by rw [getD_eq_getElem?_getD,Z];rfl,?_⟩];have:=(oV.mp (mem_of_getElem? Z)).1;rw [nv] at this;exact this
def Ff:Expr->Expr
 | .Call _ _ (⟨_,l,_⟩::_) _=>l
 |e=>e
noncomputable def AX:Expr:=match bh d7 with
 |[_,.Return (some (.Tuple (e::_) _ _)) _]=>Ff e
 |_=> .Constant .none 0 ⟨0,0,0,0⟩
noncomputable def xv:Expr:=match bh cN with
 |[_,.Assign _ e _,_]=>Ff e
 |_=> .Constant .none 0 ⟨0,0,0,0⟩
def IN (st:Stmt):Expr->Scope
 | .Lambda _ _ sc _=>sc
 |_=>ae st
theorem L7:dZ ["lift"] ["cabins","place"] (IN d7 AX):=⟨rfl,rfl,rfl,by decide+kernel,by decide+kernel,by decide+kernel,by decide+kernel,by decide+kernel⟩
theorem IP:dZ ["lift"] ["cabins","dealt"] (IN cN xv):=⟨rfl,rfl,rfl,by decide+kernel,by decide+kernel,by decide+kernel,by decide+kernel,by decide+kernel⟩
abbrev qN:Str:="near"++".<locals>."++"<lambda>"
abbrev qL:Str:="least"++".<locals>."++"<lambda>"
inductive uT (K:Fg)(Pn:Addr)(vs:List V)(H:Hp)(Q:VK)(_e:XK):Prop
 |mk (p cs x1 rv r last:_) (_:vs=[.ref p,x1,rv,.int last]) (_:bd K H p cs) (_:cs.length<=3) (_:bH K H rv (Rd.d r)) (_:bM H Pn qN) (_:∀m t H',cP @bU (lj cs r.s) m->dD Pn H H'->bM H' Pn qN->H' t=some (.tup [.int m,.int last])->Q (.ref t) H')
theorem Ir {c Pn:Addr}{kV ab pm ct oc:Value}{an od:Option Addr}{ap:Array @B}{t1:Tok}(lk:K.lookup f=some ⟨oc,od,.func (W.fnOf "near" "near" (bI d7) (bh d7) @gf .none kV ab pm an (.ref c) ct),ap⟩)(ai:W.codeIn K (.ref c) "near"=true)
(L:PySem.W.CodeHd base c Pn)(U:jf base mg)(Cj:mg "min"=none)(Cm:mg "abs"=none)(bf:mg "NO_LIFT"=some (.int (-1) t1))(lP:aR P w K mg base 2 "serving" ["cabins"] (mf K)):
 au P w K mg base aZ 5 f (W.fnOf "near" "near" (bI d7) (bh d7) @gf .none kV ab pm an (.ref c) ct) ["cabins","waiting","rider","last"] (uT K Pn):=by
 have ff:aE (.int (-1)) (.int (-1) t1):=⟨_,rfl⟩;rwa[xJ lk ai KZ @cj (λA outer s H vs Q E hr h=> ?_)]
 ·obtain ⟨p,F,x1,rv,r,J,rfl,_⟩:=h;rfl
 obtain ⟨p,F,x1,rv,r,J,rfl,hC,c3,ar,I,q⟩:=h;have S:PySem.closureFor (IN d7 AX) (envOfC "near" (ae d7) s.heap.objs.size f (.ref c))=(pure [("place",s.heap.objs.size+1+1),("cabins",s.heap.objs.size+1)]:Sem (List (Str×Addr))):=rfl;have Z:oG (lJ aZ P w K mg base ["cabins","waiting","rider","last","place"] "near" (ae d7) f (.ref c) A outer s H E).nox ["cabins","place"] [0,4] [("place",s.heap.objs.size+1+1),("cabins",s.heap.objs.size+1)]:=oG.two @b rfl rfl rfl rfl rfl rfl (.inr rfl);have ad:=L7;rwa[⟨_,(aa @a (ac (ao (eX (aq (Eu rfl rfl Cj hr @a (zG rfl L U rfl S) @a ad Z rfl (λ_ _ _=>rfl) (λ_ _ s H hr=>(aY JH rfl Cm boot_abs @C))) @bN))))),?_⟩];obtain ⟨ra,rfl,av⟩:=iP ar;rwa[ag av rfl ?_];rwa[⟨cZ @b @b,?_⟩];rwa[mf.mk _ _ rfl hC c3 λl H1 s1 n1 e1=> ?_];rwa[⟨I.same s1,λf' c' al H2 sP nf ef ec ah=> ?_⟩];obtain ⟨ps,hP,_⟩:=I.same s1;have sN:=sP.nt hP;have e2:H2 l=some (.lst ((srv (aT F)).map λi:Nat=>V.int i)):=sN l _ (λps z=>by cases z) e1;have as:bd K H2 p F:=(hC.same s1).nt sN
 have Y:∀m G,cP (aT F) (lj F r.s) m->aj H2 G->LV [.int m,.int J] G Q:=λm G hb O=>
  bX (bt (by show 2<=1000000;decide)) λt H4 s4 n4 e4=>q m t H4 hb (λb o nb z=>s4 _ _ (O _ _ (sP b o nb (s1 b o z)))) ((ah.same O).same s4) e4
 show ∃l f xs,_;rwa[⟨l,f',_,rfl,rfl,e2,λhx=> ?_,λhx=> ?_⟩]
 ·have hs:srv (aT F)=[]:=map_eq_nil_iff.mp hx;exact Y (-1) H2 (wk hs) (.refl _)
 ·rwa[⟨c',al,[.ref p,.int (2*r.s)],λi=>lj F r.s ((srv (aT F)).getD i 0),λG=>aj H2 G,rfl,.refl _,λG O=>⟨O _ _ e2,O _ _ ef,O _ _ ec⟩,λi v G hv O=> ?_,λi v G hv hb O=> ?_⟩]
  ·obtain ⟨j,hj,rfl,gj,jl⟩:=ji hv;rwa[(as.same O).at (by lia) @c λcb a b R af=> ?_];rwa[ag af rfl ?_];rwa[⟨?_,O⟩];have R:F[j]? =some cb:=R;show V.int _=V.int (lj F r.s ((srv (aT F)).getD i 0));rw [gj];unfold lj An;rw [AM R]
  ·obtain ⟨j,hj,rfl,gj,jl⟩:=ji hv;rwa[Y _ G (wj hj λi' ak=> ?_) O];exact hb i' (by rw [length_map];exact ak)
theorem Ga {H:Hp}{x:V}{c:jP}(h:bH K H x c.d):∃a b ys,x= .ref a/\aC K H a [.int c.pl,.int c.li,.int c.dr,.int c.mr,.ref b]/\aC K H b ys/\ys.length=c.ab.length:=by
 obtain ⟨a,xs,rfl,h1,h2⟩:=h.outT
 cases h2 with|cons q0 t0=>cases t0 with|cons q1 t1=>cases t1 with|cons q2 t2=>cases t2 with|cons q3 t3=>cases t3 with|cons q4 t4=>
 cases t4;cases q0.isInt;cases q1.isInt;cases q2.isInt;cases q3.isInt;obtain ⟨b,ys,rfl,F,O⟩:=q4.outT;exact ⟨a,b,ys,rfl,h1,F,by have:=O.length;rw [length_map] at this;exact this⟩
theorem bd.at2 {H:Hp}{p:Addr}{cs:List jP}(h:bd K H p cs){i:Int}(R:0<=i)(h1:i<cs.length){Q:VK}(g:∀c a b ys,cs[i.toNat]? =some c->aC K H a [.int c.pl,.int c.li,.int c.dr,.int c.mr,.ref b]->aC K H b ys->ys.length=c.ab.length->Q (.ref a) H):iM K p i H Q:=by
 obtain ⟨xs,G,J⟩:=h;have W:=aD J;obtain ⟨j,rfl⟩:=Int.eq_ofNat_of_zero_le R
 have Z:j<xs.length:=by lia
 obtain ⟨c,I,z⟩:=bc J (getElem?_eq_getElem Z);obtain ⟨a,b,ys,S,F,L,O⟩:=Ga z;rwa[DM G (v:= .ref a) (bz (by rw [getElem?_eq_getElem Z,S])) (g c a b ys ?_ F L O)];rw [show ((j:Int)).toNat=j by lia];exact I
def Bk (K:Fg)(H:Hp)(p:Addr)(rs:List Rd):Prop:=∃xs,(aA K H p xs\/aC K H p xs)/\ax K H xs (rs.map Rd.d)
abbrev bS (rs:List Rd):List Int:=rs.map λr=>r.l
inductive AH (K:Fg)(Pl:Addr)(vs:List V)(H:Hp)(Q:VK)(_e:XK):Prop
 |mk (p cs wp rs x2 last:_) (_:vs=[.ref p,.ref wp,x2,.int last]) (_:bd K H p cs) (_:cs.length<=3) (_:Bk K H wp rs) (_:rs.length<=64) (_:bM H Pl qL) (_:∀m t H',cP @bU (bJ cs (bS rs)) m->dD Pl H H'->bM H' Pl qL->H' t=some (.tup [.int m,.int last])->Q (.ref t) H')
theorem EW {c Pl:Addr}{kV aB pm ct oc:Value}{an od:Option Addr}{aI:Array @B}{t1:Tok}(lk:K.lookup f=some ⟨oc,od,.func (W.fnOf "least" "least" (bI cN) (bh cN) @gg .none kV aB pm an (.ref c) ct),aI⟩)(aH:W.codeIn K (.ref c) "least"=true)
(al:PySem.W.CodeHd base c Pl)(az:jf base mg)(Cj:mg "min"=none)(aU:mg "len"=none)(bf:mg "NO_LIFT"=some (.int (-1) t1))(lP:aR P w K mg base 2 "serving" ["cabins"] (mf K)):
 au P w K mg base aZ 5 f (W.fnOf "least" "least" (bI cN) (bh cN) @gg .none kV aB pm an (.ref c) ct) ["cabins","waiting","rider","last"] (AH K Pl):=by
 have ff:aE (.int (-1)) (.int (-1) t1):=⟨_,rfl⟩;rwa[xJ lk aH vc @cj (λA outer s H vs Q E hr h=> ?_)]
 ·obtain ⟨p,J,wp,I,x2,ad,rfl,_⟩:=h;rfl
 obtain ⟨p,J,wp,I,x2,ad,rfl,hC,c3,hR,aJ,S,q⟩:=h;have ax:PySem.closureFor (IN cN xv) (envOfC "least" (ae cN) s.heap.objs.size f (.ref c))=(pure [("dealt",s.heap.objs.size+1+1),("cabins",s.heap.objs.size+1)]:Sem (List (Str×Addr))):=rfl;have aG:oG (lJ aZ P w K mg base ["cabins","waiting","rider","last","dealt","fewest"] "least" (ae cN) f (.ref c) A outer s H E).nox ["cabins","dealt"] [0,4] [("dealt",s.heap.objs.size+1+1),("cabins",s.heap.objs.size+1)]:=oG.two @b rfl rfl rfl rfl rfl rfl (.inr rfl);have aC:=IP;rwa[⟨_,(aa (bD (i:=4) vc.nd rfl @dQ (bb rfl @Q @a @w @r (λC s H ex=>(wv 3)))) (aa (bD (i:=5) vc.nd rfl @q (Eu rfl rfl Cj hr @a (zG rfl al az rfl ax) @a aC aG rfl (λ_ _ _=>rfl) (λ_ _ s H hr=>(bZ @ci @a (fu rfl PySem.F.plainAttrs_list PySem.F.slot_list_count PySem.F.type_list_count (Ay rfl) (wv 2) @cf))))) @j)),?_⟩];obtain ⟨xs,Z,hd⟩:=hR;have hl:xs.length=I.length:=aD hd;ext
 rcases Z with Z|Z
 ·rwa[bK Z ?_];rwa[bu (xs:=xs) (λi ys H'=>aj H H'/\ys=((bS I).take i).map V.int) @S (λi ys H' h=>by rw [h.2,length_map];exact length_take_le _ _) ⟨.refl _,rfl⟩ (λi ys H' _ h=>h.1.seq Z) (λi x ys H' av Y=> ?st) (λys H1 Y d n0=> ?rs)]
  case st=>
   obtain ⟨r,as,dr⟩:=bc hd av;obtain ⟨a,rfl,hT⟩:=iP (bH.same dr Y.1);rwa[kz hT rfl ?_];rwa[⟨⟨rfl,λi v h=>match i,h with|0,h=>(nomatch h)|1,h=>(nomatch h)|2,h=>(nomatch h)|3,h=>(nomatch h)|(i+4),h=>(nomatch h)⟩,?_⟩];rwa[⟨Y.1,?_⟩];rw [Y.2,take_add_one,getElem?_map,as,map_append];rfl
  have e1:upd H1 d (.lst (((bS I).take xs.length).map V.int)) d=some (.lst ((bS I).map V.int)):=by rw [af,take_of_length_le (by rw [length_map];lia)]
  have s1:aj H (upd H1 d (.lst (((bS I).take xs.length).map V.int))):=Y.1.trans (.upd n0);rw [Y.2];generalize upd H1 d (.lst (((bS I).take xs.length).map V.int))=H2 at e1 s1;rwa[mf.mk _ _ rfl @gq c3 λl H3 s3 n3 e3=> ?_];have L:=s1.trans s3;rwa[⟨S.same L,λf' c' ar U sP nf ef ec ai=> ?_⟩];obtain ⟨ps,ak,_⟩:=S.same L;have sN:=sP.nt ak;have e4:U l=some (.lst ((srv (aT J)).map λi:Nat=>V.int i)):=sN l _ (λps z=>by cases z) e3;have ed:U d=some (.lst ((bS I).map V.int)):=sN d _ (λps z=>by cases z) (s3 _ _ e1);have aw:bd K U p J:=(hC.same L).nt sN
  have ab:∀m R,cP (aT J) (bJ J (bS I)) m->aj U R->LV [.int m,.int ad] R Q:=λm R hb G=>
   bX (bt (by show 2<=1000000;decide)) λt H6 s6 n6 e6=>q m t H6 hb (λb o nb z=>s6 _ _ (G _ _ (sP b o nb (L b o z)))) ((ai.same G).same s6) e6
  show ∃l f xs,_;rwa[⟨l,f',_,rfl,rfl,e4,λZ=> ?_,λZ=> ?_⟩]
  ·have hs:srv (aT J)=[]:=map_eq_nil_iff.mp Z;exact ab (-1) U (wk hs) (.refl _)
  ·rwa[⟨c',ar,[.ref p,.ref d],λi=>bJ J (bS I) ((srv (aT J)).getD i 0),λR=>aj U R,rfl,.refl _,λR G=>⟨G _ _ e4,G _ _ ef,G _ _ ec⟩,λi v R hv G=> ?_,λi v R hv hb G=> ?_⟩]
   ·obtain ⟨j,hj,rfl,gj,jl⟩:=ji hv;rwa[(aw.same G).at2 @c @c λcb a b ys O ah hb hy=> ?_];rwa[ag ah rfl ?_];rwa[cI hb ?_];rwa[⟨.inl ⟨rfl,_,aA.of @fw⟩,?_⟩];rwa[⟨bS I,aA.of @fw,?_⟩];rwa[⟨?_,G⟩];have O:J[j]? =some cb:=O;show V.int _=V.int (bJ J (bS I) ((srv (aT J)).getD i 0));rw [gj];unfold bJ;rw [pE O,hy]
   ·obtain ⟨j,hj,rfl,gj,jl⟩:=ji hv;rwa[ab _ R (wj hj λi' ap=> ?_) G];exact hb i' (by rw [length_map];exact ap)
 ·rwa[fg Z ?_];rwa[dB (xs:=xs) (λi ys H'=>aj H H'/\ys=((bS I).take i).map V.int) @S (λi ys H' h=>by rw [h.2,length_map];exact length_take_le _ _) ⟨.refl _,rfl⟩ (λi ys H' _ h=>h.1.seqT Z) (λi x ys H' av Y=> ?stT) (λys H1 Y d n0=> ?rsT)]
  case stT=>
   obtain ⟨r,as,dr⟩:=bc hd av;obtain ⟨a,rfl,hT⟩:=iP (bH.same dr Y.1);rwa[kz hT rfl ?_];rwa[⟨⟨rfl,λi v h=>match i,h with|0,h=>(nomatch h)|1,h=>(nomatch h)|2,h=>(nomatch h)|3,h=>(nomatch h)|(i+4),h=>(nomatch h)⟩,?_⟩];rwa[⟨Y.1,?_⟩];rw [Y.2,take_add_one,getElem?_map,as,map_append];rfl
  have e1:upd H1 d (.lst (((bS I).take xs.length).map V.int)) d=some (.lst ((bS I).map V.int)):=by rw [af,take_of_length_le (by rw [length_map];lia)]
  have s1:aj H (upd H1 d (.lst (((bS I).take xs.length).map V.int))):=Y.1.trans (.upd n0);rw [Y.2];generalize upd H1 d (.lst (((bS I).take xs.length).map V.int))=H2 at e1 s1;rwa[mf.mk _ _ rfl @gq c3 λl H3 s3 n3 e3=> ?_];have L:=s1.trans s3;rwa[⟨S.same L,λf' c' ar U sP nf ef ec ai=> ?_⟩];obtain ⟨ps,ak,_⟩:=S.same L;have sN:=sP.nt ak;have e4:U l=some (.lst ((srv (aT J)).map λi:Nat=>V.int i)):=sN l _ (λps z=>by cases z) e3;have ed:U d=some (.lst ((bS I).map V.int)):=sN d _ (λps z=>by cases z) (s3 _ _ e1);have aw:bd K U p J:=(hC.same L).nt sN
  have ab:∀m R,cP (aT J) (bJ J (bS I)) m->aj U R->LV [.int m,.int ad] R Q:=λm R hb G=>
   bX (bt (by show 2<=1000000;decide)) λt H6 s6 n6 e6=>q m t H6 hb (λb o nb z=>s6 _ _ (G _ _ (sP b o nb (L b o z)))) ((ai.same G).same s6) e6
  show ∃l f xs,_;rwa[⟨l,f',_,rfl,rfl,e4,λZ=> ?_,λZ=> ?_⟩]
  ·have hs:srv (aT J)=[]:=map_eq_nil_iff.mp Z;exact ab (-1) U (wk hs) (.refl _)
  ·rwa[⟨c',ar,[.ref p,.ref d],λi=>bJ J (bS I) ((srv (aT J)).getD i 0),λR=>aj U R,rfl,.refl _,λR G=>⟨G _ _ e4,G _ _ ef,G _ _ ec⟩,λi v R hv G=> ?_,λi v R hv hb G=> ?_⟩]
   ·obtain ⟨j,hj,rfl,gj,jl⟩:=ji hv;rwa[(aw.same G).at2 @c @c λcb a b ys O ah hb hy=> ?_];rwa[ag ah rfl ?_];rwa[cI hb ?_];rwa[⟨.inl ⟨rfl,_,aA.of @fw⟩,?_⟩];rwa[⟨bS I,aA.of @fw,?_⟩];rwa[⟨?_,G⟩];have O:J[j]? =some cb:=O;show V.int _=V.int (bJ J (bS I) ((srv (aT J)).getD i 0));rw [gj];unfold bJ;rw [pE O,hy]
   ·obtain ⟨j,hj,rfl,gj,jl⟩:=ji hv;rwa[ab _ R (wj hj λi' ap=> ?_) G];exact hb i' (by rw [length_map];exact ap)
def Fq (s:Stmt):Expr:=match bh s with
 |[.Return (some e) _]=>e
 |_=> .Constant .none 0 ⟨0,0,0,0⟩
def py (s:Stmt):Arguments:=match Fq s with
 | .Lambda a _ _ _=>a
 |_=>bI s
def pq (s:Stmt):Expr:=match Fq s with
 | .Lambda _ b _ _=>b
 |e=>e
def gt (s:Stmt):Scope:=match Fq s with
 | .Lambda _ _ sc _=>sc
 |_=>ae s
abbrev qZ:Str:="zone_of"++".<locals>."++"<lambda>"
abbrev qF:Str:="fixed_of"++".<locals>."++"<lambda>"
abbrev LW (mg:Str->Option Value):List (Str×Addr)->Addr->Value->Obj:=λcl c' ctv=>W.kla_obj "<lambda>" qZ (py cX) (pq cX) (gt cX) cl ((mg "__name__").getD .none) c' ctv
abbrev LX (mg:Str->Option Value):List (Str×Addr)->Addr->Value->Obj:=λcl c' ctv=>W.kla_obj "<lambda>" qF (py ce) (pq ce) (gt ce) cl ((mg "__name__").getD .none) c' ctv
theorem RO:dZ ["cabins","waiting","rider","last"] ["lifts"] (gt cX):=⟨rfl,rfl,rfl,by decide+kernel,by decide+kernel,by decide+kernel,by decide+kernel,by decide+kernel⟩
theorem RP:dZ ["cabins","waiting","rider","last"] ["lifts"] (gt ce):=⟨rfl,rfl,rfl,by decide+kernel,by decide+kernel,by decide+kernel,by decide+kernel,by decide+kernel⟩
def DI (K:Fg)(zl:Addr)(zs:List Int)(pt:Rd->Int):List V->Hp->VK->Prop:=λvs H Q=>∃p cs x1 rv r last,vs=[.ref p,x1,rv,.int last]/\aA K H zl @ed/\bd K H p cs/\1<=cs.length/\cs.length<=3/\bH K H rv (Rd.d r)/\0<=pt r/\pt r<(zs.length:Int)/\(∀z∈zs,0<=z/\z<(cs.length:Int))/\∀b H',aj H H'->H' b=some (.tup [.int (sf @bU (zs.getD (pt r).toNat 0)),.int last])->Q (.ref b) H'
theorem aA.hid {H:Hp}{cs:List Addr}(I:∀c∈cs,∃φ,H c=some (.ext φ)){a:Addr}{xs:List V}(h:aA K H a xs):aA K @dw a xs:=by
 rcases h with (h|⟨o,h⟩)|h
 ·exact .inl (.inl (vT I (λφ z=>by cases z) h))
 ·exact .inl (.inr ⟨o,vT I (λφ z=>by cases z) h⟩)
 ·exact .inr h
theorem aC.hid {H:Hp}{cs:List Addr}(I:∀c∈cs,∃φ,H c=some (.ext φ)){a:Addr}{xs:List V}(h:aC K H a xs):aC K @dw a xs:=by
 rcases h with (h|⟨o,h⟩)|h
 ·exact .inl (.inl (vT I (λφ z=>by cases z) h))
 ·exact .inl (.inr ⟨o,vT I (λφ z=>by cases z) h⟩)
 ·exact .inr h
theorem bH.hid {H:Hp}{cs:List Addr}(I:∀c∈cs,∃φ,H c=some (.ext φ)){x:V}{d:D}(h:bH K H x d):bH K @dw x d:=by
 induction h with
 |non=>exact .non
 |bl a=>exact .bl a
 |int a=>exact .int a
 |str a=>exact .str a
 |lst h hl hi ih=>exact .lst (aA.hid I h) hl λi x d R O=>ih i x d R O
 |tup h hl hi ih=>exact .tup (aC.hid I h) hl λi x d R O=>ih i x d R O
theorem ax.hid {H:Hp}{cs:List Addr}(I:∀c∈cs,∃φ,H c=some (.ext φ)){xs:List V}{ds:List D}(h:ax K H xs ds):ax K @dw xs ds:=Paired.imp' (λ_ _ z=>bH.hid I z) h
theorem Bh {zl:Addr}{zs:List Int}{j:Rd->Int}(cs:List Addr)(vs:List V)(H:Hp)(Q:VK)(I:∀c∈cs,∃φ,H c=some (.ext φ))(h:DI K zl zs j vs H Q):DI K zl zs j vs @dw (λv H2=>(∀c∈cs,H2 c=none)->Q v @cJ):=by
 obtain ⟨p,F,W,rv,r,J,e,h1,⟨xs,h2,L⟩,R,c3,Y,Z,S,hz,q⟩:=h;rwa[⟨p,F,W,rv,r,J,e,aA.hid I h1,⟨xs,h2.imp (aA.hid I) (aC.hid I),ax.hid I L⟩,R,c3,bH.hid I Y,Z,S,hz,λb H' G U O=>q b _ (yE G) ?_⟩];unfold unhid;rw [if_neg λz=> ?_]
 ·exact U
 ·rw [O b z] at U;cases U
theorem pj {c:Addr}:∀x d,[(("lifts":Str),c)].lookup x=some d->x∈(["lifts"]:List Str):=λx d e=>by
 rw [lookup_cons] at e
 cases h:x==("lifts":Str) with
 |true=>rw [eq_of_beq h];exact .head _
 |false=>rw [h] at e;cases e
theorem AQ {c:Addr}:∀x y d,[(("lifts":Str),c)].lookup x=some d->[(("lifts":Str),c)].lookup y=some d->x=y:=λx y d R O=>by
 rw [mem_singleton.mp (pj x d R),mem_singleton.mp (pj y d O)]
theorem vU {zs:List Int}{i:Nat}(h:i<zs.length):(zs.map V.int)[i]? =some (.int @fI):=by
 rw [getElem?_map,getD_eq_getElem?_getD,getElem?_eq_getElem h];rfl
theorem rb {zs:List Int}{i:Nat}(h:i<zs.length):zs.getD i 0∈zs:=by
 rw [getD_eq_getElem?_getD,getElem?_eq_getElem h];exact getElem_mem h
theorem wz {f c' c zl:Addr}{ctv:Value}{zs:List Int}(Y:mg "len"=none)(bY:Z01 P w K mg base):iz P w K mg base 4 f (AI P w f c' (LW mg [("lifts",c)] c' ctv) qZ [("lifts",c)] ["lifts"] [.ref zl] 4 (DI K zl zs λr=>r.s)):=by
 rwa[AV (k:=3) RO (λL W=>match L,W with|[_,_,_,_],_=>rfl) rfl pj AQ Bh (λA outer s H vs Q hr h=> ?_)];obtain ⟨p,z,x1,rv,r,J,rfl,G,I,U,F,ab,Z,S,j,q⟩:=h;obtain ⟨ra,rfl,av⟩:=iP ab;have Z:0<=r.s:=Z;have S:r.s<(zs.length:Int):=S;have q:∀b H',aj H H'->H' b=some (.tup [.int (sf (aT z) (zs.getD r.s.toNat 0)),.int J])->Q (.ref b) H':=q;rwa[⟨_,@a,?_⟩];obtain ⟨i,hi⟩:=Int.eq_ofNat_of_zero_le Z
 have bx:i<zs.length:=by lia
 rw [hi] at q;rwa[ag av rfl ?_];rwa[aN G (v:= .int @fI) (by rw [hi];exact bz (vU bx)) ?_];rwa[uQ.mk _ _ _ rfl I U F (j _ (rb bx)).1 ?_];exact bX (bt (by show 2<=1000000;decide)) λb H2 R n2 O=>q b H2 R O
theorem CC {f c' c zl:Addr}{ctv:Value}{zs:List Int}(z:0<zs.length)(aU:mg "len"=none)(bY:Z01 P w K mg base):iz P w K mg base 4 f (AI P w f c' (LX mg [("lifts",c)] c' ctv) qF [("lifts",c)] ["lifts"] [.ref zl] 4 (DI K zl zs λr=>r.t% (zs.length:Int))):=by
 rwa[AV (k:=3) RP (λU W=>match U,W with|[_,_,_,_],_=>rfl) rfl pj AQ Bh (λA outer s H vs Q hr h=> ?_)];obtain ⟨p,G,x1,rv,r,J,rfl,F,L,Y,I,ab,Z,S,j,q⟩:=h;obtain ⟨ra,rfl,av⟩:=iP ab;have Z:0<=r.t% (zs.length:Int):=Z;have S:r.t% (zs.length:Int)<(zs.length:Int):=S;rwa[⟨_,@a,?_⟩];obtain ⟨i,hi⟩:=Int.eq_ofNat_of_zero_le Z
 have bx:i<zs.length:=by lia
 have q:∀b H',aj H H'->H' b=some (.tup [.int (sf (aT G) (zs.getD (r.t% (zs.length:Int)).toNat 0)),.int J])->Q (.ref b) H':=q;rw [hi] at q;rwa[ag av rfl ?_];rwa[b6 F ?_];rw [length_map];rwa[⟨by lia,?_⟩];rwa[aN F (v:= .int @fI) (by rw [hi];exact bz (vU bx)) ?_];rwa[uQ.mk _ _ _ rfl L Y I (j _ (rb bx)).1 ?_];exact bX (bt (by show 2<=1000000;decide)) λb H2 R n2 O=>q b H2 R O
theorem Ah:(s!"0123456789").cps.toList=xM:=by decide+kernel
theorem IL (c:Nat):c∈xM↔48<=c/\c<=57:=by
 unfold xM;simp only [mem_cons,not_mem_nil,or_false];omega
unseal ik A3 in
theorem Bs (c:Nat):ik ⟨#[c]⟩ @fi=decide (c∈xM):=by
 unfold ik;rw [PySem.StrLaws.found_one,Ah]
def QT:Option Int->V
 |none=> .non
 |some n=> .int n
theorem Oy (c:Nat):((⟨#[c]⟩:Str)=s!"0")↔c=48:=by
 constructor
 ·intro e;have z:[c]=[48]:=(congrArg (λs:Str=>s.cps.toList) e).trans @g;exact (List.cons.inj z).1
 ·rintro rfl;decide+kernel
inductive KJ (vs:List V)(H:Hp)(Q:VK)(_e:XK):Prop
 |mk (x:Str) (_:vs=[.str x]) (_:x.length<=640) (_:∀H',aj H H'->Q (.bl (C6 x)) H')
theorem Oz (F:Z0 K "writes_number" fM f fd)(aU:mg "len"=none)(L6:mg "all"=none){Z t2:Tok}(jJ:mg "MOST_FIGURES"=some (.int 9 Z))(xG:mg "FIGURES"=some (.str "0123456789" t2)):
 au P w K mg base aZ 1 f fd ["text"] KJ:=by
 have I:aE (.int 9) (.int 9 Z):=⟨_,rfl⟩;have J:aE (.str "0123456789") (.str "0123456789" t2):=⟨_,rfl⟩;rwa[F.ok qe @cj @i]
 ·obtain ⟨x,rfl,_⟩:=h;rfl
 obtain ⟨x,rfl,hx,q⟩:=h;have O:x.length<=sizeLine:=DJ hx;have ad:=gq x;unfold C6 at q;rwa[⟨_,(aa (aB @a @bq ar) (aa (aB @a @bq ar) (ac (ao (aY (Nq rfl rfl) rfl L6 boot_all (aq (bb rfl (ay (N':=["sign"]) (pk:=[none]) @l) @a @h @r @h) am)))))),?_⟩];rwa[⟨O,eh (λh0=> ?_) (λh0=> ?_)⟩]
 ·rw [if_pos (.inl @c)] at q;exact bL rfl (q H (.refl _))
 rwa[⟨O,eh (λh9=> ?_) (λh9=> ?_)⟩]
 ·rw [if_pos (.inr @c)] at q;exact q H (.refl _)
 rw [if_neg @c] at q;obtain ⟨c,R⟩:∃c,x.cps.toList[0]? =some c:=⟨x.cps.toList[0],by simp [getElem?_eq_getElem (show 0<x.cps.toList.length by lia)]⟩;rw [R] at q;rwa[u8 O (bz (j:=0) R) ?_]
 have dJ:(∀H',aj H H'->Q (.bl (x.cps.toList.all λc=>decide (c∈xM))) H')->∀H0:Hp,aj H H0->rA (Pt x) [none] (jK 0) NX (NZ (Qn K false) (Di 0) (tC (V.str "0123456789"))) [some (V.str x)] H0 λv H1=>KC [some (V.str x)] H1 λxs H2=>NP K (v::xs) H2 Q:=by
  intro hq H0 Y;rwa[xT (λi ys HX=>aj H HX/\ys=(x.cps.toList.take i).map λc=>V.bl (decide (c∈xM))) (by show x.length<=sizeLine;exact O) (λi ys H p=>by rw [p.2,length_map,length_take];lia) ⟨Y,rfl⟩ ?_ ?_]
  ·intro i c ys H R p;rwa[⟨N6,?_⟩]
   have W:x.cps.toList[i]? =some c:=by rw [Array.getElem?_toList];exact R
   rwa[⟨p.1,?_⟩];show ys++[V.bl (ik ⟨#[c]⟩ @fi)]=_;rw [Bs,p.2,take_add_one,W,map_append];rfl
  ·intro ys H p q U;rwa[Pd (bs:=x.cps.toList.map λc=>decide (c∈xM)) ?_ ?_]
   ·rwa[aA.of ?_];rw [af,p.2];have e:x.cps.toList.take x.cps.size=x.cps.toList:=take_of_length_le @e;rw [e,map_map];rfl
   ·rw [all_map];exact hq _ (p.1.trans (.upd U))
 by_cases G:c=48
 ·rwa[jA ((Oy c).mpr G) (q9 @fK @fK)]
  ·have L:x≠s!"0":=by simpa using S
   rw [if_pos ⟨by rw [G],L⟩] at q;exact q H (.refl _)
  ·have L:x=s!"0":=by simpa using S
   rw [if_neg (by intro z;exact z.2 L)] at q;exact dJ q H (.refl _)
 ·rwa[dF (λz=>G ((Oy c).mp z)) (be rfl ?_)];rw [if_neg (by intro z;exact G (Option.some.inj z.1))] at q;exact dJ q H (.refl _)
theorem nM {x:Str}(h:C6 x=true):PySem.NumText.AllDigits x.cps.toList/\x.cps.toList≠[]/\x.length<=9:=by
 have aa:=gq x;unfold C6 at h;by_cases F:x.length=0\/9<x.length
 ·rw [if_pos F] at h;cases h
 rw [if_neg F] at h;by_cases h1:x.cps.toList[0]? =some 48/\x≠s!"0"
 ·rw [if_pos h1] at h;cases h
 rw [if_neg h1] at h;rwa[⟨λc I=>(IL c).mp (of_decide_eq_true (all_eq_true.mp h c I)),λz=> ?_,by lia⟩];rw [z] at aa;simp at aa;lia
inductive DB (vs:List V)(H:Hp)(Q:VK)(_e:XK):Prop
 |mk (x:Str) (_:vs=[.str x]) (_:x.length<=640) (_:∀H',aj H H'->Q (QT (AS x)) H')
theorem LC (F:Z0 K "number_of" mz f fd)(L:mg "int"=none)(O:aR P w K mg base 1 "writes_number" ["text"] KJ):au P w K mg base aZ 2 f fd ["text"] DB:=by
 rwa[F.ok y3 (by symm) (λI A outer s H R Q E S h=> ?_)];obtain ⟨x,rfl,G,q⟩:=h;rwa[⟨_,(ac (ao (Av @a (aI JF rfl L boot_int @cf) zF))),?_⟩];rwa[KJ.mk _ rfl G λH' J=> ?_];have z:=q H' J;unfold AS Fa at z;rwa[q9 (λj=> ?_) (λj=> ?_)]
 ·rw [if_pos j] at z;exact Mo (PySem.intText_digits (nM j).1 (nM j).2.1 @c) G z
 ·rw [if_neg (by rw [j];decide)] at z;exact z
structure Dq where
 G:Hp->Prop
 L:Hp->Prop
 p:List Cb->List aH->aH->Int->Prop
 d:uK
 gT:GT G
 lN:∀H H',aP H H'->L H->L H'
inductive Dk where
 |near|least|turns|num (fx:Bool) (zs:List Int)
def fo (c:Cb):jP:=⟨c.pl,c.li,c.dr,c.mr,c.ps⟩
def zB (r:aH):Rd:=⟨r.tag,r.start,r.goal,r.lift⟩
noncomputable def Gf (bs:List Bool)(ws:Nat->Int):Int:=Classical.epsilon (cP bs ws)
theorem pC {bs:List Bool}{ws:Nat->Int}{m:Int}(h:cP bs ws m):m=Gf bs ws:=h.uniq (Classical.epsilon_spec ⟨m,h⟩)
def jE (cs:List Cb)(last:Int):Int:=sf (aT @cL) (last+1)
def Lc (fx:Bool)(zs:List Int)(r:Rd):Int:=if fx=true then r.t% (zs.length:Int) else r.s
noncomputable def hG:Dk->uK
 | .near=>λcs ws r last=>(Gf (aT @cL) (lj @cL r.start),last)
 | .least=>λcs ws r last=>(Gf (aT @cL) (bJ @cL (bS (ws.map zB))),last)
 | .turns=>λcs ws r last=>(jE cs last,if jE cs last= -1 then last else jE cs last)
 | .num fx zs=>λcs ws r last=>(sf (aT @cL) (zs.getD (Lc fx zs (zB r)).toNat 0),last)
def Dk.fit (n:Nat)(r:aH):Dk->Prop
 | .num fx zs=>0<=Lc fx zs (zB r)/\Lc fx zs (zB r)<(zs.length:Int)/\0<zs.length/\∀z∈zs,0<=z/\z<(n:Int)
 |_=>True
def Le (k:Dk):List Cb->List aH->aH->Int->Prop:=λcs ws r last=>1<=cs.length/\cs.length<=3/\ws.length<=64/\0<=last/\k.fit cs.length r
def MX (Pn Pl:Addr)(H:Hp):Prop:=bM H Pn qN/\bM H Pl qL
theorem tf {Pn Pl:Addr}:GT (MX Pn Pl):=λH H' s h=>⟨h.1.st s,h.2.st s⟩
structure Lx where
 f:Addr
 c':Addr
 c:Addr
 zl:Addr
 ctv:Value
def qX:Bool->Str
 |true=>qF|false=>qZ
def QW (mg:Str->Option Value):Bool->List (Str×Addr)->Addr->Value->Obj
 |true=>LX mg|false=>LW mg
def tI (mg:Str->Option Value)(fx:Bool)(x:Lx)(H:Hp):Prop:=H x.f=some (nF x.f (QW mg fx [("lifts",x.c)] x.c' x.ctv))/\H x.c'=some (nK x.c' (qX fx))/\H x.c=some (yo x.c (.ref x.zl))
theorem tI.nt {j:Bool}{x:Lx}{H H':Hp}(s:aP H H')(h:tI mg j x H):tI mg j x H':=⟨s _ _ (λ_ z=>by cases z) h.1,s _ _ (λ_ z=>by cases z) h.2.1,s _ _ (λ_ z=>by cases z) h.2.2⟩
theorem tI.st {j:Bool}{x:Lx}{H H':Hp}(s:aJ H H')(h:tI mg j x H):tI mg j x H':=⟨s _ _ (λ_ z=>by cases z) (λ_ _ _ z=>by cases z) h.1,s _ _ (λ_ z=>by cases z) (λ_ _ _ z=>by cases z) h.2.1,s _ _ (λ_ z=>by cases z) (λ_ _ _ z=>by cases z) h.2.2⟩
def Dk.G (mg:Str->Option Value)(x:Lx)(H:Hp):Dk->Prop
 | .num fx _=>tI mg fx x H
 |_=>True
def Dk.L (x:Lx)(H:Hp):Dk->Prop
 | .num _ zs=>H x.zl=some (.lst @ed)
 |_=>True
theorem Dk.gnt {k:Dk}{x:Lx}{H H':Hp}(s:aP H H')(h:k.G mg x H):k.G mg x H':=by
 cases k with
 |num fx zs=>exact tI.nt s h
 |_=>trivial
theorem Dk.gst {k:Dk}{x:Lx}{H H':Hp}(s:aJ H H')(h:k.G mg x H):k.G mg x H':=by
 cases k with
 |num fx zs=>exact tI.st s h
 |_=>trivial
theorem Dk.lnt {k:Dk}{x:Lx}{H H':Hp}(s:aP H H')(h:k.L x H):k.L x H':=by
 cases k with
 |num fx zs=>exact s _ _ (λ_ z=>by cases z) h
 |_=>trivial
noncomputable def dq (mg:Str->Option Value)(Pn Pl:Addr)(k:Dk)(x:Lx):Dq:=⟨λH=>MX Pn Pl H/\k.G mg x H,λH=>k.L x H,Le k,hG k,λ_ _ s h=>⟨tf _ _ s h.1,Dk.gst s h.2⟩,λ_ _ s h=>Dk.lnt s h⟩
theorem lO {H:Hp}{tc:Addr}{xs:List V}{cs:List Cb}(h1:aA K H tc xs\/aC K H tc xs)(h2:Paired @fE xs cs):bd K H tc @cL:=by
 rwa[⟨xs,h1,?_⟩];rw [map_map];rwa[PySem.Paired.of (by rw [length_map];exact h2.len) λi x d R O=> ?_];rw [getElem?_map] at O;obtain ⟨c,I,t,rfl,z⟩:=h2.get1 R;rw [I] at O;cases O;exact z.den
theorem Eh {H:Hp}{G:Addr}{ys:List V}{ws:List aH}(h1:aA K H G ys\/aC K H G ys)(h2:ax K H ys @fF):Bk K H G (ws.map zB):=by
 rwa[⟨ys,h1,?_⟩];rw [map_map];exact h2
def Dk.ad (kn kl kT:Addr)(x:Lx):Dk->Addr
 | .near=>kn| .least=>kl| .turns=>kT| .num _ _=>x.f
theorem MC {Pn Pl kn kl kT:Addr}(aa:Pn≠Pl)(cn:iz P w K mg base 5 kn (uT K Pn))(cl:iz P w K mg base 5 kl (AH K Pl))(ct:iz P w K mg base 3 kT (oW K))(aU:mg "len"=none)(U:Z01 P w K mg base)(k:Dk)(j:Lx):iz P w K mg base 5 (k.ad kn kl kT j) (pX K (dq mg Pn Pl k j).G (dq mg Pn Pl k j).L (dq mg Pn Pl k j).p (dq mg Pn Pl k j).d):=by
 cases k with
 |near=>
  rwa[cn.imp @f λR H Q E h=> ?_];obtain ⟨tc,tw,x,cs,ws,r,J,xs,ys,rfl,h1,h2,Z,h4,Y,⟨W,O⟩,_,⟨c1,S,I,l0,_⟩,q⟩:=h;rwa[uT.mk _ _ _ _ (zB r) _ rfl @cQ (by rw [length_map];exact S) Y W.1 λm t H' hb sP ht e=> ?_];obtain ⟨ps,hP,_⟩:=id W.1;rwa[q t H' (sP.nt hP) ⟨⟨ht,W.2.sameP sP hP aa.symm⟩,O⟩ ?_];rw [pC hb] at e;exact e
 |least=>
  rwa[cl.imp @f λR H Q E h=> ?_];obtain ⟨tc,tw,x,cs,ws,r,J,xs,ys,rfl,h1,h2,Z,h4,Y,⟨W,O⟩,_,⟨c1,S,I,l0,_⟩,q⟩:=h;rwa[AH.mk _ _ _ _ _ _ rfl @cQ (by rw [length_map];exact S) (Eh (.inr (aC.of Z)) h4) (by rw [length_map];exact I) W.2 λm t H' hb sP ht e=> ?_];obtain ⟨ps,hP,_⟩:=id W.2;rwa[q t H' (sP.nt hP) ⟨⟨W.1.sameP sP hP aa,ht⟩,O⟩ ?_];rw [pC hb] at e;exact e
 |turns=>
  rwa[ct.imp @b λR H Q E h=> ?_];obtain ⟨tc,tw,x,cs,ws,r,J,xs,ys,rfl,h1,h2,Z,h4,Y,⟨W,O⟩,_,⟨c1,S,I,l0,_⟩,q⟩:=h;rwa[oW.mk _ _ _ _ _ rfl @cQ (by rw [length_map];exact c1) (by rw [length_map];exact S) l0 λt H' s e=> ?_];exact q t H' s.nt ⟨tf _ _ s.st W,O⟩ e
 |num fx zs=>
  have F:0<zs.length->iz P w K mg base 4 j.f (AI P w j.f j.c' (QW mg fx [("lifts",j.c)] j.c' j.ctv) (qX fx) [("lifts",j.c)] ["lifts"] [.ref j.zl] 4 (DI K j.zl zs (Lc fx zs))):=λhp=>by
   cases fx with
   |false=>exact wz aU U
   |true=>exact CC hp aU U
  by_cases hp:0<zs.length
  ·rwa[(F hp).imp @b λR H Q E h=> ?_];obtain ⟨tc,tw,x,cs,ws,r,J,xs,ys,rfl,h1,h2,Z,h4,Y,⟨W,O⟩,hl,⟨c1,S,I,l0,p0,p1,_,hz⟩,q⟩:=h;have ae:tI mg fx j H:=O;rwa[⟨ae.1,ae.2.1,λi y v ey ev=> ?_,rfl,tc,cs.map fo,.ref tw,x,zB r,J,rfl,aA.of hl,lO (.inr (aC.of h1)) h2,by rw [length_map];exact c1,by rw [length_map];exact S,Y,p0,p1,by rw [length_map];exact hz,λb H' s e=>q b H' s.nt ⟨tf _ _ s.st W,Dk.gst (k:= .num fx zs) s.st O⟩ e⟩]
   match i,ey,ev with
   |0,ey,ev=>cases ey;cases ev;exact ⟨j.c,rfl,ae.2.2⟩
  ·have ab:∀R H Q E,¬pX K (dq mg Pn Pl (.num fx zs) j).G (dq mg Pn Pl (.num fx zs) j).L (dq mg Pn Pl (.num fx zs) j).p (dq mg Pn Pl (.num fx zs) j).d R H Q E:=λR H Q E h=>by
    obtain ⟨tc,tw,x,cs,ws,r,J,xs,ys,rfl,h1,h2,Z,h4,Y,_,_,⟨_,_,_,_,_,_,z,_⟩,q⟩:=h;exact hp z
   exact (wz (f:=j.f) (c:=j.c) (c':=j.c') (zl:=j.zl) (zs:=zs) (ctv:=j.ctv) aU U).imp (show 4<=5 by decide) λR H Q E h=>absurd h (ab R H Q E)
theorem xo {w:Str}{j:List Int}(F:w.length<=10)(h:∀i∈j,0<=i/\i<=9)(W:j.length<=100):(k6 w j).length<=2000:=by
 have h1:=PySem.StrLaws.join_length_le KM (w::j.map oq);have G:(w::j.map oq).length*KM.length<=(w::j.map oq).length*1:=Nat.mul_le_mul_left _ @b
 have h2:∀L:List Int,(∀i∈L,0<=i/\i<=9)->((L.map oq).map (·.length)).sum<=L.length:=by
  intro L Z
  induction L with
  |nil=>exact Nat.le_refl _
  |cons i L ih=>
   have:=ih λx z=>Z x (.tail _ z);have:=(re (Z i (.head _)).1 (Z i (.head _)).2).2.1;simp only [map_cons,sum_cons,length_cons] at *;lia
 have:=h2 j h;unfold k6;simp only [map_cons,sum_cons,length_cons,length_map] at *;lia
inductive GW (K:Fg)(vs:List V)(H:Hp)(Q:VK)(_e:XK):Prop
 |mk (l h hs is:_) (_:vs=[.ref l,.ref h]) (_:aA K H l ((List.map oq is).map V.str)) (_:jD K H h hs) (_:(∀i∈is,0<=i/\i<(hs.ls.length:Int))) (_:is.length<=100) (_:∀l' H',aj H H'->H' l'=some (.lst (is.map V.int))->Q (.ref l') H')
theorem OB {iX:Addr}(F:Z0 K "read_lifts" jW f fd)(aU:mg "len"=none)(Ck:mg "any"=none)(jr:mg "NoDeal"=some (.ref iX))(jq:W.excIn K iX [.type "ValueError",.type "Exception",.type "BaseException",.type "object"] "ValueError.__new__"=true)(rE:aR P w K mg base 2 "number_of" ["text"] DB):au P w K mg base @ch 3 f fd ["words","house"] (GW K):=by
 rwa[F.okX nX (by symm) @i];obtain ⟨l,h,hs,z,rfl,hL,hH,S,bx,q⟩:=h;obtain ⟨ho,p,ls,hh,hp,hl⟩:=hH;have n3:=ho.l3;have hl:=hl.len;rwa[⟨_,(aa (gE (i:=2) rfl nX.nd rfl @q (ay (N':=["word"]) (pk:=[none]) @l) @a @h @r @h) (aa (aB (iA rfl (aY (JG rfl rfl) rfl Ck boot_any (aq (bb rfl (ay (N':=["lift","house"]) (pk:=[none,some 1]) @l) @a @h @r @h) am))) (ac (qG lD rfl jq PySem.F.excBase_ValueError rfl jr (aq cY am))) ar) @bO)),?_⟩];rwa[bK hL ?_]
 have G:((z.map oq).map V.str).length=z.length:=by rw [length_map,length_map]
 rwa[bu (xs:=(z.map oq).map V.str) (λi zs I=>aj H I/\zs=(z.take i).map V.int) (bt (by rw [G];lia)) (λi zs I O=>by rw [O.2,length_map,length_take];exact Nat.min_le_left _ _) ⟨.refl _,rfl⟩ (λi zs I _ O=>O.1.seq hL) (λi x zs I j O=> ?_) (λzs I O U n2=> ?_)]
 ·obtain ⟨Z,rfl⟩:=O;rw [map_map,getElem?_map] at j;obtain ⟨v,Y,rfl⟩:=Option.map_eq_some_iff.mp j;obtain ⟨v0,v1⟩:=S v (mem_of_getElem? Y);rwa[⟨bg,?_⟩];rwa[DB.mk (oq v) rfl (by rw [(re v0 @c).2.1];decide) λH2 s2=> ?_];rw [IE v0 @c];rwa[⟨Z.trans s2,?_⟩];rw [take_add_one,Y,map_append];rfl
 obtain ⟨Z,rfl⟩:=O;rw [G,take_of_length_le @f];generalize al:upd I U _=H2
 have s2:aj I H2:=by rw [<-al];exact .upd n2
 have e2:H2 U=some (.lst (z.map V.int)):=by rw [<-al];exact af
 clear al;rwa[bK @dV ?_];have R:=Z.trans s2;rwa[bu (xs:=z.map V.int) (λi zs J=>J=H2/\zs=List.replicate i (V.bl false)) (bt (by rw [length_map];lia)) (λi zs J O=>by rw [O.2,length_replicate];exact Nat.le_refl _) ⟨rfl,rfl⟩ (λi zs J _ O=>by rw [O.1];exact aA.of e2) (λi x zs J j O=> ?_) (λzs J O l3 L=> ?_)]
 ·obtain ⟨rfl,rfl⟩:=O;rw [getElem?_map] at j;obtain ⟨v,Y,rfl⟩:=Option.map_eq_some_iff.mp j;obtain ⟨v0,v1⟩:=S v (mem_of_getElem? Y);rwa[⟨bg,?_⟩];rwa[be rfl ?_];rwa[ag (R.seqT hh) rfl ?_];rwa[cI (R.seqT hp) ?_];rwa[⟨rfl,?_⟩];rw [List.replicate_succ'];congr 1;show [V.bl (decide (v≥(ls.length:Int)))]=[V.bl false];rw [decide_eq_false @c]
 obtain ⟨rfl,rfl⟩:=O;erw[JY (bs:=List.replicate (z.map V.int).length false) (aA.of (by rw [af,List.map_replicate])) ?_]
 have ef:(List.replicate (z.map V.int).length false).any id=false:=by
  rw [any_eq_false];intro b hb;rw [(List.mem_replicate.mp hb).2];decide
 rwa[be ef ?_];exact q U _ (R.trans (.upd L)) ((aj.upd L) _ _ e2)
def wX:Bool->Str
 |true=>s!"fixed"|false=>s!"zone"
def Dk.wd:Dk->Str
 | .near=>s!"near"| .least=>s!"least"| .turns=>s!"turns"| .num fx _=>wX fx
def Dk.is:Dk->List Int
 | .num _ zs=>zs
 |_=>[]
def Dk.ok (hs:Hs):Dk->Prop
 | .num fx zs=>(fx=false->(zs.length:Int)=hs.fl)/\(fx=true->1<=zs.length/\zs.length<=9)/\∀z∈zs,0<=z/\z<(hs.ls.length:Int)
 |_=>True
theorem Dk.is_ok {hs:Hs}{k:Dk}(h:k.ok hs)(I:hs.ok):(∀z∈k.is,0<=z/\z<(hs.ls.length:Int))/\k.is.length<=9:=by
 cases k with
 |num fx zs=>
  rwa[⟨h.2.2,?_⟩];have:=I.f8;show zs.length<=9
  cases fx with
  |false=>have:=h.1 rfl;lia
  |true=>exact (h.2.1 rfl).2
 |_=>exact ⟨(λz F=>nomatch F),Nat.zero_le _⟩
theorem Db {k:Dk}:32∉k.wd.cps.toList/\k.wd.length<=10:=by
 cases k with
 |num fx zs=>
  show 32∉(wX fx).cps.toList/\(wX fx).length<=10;revert fx;decide+kernel
 |_=>exact ⟨by decide+kernel,by decide⟩
theorem Dc {j:Bool}{y:Str}(h:wX j=y)(z:y≠s!"zone")(W:y≠s!"fixed"):False:=by
 cases j with
 |false=>exact z h.symm
 |true=>exact W h.symm
theorem Aw {k:Dk}(h:k.wd=s!"near"):k= .near:=by
 cases k with
 |near=>rfl
 |least=>exact absurd h @g
 |turns=>exact absurd h @g
 |num fx zs=>exact (Dc h @g @g).elim
theorem wF {k:Dk}(h:k.wd=s!"least"):k= .least:=by
 cases k with
 |least=>rfl
 |near=>exact absurd h @g
 |turns=>exact absurd h @g
 |num fx zs=>exact (Dc h @g @g).elim
theorem pG {k:Dk}(h:k.wd=s!"turns"):k= .turns:=by
 cases k with
 |turns=>rfl
 |least=>exact absurd h @g
 |near=>exact absurd h @g
 |num fx zs=>exact (Dc h @g @g).elim
def DG (K:Fg)(mg:Str->Option Value)(kn kl kT Pn Pl Pz Pf:Addr):Sp:=λvs H Q _=>∃k h hs,vs=[.str (k6 (Dk.wd k) k.is),.ref h]/\jD K H h hs/\k.ok hs/\(k.is≠[]->bM H Pz qZ/\bM H Pf qF)/\MX Pn Pl H/\∀x H',aP H H'->MX Pn Pl H'->k.G mg x H'->k.L x H'->Q (.ref (k.ad kn kl kT x)) H'
theorem Rv {Z z j Pn Pl Pz Pf:Addr}{k:Dk}{h:Addr}{hs:Hs}{H:Hp}{Q:VK}{E:XK}(h1:jD K H h hs)(h2:k.ok hs)(I:k.is≠[]->bM H Pz qZ/\bM H Pf qF)(F:MX Pn Pl H)(g:∀x H',aP H H'->MX Pn Pl H'->k.G mg x H'->k.L x H'->Q (.ref (k.ad Z z j x)) H'):DG K mg Z z j Pn Pl Pz Pf [.str (k6 k.wd k.is),.ref h] H Q E:=⟨k,h,hs,rfl,h1,h2,I,F,g⟩
theorem OG {iX O L G Pn Pl Pz Pf:Addr}{t1:Tok}(U:Pn≠Pz/\Pn≠Pf/\Pl≠Pz/\Pl≠Pf)(F:Z0 K "dealer_of" mT f fd)(aU:mg "len"=none)(oo:mg "MOST_FIXED"=some (.int 9 t1))(jr:mg "NoDeal"=some (.ref iX))(jq:W.excIn K iX [.type "ValueError",.type "Exception",.type "BaseException",.type "object"] "ValueError.__new__"=true)(ut:mg "near"=some (.ref O))(m8:mg "least"=some (.ref L))(eu:mg "by_turns"=some (.ref G))(ft:C0 P w K mg base 3 "read_lifts" ["words","house"] (GW K))(rD:aR P w K mg base 1 "zone_of" ["lifts"] (KN Pz qZ "lifts" (LW mg)))(nq:aR P w K mg base 1 "fixed_of" ["lifts"] (KN Pf qF "lifts" (LX mg))):au P w K mg base @ch 4 f fd ["text","house"] (DG K mg O L G Pn Pl Pz Pf):=by
 have S:aE (.int 9) (.int 9 t1):=⟨_,rfl⟩;rwa[F.okX zo @cj (λay A outer s H vs Q E hr h=> ?_)]
 ·obtain ⟨k,h,hs,rfl,_⟩:=h;rfl
 obtain ⟨k,h,hs,rfl,hH,Y,hT,hg,q⟩:=h;rwa[⟨_,(aa (aB @a (ac (ao (pi rfl ut))) ar) (aa (aB @a (ac (ao (pi rfl m8))) ar) (aa (aB @a (ac (ao (pi rfl eu))) ar) (aa @a (aa @a (aa (aB @a (ac (ao (b7 rD hr @b rfl (aq (Ew lD ft hr @b rfl (aq (wv 3) @bl)) am)))) ar) (aa (aB @a (ac (ao (b7 nq hr @b rfl (aq (Ew lD ft hr @b rfl (aq (wv 3) @bl)) am)))) ar) (ac (qG lD rfl jq PySem.F.excBase_ValueError rfl jr (aq (tQ (Em (wv 0) (El En))) am)))))))))),?_⟩];have aS:=hH;obtain ⟨ho,p,ls,hh,hp,hl⟩:=hH;obtain ⟨ap,i9⟩:=Dk.is_ok Y ho;have l3:=ho.l3;have h9:∀i∈k.is,0<=i/\i<=9:=λi hi=>⟨(ap i hi).1,by have:=(ap i hi).2;lia⟩;have hw:=C9 (Db (k:=k)).1 h9;have an:=xo (Db (k:=k)).2 h9 @c;obtain ⟨x,hx⟩:∃x,x=k6 k.wd k.is:=⟨_,rfl⟩;rw [<-hx] at hw an ⊢
 have ad:∀ {y:Str},Nh y=[y]->x=y->k.wd=y:=λ{y} hy e=>by
  rw [e,hy] at hw;exact (List.cons.inj hw).1.symm
 rwa[eh @k (λz1=> ?_)]
 ·obtain rfl:=Aw (ad @g z);exact q ⟨0,0,0,0,.none⟩ H (.refl _) hg trivial trivial
 rwa[eh @k (λz2=> ?_)]
 ·obtain rfl:=wF (ad @g z);exact q ⟨0,0,0,0,.none⟩ H (.refl _) hg trivial trivial
 rwa[eh @k @ft]
 ·obtain rfl:=pG (ad @g z);exact q ⟨0,0,0,0,.none⟩ H (.refl _) hg trivial trivial
 obtain ⟨J,zs,rfl⟩:∃J zs,k= .num J zs:=by
  cases k with
  |near=>exact absurd hx z1
  |least=>exact absurd hx z2
  |turns=>exact absurd hx z3
  |num J zs=>exact ⟨J,zs,rfl⟩
 have hw:Nh x=wX J::zs.map oq:=hw;have Y:(J=false->(zs.length:Int)=hs.fl)/\(J=true->1<=zs.length/\zs.length<=9)/\∀z∈zs,0<=z/\z<(hs.ls.length:Int):=Y;have i9:zs.length<=9:=i9;have f2:=ho.f2
 have av:zs≠[]:=λe=>by
  subst e
  cases J with
  |false=>have:=Y.1 rfl;simp at this;lia
  |true=>have:=(Y.2.1 rfl).1;simp at this
 have as:=hT av;rwa[⟨rfl,?_⟩];rwa[⟨⟨rfl,bt @c⟩,λl1 ax=> ?_⟩];generalize ab:upd H l1 _=H1
 have s1:aj H H1:=by rw [<-ab];exact .upd ax
 have e1:H1 l1=some (.lst (V.str (wX J)::(zs.map oq).map V.str)):=by rw [<-ab,af];show some (HO.lst ((Nh _).map V.str))=_;rw [hw];rfl
 clear ab;rwa[o0 @dj λl2 H2 s2 n2 e2=> ?_];rw [uz] at e2;have ai:aA K H2 l1 (V.str (wX J)::(zs.map oq).map V.str):=aA.of (s2 _ _ e1);have R:=s1.trans s2
 have ah:∀ {P0:Addr} {H3 H':Hp} {l3 f c' c:Addr} {al:Value},(Pn≠P0/\Pl≠P0)->aj H2 H3->H3 l3=some (.lst @ed)->bM H3 P0 (qX J)->dD P0 H3 H'->H' f=some (nF f (QW mg J [("lifts",c)] c' al))->H' c'=some (nK c' (qX J))->H' c=some (yo c (.ref l3))->Q (.ref f) H':=λ{P0 H3 H' l3 f c' c al} hn Z e3 hP sp ef ec I=>by
  obtain ⟨ps,ae,_⟩:=id hP;have sN:=sp.nt ae;have ak:=tf _ _ (R.trans Z).st hg;exact q ⟨f,c',c,l3,al⟩ H' ((R.trans Z).nt.trans sN) ⟨ak.1.sameP sp ae hn.1,ak.2.sameP sp ae hn.2⟩ ⟨ef,ec,I⟩ (sN _ _ (λ_ z=>by cases z) e3)
 rwa[aN ai (v:= .str (wX J)) @fh ?_]
 cases J with
 |false=>
  rwa[bL rfl ?_];rwa[b6 @dV ?_];rwa[ag (R.seqT hh) rfl ?_];rwa[jA (by rw [length_map,length_map];exact Y.1 rfl) ?_];rwa[GW.mk _ _ _ _ rfl @dV (aS.same R) Y.2.2 @c λl3 H3 Z e3=> ?_];have tz:=as.1.same (R.trans Z);exact ⟨_,rfl,tz,λf c' al c H' sp hf ef ec I aw=>ah (P0:=Pz) ⟨U.1,U.2.2.1⟩ Z e3 tz sp ef ec I⟩
 |true=>
  rwa[dF @g ?_];rwa[be rfl ?_];rwa[aN ai (v:= .str (wX true)) @fh ?_];rwa[bL rfl ?_];rwa[b6 @dV ?_];rw [length_map,length_map];obtain ⟨i1,i9⟩:=Y.2.1 rfl;rwa[jA @c ?_];rwa[jA @c ?_];rwa[GW.mk _ _ _ _ rfl @dV (aS.same R) Y.2.2 @c λl3 H3 Z e3=> ?_];have tz:=as.2.same (R.trans Z);exact ⟨_,rfl,tz,λf c' al c H' sp hf ef ec I aw=>ah (P0:=Pf) ⟨U.2.1,U.2.2.2⟩ Z e3 tz sp ef ec I⟩
seal DG
structure Sx where
 b:Bool
 t:Int
 i:Int
 fl:Int
noncomputable def sW (b:Bool):Str:=if b=true then s!"in" else s!"out"
noncomputable def Sx.d (s:Sx):D:=Hh (sW s.b) s.t s.i s.fl
def g9 (L:List Sx):List Int:=(L.filter (·.b)).map (·.t)
theorem xB {L j:List Sx}:g9 (L++j)=g9 L++g9 j:=by unfold g9;rw [filter_append,map_append]
structure Jx (M M':MS)(L:List Sx):Prop where
 log:M'.log=M.log++L.map Sx.d
 ws:M'.ws=M.ws.filter λr=> !decide (r.tag∈g9 L)
 last:M'.last=M.last
 fire:M'.fire=false
theorem Jx.no {M M':MS}(h1:M'.log=M.log)(h2:M'.ws=M.ws)(L:M'.last=M.last)(j:M'.fire=false):Jx M M' []:=⟨by rw [h1];exact (append_nil _).symm,by rw [h2];symm;rw [List.filter_eq_self];intro r _;rfl,L,j⟩
theorem Mp {os j:List Int}{i fl:Int}:g9 (os.map (λt=>(⟨false,t,i,fl⟩:Sx))++j.map λt=>⟨true,t,i,fl⟩)=j:=by
 have h1:∀l:List Int,g9 (l.map (λt=>(⟨false,t,i,fl⟩:Sx)))=[]:=λl=>by
  induction l with
  |nil=>rfl
  |cons t l ih=>exact ih
 have h2:∀l:List Int,g9 (l.map (λt=>(⟨true,t,i,fl⟩:Sx)))=l:=λl=>by
  induction l with
  |nil=>rfl
  |cons t l ih=>exact congrArg (t:: ·) ih
 rw [xB,h1,h2];rfl
theorem Pu.say {hs:Hs}{wf:Wf}{M M':MS}{i:Int}{c:Cb}{l:Lf}(h:Pu hs wf M i c l M')(F:M.fire=false):∃L,Jx M M' L:=by
 rcases h with ⟨_,rfl⟩|⟨_,h2,_⟩|⟨_,_,j⟩
 ·exact ⟨[],.no rfl rfl rfl F⟩
 ·rw [F] at h2;cases h2
 ·unfold GH at j;split at j
  ·subst j;rwa[⟨(dz c.pl c.ps).map (λt=>⟨false,t,i,c.pl / 2⟩)++(jL hs c l @fG).ins.map λt=>⟨true,t,i,c.pl / 2⟩,?_,?_,rfl,F⟩]
   ·rw [map_append,map_map,map_map];show (M.log++_)++_=M.log++(_++_);exact append_assoc ..
   ·rw [Mp];rfl
  ·split at j
   ·subst j;exact ⟨[],.no rfl rfl rfl F⟩
   ·obtain ⟨U,u,d,e,z,J,rfl⟩:=j;exact ⟨[],.no rfl rfl rfl F⟩
theorem MW.say {hs:Hs}{wf:Wf}{M:MS}(F:M.fire=false):∀ {n:Nat} {M':MS},MW hs wf n M M'->∃L,Jx M M' L
 |0,M',h=>by
  obtain rfl:M'=M:=h;exact ⟨[],.no rfl rfl rfl F⟩
 |n+1,M'',⟨M',c,l,h1,_,_,h4⟩=>by
  obtain ⟨L,a⟩:=MW.say F h1;obtain ⟨j,b⟩:=h4.say a.fire;rwa[⟨L++j,by rw [b.log,a.log,map_append,append_assoc],?_,b.last.trans a.last,b.fire⟩];rw [b.ws,a.ws,List.filter_filter];congr 1
  funext r
  rw [xB,Bool.eq_iff_iff];simp [not_or,and_comm]
theorem EB {m:Int}{k:Nat}(F:0<=m)(L:m<=3)(R:k=0\/k=1):Builtin.bitOr m ((2^k:Nat):Int)=((m.toNat|||2^k:Nat):Int):=by
 rcases R with rfl|rfl<;>rcases (show m=0\/m=1\/m=2\/m=3 by lia) with rfl|rfl|rfl|rfl<;>decide
theorem Gj {m:Int}(F:0<=m)(L:m<=3):Builtin.bitAnd m 2=((ir m.toNat 0:Nat):Int):=by
 rcases (show m=0\/m=1\/m=2\/m=3 by lia) with rfl|rfl|rfl|rfl<;>decide
theorem Gi {m:Int}(F:0<=m)(L:m<=3):Builtin.bitAnd m 1=((ir m.toNat 1:Nat):Int):=by
 rcases (show m=0\/m=1\/m=2\/m=3 by lia) with rfl|rfl|rfl|rfl<;>decide
theorem PM {m:Int}{k:Nat}(F:0<=m)(L:m<=3)(R:k=0\/k=1):((m.toNat|||2^k:Nat):Int)<=3/\((ir m.toNat k:Nat):Int)<=3:=by
 rcases R with rfl|rfl<;>rcases (show m=0\/m=1\/m=2\/m=3 by lia) with rfl|rfl|rfl|rfl<;>decide
theorem QV {a b c d x:Str}{u v y z:V}:fb (iV [] [(Sum.inr a,u),(Sum.inr b,v),(Sum.inr c,y),(Sum.inr d,z)]) (Sum.inr x:cG)=if x=d then some z else if x=c then some y else if x=b then some v else if x=a then some u else none:=by
 show fb (dE (dE (dE (dE [] (Sum.inr a) u) (Sum.inr b) v) (Sum.inr c) y) (Sum.inr d) z) (Sum.inr x)=_;rw [iG,iG,iG,iG];simp only [Sum.inr.injEq];rfl
noncomputable def rZ (cs:List Cb)(d:Dd):List Cb:=(bP 0 ⟨cs,[],0,true,0,[]⟩ d).cs
theorem Ji {lo:Nat}{M:MS}{d:Dd}:(bP lo M d).cs=rZ M.cs d:=by
 unfold rZ
 cases d with
 |come t s g k=>
  show (c7 lo M t s g k).cs=(c7 0 _ t s g k).cs;unfold c7;split<;>split<;>(try split)<;>rfl
 |lf x i=>
  unfold bP;dsimp only;split
  ·rfl
  split
  ·rfl
  split
  ·rfl
  split<;>rfl
 |sg x=>rfl
def Pk (cs:List Cb):Prop:=∀c∈cs,0<=c.mr/\c.mr<=3
def uh (x:Str):Prop:=x=s!"stick"\/x=s!"free"\/x=s!"goods"\/x=s!"back"
abbrev lX:Cb:=⟨0,0,0,0,[]⟩
theorem LZ {cs:List Cb}{x:Str}{i:Int}(z:Pk cs)(hi:i.toNat<cs.length)(G:uh x):
 ∃v:Int,0<=v/\v<=3/\rZ cs (.lf x i)=cs.set i.toNat {cs.getD i.toNat lX with mr:=v}/\(if x=s!"back" then some (V.int (Builtin.bitAnd (cs.getD i.toNat lX).mr 1)) else if x=s!"free" then some (.int (Builtin.bitAnd (cs.getD i.toNat lX).mr 2)) else if x=s!"goods" then some (.int (Builtin.bitOr (cs.getD i.toNat lX).mr 2)) else if x=s!"stick" then some (.int (Builtin.bitOr (cs.getD i.toNat lX).mr 1)) else none)=some (.int v):=by
 have j:cs.getD i.toNat lX∈cs:=by
  rw [getD_eq_getElem?_getD,getElem?_eq_getElem hi];exact getElem_mem hi
 obtain ⟨F,L⟩:=z _ j;unfold rZ
 rcases G with rfl|rfl|rfl|rfl
 ·rw [fk,if_neg @g,if_neg @g,if_neg @g,if_pos rfl];exact ⟨_,by lia,(PM F L (.inl rfl)).1,rfl,by rw [<-EB F L (.inl rfl)];try rfl⟩
 ·rw [gx,if_neg @g,if_pos rfl];exact ⟨_,by lia,(PM F L (.inl rfl)).2,rfl,by rw [Gj F L];try rfl⟩
 ·rw [fm,if_neg @g,if_neg @g,if_pos rfl];exact ⟨_,by lia,(PM F L (.inr rfl)).1,rfl,by rw [<-EB F L (.inr rfl)];try rfl⟩
 ·rw [gy,if_pos rfl];exact ⟨_,by lia,(PM F L (.inr rfl)).2,rfl,by rw [Gi F L];try rfl⟩
theorem LY {cs:List Cb}{d:Dd}(h:d.ok)(j:∀x i,d= .lf x i-> ¬uh x):rZ cs d=cs:=by
 unfold rZ
 cases d with
 |come t s g k=>show (c7 _ _ _ _ _ _).cs=_;unfold c7;split<;>(try split)<;>rfl
 |lf x i=>
  have h':x=s!"block"\/uh x:=h
  rcases h' with rfl|z
  ·rw [hU]
  ·exact absurd z (j x i rfl)
 |sg x=>rfl
theorem IK {cs:List Cb}{d:Dd}:(rZ cs d).length=cs.length:=by
 unfold rZ
 cases d with
 |come t s g k=>show (c7 _ _ _ _ _ _).cs.length=_;unfold c7;split<;>(try split)<;>rfl
 |lf x i=>
  unfold bP;dsimp only;split
  ·rfl
  split
  ·exact length_set
  split
  ·exact length_set
  split<;>exact length_set
 |sg x=>rfl
noncomputable def bO (cs:List Cb)(ds:List Dd):List Cb:=ds.foldl rZ cs
theorem mX {ds:List Dd}:∀ {cs:List Cb},(bO cs ds).length=cs.length:=by
 unfold bO
 induction ds with
 |nil=>intro cs;rfl
 |cons d ds ih=>intro cs;rw [foldl_cons,ih,IK]
noncomputable def Kj (ws:List aH):Dd->List aH
 | .come t s g _=>ws++[⟨t,s,g,-1⟩]
 | .lf x i=>if x=s!"stick"\/x=s!"goods" then gv i ws else ws
 | .sg _=>ws
theorem kt {ws:List aH}{x:Str}{i:Int}(h:x=s!"stick"\/x=s!"goods"):Kj ws (.lf x i)=gv i ws:=if_pos h
theorem iB {ws:List aH}{x:Str}{i:Int}(h: ¬(x=s!"stick"\/x=s!"goods")):Kj ws (.lf x i)=ws:=if_neg h
theorem MG {M:MS}{d:Dd}(F:M.fire=false)(J:(∃x i,d= .lf x i/\Dd.ok (.lf x i))\/∃t s g k,d= .come t s g k):(bP 0 M d).ws=Kj M.ws d/\(bP 0 M d).fire=false/\(bP 0 M d).log=M.log/\(bP 0 M d).last=M.last:=by
 rcases J with ⟨x,i,rfl,W⟩|⟨t,s,g,k,rfl⟩
 ·rcases W with rfl|rfl|rfl|rfl|rfl
  ·rw [hU];exact ⟨(iB @g).symm,F,rfl,rfl⟩
  ·rw [fk];exact ⟨(kt (.inl rfl)).symm,F,rfl,rfl⟩
  ·rw [gx];exact ⟨(iB @g).symm,F,rfl,rfl⟩
  ·rw [fm];exact ⟨(kt (.inr rfl)).symm,F,rfl,rfl⟩
  ·rw [gy];exact ⟨(iB @g).symm,F,rfl,rfl⟩
 ·have e:c7 0 M t s g k= {M with ws:=M.ws++[⟨t,s,g,-1⟩]}:=by
   unfold c7;rw [if_neg @e,if_neg (by rw [F];decide)]
  show (c7 0 M t s g k).ws=_/\(c7 0 M t s g k).fire=_/\(c7 0 M t s g k).log=_/\(c7 0 M t s g k).last=_;rw [e];exact ⟨rfl,F,rfl,rfl⟩
theorem A6:∀ {ds:List Dd} {M:MS},M.fire=false->(∀d∈ds,(∃x i,d= .lf x i/\Dd.ok (.lf x i))\/∃t s g k,d= .come t s g k)->(bp 0 M ds).ws=ds.foldl Kj M.ws/\(bp 0 M ds).fire=false/\(bp 0 M ds).log=M.log/\(bp 0 M ds).last=M.last/\(bp 0 M ds).cs=bO M.cs ds
 |[],M,hf,_=>⟨rfl,hf,rfl,rfl,rfl⟩
 |d::ds,M,hf,hd=>by
  obtain ⟨F,R,Z,I⟩:=MG hf (hd d (.head _));obtain ⟨J,G,L,z,j⟩:=A6 (ds:=ds) R λe U=>hd e (.tail _ U);show (bp 0 @eI ds).ws=_/\(bp 0 @eI ds).fire=_/\(bp 0 @eI ds).log=_/\(bp 0 @eI ds).last=_/\(bp 0 @eI ds).cs=_;rw [J,L,z,j,F,Z,I,Ji];exact ⟨rfl,G,rfl,rfl,rfl⟩
def PD (n:Nat)(as:List Dd):Prop:=as=[]\/∃i:Int,0<=i/\i<(n:Int)/\(as=[.lf "stick" i]\/as=[.lf "goods" i]\/as=[.lf "free" i,.lf "back" i])
theorem PD.lf {n:Nat}{F:List Dd}(h:PD n F):F.length<=2/\∀d∈F,∃x i,d= .lf x i/\uh x/\Dd.ok (.lf x i)/\0<=i/\i<(n:Int):=by
 rcases h with rfl|⟨i,L,j,rfl|rfl|rfl⟩
 ·exact ⟨by decide,λd J=>nomatch J⟩
 ·exact ⟨by simp,λd J=>⟨_,i,mem_singleton.mp J,.inl rfl,.inr (.inl rfl),L,j⟩⟩
 ·exact ⟨by simp,λd J=>⟨_,i,mem_singleton.mp J,.inr (.inr (.inl rfl)),.inr (.inr (.inr (.inl rfl))),L,j⟩⟩
 ·rwa[⟨by simp,λd J=> ?_⟩]
  rcases mem_cons.mp J with z|z
  ·exact ⟨_,i,z,.inr (.inl rfl),.inr (.inr (.inl rfl)),L,j⟩
  ·exact ⟨_,i,mem_singleton.mp z,.inr (.inr (.inr rfl)),.inr (.inr (.inr (.inr rfl))),L,j⟩
def yr (C:List Cb)(r:aH):aH:=if r.lift> -1/\(C.getD r.lift.toNat lX).mr>0 then {r with lift:= -1} else r
theorem KS {cs:List Cb}{i:Int}{v:Int}{j:Nat}{c z:Cb}(hi:i.toNat<cs.length)(Z:cs[j]? =some z):((cs.set i.toNat {c with mr:=v}).getD j lX).mr=if j=i.toNat then v else z.mr:=by
 rw [getD_eq_getElem?_getD];by_cases e:j=i.toNat
 ·subst e;rw [if_pos rfl,getElem?_set_self hi];rfl
 ·rw [if_neg e,getElem?_set_ne @fY,Z];rfl
theorem jg {C:List Cb}{r:aH}(h:r.lift= -1\/(C.getD r.lift.toNat lX).mr=0):yr C r=r:=if_neg λz=>by rcases h with h|h<;>lia
theorem AB {i:Int}{k:Nat}{cs:List Cb}{ws:List aH}(R:k=0\/k=1)(L:0<=i)(J:i<(cs.length:Int))(h:∀r∈ws,MQ cs r.lift):gv i ws=ws.map (yr (cs.set i.toNat {cs.getD i.toNat lX with mr:=(((cs.getD i.toNat lX).mr.toNat|||2^k:Nat):Int)})):=by
 rwa[map_congr_left λr S=> ?_]
 rcases h r S with z|⟨j,c,F,Z,I⟩
 ·rw [if_neg @c,jg (.inl z)]
 ·have hs:=KS (c:=cs.getD i.toNat lX) (v:=(((cs.getD i.toNat lX).mr.toNat|||2^k:Nat):Int)) (show i.toNat<cs.length by lia) Z;by_cases e:r.lift=i
  ·have G:cs.getD i.toNat lX=c:=by rw [<-e,F,getD_eq_getElem?_getD,show ((j:Int)).toNat=j by lia,Z];rfl
   rw [if_pos e];rwa[(if_pos ⟨by lia,?_⟩).symm];rw [show r.lift.toNat=j by lia,hs,if_pos @c,G,I]
   rcases R with rfl|rfl<;>decide
  ·rw [if_neg e,jg (.inr ?_)];rw [show r.lift.toNat=j by lia,hs,if_neg @c];exact I
theorem Gk {cs:List Cb}{ws:List aH}{F:List Dd}(J:PD cs.length F)(h:∀r∈ws,MQ cs r.lift):F.foldl Kj ws=ws.map (yr (bO cs F)):=by
 rcases J with rfl|⟨i,L,G,rfl|rfl|rfl⟩
 ·show ws=_;symm;rwa[(map_congr_left λr S=> ?_).trans (List.map_id _)]
  rcases h r S with z|⟨j,c,U,Z,I⟩
  ·exact jg (.inl z)
  ·rwa[jg (.inr ?_)];show (cs.getD r.lift.toNat lX).mr=0;rw [getD_eq_getElem?_getD,show r.lift.toNat=j by lia,Z];exact I
 ·rw [foldl_cons,List.foldl_nil,kt (.inl rfl)]
  have e:bO cs [.lf "stick" i]=cs.set i.toNat {cs.getD i.toNat lX with mr:=(((cs.getD i.toNat lX).mr.toNat|||2^0:Nat):Int)}:=by
   show rZ cs _=_;unfold rZ;rw [fk];rfl
  rw [e];exact AB (.inl rfl) L G h
 ·rw [foldl_cons,List.foldl_nil,kt (.inr rfl)]
  have e:bO cs [.lf "goods" i]=cs.set i.toNat {cs.getD i.toNat lX with mr:=(((cs.getD i.toNat lX).mr.toNat|||2^1:Nat):Int)}:=by
   show rZ cs _=_;unfold rZ;rw [fm];rfl
  rw [e];exact AB (.inr rfl) L G h
 ·rw [foldl_cons,foldl_cons,List.foldl_nil,iB @g,iB @g]
  have R:rZ cs (.lf "free" i)=cs.set i.toNat {cs.getD i.toNat lX with mr:=((ir (cs.getD i.toNat lX).mr.toNat 0:Nat):Int)}:=by
   unfold rZ;rw [gx];rfl
  have W:∀cs:List Cb,rZ cs (.lf "back" i)=cs.set i.toNat {cs.getD i.toNat lX with mr:=((ir (cs.getD i.toNat lX).mr.toNat 1:Nat):Int)}:=λcs=>by
   unfold rZ;rw [gy];rfl
  symm;rwa[(map_congr_left λr S=> ?_).trans (List.map_id _)]
  rcases h r S with z|⟨j,c,U,Z,I⟩
  ·exact jg (.inl z)
  ·rwa[jg (.inr ?_)];show ((rZ (rZ cs _) _).getD r.lift.toNat lX).mr=0;rw [W,R,show r.lift.toNat=j by lia]
   have hi:i.toNat<cs.length:=by lia
   by_cases e:j=i.toNat
   ·have O:cs.getD i.toNat lX=c:=by rw [<-e,getD_eq_getElem?_getD,Z];rfl
    rw [getD_eq_getElem?_getD,e,getElem?_set_self (by rw [length_set];exact hi)];rw [getD_eq_getElem?_getD,getElem?_set_self hi,O];show ((ir (((ir c.mr.toNat 0:Nat):Int)).toNat 1:Nat):Int)=0;rw [I];decide
   ·rw [getD_eq_getElem?_getD,getElem?_set_ne @fY,getElem?_set_ne @fY,Z];exact I
def cF (qs:List aH):List Dd:=qs.map λr=> .come r.tag r.start r.goal false
theorem xU:∀ {qs:List aH} {ws:List aH},(∀r∈qs,r.lift= -1)->(cF qs).foldl Kj ws=ws++qs
 |[],ws,_=>(append_nil _).symm
 |r::qs,ws,h=>by
  have e:r=⟨r.tag,r.start,r.goal,-1⟩:=by rw [<-h r (.head _)]
  show (cF qs).foldl Kj (ws++[⟨r.tag,r.start,r.goal,-1⟩])=_;rw [<-e,xU λq G=>h q (.tail _ G),append_assoc];rfl
theorem oh:∀ {qs:List aH} {cs:List Cb},bO cs (cF qs)=cs
 |[],_=>rfl
 |r::qs,cs=>by
  show bO (rZ cs (.come r.tag r.start r.goal false)) (cF qs)=cs;rw [LY (d:= .come r.tag r.start r.goal false) trivial λx i e=>by cases e];exact oh
theorem xE {fl:Int}{n:Nat}:∀ {qs:List aH} {ts:List Int},(∀r∈qs,gC fl r)->(qs.map (·.tag)).Nodup->(∀t∈qs.map (·.tag),t∉ts)->oN fl n ts (cF qs)
 |[],_,_,_,_=>trivial
 |r::qs,ts,h,nd,hn=>by
  have o:=h r (.head _);rw [map_cons,nodup_cons] at nd;rwa[⟨⟨o.s0,o.s1,o.g0,o.g1,o.ne⟩,(λt J=>by rw [mem_singleton.mp J];exact hn _ (.head _)),?_⟩];rwa[xE (λq G=>h q (.tail _ G)) nd.2 λt J z=> ?_]
  rcases mem_append.mp z with y|y
  ·exact hn t (.tail _ J) y
  ·rw [mem_singleton.mp y] at J;exact nd.1 J
theorem xF {fl:Int}{n:Nat}{es:List Dd}:∀ {as:List Dd} {ts:List Int},(∀d∈as,∃x i,d= .lf x i/\uh x/\Dd.ok (.lf x i)/\0<=i/\i<(n:Int))->oN fl n ts es->oN fl n ts (as++es)
 |[],_,_,h=>h
 |d::as,ts,ha,h=>by
  obtain ⟨x,i,rfl,_,_,L,j⟩:=ha d (.head _);rwa[⟨⟨L,j⟩,(λt J=>nomatch J),xF (λe U=>ha e (.tail _ U)) ?_⟩];show oN fl n (ts++[]) es;rw [append_nil];exact h
theorem OP {ws:List Int}{i:Nat}(h:i<ws.length):(ws.map V.int)[i]? =some (.int (ws.getD i 0)):=by
 rw [getElem?_map,getD_eq_getElem?_getD,getElem?_eq_getElem h];rfl
inductive jS (K:Fg)(vs:List V)(H:Hp)(Q:VK)(_e:XK):Prop
 |mk (p cs wl ws:_) (_:vs=[.ref p,.ref wl]) (_:bd K H p cs) (_:cs.length<=3) (_:aA K H wl (List.map V.int ws)) (_:ws.length=cs.length) (_:∀m,cP @bU (λi=>ws.getD i 0) m->Q (.int m) H)
theorem IC (F:Z0 K "_law_best" zy f fd)(aU:mg "len"=none)(aG:mg "range"=none):au P w K mg base aZ 1 f fd ["_law_cabins","_law_worths"] (jS K):=by
 rwa[F.ok Hd (by symm) @i];obtain ⟨p,J,wl,L,rfl,Z,c3,Y,ad,q⟩:=h;rwa[⟨_,(aa @a (aa (cm PassesOwn.never rfl @bQ @a (ac @bf)) @bO)),?_⟩];rwa[Z.len ?_];rwa[⟨⟨by lia,by lia⟩,?_⟩]
 have hn:((J.length:Int)).toNat=J.length:=by lia
 rw [hn];rwa[cB (λi σ O=>O=H/\∃m R,d4 (aT J) (λi=>L.getD i 0) i m/\σ=[some (.ref p),some (.ref wl),some (.int m),R]) ⟨rfl,-1,_,Jo,rfl⟩ (λi σ O hi S=> ?_) (λσ O S=> ?_)]
 ·obtain ⟨rfl,m,R,I,rfl⟩:=S;have hi:i<J.length:=hi
  have ez:(0:Int)+(i:Int)=(i:Int):=by lia
  rw [ez];rwa[Z.at (by lia) @c λc a b W hT=> ?_];have W:J[i]? =some c:=W;have G:=pL W;rwa[ag hT rfl ?_];rwa[eh @k @k]
  ·rw [decide_eq_true z] at G;ext
   rcases I.range with rfl|⟨j,rfl,hj⟩
   ·rwa[jA rfl ?_];rwa[bL rfl ?_];exact ⟨rfl,_,_,I.new G (.inl rfl),rfl⟩
   ·rwa[dF @c ?_];rwa[aN Y (v:= .int (L.getD i 0)) (bz (OP @c)) ?_];rwa[aN Y (v:= .int (L.getD j 0)) (bz (OP @c)) ?_];rwa[eh @eH @eH]
    ·ext;exact ⟨rfl,_,_,I.new G (.inr ⟨j,rfl,U⟩),rfl⟩
    ·ext;exact ⟨rfl,_,_,I.old U,rfl⟩
  ·rw [decide_eq_false z] at G;rwa[be rfl ?_];exact ⟨rfl,_,_,I.no G,rfl⟩
 ·obtain ⟨rfl,m,R,I,rfl⟩:=S;exact q m (by rw [<-nv (cs:=J)] at I;exact I)
theorem E9 {cs:List jP}{s:Int}{i:Nat}(h:i<cs.length):(cs.map λc=>An (c.pl - 2*s)).getD i 0=lj cs s i:=by
 rw [getD_eq_getElem?_getD,getElem?_map,getElem?_eq_getElem h];unfold lj;rw [AM (getElem?_eq_getElem h)];rfl
inductive uX (K:Fg)(vs:List V)(H:Hp)(Q:VK)(_e:XK):Prop
 |mk (p cs s:_) (_:vs=[.ref p,.int s]) (_:bd K H p cs) (_:cs.length<=3) (_:∀m H',aj H H'->cP @bU (lj cs s) m->Q (.int m) H')
theorem ER (F:Z0 K "_law_near" zt f fd)(Cm:mg "abs"=none)(eO:aR P w K mg base 1 "_law_best" ["_law_cabins","_law_worths"] (jS K)):au P w K mg base aZ 2 f fd ["_law_cabins","_law_start"] (uX K):=by
 rwa[F.ok G7 (by symm) @i];obtain ⟨p,G,st,rfl,Y,c3,q⟩:=h;rwa[⟨_,(ac (ao (b7 eO hr @b rfl (aq (wv 0) (aq (bb rfl (ay (N':=["_law_cabin_here","_law_start"]) (pk:=[none,some 1]) @l) @a @h @r (λC s H ex=>(aY JH rfl Cm boot_abs @C))) am))))),?_⟩];obtain ⟨xs,z,W⟩:=id Y;have hl:xs.length=G.length:=aD W;ext
 have R:∀(ys:List V) H',aj H H'/\ys=((G.map λc=>An (c.pl - 2*st)).take xs.length).map V.int->∀Z,H' Z=none->jS K [.ref p,.ref Z] (upd H' Z (.lst ys)) Q E0:=by
  rintro ys H' ⟨U,rfl⟩ Z J;have S:=U.trans (.upd J (o:= .lst (((G.map λc=>An (c.pl - 2*st)).take xs.length).map V.int)));rw [take_of_length_le (by rw [length_map];lia)] at S ⊢;rwa[jS.mk _ _ _ _ rfl (Y.same S) c3 @fs (length_map _) λm hb=>q m _ S (hb.cong λi hi=> ?_)];exact E9 (by rw [nv] at hi;exact hi)
 have aa:∀(i:Nat) x H',xs[i]? =some x->aj H H'->∃c a b,x= .ref a/\G[i]? =some c/\aC K H' a [.int c.pl,.int c.li,.int c.dr,.int c.mr,.ref b]:=by
  intro i x H' j U;obtain ⟨c,I,dc⟩:=bc W j;obtain ⟨a,b,rfl,L⟩:=we dc;exact ⟨c,a,b,rfl,I,U.seqT L⟩
 rcases z with z|z
 ·rwa[bK z ?_];rwa[bu (xs:=xs) (λi ys H'=>aj H H'/\ys=((G.map λc=>An (c.pl - 2*st)).take i).map V.int) @S (λi ys H' h=>by rw [h.2,length_map];exact length_take_le _ _) ⟨.refl _,rfl⟩ (λi ys H' _ h=>h.1.seq z) (λi x ys H' j O=> ?_) (λys H1 O d J=>R ys H1 O d J)];obtain ⟨c,a,b,rfl,I,L⟩:=aa i x H' j O.1;rwa[⟨bg,?_⟩];rwa[ag L rfl ?_];rwa[⟨cZ @b @b,?_⟩];rwa[⟨O.1,?_⟩];rw [O.2,take_add_one,getElem?_map,I,map_append];rfl
 ·rwa[fg z ?_];rwa[dB (xs:=xs) (λi ys H'=>aj H H'/\ys=((G.map λc=>An (c.pl - 2*st)).take i).map V.int) @S (λi ys H' h=>by rw [h.2,length_map];exact length_take_le _ _) ⟨.refl _,rfl⟩ (λi ys H' _ h=>h.1.seqT z) (λi x ys H' j O=> ?_) (λys H1 O d J=>R ys H1 O d J)];obtain ⟨c,a,b,rfl,I,L⟩:=aa i x H' j O.1;rwa[⟨bg,?_⟩];rwa[ag L rfl ?_];rwa[⟨cZ @b @b,?_⟩];rwa[⟨O.1,?_⟩];rw [O.2,take_add_one,getElem?_map,I,map_append];rfl
theorem ui {cs:List jP}{j:List Int}{i:Nat}(h:i<cs.length):((List.range cs.length).map λi=>bJ cs j i).getD i 0=bJ cs j i:=by
 rw [getD_eq_getElem?_getD,getElem?_map,List.getElem?_range h];rfl
inductive pQ (K:Fg)(vs:List V)(H:Hp)(Q:VK)(_e:XK):Prop
 |mk (p cs wp rs:_) (_:vs=[.ref p,.ref wp]) (_:bd K H p cs) (_:cs.length<=3) (_:Bk K H wp rs) (_:rs.length<=64) (_:∀m H',aj H H'->cP @bU (bJ cs (bS rs)) m->Q (.int m) H')
theorem B2 (F:Z0 K "_law_least" vo f fd)(aU:mg "len"=none)(aG:mg "range"=none)(eO:aR P w K mg base 1 "_law_best" ["_law_cabins","_law_worths"] (jS K)):au P w K mg base aZ 2 f fd ["_law_cabins","_law_waiting"] (pQ K):=by
 rwa[F.ok xb (by symm) @i];obtain ⟨p,G,wp,z,rfl,hC,c3,hR,aJ,q⟩:=h;rwa[⟨_,(aa (bD (i:=2) xb.nd rfl @dQ (bb rfl (ay (N':=["_law_one"]) (pk:=[none]) @l) @a @h @r @h)) (ac (ao (b7 eO hr @b rfl (aq (wv 0) (aq (bb rfl (ay (N':=["_law_k","_law_lifts","_law_cabins"]) (pk:=[none,some 2,some 0]) @l) @bQ @h @r (λC s H ex=>(bZ @ci @a (fu rfl PySem.F.plainAttrs_list PySem.F.slot_list_count PySem.F.type_list_count (Ay rfl) (wv 1) @cf)))) am)))))),?_⟩];obtain ⟨xs,hx,hd⟩:=id hR;have hl:xs.length=z.length:=aD hd;ext
 rcases hx with hx|hx
 ·rwa[bK hx ?_];rwa[bu (xs:=xs) (λi ys H'=>aj H H'/\ys=((bS z).take i).map V.int) @S (λi ys H' h=>by rw [h.2,length_map];exact length_take_le _ _) ⟨.refl _,rfl⟩ (λi ys H' _ h=>h.1.seq hx) (λi x ys H' Y O=> ?st) (λys H1 O d n0=> ?rs)]
  case st=>
   obtain ⟨r,W,dr⟩:=bc hd Y;obtain ⟨a,rfl,hT⟩:=iP (bH.same dr O.1);rwa[⟨bg,?_⟩];rwa[ag hT rfl ?_];rwa[⟨O.1,?_⟩];rw [O.2,take_add_one,getElem?_map,W,map_append];rfl
  have Z:upd H1 d (.lst (((bS z).take xs.length).map V.int)) d=some (.lst ((bS z).map V.int)):=by rw [af,take_of_length_le (by rw [length_map];lia)]
  have L:aj H (upd H1 d (.lst (((bS z).take xs.length).map V.int))):=O.1.trans (.upd n0);rw [O.2];generalize upd H1 d (.lst (((bS z).take xs.length).map V.int))=H2 at Z L;rwa[(hC.same L).len ?_];rwa[⟨⟨by lia,by lia⟩,?_⟩];rw [show ((G.length:Int)).toNat=G.length by lia];rwa[cE (λi ys H'=>aj H2 H'/\ys=(List.range i).map λi=>V.int @dG) @S (λi ys H' h=>by rw [h.2,length_map,length_range];exact Nat.le_refl _) ⟨.refl _,rfl⟩ (λi ys H' hi j=> ?_) (λys H3 j d2 n2=> ?_)]
  ·rwa[⟨bg,?_⟩];have I:=L.trans j.1;rw [show (0:Int)+(i:Int)=(i:Int) by lia];rwa[(hC.same I).at2 @c @c λcb a b S R J U hy=> ?_];have R:G[i]? =some cb:=R;rwa[ag J rfl ?_];rwa[cI U ?_];rwa[⟨.inl ⟨rfl,_,aA.of @fj⟩,?_⟩];rwa[⟨bS z,aA.of @fj,?_⟩];rwa[⟨j.1,?_⟩];rw [j.2,range_succ,map_append]
   have hw:bJ G (bS z) i=((S.length:Nat):Int)+(((bS z).count (i:Int):Nat):Int):=by unfold bJ;rw [pE R,hy]
   show _++[_]=_++[V.int @dG];rw [hw]
  ·have I:=L.trans (j.1.trans (.upd n2 (o:= .lst ys)));rwa[jS.mk _ _ _ ((List.range G.length).map λi=>bJ G (bS z) i) rfl (hC.same I) c3 (aA.of (by rw [af,j.2,map_map];rfl)) (by rw [length_map,length_range]) λm U=>q m _ I (U.cong λi hi=> ?_)];exact ui (by rw [nv] at hi;exact hi)
 ·rwa[fg hx ?_];rwa[dB (xs:=xs) (λi ys H'=>aj H H'/\ys=((bS z).take i).map V.int) @S (λi ys H' h=>by rw [h.2,length_map];exact length_take_le _ _) ⟨.refl _,rfl⟩ (λi ys H' _ h=>h.1.seqT hx) (λi x ys H' Y O=> ?stT) (λys H1 O d n0=> ?rsT)]
  case stT=>
   obtain ⟨r,W,dr⟩:=bc hd Y;obtain ⟨a,rfl,hT⟩:=iP (bH.same dr O.1);rwa[⟨bg,?_⟩];rwa[ag hT rfl ?_];rwa[⟨O.1,?_⟩];rw [O.2,take_add_one,getElem?_map,W,map_append];rfl
  have Z:upd H1 d (.lst (((bS z).take xs.length).map V.int)) d=some (.lst ((bS z).map V.int)):=by rw [af,take_of_length_le (by rw [length_map];lia)]
  have L:aj H (upd H1 d (.lst (((bS z).take xs.length).map V.int))):=O.1.trans (.upd n0);rw [O.2];generalize upd H1 d (.lst (((bS z).take xs.length).map V.int))=H2 at Z L;rwa[(hC.same L).len ?_];rwa[⟨⟨by lia,by lia⟩,?_⟩];rw [show ((G.length:Int)).toNat=G.length by lia];rwa[cE (λi ys H'=>aj H2 H'/\ys=(List.range i).map λi=>V.int @dG) @S (λi ys H' h=>by rw [h.2,length_map,length_range];exact Nat.le_refl _) ⟨.refl _,rfl⟩ (λi ys H' hi j=> ?_) (λys H3 j d2 n2=> ?_)]
  ·rwa[⟨bg,?_⟩];have I:=L.trans j.1;rw [show (0:Int)+(i:Int)=(i:Int) by lia];rwa[(hC.same I).at2 @c @c λcb a b S R J U hy=> ?_];have R:G[i]? =some cb:=R;rwa[ag J rfl ?_];rwa[cI U ?_];rwa[⟨.inl ⟨rfl,_,aA.of @fj⟩,?_⟩];rwa[⟨bS z,aA.of @fj,?_⟩];rwa[⟨j.1,?_⟩];rw [j.2,range_succ,map_append]
   have hw:bJ G (bS z) i=((S.length:Nat):Int)+(((bS z).count (i:Int):Nat):Int):=by unfold bJ;rw [pE R,hy]
   show _++[_]=_++[V.int @dG];rw [hw]
  ·have I:=L.trans (j.1.trans (.upd n2 (o:= .lst ys)));rwa[jS.mk _ _ _ ((List.range G.length).map λi=>bJ G (bS z) i) rfl (hC.same I) c3 (aA.of (by rw [af,j.2,map_map];rfl)) (by rw [length_map,length_range]) λm U=>q m _ I (U.cong λi hi=> ?_)];exact ui (by rw [nv] at hi;exact hi)
inductive wV (K:Fg)(vs:List V)(H:Hp)(Q:VK)(_e:XK):Prop
 |mk (p cs i:_) (_:vs=[.ref p,.int i]) (_:bd K H p cs) (_:1<=cs.length) (_:cs.length<=3) (_:0<=i) (_:Q (.int (sf @bU (i+1))) H)
theorem LO (F:Z0 K "_law_behind" qy f fd)(aU:mg "len"=none)(aG:mg "range"=none):au P w K mg base aZ 1 f fd ["_law_cabins","_law_lift_here"] (wV K):=by
 rwa[F.ok BH (by symm) (λZ A outer s H vs Q E hr h=> ?_)];obtain ⟨p,G,first,rfl,U,c1,c3,f0,q⟩:=h;have O:(aT G).length=G.length:=length_map _;rwa[⟨_,(aa @a (aa (cm PassesOwn.never rfl (Bn rfl aG (aq aM @C)) @a (ac @U)) (ac (ao (JQ JC aM))))),?_⟩];rwa[U.len ?_];rwa[⟨⟨by lia,by lia,by lia,by lia⟩,?_⟩]
 have W:((G.length:Int)+1 - 1).toNat=G.length:=by lia
 rwa[cB (λi σ I=>I=H/\sf (aT G) (first+1)=JK (aT G) (first+1) i (G.length - i)/\∃L,σ=[some (.ref p),some (.int first),some (.int G.length),L]) ⟨rfl,by unfold sf;rw [O];rfl,_,rfl⟩ (λi σ I hi R=> ?_) @eC]
 ·obtain ⟨rfl,j,L,rfl⟩:=R
  have hi:i<G.length:=by lia
  have Y:first+(1+(i:Int))=first+1+(i:Int):=by lia
  have S:0<=(first+(1+(i:Int)))% (G.length:Int):=Int.emod_nonneg _ @c;have J:(first+(1+(i:Int)))% (G.length:Int)<(G.length:Int):=Int.emod_lt_of_pos _ @c;rw [show G.length - i=(G.length - (i+1))+1 by lia] at j;have j:sf (aT G) (first+1)=if (aT G).getD ((first+1+(i:Int))% (aT G).length).toNat false=true then (first+1+(i:Int))% (aT G).length else JK (aT G) (first+1) (i+1) (G.length - (i+1)):=j;rw [O,<-Y] at j;rwa[⟨by lia,?_⟩];rwa[U.at S J λc a b hc hT=> ?_];rwa[ag hT rfl ?_];rw [pL hc] at j;rwa[eh @k @k]
  ·rw [if_pos @X] at j;rw [j] at q;exact ⟨by lia,q⟩
  ·rw [if_neg (by rw [decide_eq_false z];decide)] at j;exact ⟨rfl,j,_,rfl⟩
 obtain ⟨rfl,j,L,rfl⟩:=R;rw [W,Nat.sub_self] at j;have j:sf (aT G) (first+1)= -1:=j;rw [j] at q;exact q
inductive G0 (K:Fg)(vs:List V)(H:Hp)(Q:VK)(_e:XK):Prop
 |mk (p cs i:_) (_:vs=[.ref p,.int i]) (_:bd K H p cs) (_:1<=cs.length) (_:cs.length<=3) (_:0<=i) (_:i<(cs.length:Int)) (_:Q (.int (sf @bU i)) H)
theorem Ri {H:Hp}{p:Addr}{cs:List jP}{i:Int}{Q:VK}{E:XK}(h1:bd K H p cs)(h2:1<=cs.length)(L:cs.length<=3)(j:0<=i)(U:i<(cs.length:Int))(g:Q (.int (sf @bU i)) H):G0 K [.ref p,.int i] H Q E:=⟨p,cs,i,rfl,h1,h2,L,j,U,g⟩
theorem OH (F:Z0 K "_law_at" K2 f fd)(Z:aR P w K mg base 1 "_law_behind" ["_law_cabins","_law_lift_here"] (wV K)):au P w K mg base aZ 2 f fd ["_law_cabins","_law_lift_here"] (G0 K):=by
 rwa[F.ok N8 (by symm) (λO A outer s H vs Q E Y h=> ?_)];obtain ⟨p,G,i,rfl,J,R,W,L,U,q⟩:=h;have bl:(aT G).length=G.length:=length_map _;obtain ⟨j,rfl⟩:=Int.eq_ofNat_of_zero_le L;have hs:=N7 (bs:=aT G) (i:=j) @c @c @c;rwa[⟨_,(aa (aB @a @dl ar) @j),?_⟩];rwa[J.at L U λc a b I S=> ?_];rw [show ((j:Int)).toNat=j by lia] at I;rw [pL I] at hs;rwa[ag S rfl ?_];rwa[eh @k @k]
 ·rw [if_pos @X] at hs;rw [hs] at q;exact q
 ·rw [if_neg (by rw [decide_eq_false z];decide)] at hs;rw [hs] at q;exact wV.mk _ _ _ rfl J R W L q
theorem yk {bs:List Bool}{ws:Nat->Int}{m:Int}(h:cP bs ws m): -1<=m:=by
 rcases h with ⟨e,_⟩|⟨i,e,_⟩<;>lia
theorem DK {bs:List Bool}{first:Int}(h:0<=first): -1<=sf bs first:=by
 have j:∀r k,-1<=JK bs first k r:=by
  intro r
  induction r with
  |zero=>intro k;exact Int.le_refl _
  |succ r ih=>
   intro k;unfold JK;split
   ·have:=Int.emod_nonneg (first+(k:Int)) (b:=(bs.length:Int));by_cases z:(bs.length:Int)=0
    ·rw [z,Int.emod_zero];lia
    ·have:=this z;lia
   ·exact ih _
 exact j _ _
inductive yN (K:Fg)(vs:List V)(H:Hp)(Q:VK)(_e:XK):Prop
 |mk (k ln lc lw x last cs ws r:_) (_:vs=[.str (Dk.wd k),.ref ln,.ref lc,.ref lw,x,.int last]) (_:aA K H ln @dC) (_:bd K H lc (List.map fo cs)) (_:Bk K H lw (List.map zB ws)) (_:bH K H x @ey) (_:Le k cs ws r last) (_:∀H',aj H H'-> -1<=(hG k cs ws r last).1->Q (.int (hG k cs ws r last).1) H')
theorem Ij (F:Z0 K "_law_told_lift" j3 f fd)(aU:mg "len"=none)(uD:aR P w K mg base 2 "_law_near" ["_law_cabins","_law_start"] (uX K))(rN:aR P w K mg base 2 "_law_least" ["_law_cabins","_law_waiting"] (pQ K))(fF:aR P w K mg base 1 "_law_behind" ["_law_cabins","_law_lift_here"] (wV K))(Bf:aR P w K mg base 2 "_law_at" ["_law_cabins","_law_lift_here"] (G0 K)):au P w K mg base aZ 3 f fd ["_law_word","_law_numbers_here","_law_cabins","_law_waiting","_law_rider_here","_law_last"] (yN K):=by
 rwa[F.ok w9 (by symm) @i];obtain ⟨k,S,lc,lw,x,Y,L,ws,r,rfl,J,O,hR,hx,⟨c1,c3,R,l0,U⟩,q⟩:=h;have ad:(L.map fo).length=L.length:=length_map _;obtain ⟨ra,rfl,av⟩:=iP (r:=zB r) hx;rwa[⟨_,(aa @U (aa @U (aa @U (aa @U @j)))),?_⟩];rwa[eh @k (λz1=> ?_)]
 ·obtain rfl:=Aw z;rwa[ag av rfl ?_];rwa[uX.mk _ _ _ rfl O @c λm H' s G=> ?_];have e:=pC G;have g:=yk G;rw [e] at g ⊢;exact q H' s g
 rwa[eh @k (λz2=> ?_)]
 ·obtain rfl:=wF z;rwa[pQ.mk _ _ _ _ rfl O @c hR (by rw [length_map];exact R) λm H' s G=> ?_];have e:=pC G;have g:=yk G;rw [e] at g ⊢;exact q H' s g
 rwa[eh @k @ft]
 ·obtain rfl:=pG z;rwa[wV.mk _ _ _ rfl O @c @c l0 ?_];exact q H (.refl _) (DK @c)
 obtain ⟨j,zs,rfl⟩:∃j zs,k= .num j zs:=by
  cases k with
  |near=>exact absurd rfl z1
  |least=>exact absurd rfl z2
  |turns=>exact absurd rfl z3
  |num j zs=>exact ⟨j,zs,rfl⟩
 obtain ⟨Z,p1,zp,hz⟩:=U;have q:∀H',aj H H'-> -1<=sf (aT (L.map fo)) (zs.getD (Lc j zs (zB r)).toNat 0)->Q (.int (sf (aT (L.map fo)) (zs.getD (Lc j zs (zB r)).toNat 0))) H':=q;generalize hi:Lc j zs (zB r)=i at Z p1 q;obtain ⟨i,rfl⟩:=Int.eq_ofNat_of_zero_le Z
 have bx:i<zs.length:=by lia
 have aH:=bz (vU bx);obtain ⟨W,g1⟩:=hz _ (rb bx)
 have I:iM K S (i:Int) H λv H2=>G0 K [.ref lc,v] H2 Q E0:=by
  rwa[aN J aH ?_];exact Ri O @c @c W @c (q H (.refl _) (DK W))
 cases j with
 |false=>
  rwa[jA rfl ?_];rwa[ag av rfl ?_];have hi:(zB r).s=(i:Int):=hi;rw [hi];exact I
 |true=>
  rwa[dF (show ¬wX true=s!"zone" by decide+kernel) ?_];rwa[ag av rfl ?_];have J:aA K H S @ed:=J;rwa[b6 J ?_];show _/\_;rw [length_map];rwa[⟨by lia,?_⟩];have hi:(zB r).t% (zs.length:Int)=(i:Int):=hi;show iM K S ((zB r).t% (zs.length:Int)) H _;rw [hi];exact I
theorem Rb {k:Dk}{cs:List Cb}{ws:List aH}{r:aH}{last:Int}(h: -1<=(hG k cs ws r last).1):(hG k cs ws r last).2=if (hG k cs ws r last).1> -1/\k.wd=s!"turns" then (hG k cs ws r last).1 else last:=by
 by_cases e:k.wd=s!"turns"
 ·obtain rfl:=pG e;have h: -1<=jE cs last:=h;by_cases z:jE cs last= -1
  ·exact (if_pos z).trans (if_neg (λy=>by have O:jE cs last> -1:=y.1;lia)).symm
  ·exact (if_neg z).trans (if_pos ⟨show jE cs last> -1 by lia,e⟩).symm
 ·rw [if_neg (λy=>e y.2)]
  cases k with
  |turns=>exact absurd rfl e
  |_=>rfl
theorem ke {H H':Hp}{l:Addr}(s:aj H H')(n:H' l=none):H l=none:=by
 cases z:H l with
 |none=>rfl
 |some o=>rw [s _ _ z] at n;cases n
inductive uW (K:Fg)(vs:List V)(H:Hp)(Q:VK)(_e:XK):Prop
 |mk (a ns k0 h hs:_) (_:vs=[.ref a,.str (Dk.wd k0),.ref h]) (_:wr K H a ns) (_:jD K H h hs) (_:∀(k:Dk) l H',aj H H'->k.wd=k0.wd->k.ok hs->H' l=some (.lst @dC)->Q (.ref l) H')
theorem EQ (F:Z0 K "_law_numbers" mK f fd)(aU:mg "len"=none)(aG:mg "range"=none)(aO:Z00 P w K mg base):au P w K mg base aZ 3 f fd ["_law_script","_law_word","_law_house_here"] (uW K):=by
 rwa[F.ok zf (by symm) @i];obtain ⟨a,ns,I,h,hs,rfl,R,hH,q⟩:=h;obtain ⟨L,p,ls,O,hp,W⟩:=hH;have W:=W.len;have f2:=L.f2;have f8:=L.f8;have U:=L.l1;have l3:=L.l3;rwa[⟨_,(aa @a (fA @bf (fA @bf (ac (ao (bb rfl (ay (N':=["_law_k","_law_script","_law_house_here"]) (pk:=[none,some 0,some 2]) @l) (bE rfl aG @bN) @h @r @h)))))),?_⟩];rwa[xR (λσ H'=>H'=H/\σ=[some (.ref a),some (.str I.wd),some (.ref h),some (.int (if I.wd=s!"zone" then hs.fl else 0))]) ?_ ?_]
 ·rwa[eh @k @k]
  ·rwa[ag O rfl ?_];exact ⟨rfl,by rw [if_pos z];rfl⟩
  ·exact ⟨rfl,by rw [if_neg z];rfl⟩
 rintro σ' H' ⟨rfl,rfl⟩;rwa[xR (λσ H2=>H2=H'/\∃Y:Int,0<=Y/\Y<=9/\(∀G:List Int,(G.length:Int)=Y->(∀z∈G,0<=z/\z<(hs.ls.length:Int))->∃k:Dk,k.wd=I.wd/\k.is=G/\k.ok hs)/\σ=[some (.ref a),some (.str I.wd),some (.ref h),some (.int Y)]) ?_ ?_]
 ·rwa[eh @k @k]
  ·rwa[lH R @b @b @b @b λc c0 c1=> ?_];exact ⟨rfl,1+c,by lia,by lia,λG hi S=>⟨.num true G,z.symm,rfl,⟨(λe=>by cases e),(λ_=>by lia),S⟩⟩,rfl⟩
  ·rwa[⟨rfl,_,?_,?_,λG hi S=> ?_,rfl⟩]
   ·split<;>lia
   ·split<;>lia
   ·by_cases y:I.wd=s!"zone"
    ·rw [if_pos y] at hi;exact ⟨.num false G,y.symm,rfl,⟨λ_=>hi,(λe=>by cases e),S⟩⟩
    ·rw [if_neg y] at hi;obtain rfl:G=[]:=List.eq_nil_of_length_eq_zero @c
     cases I with
     |near=>exact ⟨.near,rfl,rfl,trivial⟩
     |least=>exact ⟨.least,rfl,rfl,trivial⟩
     |turns=>exact ⟨.turns,rfl,rfl,trivial⟩
     |num fx zs=>
      cases fx with
      |false=>exact absurd rfl y
      |true=>exact absurd rfl z
 rintro σ' H2 ⟨rfl,Y,c0,c9,ad,rfl⟩;rwa[⟨⟨by lia,by lia⟩,?_⟩];rwa[cE (λi zs J=>J=H2/\∃G:List Int,zs=G.map V.int/\G.length=i/\∀j∈G,0<=j/\j<(hs.ls.length:Int)) @S (λi zs J p=>by obtain ⟨_,G,rfl,e,_⟩:=p;rw [length_map];lia) ⟨rfl,[],rfl,rfl,λj hj=>nomatch hj⟩ (λi zs J hi p=> ?_) (λzs J p U ai=> ?_)]
 ·obtain ⟨rfl,G,rfl,bx,S⟩:=p;rwa[⟨bg,?_⟩];rwa[ag O rfl ?_];rwa[cI hp ?_];rwa[lH R @c @c @b @c λj j0 j1=> ?_];rwa[⟨rfl,G++[j],by rw [map_append];rfl,by rw [length_append,bx];rfl,λy Z=> ?_⟩]
  rcases mem_append.mp Z with z|z
  ·exact S y z
  ·rw [mem_singleton.mp z];exact ⟨j0,by lia⟩
 obtain ⟨rfl,G,rfl,bx,S⟩:=p;obtain ⟨k,e1,e2,e3⟩:=ad G @c S;exact q k U _ (.upd ai) e1 e3 (by rw [e2];exact af)
abbrev DR (H:Hp)(x:V)(d:Dd):Prop:=∃a,x=V.ref a/\rY H a d
theorem vZ {H H':Hp}{xs:List V}{ds:List Dd}(h:Paired (DR H) xs ds)(s:aj H H'):Paired (DR H') xs ds:=Paired.imp' (λx d ⟨a,e,z⟩=>⟨a,e,s _ _ z.1,z.2⟩) h
theorem MB {H:Hp}{l t:Addr}{zs:List V}{xs:List V}{ds:List Dd}{d:Dd}{o:List V}(W:H l=some (.lst zs))(G:Paired (DR H) xs ds)(J:H t=some (.tup d.v))(F:d.ok):Paired (DR (upd H l (.lst o))) (xs++[.ref t]) (ds++[d]):=by
 have L:∀ {y:Addr} {j:List V},H y=some (.tup j)->y≠l:=λ{y j} e z=>by rw [z,W] at e;cases e
 exact Paired.app (Paired.imp' (λx d ⟨a,e,z⟩=>⟨a,e,by rw [ak (L z.1)];exact z.1,z.2⟩) G) (.cons ⟨t,rfl,by rw [ak (L J)];exact J,F⟩ .nil)
inductive pV (K:Fg)(vs:List V)(H:Hp)(Q:VK)(_e:XK):Prop
 |mk (a ns h hs:_) (_:vs=[.ref a,.ref h]) (_:wr K H a ns) (_:jD K H h hs) (_:∀l xs as H',aj H H'->H l=none->H' l=some (.lst xs)->Paired (DR H') xs as->PD hs.ls.length as->Q (.ref l) H')
theorem B8 (F:Z0 K "_law_ahead" vx f fd)(aU:mg "len"=none)(aO:Z00 P w K mg base):au P w K mg base aZ 3 f fd ["_law_script","_law_house_here"] (pV K):=by
 rwa[F.ok DX (by symm) @i];obtain ⟨a,ns,h,hs,rfl,hS,hH,q⟩:=h;obtain ⟨ho,p,ls,hh,hp,hl⟩:=hH;have hl:=hl.len;have l1:=ho.l1;have l3:=ho.l3;rwa[⟨_,@cW,?_⟩];rwa[ag hh rfl ?_];rwa[cI hp ?_];rwa[lH hS @b @b @b @c λi R i1=> ?_];rwa[lH hS @b @b @b @b λJ w0 w1=> ?_];rwa[bX (bt (by show 2<=1000000;decide)) λt1 H1 U n1 e1=> ?_];rwa[gm (bt (by show 1<=1000000;decide)) λl1 H2 s2 n2 e2=> ?_];rwa[bX (bt (by show 2<=1000000;decide)) λt3 H3 S n3 e3=> ?_];rwa[gm (bt (by show 1<=1000000;decide)) λl2 H4 s4 n4 e4=> ?_];rwa[bX (bt (by show 2<=1000000;decide)) λt5 H5 s5 n5 e5=> ?_];rwa[bX (bt (by show 2<=1000000;decide)) λt6 H6 s6 n6 e6=> ?_];rwa[gm (bt (by show 2<=1000000;decide)) λW H7 L n7 e7=> ?_];rwa[gm (bt (by show 0<=1000000;decide)) λl4 H8 s8 n8 e8=> ?_];rwa[gm (bt (by show 0<=1000000;decide)) λl5 H9 s9 n9 e9=> ?_];rwa[gm (bt (by show 5<=1000000;decide)) λlo z sA nA G=> ?_];have z9:=s9.trans sA;have z8:=s8.trans z9;have z7:=L.trans z8;have z6:=s6.trans z7;have Y:=s5.trans z6;have z4:=s4.trans Y;have z3:=S.trans z4;have z2:=s2.trans z3;have I:=U.trans z2;have Z:=U.trans s2;have y4:=Z.trans (S.trans s4);have O:=y4.trans @cA;have y8:=O.trans (L.trans s8)
 have j:i<(hs.ls.length:Int):=by lia
 rcases (show J=0\/J=1\/J=2\/J=3\/J=4 by lia) with rfl|rfl|rfl|rfl|rfl
 ·rwa[aN @eB rfl ?_];exact q l1 _ [.lf "stick" i] z I (ke U n2) (z3 _ _ e2) (.cons ⟨t1,rfl,z2 _ _ e1,.inr (.inl rfl)⟩ .nil) (.inr ⟨i,R,j,.inl rfl⟩)
 ·rwa[aN @eB rfl ?_];exact q l2 _ [.lf "goods" i] z I (ke (Z.trans S) n4) (Y _ _ e4) (.cons ⟨t3,rfl,z4 _ _ e3,.inr (.inr (.inr (.inl rfl)))⟩ .nil) (.inr ⟨i,R,j,.inr (.inl rfl)⟩)
 ·rwa[aN @eB rfl ?_];exact q W _ [.lf "free" i,.lf "back" i] z I (ke O n7) (z8 _ _ e7) (.cons ⟨t5,rfl,z6 _ _ e5,.inr (.inr (.inl rfl))⟩ (.cons ⟨t6,rfl,z7 _ _ e6,.inr (.inr (.inr (.inr rfl)))⟩ .nil)) (.inr ⟨i,R,j,.inr (.inr rfl)⟩)
 ·rwa[aN @eB rfl ?_];exact q l4 _ [] z I (ke (O.trans L) n8) (z9 _ _ e8) .nil (.inl rfl)
 ·rwa[aN @eB rfl ?_];exact q l5 _ [] z I (ke y8 n9) (sA _ _ e9) .nil (.inl rfl)
inductive mm (K:Fg)(vs:List V)(H:Hp)(Q:VK)(_e:XK):Prop
 |mk (tc dp xs cs ds:_) (_:vs=[.ref tc,.ref dp]) (_:aC K H tc xs) (_:Paired @fE xs cs) (_:Bl K H dp ds) (_:Pk cs) (_:cs.length<=10) (_:ds.length<=100) (_:(∀d∈ds,∃x i,d= .lf x i/\uh x/\Dd.ok (.lf x i)/\0<=i/\i<(cs.length:Int))) (_:∀l ys H',aj H H'->H l=none->H' l=some (.lst ys)->Paired (b9 K H') ys (bO cs ds)->Pk (bO cs ds)->Q (.ref l) H')
theorem zO (F:Z0 K "_law_marked" qx f fd)(cc:mg "list"=none):au P w K mg base aZ 1 f fd ["_law_cabins","_law_deeds"] (mm K):=by
 rwa[F.ok mx (by symm) (λaz A outer s H vs Q E hr h=> ?_)];obtain ⟨tc,dp,xs,W,ds,rfl,hT,hC,⟨zs,hD,pD⟩,hm,aB,ay,ae,q⟩:=h;have xl:xs.length=W.length:=hC.len;have zl:zs.length=ds.length:=pD.len;rwa[⟨_,(aa (bD (i:=2) mx.nd rfl @q (aI (iE rfl) rfl cc boot_list @cf)) (aa (cm PassesOwn.never rfl @a @a (aa @a (aa (bD (i:=4) mx.nd rfl @q (Hw (Fy hr) (Hv (kY cY @a (kY cY @a (kY cY @a (kY cY @a Ho)))) rfl rfl @b @b) @a @ba)) (ac (gP @a (iQ (wv 2) @a nO)))))) @bO)),?_⟩];rwa[fC (.inr hT) λl H1 s1 n1 e1=> ?_];rwa[bK (s1.seq hD) ?_];rwa[dM (xs:=zs) (λj σ I=>aj H I/\∃(ys:List V) (o1 o2:Option V),I l=some (.lst ys)/\Paired (b9 K I) ys @eo/\Pk @eo/\σ=[some (.ref tc),some (.ref dp),some (.ref l),o1,o2]) ⟨s1,xs,_,_,e1,Paired.imp' (λx c z=>b9.keep z s1.st) hC,hm,rfl⟩ (λj σ I _ pv=>pv.1.seq hD) (λj x σ I hx pv=> ?_) (λσ I pv=> ?_)]
 ·obtain ⟨sY,ys,o1,o2,eY,Y,mY,rfl⟩:=pv;obtain ⟨d,hd,a,rfl,S⟩:=pD.get1 hx;have S:=S.same sY;have ok:=S.2;have dm:d∈ds:=mem_of_getElem? hd
  have et:bO W (ds.take (j+1))=rZ @eo d:=by
   unfold bO;rw [take_add_one,hd,foldl_append];rfl
  generalize an:bO W (ds.take j)=G at Y mY et
  have l0:G.length=W.length:=by rw [<-an,mX]
  have yl:ys.length=G.length:=Y.len;obtain ⟨x,i,rfl,ar,_,i0,i1⟩:=ae d dm;have hT:aC K I a [.str x,.int i]:=aC.of S.1
  have hi:i.toNat<G.length:=by lia
  obtain ⟨v,v0,v3,ev,hv⟩:=LZ mY hi ar
  have U:G[i.toNat]? =some (G.getD i.toNat lX):=by rw [getD_eq_getElem?_getD,getElem?_eq_getElem hi];rfl
  generalize G.getD i.toNat lX=c at ev hv U
  have ai:i.toNat<ys.length:=by lia
  obtain ⟨c',al,y,ey,aw⟩:=(Paired.imp' (λx c z=>b9.keep z (aj.refl I).st) Y).get1 (getElem?_eq_getElem ai);rw [U] at al;cases al;obtain ⟨ab,bs,ad,eb,db⟩:=aw
  have aH:lU ys i=some (.ref y):=by
   have z:ys[i.toNat]? =some (.ref y):=by rw [getElem?_eq_getElem ai,ey]
   have z2:=bz z;rw [show ((i.toNat:Nat):Int)=i by lia] at z2;exact z2
  have aV:yt ys.length i=some i.toNat:=by
   unfold yt;rw [if_pos i0,if_pos @c]
  have ah:=eY;have as:=hT;rwa[ag as rfl ?_];rwa[aN (aA.of ah) aH ?_];erw[ag (aC.of ad) rfl ?_];intro p np;rwa[⟨af,[(Sum.inr "stick",.int @dH),(Sum.inr "goods",.int @dI),(Sum.inr "free",.int @dx),(Sum.inr "back",.int @dy)],rfl,by show 4<=15;decide,?_⟩];obtain ⟨H3,ak⟩:∃H3,H3=upd (upd I p (.dK [])) p (.dK (iV [] [(Sum.inr "stick",.int @dH),(Sum.inr "goods",.int @dI),(Sum.inr "free",.int @dx),(Sum.inr "back",.int @dy)])):=⟨_,rfl⟩;rw [<-ak]
  have s3:aj I H3:=by rw [ak];exact aj.updF (.upd np) np
  have e3:H3 p=some (.dK (iV [] [(Sum.inr "stick",.int @dH),(Sum.inr "goods",.int @dI),(Sum.inr "free",.int @dx),(Sum.inr "back",.int @dy)])):=by rw [ak];exact af
  clear ak;erw[ag (s3.seqT as) rfl ?_]
  have hg:tL H3 p (.str x) (some (.int v)):=by
   have z:=tL.k (k:=Sum.inr x) e3;rw [QV,hv] at z;exact z
  erw[⟨p,_,rfl,hg,?_⟩];have Z:=s3.seqT as;have R:=s3 _ _ ah;rwa[ag Z rfl ?_];rwa[aN (aA.of R) aH ?_];rwa[gK (aC.of (s3 _ _ ad)) (by show ¬(HT.sIx 5 0 none=0/\HT.sIx 5 5 (some 3)=5);decide) λl4 H4 s4 n4 e4=> ?_];have e4:H4 l4=some (.tup [.int c.pl,.int c.li,.int c.dr]):=e4;rwa[bX (bt (by show 1<=1000000;decide)) λl5 H5 s5 n5 e5=> ?_];rwa[uA @cD e5 @e (bt (by show 3+1<=1000000;decide)) λl6 H6 s6 e6=> ?_];have e6:H6 l6=some (.tup [.int c.pl,.int c.li,.int c.dr,.int v]):=e6;have J:=s4.trans @cA;rwa[ag (J.seqT Z) rfl ?_];rwa[aN (aA.of (J _ _ R)) aH ?_];rwa[gK (aC.of (J _ _ (s3 _ _ ad))) (by show ¬(HT.sIx 5 0 (some 4)=0/\HT.sIx 5 5 none=5);decide) λl7 H7 s7 n7 e7=> ?_];have e7:H7 l7=some (.tup [.ref ab]):=e7;rwa[uA (aC.of (s7 _ _ e6)) e7 @e (bt (by show 4+1<=1000000;decide)) λl8 H8 s8 e8=> ?_];have e8:H8 l8=some (.tup [.int c.pl,.int c.li,.int c.dr,.int v,.ref ab]):=e8;have L:=J.trans (s7.trans s8);have O:=s3.trans L;rwa[ag (L.seqT Z) rfl ?_];rwa[nW (L _ _ R) aV ?_];have st:aJ H8 (upd H8 l (.lst (ys.set i.toNat (.ref l8)))):= .updL (L _ _ R);have av:aj H (upd H8 l (.lst (ys.set i.toNat (.ref l8)))):=aj.updF (sY.trans (O)) n1;rwa[⟨av,ys.set i.toNat (.ref l8),_,_,af,?_,?_,rfl⟩]
  ·rw [et,ev];have p8:Paired (b9 K H8) ys G:=Paired.imp' (λx c z=>b9.keep z (O).st) Y;have c8:b9 K H8 (.ref l8) {c with mr:=v}:=⟨l8,rfl,ab,bs,e8,O _ _ eb,ax.same db O⟩;exact gR (Paired.imp' @be p8) (c8.keep st)
  ·rw [et,ev];intro c1 ap
   rcases vK ap with z|z
   ·exact mY c1 z
   ·rw [z];exact ⟨v0,v3⟩
 obtain ⟨sY,ys,o1,o2,eY,Y,mY,rfl⟩:=pv;rw [zl,take_length] at Y mY;exact q l ys I sY n1 eY Y mY
theorem qR {a b:List D}(h1:noLs a=true)(h2:noLs b=true):noLs (a++b)=true:=by
 induction a with
 |nil=>exact h2
 |cons d a ih=>
  have h1:(noL d&&noLs a)=true:=h1;rw [Bool.and_eq_true] at h1;show (noL d&&noLs (a++b))=true;rw [Bool.and_eq_true];exact ⟨h1.1,ih h1.2⟩
theorem QK {α:Type}{xs:List α}{i:Nat}{x:α}(h:xs[i]? =some x):xs.set i x=xs:=by
 obtain ⟨h1,h2⟩:=List.getElem?_eq_some_iff.mp h;rw [<-h2];exact set_getElem_self h1
theorem FX {k:Dk}{X:MS}{j:Nat}{r:aH}{v:Int}(Y:v=(hG k X.cs X.ws r X.last).1)(F: -1<=v)(S:X.ws[j]? =some r)(z:r.lift= -1):(cR (hG k) X j r).ws=X.ws.set j {r with lift:=v}/\(cR (hG k) X j r).log=(if v> -1 then X.log++[ka r.tag v] else X.log)/\(cR (hG k) X j r).last=if v> -1/\k.wd=s!"turns" then v else X.last:=by
 have O:=Rb (k:=k) (cs:=X.cs) (ws:=X.ws) (r:=r) (last:=X.last) (by rw [<-Y];exact F);unfold cR;rw [<-Y] at O ⊢;by_cases y:v= -1
 ·rw [if_pos y,if_neg @c];rwa[⟨?_,rfl,O⟩]
  have:({r with lift:=v}:aH)=r:=by rw [y,<-z]
  rw [this,QK S]
 ·rw [if_neg y,if_pos @c];exact ⟨rfl,rfl,O⟩
theorem xQ {dl:uK}{M:MS}:∀ {i p:Nat},i<=p->(az dl M.ws i M).ws[p]? =M.ws[p]?
 |0,_,_=>rfl
 |i+1,p,h=>by
  have j:=xQ (dl:=dl) (M:=M) (i:=i) (p:=p) @c;unfold az;split
  ·split
   ·unfold cR;split
    ·exact j
    ·show ((az dl M.ws i M).ws.set i _)[p]? =_;rw [getElem?_set_ne @c];exact j
   ·exact j
  ·exact j
theorem uy {dl:uK}{W:List aH}{M:MS}(h:M.log=[]):∀i,noLs (az dl W i M).log=true
 |0=>by show noLs M.log=true;rw [h];rfl
 |i+1=>by
  have j:=uy (dl:=dl) (W:=W) h i;unfold az;split
  ·split
   ·unfold cR;split
    ·exact j
    ·exact qR j rfl
   ·exact j
  ·exact j
theorem rp {k:Dk}{W:List aH}{M:MS}(h:0<=M.last):∀i,0<=(az (hG k) W i M).last
 |0=>h
 |i+1=>by
  have j:=rp (k:=k) (W:=W) h i
  have I:∀X:MS,∀r,0<=X.last->0<=(hG k X.cs X.ws r X.last).2:=λX r z=>by
   cases k with
   |turns=>
    show 0<=if jE X.cs X.last= -1 then X.last else jE X.cs X.last;have:=DK (bs:=aT (X.cs.map fo)) (first:=X.last+1) @c;have: -1<=jE X.cs X.last:=this;split<;>lia
   |_=>exact z
  unfold az;split
  ·split
   ·unfold cR;split<;>exact I _ _ j
   ·exact j
  ·exact j
theorem kW (rs:List aH):noLs @K=true:=by
 induction rs with
 |nil=>rfl
 |cons r rs ih=>exact ih
inductive pT (K:Fg)(vs:List V)(H:Hp)(Q:VK)(_e:XK):Prop
 |mk (k ln lc lr M xs:_) (_:vs=[.str (Dk.wd k),.ref ln,.ref lc,.ref lr,.int (MS.last M)]) (_:aA K H ln @dC) (_:bd K H lc (M.cs.map fo)) (_:H lr=some (.lst xs)) (_:ax K H xs @fd) (_:M.log=[]) (_:0<=M.last) (_:1<=M.cs.length) (_:M.cs.length<=3) (_:M.ws.length<=64) (_:(∀r∈M.ws,k.fit M.cs.length r)) (_:∀t lw lg ys zs H',aj H H'->H' t=some (.tup [.ref lw,.ref lg,.int (az (hG k) M.ws M.ws.length M).last])->H' lw=some (.lst ys)->ax K H' ys ((az (hG k) M.ws M.ws.length M).ws.map aH.d)->H' lg=some (.lst zs)->ax K H' zs (az (hG k) M.ws M.ws.length M).log->Q (.ref t) H')
theorem IR {H:Hp}{k:Dk}{S lc F:Addr}{M:MS}{xs:List V}{Q:VK}{E:XK}(h1:aA K H S @dC)(h2:bd K H lc (M.cs.map fo))(L:H F=some (.lst xs))(J:ax K H xs @fd)(U:M.log=[])(I:0<=M.last)(R:1<=M.cs.length)(O:M.cs.length<=3)(G:M.ws.length<=64)(j:∀r∈M.ws,k.fit M.cs.length r){last:Int}(z:M.last=last)(g:∀t lw lg ys zs H',aj H H'->H' t=some (.tup [.ref lw,.ref lg,.int (az (hG k) M.ws M.ws.length M).last])->H' lw=some (.lst ys)->ax K H' ys ((az (hG k) M.ws M.ws.length M).ws.map aH.d)->H' lg=some (.lst zs)->ax K H' zs (az (hG k) M.ws M.ws.length M).log->Q (.ref t) H'):pT K [.str k.wd,.ref S,.ref lc,.ref F,.int last] H Q E:=by
 subst z;exact ⟨k,S,lc,F,M,xs,rfl,h1,h2,L,J,U,I,R,O,G,j,g⟩
theorem B6 (F:Z0 K "_law_dealt" vv f fd)(aU:mg "len"=none)(aG:mg "range"=none)(cc:mg "list"=none)(ja:aR P w K mg base 3 "_law_told_lift" ["_law_word","_law_numbers_here","_law_cabins","_law_waiting","_law_rider_here","_law_last"] (yN K)):au P w K mg base aZ 4 f fd ["_law_word","_law_numbers_here","_law_cabins","_law_riders","_law_last"] (pT K):=by
 rwa[F.ok xg (by symm) (λaV A outer s H vs Q E hr h=> ?_)];obtain ⟨k,ln,lc,lr,M,xs,rfl,hN,hC,eR,dR,L,l0,c1,c3,aW,aJ,q⟩:=h;have xl:xs.length=M.ws.length:=aD dR;rwa[⟨_,(aa (bD (i:=5) xg.nd rfl @q (aI (iE rfl) rfl cc boot_list @bN)) (aa @a (aa (cm PassesOwn.never rfl @bQ @a (ac (aB @a (aa @a (aa (gP @a (iQ (wv 5) (wv 7) nO)) (fA (aB @a @D ar) (ac @bf)))) ar))) @j))),?_⟩];rwa[fC (.inl (aA.of eR)) λlw H1 s1 n1 e1=> ?_];rwa[gm (bt (by show 0<=1000000;decide)) λlg H2 s2 n2 e2=> ?_];have ay:=s2 _ _ e1
 have ne:lw≠lg:=λz=>by rw [z,n2] at e1;cases e1
 have aS:H lg=none:=ke s1 n2;rwa[b6 (aA.of ay) ?_];rwa[⟨⟨by lia,by lia⟩,?_⟩];rwa[cB (λj σ HY=>aj H HY/\∃(ys zs:List V) (o7 o8:Option V),HY lw=some (.lst ys)/\ax K HY ys ((az (hG k) M.ws j M).ws.map aH.d)/\HY lg=some (.lst zs)/\ax K HY zs (az (hG k) M.ws j M).log/\σ=[some (.str k.wd),some (.ref ln),some (.ref lc),some (.ref lr),some (.int (az (hG k) M.ws j M).last),some (.ref lw),some (.ref lg),o7,o8]) ⟨s1.trans s2,xs,[],_,_,ay,ax.same dR (s1.trans s2),e2,by show ax K H2 [] M.log;rw [L];exact .nil,rfl⟩ (λj σ HY hj pv=> ?_) @ec]
 ·obtain ⟨sY,ys,zs,o7,o8,eW,S,eG,dG,rfl⟩:=pv
  have i0:(0:Int)+(j:Nat)=((j:Nat):Int):=by lia
  rw [i0]
  have hj:j<M.ws.length:=by lia
  have U:M.ws[j]? =some M.ws[j]:=getElem?_eq_getElem hj;generalize M.ws[j]=r at U;have an:(az (hG k) M.ws j M).ws[j]? =some r:=(xQ @f).trans U;have ae:=uy (dl:=hG k) (W:=M.ws) L j;obtain ⟨aQ,aw,aP⟩:=dN (dl:=hG k) (W:=M.ws) (M:=M) j;have aM:=rp (k:=k) (W:=M.ws) l0 j
  have hY:az (hG k) M.ws (j+1) M=if r.lift= -1 then cR (hG k) (az (hG k) M.ws j M) j r else az (hG k) M.ws j M:=by
   show (match M.ws[j]? with|some r=>_|none=>_)=_;rw [U]
  rw [L,length_nil] at aP;rw [hY];generalize az (hG k) M.ws j M=X at S dG an ae aQ aw aP aM;have yl:ys.length=X.ws.length:=aD S;have zl:zs.length=X.log.length:=dG.len
  have aT:j<ys.length:=by lia
  have hy:=getElem?_eq_getElem aT;obtain ⟨r',aO,dy⟩:=bc (f:=aH.d) S hy;rw [an] at aO;cases aO;obtain ⟨ra,ey,hT⟩:=cJ dy;rw [ey] at hy dy;have al:=bz hy;rwa[aN (aA.of eW) al ?_];rwa[ag hT rfl ?_];rwa[eh @k @k]
  ·rw [if_pos z];rwa[aN (aA.of eW) al ?_];rwa[yN.mk k _ _ _ _ _ (M.cs) (X.ws) r rfl (sY.seq hN) (hC.same sY) (Eh (.inl (aA.of eW)) S) dy ⟨c1,c3,by lia,aM,aJ r (mem_of_getElem? U)⟩ λH3 R ge=> ?_];obtain ⟨v,hv⟩:∃v,v=(hG k M.cs X.ws r X.last).1:=⟨_,rfl⟩;rw [<-hv] at ge ⊢;rw [<-aw] at hv;obtain ⟨d1,d2,d3⟩:=FX hv ge an z;generalize cR (hG k) X j r=Y at d1 d2 d3;rw [d1,d2,d3];have aL:=R _ _ eW;rwa[aN (aA.of aL) al ?_];rwa[gK @dv (by show ¬(HT.sIx 4 0 none=0/\HT.sIx 4 4 (some 3)=4);decide) λt4 H4 s4 n4 e4=> ?_];have e4:H4 t4=some (.tup [.int r.tag,.int r.start,.int r.goal]):=e4;rwa[bX (bt (by show 1<=1000000;decide)) λt5 H5 s5 n5 e5=> ?_];rwa[uA @cD e5 @e (bt (by show 3+1<=1000000;decide)) λG H6 s6 e6=> ?_];have e6:H6 G=some (.tup [.int r.tag,.int r.start,.int r.goal,.int v]):=e6;have ab:=s4.trans @cA;have O:=ab _ _ aL;rwa[nW (j:=j) O (by unfold yt;rw [if_pos @c,if_pos @c];congr 1) ?_];have st:aj H (upd H6 lw (.lst @F)):=aj.updF (sY.trans (R.trans ab)) n1;have a3:=R.trans ab
   have as:ax K (upd H6 lw (.lst @F)) @F ((X.ws.set j {r with lift:=v}).map aH.d):=by
    rw [map_set];exact gR (dA (ax.same S a3) (kW _) O) (bH.noL (d:=aH.d {r with lift:=v}) (hI (aC.of e6) (.cons (.int _) (.cons (.int _) (.cons (.int _) (.cons (.int _) .nil))))) rfl O)
   have ai:=dA (o:= .lst @F) (ax.same dG a3) ae O;have Z:upd H6 lw (.lst @F) lw=some (.lst @F):=af
   have I:upd H6 lw (.lst @F) lg=some (.lst zs):=by rw [ak ne.symm];exact a3 _ _ eG
   have aE:upd H6 lw (.lst @F) G=some (.tup [.int r.tag,.int r.start,.int r.goal,.int v]):=by
    rw [ak (λz=>by rw [z,O] at e6;cases e6)];exact e6
   generalize upd H6 lw (.lst @F)=H7 at st as ai Z I aE;have aF:lU @F (j:Int)=some (.ref G):=bz (by rw [getElem?_set_self @c]);rwa[xR (λσ H8=>aj H H8/\H8 lw=some (.lst @F)/\ax K H8 @F ((X.ws.set j {r with lift:=v}).map aH.d)/\(∃J,H8 lg=some (.lst J)/\ax K H8 J (if v> -1 then X.log++[ka r.tag v] else X.log))/\σ=[some (.str k.wd),some (.ref ln),some (.ref lc),some (.ref lr),some (.int X.last),some (.ref lw),some (.ref lg),some (.int (j:Int)),some (.int v)]) ?_ ?_]
   ·rwa[eh @cU @cU]
    ·rwa[⟨.inl ⟨rfl,_,aA.of I⟩,?_⟩];rwa[aN (aA.of Z) aF ?_];rwa[ag (aC.of aE) rfl ?_];rwa[bX (bt (by show 3<=1000000;decide)) λt9 H9 s9 n9 e9=> ?_];rwa[gB @fx @dh ?_];rwa[⟨aj.updF (st.trans s9) aS,by rw [ak ne];exact s9 _ _ Z,dA (ax.same as s9) (kW _) @fx,⟨_,af,?_⟩,rfl⟩];rw [if_pos y];exact Paired.app (dA (ax.same ai s9) ae @fx) (.cons (bH.noL (d:=ka r.tag v) (hI (aC.of e9) (.cons (.str _) (.cons (.int _) (.cons (.int _) .nil)))) rfl @fx) .nil)
    ·rwa[⟨st,Z,as,⟨zs,I,by rw [if_neg y];exact ai⟩,rfl⟩]
   rintro σ' H8 ⟨s8,ap,ah,⟨J,ad,av⟩,rfl⟩;by_cases y:v> -1
   ·rwa[jA y ?_];rwa[eh @cX @cX]
    ·exact ⟨s8,_,J,_,_,ap,ah,ad,av,by rw [if_pos ⟨y,u⟩];rfl⟩
    ·exact ⟨s8,_,J,_,_,ap,ah,ad,av,by rw [if_neg (λh=>u h.2)]⟩
   ·rwa[dF y ?_];rwa[be rfl ?_];exact ⟨s8,_,J,_,_,ap,ah,ad,av,by rw [if_neg (λh=>y h.1)]⟩
  ·rw [if_neg z];exact ⟨sY,ys,zs,_,_,eW,S,eG,dG,rfl⟩
 obtain ⟨sY,ys,zs,o7,o8,eW,S,eG,dG,rfl⟩:=pv;rw [show ((xs.length:Int)).toNat=M.ws.length by lia] at S dG ⊢;rwa[bX (bt (by show 3<=1000000;decide)) λt H3 R n3 e3=> ?_];exact q t lw lg ys zs H3 (sY.trans R) e3 (R _ _ eW) (ax.same S R) (R _ _ eG) (ax.same dG R)
inductive Rw where
 |deal (t i:Int)
 |step (s:Sx)
noncomputable def Rw.d:Rw->D
 | .deal t i=>ka t i
 | .step s=>s.d
noncomputable def Rw.v:Rw->List V
 | .deal t i=>[.str "deal",.int t,.int i]
 | .step s=>[.str (sW s.b),.int s.t,.int s.i,.int s.fl]
noncomputable def Rw.wd:Rw->Str
 | .deal _ _=>s!"deal"
 | .step s=>sW s.b
def Rw.t:Rw->Int
 | .deal t _=>t
 | .step s=>s.t
theorem D9 {H:Hp}{x:V}{r:Rw}(h:bH K H x r.d):∃a,x= .ref a/\aC K H a r.v:=by
 cases r with
 |deal t i=>
  obtain ⟨a,xs,rfl,h1,h2⟩:=bH.outT h
  cases h2 with|cons q0 t0=>cases t0 with|cons q1 t1=>cases t1 with|cons q2 t2=>
  cases t2;cases q0.isStr;cases q1.isInt;cases q2.isInt;exact ⟨a,rfl,h1⟩
 |step s=>
  obtain ⟨a,xs,rfl,h1,h2⟩:=bH.outT h
  cases h2 with|cons q0 t0=>cases t0 with|cons q1 t1=>cases t1 with|cons q2 t2=>cases t2 with|cons q3 t3=>
  cases t3;cases q0.isStr;cases q1.isInt;cases q2.isInt;cases q3.isInt;exact ⟨a,rfl,h1⟩
theorem JL {r:Rw}:lU r.v 0=some (.str r.wd)/\lU r.v 1=some (.int r.t):=by cases r<;>exact ⟨rfl,rfl⟩
theorem Rw.row (L:List Rw):∀d∈L.map Rw.d,Gw d:=λd J=>by
 obtain ⟨r,_,rfl⟩:=mem_map.mp J
 cases r with
 |deal t i=>exact ⟨_,t,[i],rfl,by show 1<=10;decide⟩
 |step s=>exact ⟨_,s.t,[s.i,s.fl],rfl,by show 2<=10;decide⟩
theorem Ob {b:Bool}:sW b=s!"in"↔b=true:=by cases b<;>exact ⟨λh=>by first|rfl|(exact absurd h @g),λh=>by first|rfl|cases h⟩
noncomputable def oM (R:List Rw):List Int:=(R.filter λr=>decide (r.wd=s!"in")).map Rw.t
theorem uq {R:List Rw}{r:Rw}:oM (R++[r])=oM R++if r.wd=s!"in" then [r.t] else []:=by
 unfold oM;rw [filter_append,map_append];congr 1;by_cases z:r.wd=s!"in"
 ·rw [if_pos z];simp [filter_cons,z]
 ·rw [if_neg z];simp [filter_cons,z]
theorem Fw {j:List (Int×Int)}{L:List Sx}:oM (j.map (λp=>Rw.deal p.1 p.2)++L.map Rw.step)=g9 L:=by
 have h1:∀j:List (Int×Int),oM (j.map λp=>Rw.deal p.1 p.2)=[]:=λj=>by
  induction j with
  |nil=>rfl
  |cons p j ih=>
   unfold oM;rw [map_cons,filter_cons_of_neg (by show ¬decide (s!"deal"=s!"in")=true;decide+kernel)];exact ih
 have h2:∀L:List Sx,oM (L.map Rw.step)=g9 L:=λL=>by
  unfold oM g9;rw [List.filter_map,map_map];congr 1;congr 1
  funext s
  show decide (sW s.b=s!"in")=s.b;rw [Bool.eq_iff_iff,decide_eq_true_eq];exact Ob
 unfold oM at h1 h2 ⊢;rw [filter_append,map_append,h1,h2];rfl
theorem rn {dl:uK}{W:List aH}{M:MS}(h:M.log=[]):∀i,∃gs:List (Int×Int),(az dl W i M).log=gs.map (λp=>ka p.1 p.2)
 |0=>⟨[],h⟩
 |i+1=>by
  obtain ⟨gs,j⟩:=rn (dl:=dl) (W:=W) h i;unfold az;split
  ·split
   ·unfold cR;split
    ·exact ⟨gs,j⟩
    ·rename_i r _ _ _;exact ⟨gs++[(r.tag,(dl (az dl W i M).cs (az dl W i M).ws r (az dl W i M).last).1)],by show _++_=_;rw [j,map_append];rfl⟩
   ·exact ⟨gs,j⟩
  ·exact ⟨gs,j⟩
theorem FU (j:List (Int×Int)):rf (.lst @db)<=60:=by
 have:deps @db<=1:=by
  induction j with
  |nil=>decide
  |cons r rs ih=>show max (rf (ka r.1 r.2)) (deps (rs.map λp=>ka p.1 p.2))<=1;exact Nat.max_le.mpr ⟨(by show max 0 (max 0 (max 0 0))+1<=1;lia),ih⟩
 show deps @db+1<=60;lia
theorem rg {H:Hp}{b:List D}:∀ {a:List D} {xs:List V},ax K H xs (a++b)->ax K H (xs.take a.length) a/\ax K H (xs.drop a.length) b
 |[],xs,h=>⟨.nil,h⟩
 |d::a,xs,h=>by
  obtain ⟨y,ys,rfl,h1,h2⟩:=lI h;obtain ⟨j,z⟩:=rg h2;exact ⟨.cons h1 j,z⟩
theorem O4 {xs:List V}{n:Nat}:fV xs none (some (n:Int))=xs.take n:=by
 unfold fV;rw [HT.sIx_nat,show HT.sIx xs.length 0 none=0 from rfl,drop_zero];by_cases h:n<=xs.length
 ·congr 1;show min n xs.length - 0=n;lia
 ·rw [take_of_length_le,take_of_length_le]<;>lia
theorem O5 {xs:List V}{n:Nat}:fV xs (some (n:Int)) none=xs.drop n:=by
 unfold fV;rw [HT.sIx_nat];by_cases h:n<=xs.length
 ·rw [show min n xs.length=n by lia];exact take_of_length_le (by rw [length_drop];exact Nat.le_refl _)
 ·rw [List.drop_eq_nil_of_le @c,List.drop_eq_nil_of_le (show xs.length<=n by lia)];exact List.take_nil
inductive oX (K:Fg)(vs:List V)(H:Hp)(Q:VK)(_e:XK):Prop
 |mk (r t st ll lw lg cs ws last zl ys zg:_) (W:List aH) (gs:List (Int×Int)) (L:List Sx) (_:vs=[.ref r,.ref t]) (_:H r=some (.tup [.ref st,.ref ll])) (_:jb K H st cs ws last false) (_:H ll=some (.lst zl)) (_:ax K H zl ((List.map (λp:Int×Int=>ka p.1 p.2) gs)++L.map Sx.d)) (_:H t=some (.tup [.ref lw,.ref lg,.int last])) (_:H lw=some (.lst ys)) (_:ax K H ys (W.map aH.d)) (_:H lg=some (.lst zg)) (_:ax K H zg (gs.map λp=>ka p.1 p.2)) (_:ws=W.filter (λr=> !decide (r.tag∈g9 L))) (_:zl.length<=4000) (_:W.length<=64) (_:∀H',aj H H'->Q (.bl true) H')
theorem EJ (F:Z0 K "_law_right" vm f fd)(bv:mg "isinstance"=none)(bo:mg "tuple"=none)(aU:mg "len"=none)(nj:aR P w K mg base 2 "_law_rows" ["_law_log"] (yP K))(dO:aR P w K mg base 1 "_law_whole" ["_law_thing"] kE):au P w K mg base aZ 3 f fd ["_law_told","_law_due"] (oX K):=by
 rwa[F.ok xa (by symm) (λaJ A outer s H vs Q E Z h=> ?_)];obtain ⟨r,t,st,ll,lw,lg,cs,ws,S,zl,ys,zg,W,gs,L,rfl,Y,aw,O,ah,et,an,av,ae,ak,aG,z4,aQ,q⟩:=h
 obtain ⟨R,hR,aE,aO⟩:∃R:List Rw,R.map Rw.d=(gs.map λp=>ka p.1 p.2)++L.map Sx.d/\oM R=g9 L/\R.drop gs.length=L.map Rw.step:=⟨gs.map (λp=> .deal p.1 p.2)++L.map .step,by rw [map_append,map_map,map_map];rfl,Fw,by
  have:(gs.map λp:Int×Int=>Rw.deal p.1 p.2).length=gs.length:=length_map _
  rw [<-this,List.drop_left]⟩
 have gl:zg.length=gs.length:=by rw [ak.len,length_map]
 obtain ⟨aK,aL,aN,aP,g1,g2,g3,g4,g5⟩:=aw
 have dR:ax K H zl (R.map Rw.d):=by rw [hR];exact ah
 have zR:zl.length=R.length:=aD dR;obtain ⟨al,ai⟩:=rg ah;rw [length_map,<-gl] at al ai;have yl:ys.length=W.length:=aD av;rwa[⟨_,(aa (gP (wv 1) @a) (aa (aB (PW.pt (tO (d6 (iA rfl (aY (oU rfl) rfl bv boot_isinstance (aq (wv 0) (aq (jo (v:= .ty "tuple") rfl bo boot_tuple rfl) am))))) (tO (ck (wG rfl Z) (aY @fH rfl aU PySem.boot_len @cf) aM (bR _)) (vD (d6 (iA rfl (b7 nj Z @b rfl (aq @p am)))))))) @bq ar) (aa (aB (ck (wG rfl Z) (kZ (Ax rfl) @p o9 (oR (aY @fH rfl aU PySem.boot_len @bN))) (wv 3) (bR _)) @bq ar) (aa (cm PassesOwn.never rfl (lY rfl (kZ (Ax rfl) @p (oR (aY @fH rfl aU PySem.boot_len @bN)) o9)) @a (ac (aB (ck (tS rfl Z) (cQ (fI rfl) (wv 5) aM @ba) cY (bR _)) @bq ar))) (aa (bD (i:=6) xa.nd rfl @dQ (bb rfl (ay (N':=["_law_row"]) (pk:=[none]) @l) (lY rfl @p) @h (λC s H ex=>(dj (ck (tS rfl Z) @p cY (bR _)))) (λC s H ex=>@p))) (aa (aB (ck (wG rfl Z) @dk (aI @da rfl bo boot_tuple (aq (bb rfl (ay (N':=["_law_one","_law_ins"]) (pk:=[none,some 6]) @l) (lY rfl (wv 2)) @h (λC s H ex=>(dj (ck (oS rfl) @p (wv 1) @Y))) @H) am)) (bR _)) @bq ar) (ac (ao (yB (b7 dO Z @b rfl (aq @dk am)) (zE (dQ (tS rfl Z) @dk (wv 4) (bR _)))))))))))),?_⟩];rwa[kz @fu rfl ?_];rwa[Fu rfl (.tup Y) rfl ?_];rwa[be rfl ?_];rwa[cI (aC.of Y) ?_];rwa[be rfl ?_];rwa[ag (aC.of Y) rfl ?_];rwa[yP.mk _ _ _ rfl O dR (Rw.row R) (by rw [length_map,<-zR];exact z4) λH1 s1=> ?_];rwa[be rfl ?_];rwa[ag (aC.of (s1 _ _ Y)) rfl ?_];rwa[b6 (aA.of (s1 _ _ ae)) ?_];rwa[o0 (aA.of (s1 _ _ O)) λl2 H2 s2 n2 e2=> ?_];rw [O4] at e2;have I:=s1.trans s2;rwa[FP (O3 @dV (ax.same al I)) (O3 (aA.of (I _ _ ae)) (ax.same ak I)) (FU gs) ?_];rwa[be rfl ?_];rwa[ag (aC.of (I _ _ Y)) rfl ?_];rwa[b6 (aA.of (I _ _ ae)) ?_];rwa[o0 (aA.of (I _ _ O)) λl3 H3 s3 n3 e3=> ?_];rw [O5] at e3;have ad:=I.trans s3;rwa[bK (aA.of e3) ?_];rwa[dM (xs:=zl.drop zg.length) (λi σ HX=>HX=H3/\∃o5 o6,σ=[some (.ref r),some (.ref t),some (.ref lw),some (.ref lg),some (.int S),o5,o6]) ⟨rfl,_,_,rfl⟩ (λi σ HX _ pv=>by rw [pv.1];exact aA.of e3) (λi x σ HX hx pv=> ?_) (λσ HX pv=> ?_)]
 ·obtain ⟨rfl,o5,o6,rfl⟩:=pv;obtain ⟨sx,_,dx⟩:=bc ai hx;obtain ⟨a,rfl,hT⟩:=D9 (r:= .step sx) (bH.same dx ad);rwa[ag hT rfl ?_];rwa[dF (by cases sx.b<;>decide+kernel) ?_];exact ⟨rfl,_,_,rfl⟩
 obtain ⟨rfl,o5,o6,rfl⟩:=pv;rwa[ag (aC.of (ad _ _ Y)) rfl ?_];rwa[bK (aA.of (ad _ _ O)) ?_];rwa[bu (xs:=zl) (λi G H4=>H4=HX/\G=(oM (R.take i)).map V.int) @S (λi G H4 h=>by rw [h.2,length_map];unfold oM;rw [length_map];exact Nat.le_trans @bp (by rw [length_take];exact Nat.min_le_left _ _)) ⟨rfl,rfl⟩ (λi G H4 _ h=>by rw [h.1];exact aA.of (ad _ _ O)) (λi x G H4 hx h=> ?_) (λG H4 h l5 n5=> ?_)]
 ·obtain ⟨rfl,rfl⟩:=h;obtain ⟨J,az,dx⟩:=bc dR hx;obtain ⟨a,rfl,hT⟩:=D9 (bH.same dx ad)
  have nx:R.take (i+1)=R.take i++[J]:=by rw [take_add_one,az];rfl
  rwa[⟨bg,?_⟩];rwa[ag hT (v:= .str J.wd) JL.1 ?_];show if decide (J.wd=s!"in")=true then _ else _;by_cases z:J.wd=s!"in"
  ·rw [if_pos @X];rwa[ag hT (v:= .int J.t) JL.2 ?_];rwa[⟨rfl,?_⟩];rw [nx,uq,if_pos z,map_append];rfl
  ·rw [if_neg (by rw [decide_eq_false z];decide)];exact ⟨rfl,by rw [nx,uq,if_neg z,append_nil]⟩
 obtain ⟨rfl,rfl⟩:=h;rw [zR,take_length,aE];generalize ab:upd H4 l5 _=H5
 have s5:aj H4 H5:=by rw [<-ab];exact .upd n5
 have e5:H5 l5=some (.lst ((g9 L).map V.int)):=by rw [<-ab];exact af
 clear ab;have as:=ad.trans s5;rwa[ag (aC.of (as _ _ Y)) rfl ?_];rwa[ag (as.seqT g1) rfl ?_];rwa[bK (aA.of (as _ _ an)) ?_];rwa[bu (xs:=ys) (λi G U=>U=H5/\ax K H5 G (((W.take i).filter (λr=> !decide (r.tag∈g9 L))).map aH.d)) @S (λi G U h=>by rw [aD h.2];exact Nat.le_trans @bp (by rw [length_take];exact Nat.min_le_left _ _)) ⟨rfl,.nil⟩ (λi G U _ h=>by rw [h.1];exact aA.of (as _ _ an)) (λi x G U hx h=> ?_) (λG U h l7 n7=> ?_)]
 ·obtain ⟨rfl,du⟩:=h;obtain ⟨rd,aF,dx⟩:=bc av hx;have dx:=bH.same dx as;obtain ⟨a,rfl,hT⟩:=cJ dx
  have nx:W.take (i+1)=W.take i++[rd]:=by rw [take_add_one,aF];rfl
  rwa[⟨bg,?_⟩];rwa[ag hT rfl ?_];rwa[tZ (aA.of e5) rfl (uu _) ?_];rw [A0];show if (!decide (rd.tag∈g9 L))=true then _ else _;rw [nx,filter_append,map_append];by_cases z:rd.tag∈g9 L
  ·rw [if_neg (by rw [decide_eq_true z];decide)];rwa[⟨rfl,?_⟩];rw [filter_cons_of_neg (by rw [decide_eq_true z];decide)];simpa using du
  ·rw [if_pos (by rw [decide_eq_false z];decide)];rwa[⟨rfl,?_⟩];rw [filter_cons_of_pos (by rw [decide_eq_false z];decide)];exact Paired.app du (.cons dx .nil)
 obtain ⟨rfl,du⟩:=h;rw [yl,take_length,<-aG] at du;have s7:aj U (upd U l7 (.lst G)):= .upd n7;have e7:upd U l7 (.lst G) l7=some (.lst G):=af;generalize upd U l7 (.lst G)=H7 at s7 e7 ⊢;rwa[fJ (aA.of e7) λt8 H8 s8 n8 e8=> ?_];have ap:=s7.trans s8;have j:=as.trans ap;rwa[FP (hI (j.seqT g3) (ax.same g5 j)) (hI (aC.of e8) (ax.same du ap)) (FV ws) ?_];rwa[be rfl ?_];rwa[ag (aC.of (j _ _ Y)) rfl ?_];rwa[ag (j.seqT g1) rfl ?_];rwa[kE.mk _ rfl ?_];rwa[bL rfl ?_];rwa[ag (aC.of (j _ _ Y)) rfl ?_];rwa[ag (j.seqT g1) rfl ?_];show Q (.bl (decide (S=S))) H8;rw [decide_eq_true rfl];exact q H8 j
theorem FM {α:Type}{CX:oH}{k:Nat}{ps:List Str}{sp:α->Sp}(F:∀a,au P w K mg base CX k f fd ps (sp a))(W:∀vs H Q E,(∃a,sp a vs H Q E)->vs.length=ps.length):au P w K mg base CX k f fd ps (λvs H Q E=>∃a,sp a vs H Q E):=
 ⟨λvs H Q E ⟨a,q⟩=>(F a).len vs H Q E q,λA outer s H z j vs Q E S U G Y ⟨a,hs⟩=>(F a).run A outer s H z j vs Q E S U G Y hs⟩
theorem Bb {n:Nat}{x:Str}{ps:List Str}{sp j:Sp}(c:aR P w K mg base n x ps sp)(h:∀vs H Q E,j vs H Q E->sp vs H Q E):aR P w K mg base n x ps j:=by
 obtain ⟨f,fd,F,b⟩:=c.ex;exact ⟨f,fd,F.imp h,b⟩
def oZ (P:Program)(w:World)(K:Fg)(mg:Str->Option Value)(base:Heap)(C:Addr):Sp:=λvs H Q E=>∃q:Dq,pZ P w K mg base C q.G q.L q.p q.d vs H Q E
def kN (P:Program)(w:World)(K:Fg)(mg:Str->Option Value)(base:Heap)(C:Addr):Sp:=λvs H Q E=>∃q:Dq,kO P w K mg base C q.G q.L q.p q.d vs H Q E
def jj (P:Program)(w:World)(K:Fg)(mg:Str->Option Value)(base:Heap):Sp:=λvs H Q E=>∃q:Dq,yM P w K mg base q.G q.L q.p q.d vs H Q E
theorem E1 {C:Addr}{J:Tok}(F:Z0 K "deal" AK f fd)(I:wt K C)(O:mg "tuple"=none)(j:mg "NO_LIFT"=some (.int (-1) J))(z:Z07 P w K mg base):au P w K mg base aZ 6 f fd ["moment","dealer","place","rider"] (oZ P w K mg base C):=by
 have G:∀q:Dq,au P w K mg base aZ 6 f fd ["moment","dealer","place","rider"] (pZ P w K mg base C q.G q.L q.p q.d):=λq=>Iz F q.gT q.lN I O j z;exact FM G λR H Q E ⟨k,h⟩=>(G k).len R H Q E h
theorem Cc {C:Addr}{J:Tok}(F:Z0 K "deal_all" kU f fd)(I:wt K C)(S:mg "list"=none)(z:mg "enumerate"=none)(j:mg "NO_LIFT"=some (.int (-1) J))(O:aR P w K mg base 6 "deal" ["moment","dealer","place","rider"] (oZ P w K mg base C)):au P w K mg base aZ 7 f fd ["moment","dealer"] (kN P w K mg base C):=by
 have G:∀q:Dq,au P w K mg base aZ 7 f fd ["moment","dealer"] (kO P w K mg base C q.G q.L q.p q.d):=λq=>E2 F q.gT q.lN I S z j (Bb O λR H Q E h=>⟨q,h⟩);exact FM G λR H Q E ⟨k,h⟩=>(G k).len R H Q E h
theorem EG {Z:Addr}(F:bA K "turn" "Court.turn" gO f fd)(j:wt K Z)(W:mg "len"=none)(J:mg "range"=none)(z:aR P w K mg base 7 "need_deeds" ["house","state","deeds"] (AG K))(S:jO P w K mg base aZ 1 "Moment" Z (DD K))(O:aR P w K mg base 5 "do_deed" ["moment","deed"] (GY K Z))(I:aR P w K mg base 7 "deal_all" ["moment","dealer"] (kN P w K mg base Z))(bm:aR P w K mg base 8 "go" ["moment","rule","lift"] (GX P w K mg base Z))(U:aR P w K mg base 1 "state_of" ["moment"] (AF K Z)):au P w K mg base aZ 9 f fd ["self","state","deeds"] (jj P w K mg base):=by
 have G:∀q:Dq,au P w K mg base aZ 9 f fd ["self","state","deeds"] (yM P w K mg base q.G q.L q.p q.d):=λq=>Ii q.gT q.lN F j W J z S O (Bb I λR H Q E h=>⟨q,h⟩) bm U;exact FM G λR H Q E ⟨k,h⟩=>(G k).len R H Q E h
seal oZ kN
structure Jy (P:Program)(w:World)(K:Fg)(mg:Str->Option Value)(base:Heap)(C:Addr)(H:Hp)(a:Addr)(hs:Hs)(wf:Wf)(q:Dq):Prop where
 ex:∃dx h ru df,H a=some (.ins C dx @fR)/\jD K H h hs/\C2 P w K mg base H ru wf/\iz P w K mg base 5 df (pX K q.G q.L q.p q.d)
 gg:q.G H
 lb:q.L H
theorem Jy.nt {C:Addr}{H H':Hp}{a:Addr}{hs:Hs}{wf:Wf}{q:Dq}(c:Jy P w K mg base C H a hs wf q)(s:aP H H')(g:q.G H'):Jy P w K mg base C H' a hs wf q:=by
 obtain ⟨dx,h,F,I,h1,h2,L,j⟩:=c.ex;exact ⟨⟨dx,h,F,I,s _ _ (λ_ z=>by cases z) h1,xC s h2,Ec s L,j⟩,g,q.lN _ _ s c.lb⟩
theorem Jy.same {C:Addr}{H H':Hp}{a:Addr}{hs:Hs}{wf:Wf}{q:Dq}(c:Jy P w K mg base C H a hs wf q)(s:aj H H'):Jy P w K mg base C H' a hs wf q:=c.nt s.nt (q.gT _ _ s.st c.gg)
theorem NU {C:Addr}{H:Hp}{a st S:Addr}{hs:Hs}{wf:Wf}{cs:List Cb}{ws:List aH}{last:Int}{ds:List Dd}{q:Dq}{j I:MS}{Q:VK}{E:XK}(c:Jy P w K mg base C H a hs wf q)(cC:MY K C)(lo:hs.lo=0)(J:jb K H st cs ws last false)(R:oF hs ws.length ⟨cs,ws,last,false,0,[]⟩)(U:Bl K H S ds)(O:ws.length+ds.length<=64)(ai:oN hs.fl hs.ls.length @fv ds)(Z:bp 0 ⟨cs,ws,last,false,0,[]⟩ ds=j)(hf:j.fire=false)(F:∀i r,j.ws[i]? =some r->r.lift= -1->q.p (az q.d j.ws i j).cs (az q.d j.ws i j).ws r (az q.d j.ws i j).last)(e2:az q.d j.ws j.ws.length j=I)
(g:∀r st' ll zs cs' ws' H' L,aP H H'->q.G H'->H' r=some (.tup [.ref st',.ref ll])->jb K H' st' cs' ws' I.last false->H' ll=some (.lst zs)->ax K H' zs (I.log++L.map Sx.d)->zs.length<=4000->ws'=I.ws.filter (λr=> !decide (r.tag∈g9 L))->Q (.ref r) H'):jj P w K mg base [.ref a,.ref st,.ref S] H Q E:=by
 obtain ⟨dx,h,ru,df,h1,hH,ad,Y⟩:=c.ex;rwa[⟨q,a,st,S,C,dx,h,ru,df,hs,wf,cs,ws,last,ds,rfl,h1,cC,hH,ad,Y,c.gg,c.lb,J,U,R,O,ai,?_,?_⟩]
 ·rw [lo,Z];exact F
 ·intro r st' ll zs M' H' sN hg er aX W z aD aa;rw [lo,Z] at aD;unfold zT at aD;rw [e2] at aD
  have aV:I.fire=false:=by rw [<-e2];exact (iZ _).trans hf
  obtain ⟨L,l⟩:=MW.say aV aD;rw [l.last,l.fire] at aX
  have hz:zs.length<=4000:=by rw [z.len];lia
  rw [l.log] at z;exact g r st' ll zs M'.cs M'.ws H' L sN hg er aX W z hz l.ws
seal jj
theorem L8 {i:Int}(F:0<=i)(h1:i<=9):i.natAbs.log2<1920:=by
 rcases (show i=0\/i=1\/i=2\/i=3\/i=4\/i=5\/i=6\/i=7\/i=8\/i=9 by lia) with rfl|rfl|rfl|rfl|rfl|rfl|rfl|rfl|rfl|rfl<;>decide+kernel
theorem Cu {H:Hp}{l:Addr}{x:Str}{j:List Int}{Q:VK}(F:x.length<=10)(S:∀i∈j,0<=i/\i<=9)(W:j.length<=9)(G:H l=some (.lst ((x::j.map oq).map V.str)))(q:Q (.str (k6 x j)) H):xx K KM l H Q:=by
 have z:∀L:List Int,(∀i∈L,0<=i/\i<=9)->((L.map oq).map (·.length)).sum<=L.length:=by
  intro L Z
  induction L with
  |nil=>exact Nat.le_refl _
  |cons i L ih=>
   have:=ih λx F=>Z x (.tail _ F);have:=(re (Z i (.head _)).1 (Z i (.head _)).2).2.1;simp only [map_cons,sum_cons,length_cons] at *;lia
 have U:=z j S;rwa[Fs @eB (bt ?_) (bt ?_) ?_]
 ·rw [PySem.StrLaws.joinTotal];have:(x::j.map oq).length*KM.length<=(x::j.map oq).length*1:=Nat.mul_le_mul_left _ @b;simp only [map_cons,sum_cons,length_cons,length_map] at *;lia
 ·rw [PySem.StrLaws.glued_eq_join];have:=xo F S @c;unfold k6 at this;lia
 ·rw [PySem.StrLaws.glued_eq_join];exact q
theorem IQ {t:Str}(h:AR t):PB t:=λc I=>by
 have:=h.2 c I;unfold mZ at this;simp at this;lia
theorem Jj {xs:List V}:(fV xs (some 42) (some 62)).length<=20:=by
 unfold fV;rw [show (some (42:Int))=some ((42:Nat):Int) from rfl,show (some (62:Int))=some ((62:Nat):Int) from rfl,HT.sIx_nat,HT.sIx_nat,length_take,length_drop];lia
theorem jh {H:Hp}{P:Addr}{q:Str}(h:H P=some (.tbl #[])):bM H P q:=⟨#[],h,trivial,λpos z e=>by cases e⟩
theorem Kw {R:List Int}{b:Int}{n:Nat}:((List.range n).map λj:Nat=>fL R (b+(j:Int))).Nodup:=by
 rw [List.nodup_iff_pairwise_ne,List.pairwise_map]
 exact pairwise_lt_range.imp λ{x y} h e=>by have:=AD e;lia
theorem yH {R:List Int}{b t:Int}{n:Nat}(h:t∈(List.range n).map λj:Nat=>fL R (b+(j:Int))):∃j:Nat,j<n/\t=fL R (b+(j:Int)):=by
 obtain ⟨j,Z,e⟩:=mem_map.mp h;exact ⟨j,mem_range.mp Z,e.symm⟩
theorem KU {H H':Hp}{a:Addr}{R:List Int}(h:wr K H a R)(s:aP H H'):wr K H' a R:=⟨⟨s.sqL h.1.1,h.1.2⟩,h.2⟩
theorem Dk.fit_of {hs:Hs}{k:Dk}{r:aH}(I:hs.ok)(h:k.ok hs)(o:gC hs.fl r):k.fit hs.ls.length r:=by
 cases k with
 |num fx zs=>
  have R:=I.f2;have W:=o.s0;have L:=o.s1
  cases fx with
  |false=>
   have e:=h.1 rfl;exact ⟨W,by show r.start<(zs.length:Int);lia,by lia,h.2.2⟩
  |true=>
   have e:=h.2.1 rfl;exact ⟨Int.emod_nonneg _ @c,Int.emod_lt_of_pos _ @c,by lia,h.2.2⟩
 |_=>trivial
theorem Kv {C:List Cb}{fl:Int}{r:aH}(h:gC fl r):gC fl (yr C r):=by
 unfold yr;split
 ·exact ⟨h.s0,h.s1,h.g0,h.g1,h.ne⟩
 ·exact h
theorem EC {F:List Int}{hs:Hs}{cs:List Cb}{ws:List aH}(J:hs.ok)(W:cs.length=hs.ls.length)(S:ws.length<=10)(ad:∀j c,cs[j]? =some c->PV F j c)(R:ws.map (·.tag)=(List.range ws.length).map (λj:Nat=>fL F (20+(j:Int)))):∀t∈fK cs ws,∃j:Int,j<40/\t=fL F j:=λt O=>by
 have l3:=J.l3
 rcases mem_append.mp O with z|z
 ·rw [R] at z;obtain ⟨i,hi,U⟩:=yH z;exact ⟨20+(i:Int),by lia,U⟩
 ·obtain ⟨c,I,z⟩:=mem_flatMap.mp z;obtain ⟨m,G,e⟩:=List.getElem_of_mem I;obtain ⟨_,n,Y,h⟩:=ad m c (by rw [getElem?_eq_getElem G,e]);rw [h] at z;obtain ⟨j,Z,L⟩:=yH z;exact ⟨6*(m:Int)+(j:Int),by lia,L⟩
structure J5 (ns:List Int)(hs:Hs)(cs:List Cb)(ws:List aH)(as:List Dd)(qs:List aH):Prop where
 ok:hs.ok
 cl:cs.length=hs.ls.length
 w10:ws.length<=10
 rk:∀r∈ws,gC hs.fl r
 old:∀t∈fK cs ws,∃j:Int,j<40/\t=fL ns j
 lf:∀r∈ws,MQ cs r.lift
 ah:PD cs.length as
 ql:qs.length<=20
 qk:∀r∈qs,gC hs.fl r/\r.lift= -1
 qt:qs.map (·.tag)=(List.range qs.length).map (λj:Nat=>fL ns (40+(j:Int)))
theorem J5.gd {R:List Int}{hs:Hs}{cs:List Cb}{ws:List aH}{F:List Dd}{Y:List aH}(d:J5 R hs cs ws F Y):oN hs.fl hs.ls.length @fv (F++cF Y)/\ws.length+(F++cF Y).length<=64:=by
 have G:=d.ah.lf;rw [d.cl] at G;rwa[⟨xF G.2 (xE (λr S=>(d.qk r S).1) (by rw [d.qt];exact Kw) λt J z=> ?_),?_⟩]
 ·rw [d.qt] at J;obtain ⟨i,hi,e⟩:=yH J;obtain ⟨j,Z,O⟩:=d.old t z;have:=AD (e.symm.trans O);lia
 ·have h1:=G.1;have h2:=d.w10;have L:=d.ql;have:(cF Y).length=Y.length:=length_map _;rw [length_append];lia
theorem J5.m1 {O:List Int}{hs:Hs}{cs:List Cb}{ws:List aH}{j:List Dd}{Y:List aH}(d:J5 O hs cs ws j Y){last:Int}:∃M1,bp 0 ⟨cs,ws,last,false,0,[]⟩ (j++cF Y)=M1/\M1.fire=false/\M1.log=[]/\M1.last=last/\M1.cs=bO cs j/\M1.ws=ws.map (yr (bO cs j))++Y:=by
 have Z:∀e∈j++cF Y,(∃x i,e= .lf x i/\Dd.ok (.lf x i))\/∃t s g k,e= .come t s g k:=λe U=>by
  rcases mem_append.mp U with z|z
  ·obtain ⟨x,i,R,_,W,_⟩:=d.ah.lf.2 e z;exact .inl ⟨x,i,R,W⟩
  ·obtain ⟨r,_,R⟩:=mem_map.mp z;exact .inr ⟨_,_,_,_,R.symm⟩
 obtain ⟨J,I,L,G,F⟩:=A6 (M:=⟨cs,ws,last,false,0,[]⟩) (ds:=j++cF Y) rfl Z;rwa[⟨_,rfl,I,L,G,?_,?_⟩]
 ·rw [F];show List.foldl rZ cs (j++cF Y)=_;rw [foldl_append];exact oh
 ·rw [J,foldl_append,Gk d.ah d.lf];exact xU λr S=>(d.qk r S).2
theorem J5.pre {ns:List Int}{hs:Hs}{cs:List Cb}{ws:List aH}{F:List Dd}{Y:List aH}{k:Dk}{j:MS}(d:J5 ns hs cs ws F Y)(kk:k.ok hs)(U:0<=j.last)(ec:j.cs=bO cs F)(L:j.ws=ws.map (yr (bO cs F))++Y):(j.cs.length=hs.ls.length/\j.ws.length<=64/\∀r∈j.ws,k.fit j.cs.length r)/\∀i r,j.ws[i]? =some r->r.lift= -1->Le k (az (hG k) j.ws i j).cs (az (hG k) j.ws i j).ws r (az (hG k) j.ws i j).last:=by
 have l1:=d.ok.l1;have l3:=d.ok.l3;have h2:=d.w10;have h3:=d.ql
 have G:j.cs.length=hs.ls.length:=by rw [ec,mX];exact d.cl
 have Z:j.ws.length<=64:=by rw [L,length_append,length_map];lia
 have J:∀r∈j.ws,k.fit j.cs.length r:=λr S=>by
  rw [G];rwa[Dk.fit_of d.ok kk ?_];rw [L] at S
  rcases mem_append.mp S with z|z
  ·obtain ⟨I,h0,rfl⟩:=mem_map.mp z;exact Kv (d.rk I h0)
  ·exact (d.qk r z).1
 rwa[⟨⟨G,Z,J⟩,λi r S _=> ?_⟩];obtain ⟨O,R,_⟩:=dN (dl:=hG k) (W:=j.ws) (M:=j) i;rwa[⟨by rw [R];lia,by rw [R];lia,by rw [O];exact Z,rp U i,?_⟩];rw [R];exact J r (mem_of_getElem? S)
structure Fc (P:Program)(w:World)(K:Fg)(mg:Str->Option Value)(base:Heap)(C ca st ld t:Addr)(hs:Hs)(wf:Wf)(q:Dq)(cs:List Cb)(ws:List aH)(last:Int)(ds:List Dd)(M2:MS)(H:Hp):Prop where
 crt:Jy P w K mg base C H ca hs wf q
 st:jb K H st cs ws last false
 ds:∃xs,H ld=some (.lst xs)/\Paired (λx d=>∃a,x=V.ref a/\rY H a d) xs ds
 du:∃lw lg ys zg,H t=some (.tup [.ref lw,.ref lg,.int M2.last])/\H lw=some (.lst ys)/\ax K H ys (M2.ws.map aH.d)/\H lg=some (.lst zg)/\ax K H zg M2.log
theorem Fc.nt {C F st j t:Addr}{hs:Hs}{wf:Wf}{q:Dq}{cs:List Cb}{ws:List aH}{last:Int}{ds:List Dd}{I:MS}{H H':Hp}(f:Fc P w K mg base C F st j t hs wf q cs ws last ds I H)(s:aP H H')(g:q.G H'):Fc P w K mg base C F st j t hs wf q cs ws last ds I H':=by
 obtain ⟨xs,h1,h2⟩:=f.ds;obtain ⟨lw,J,ys,L,U,W,R,O,S⟩:=f.du;exact ⟨f.crt.nt s g,DA s f.st,⟨xs,s _ _ (λ_ z=>by cases z) h1,Paired.imp' (λx d ⟨a,e,z⟩=>⟨a,e,s _ _ (λ_ z=>by cases z) z.1,z.2⟩) h2⟩,⟨lw,J,ys,L,s _ _ (λ_ z=>by cases z) U,s _ _ (λ_ z=>by cases z) W,s.dens R,s _ _ (λ_ z=>by cases z) O,s.dens S⟩⟩
theorem Fc.same {C F st j t:Addr}{hs:Hs}{wf:Wf}{q:Dq}{cs:List Cb}{ws:List aH}{last:Int}{ds:List Dd}{I:MS}{H H':Hp}(f:Fc P w K mg base C F st j t hs wf q cs ws last ds I H)(s:aj H H'):Fc P w K mg base C F st j t hs wf q cs ws last ds I H':=f.nt s.nt (q.gT _ _ s.st f.crt.gg)
theorem Fc.turn {C J st S t Z:Addr}{hs:Hs}{wf:Wf}{q:Dq}{cs:List Cb}{ws:List aH}{last:Int}{G:List Dd}{Y:List aH}{ns:List Int}{j M2:MS}{xs:List V}{H0 H:Hp}{Q:VK}{E:XK}(f:Fc P w K mg base C J st S t hs wf q cs ws last (G++cF Y) M2 H0)(h0:H0 S=some (.lst xs))(U:aj H0 H)(hd:H Z=some (.lst xs))(cC:MY K C)(lo:hs.lo=0)(d:J5 ns hs cs ws G Y)(R:oF hs ws.length ⟨cs,ws,last,false,0,[]⟩)(eM:bp 0 ⟨cs,ws,last,false,0,[]⟩ (G++cF Y)=j)(hf:j.fire=false)(F:∀i r,j.ws[i]? =some r->r.lift= -1->q.p (az q.d j.ws i j).cs (az q.d j.ws i j).ws r (az q.d j.ws i j).last){I:MS}(e2:az q.d j.ws j.ws.length j=I)
(g:∀r st' ll zs cs' ws' H' L,Fc P w K mg base C J st S t hs wf q cs ws last (G++cF Y) M2 H'->aP H0 H'->H' r=some (.tup [.ref st',.ref ll])->jb K H' st' cs' ws' I.last false->H' ll=some (.lst zs)->ax K H' zs (I.log++L.map Sx.d)->zs.length<=4000->ws'=I.ws.filter (λr=> !decide (r.tag∈g9 L))->Q (.ref r) H'):jj P w K mg base [.ref J,.ref st,.ref Z] H Q E:=by
 have O:=f.same U;obtain ⟨aa,h1,h2⟩:=f.ds;rw [h0] at h1;cases h1;exact NU O.crt cC lo O.st R ⟨xs,aA.of hd,Paired.imp' (λx e ⟨a,ea,z⟩=>⟨a,ea,z.same U⟩) h2⟩ d.gd.2 d.gd.1 eM hf F e2 λr st' ll zs cs' ws' H' L sN hg er aX W dl zl ew=>g r st' ll zs cs' ws' H' L (O.nt sN hg) (U.nt.trans sN) er aX W dl zl ew
theorem MD {i:Int}(F:0<=i)(h1:i<5):∃k:Dk,lU [V.str "near",.str "least",.str "turns",.str "zone",.str "fixed"] i=some (.str k.wd):=by
 rcases (show i=0\/i=1\/i=2\/i=3\/i=4 by lia) with rfl|rfl|rfl|rfl|rfl
 ·exact ⟨.near,rfl⟩
 ·exact ⟨.least,rfl⟩
 ·exact ⟨.turns,rfl⟩
 ·exact ⟨.num false [],rfl⟩
 ·exact ⟨.num true [],rfl⟩
structure PP (Pn Pl Pz Pf:Addr)(H:Hp):Prop where
 n:bM H Pn qN
 l:bM H Pl qL
 z:bM H Pz qZ
 f:bM H Pf qF
theorem PP.same {Pn Pl Pz Pf:Addr}{H H':Hp}(t:PP Pn Pl Pz Pf H)(s:aj H H'):PP Pn Pl Pz Pf H':=⟨t.n.same s,t.l.same s,t.z.same s,t.f.same s⟩
inductive wU (K:Fg)(Pn Pl Pz Pf:Addr)(vs:List V)(H:Hp)(Q:VK)(_e:XK):Prop
 |mk (a:Addr) (ns:List Int) (_:vs=[.ref a]) (_:wr K H a ns) (_:PP Pn Pl Pz Pf H) (_:∀H',Q (.bl true) H')
theorem LG {jI g8 gu Pn Pl Pz Pf kn kl kT:Addr}(dC:Pn≠Pl)(F:Z0 K "law" K1 f fd)(aU:mg "len"=none)(aG:mg "range"=none)(cc:mg "list"=none)(L5:mg "max"=none)(Ci:mg "str"=none)(vL:mg "int"=none)(ut:mg "near"=some (.ref kn))(m8:mg "least"=some (.ref kl))(eu:mg "by_turns"=some (.ref kT))
(Gb:aR P w K mg base 5 "near" ["cabins","waiting","rider","last"] (uT K Pn))(Ak:aR P w K mg base 5 "least" ["cabins","waiting","rider","last"] (AH K Pl))(nu:aR P w K mg base 3 "by_turns" ["cabins","waiting","rider","last"] (oW K))(bY:Z01 P w K mg base)(ii:aR P w K mg base 4 "dealer_of" ["text","house"] (λvs H Q _=>DG K mg kn kl kT Pn Pl Pz Pf vs H Q E0))(rO:aR P w K mg base 4 "_law_house" ["_law_script","_law_most"] (pR K))(aO:Z00 P w K mg base)(rM:aR P w K mg base 5 "_law_state" ["_law_script","_law_house_here","_law_fire"] (pP K))(lS:aR P w K mg base 3 "_law_letters" ["_law_script","_law_at_here"] (yT K))(dU:Z06 P w K mg base)(lR:aR P w K mg base 3 "_law_numbers" ["_law_script","_law_word","_law_house_here"] (uW K))(rT:aR P w K mg base 3 "_law_ahead" ["_law_script","_law_house_here"] (pV K))(oA:aR P w K mg base 1 "_law_marked" ["_law_cabins","_law_deeds"] (mm K))(fq:Z05 P w K mg base)(rR:aR P w K mg base 4 "_law_dealt" ["_law_word","_law_numbers_here","_law_cabins","_law_riders","_law_last"] (pT K))(ig:aR P w K mg base 3 "_law_right" ["_law_told","_law_due"] (oX K))
(zY:jO P w K mg base @ch 1 "Table" jI (kF K g8))(cT:Py K jI)(jc:oP P w K mg base aZ 2 "word" jI (KL K))(vM:jO P w K mg base aZ 1 "Court" gu (GZ K))(cC:MY K gu)(dY:oP P w K mg base aZ 9 "turn" gu (jj P w K mg base)):au P w K mg base aZ 11 f fd ["_law_script"] (wU K Pn Pl Pz Pf):=by
 rwa[F.ok qg (by symm) (λdT A outer s H vs Q E hr h=> ?_)];obtain ⟨a,ns,rfl,hS,tb,q⟩:=h
 have cv:∀(d:Dk) (lx:Lx),iz P w K mg base 5 (d.ad kn kl kT lx) (pX K (dq mg Pn Pl d lx).G (dq mg Pn Pl d lx).L (dq mg Pn Pl d lx).p (dq mg Pn Pl d lx).d):=by
  obtain ⟨f1,x1,F1⟩:=Gb.fnv;rw [ut] at x1;cases x1;obtain ⟨f2,x2,F2⟩:=Ak.fnv;rw [m8] at x2;cases x2;obtain ⟨f3,x3,F3⟩:=nu.fnv;rw [eu] at x3;cases x3;exact MC dC F1.cal F2.cal F3.cal aU bY
 rwa[⟨_,(aa @a (aa @a (aa @a (aa @a (aa @a (aa (bD (i:=5) qg.nd rfl @q (gH zY (Hy (X:=_)) hr @b rfl @C)) (aa (bD (i:=6) qg.nd rfl @q (gH vM iq hr @b rfl (aq (wv 1) (aq (wv 5) (aq (b7 ii hr @b rfl (aq (fu rfl PySem.F.plainAttrs_str PySem.F.slot_str_join PySem.F.type_str_join (yC rfl) cY (aq (bZ @ci @a (bb rfl (ay (N':=["_law_one"]) (pk:=[none]) @l) @a @h @r (λC s H ex=>(aI Kl rfl Ci boot_str @cf)))) am)) @bl)) am))))) (aa @a (aa @a (aa (gE (i:=9) rfl qg.nd rfl @q (ay (N':=["_law_one","_law_cabins"]) (pk:=[none,some 8]) @l) @a @h @r @h) (aa (cm PassesOwn.never rfl (bE rfl aG (aq (aY (Nk rfl) rfl L5 boot_max (aq @a @C)) am)) @a (aa (bD (i:=11) qg.nd rfl @q (b7 fq hr @b rfl (aq (wv 0) (aq (bZ @ci aM @fD) (aq (wv 1) (aq (b7 dU hr @b rfl (aq (wv 0) (aq (bZ @ci aM @fD) am))) @C)))))) (aa (aK (fu rfl PySem.F.plainAttrs_list PySem.F.slot_list_append PySem.F.type_list_append iF (wv 9) @cy)) (ac (aK (fu rfl PySem.F.plainAttrs_list PySem.F.slot_list_append PySem.F.type_list_append iF (wv 7) (aq (eX (aq cY (aq @cp (aq @cp (aq @cp (aq fB am)))))) am))))))) (aa (bD (i:=12) qg.nd rfl @q @a) (aa (aB (d6 (iA rfl (b7 ig hr @b rfl (aq (kx (n:=9) iq hr @b (wv 6) @T) @eQ)))) @bq ar) (aa (bD (i:=13) qg.nd rfl @q (gH vM iq hr @b rfl (aq (wv 1) (aq (wv 5) (aq (b7 ii hr @b rfl (aq (cQ (fI rfl) @a (aI JF rfl vL boot_int @C) @ba) @bl)) am))))) (aa (aK (kx (n:=9) iq hr @b (wv 13) @T)) (ac (ao (b7 ig hr @b rfl (aq (kx (n:=9) iq hr @b (wv 6) @T) @eQ))))))))))))))))))),?_⟩];rwa[pR.mk _ _ rfl hS λdV R H1 s1 da=> ?_];obtain ⟨ap,p,ls,hh,hp,hl⟩:=da;rwa[gK hh (by show ¬(HT.sIx 4 0 none=0/\HT.sIx 4 4 (some 2)=4);decide) λl1 H2 s2 n2 e2=> ?_];have e2:H2 l1=some (.tup [.int R.fl,.ref p]):=e2;rwa[bX (bt (by show 1<=1000000;decide)) λl2 H3 s3 n3 e3=> ?_];rwa[uA (aC.of (s3 _ _ e2)) e3 @e (bt (by show 2+1<=1000000;decide)) λl3 H4 s4 e4=> ?_];have e4:H4 l3=some (.tup [.int R.fl,.ref p,.int 0]):=e4;have bw:=s2.trans (s3.trans s4);rwa[gK (bw.seqT hh) (by show ¬(HT.sIx 4 0 (some 3)=0/\HT.sIx 4 4 none=4);decide) λl4 H5 s5 n5 e5=> ?_];have e5:H5 l4=some (.tup [.str R.so]):=e5;rwa[uA @cD e5 @e (bt (by show 3+1<=1000000;decide)) λhA H6 s6 e6=> ?_];have e6:H6 hA=some (.tup [.int R.fl,.ref p,.int 0,.str R.so]):=e6;have a9:=bw.trans @cA;have bv:=s1.trans a9;have hH:jD K H6 hA {R with lo:=0}:=⟨⟨ap.f2,ap.f8,ap.l1,ap.l3,ap.lf,ap.so⟩,p,ls,aC.of e6,a9.seqT hp,Paired.imp' (λx l ⟨b,e,z⟩=>⟨b,e,a9.seqT z⟩) hl⟩;have a7:({R with lo:=0}:Hs).lo=0:=rfl;generalize ({R with lo:=0}:Hs)=hs at hH a7;clear hl hp hh e2 e3 e4 e5 e6 bw a9 s1 s2 s3 s4 s5 s6;have ho:=hH.1;have dP:=ho.l1;have dZ:=ho.l3;rwa[pP.mk _ _ _ _ _ rfl (hS.same bv) hH λst O ws aT H7 s7 cr al cj bI m3 cu cI cz cx=> ?_];have cl:O.length=hs.ls.length:=al.len;have dD:=EC ho cl cj cI cz;have dg:Pk O:=λc hc=>⟨(al.cs c hc).m0,m3 c hc⟩;clear cI cz cu m3;have aQ:=bv.trans s7;rwa[gm (bt (by show 5<=1000000;decide)) λl8 H8 s8 n8 e8=> ?_];rwa[lH (hS.same (aQ.trans s8)) @b @b @b @b λi i0 i1=> ?_];obtain ⟨k0,ed⟩:=MD i0 i1;rwa[aN (aA.of e8) ed ?_];rwa[uW.mk _ _ _ _ _ rfl (hS.same (aQ.trans s8)) (hH.same (s7.trans s8)) λk ln H9 s9 cR kk eN=> ?_];have bV:=s8.trans s9;rw [<-cR];clear cR ed e8;clear k0;rwa[yT.mk _ _ _ rfl (hS.same (aQ.trans bV)) @b @b λt HA sA a2=> ?_];rwa[OJ cT (by rw [a2.1];decide) (IQ a2) (λ_ ru dR HB sB nB eB=> ?_) (λno=>absurd a2 no)];obtain ⟨cW,dk⟩:=Dk.is_ok kk ho;have h9:∀z∈k.is,0<=z/\z<=9:=λz hz=>⟨(cW z hz).1,by have:=(cW z hz).2;lia⟩;have bQ:=sA.trans sB;have bx:=bQ _ _ eN;rwa[⟨rfl,?_⟩];rwa[gm (bt (by show 1<=1000000;decide)) λlC HC sC nC eC=> ?_];rwa[bK (aA.of (sC _ _ bx)) ?_];rwa[bu (xs:=k.is.map V.int) (λi zs I=>I=HC/\zs=((k.is.map oq).take i).map V.str) (bt (by rw [length_map];lia)) (λi zs I pz=>by rw [pz.2,length_map,length_take];exact Nat.min_le_left _ _) ⟨rfl,rfl⟩ (λi zs I _ pz=>by rw [pz.1];exact aA.of (sC _ _ bx)) (λi y zs I co pz=> ?_) (λzs I pz a6 n6=> ?_)]
 ·obtain ⟨rfl,rfl⟩:=pz;rw [getElem?_map] at co;obtain ⟨v,hv,rfl⟩:=Option.map_eq_some_iff.mp co;obtain ⟨v0,v9⟩:=h9 v (mem_of_getElem? hv);rwa[⟨bg,L8 v0 v9,rfl,?_⟩];rw [take_add_one,getElem?_map,hv,map_append];rfl
 obtain ⟨rfl,rfl⟩:=pz;rw [take_of_length_le (by rw [length_map,length_map];exact Nat.le_refl _)];generalize bW:upd I a6 _=HD
 have sD:aj I HD:=by rw [<-bW];exact .upd n6
 have eD:HD a6=some (.lst ((k.is.map oq).map V.str)):=by rw [<-bW];exact af
 clear bW;rwa[F7 (sD _ _ eC) eD (bt (by rw [length_map,length_map];show 1+_<=_;lia)) λlE HE sE nE eE=> ?_]
 have eE:HE lE=some (.lst ((k.wd::k.is.map oq).map V.str)):=by rw [eE];rfl
 rwa[Cu Db.2 h9 dk eE ?_];have bq:=sC.trans (sD.trans sE);have bM:=bQ.trans bq;have aW:=bV.trans bM;have b1:=aQ.trans aW;have aS:=tb.same b1;rwa[Rv (k:=k) (hH.same (s7.trans aW)) kk (λ_=>⟨aS.z,aS.f⟩) ⟨aS.n,aS.l⟩ λlx HF sF gF kG kL=> ?_];rwa[OK cC λca dw HG sG nG eG=> ?_];have ai:=sF.trans sG.nt;have a0:=KU hS (b1.nt.trans ai);have a1:=xC ((s7.trans aW).nt.trans ai) hH;have b4:=DA (aW.nt.trans ai) cr;have cg:=(bM.nt.trans ai) _ _ (λ_ z=>by cases z) eN;have cA:=(bq.nt.trans ai) _ _ (λ_ z=>by cases z) eB;obtain ⟨wf,bJ⟩:∃wf,C2 P w K mg base HG ru wf:=⟨_,yI cT jc a2 cA⟩;have cy:Jy P w K mg base gu HG ca hs wf (dq mg Pn Pl k lx):=⟨⟨dw,hA,ru,k.ad kn kl kT lx,eG,a1,bJ,cv k lx⟩,⟨tf _ _ sG.st gF,Dk.gst sG.st kG⟩,Dk.lnt sG.nt kL⟩;have tG:MX Pn Pl HG:=tf _ _ sG.st gF;clear eC eD eE nC nE n6 n8 nB nG eN bx eB eG cr hH aS tb hS b1 aW bM bq ai sF sG gF kG kL sE sD sC bQ sA sB bV s8 s9 aQ bv s7;rwa[pV.mk _ _ _ _ rfl a0 a1 λld xd J HI sI nI eI pI ah=> ?_];obtain ⟨tc,tw,xs,ys,g1,g2,g3,g4,g5⟩:=id b4;have xl:xs.length=O.length:=g4.len;have yl:ys.length=ws.length:=aD g5;rw [<-cl] at ah;have de:=ah.lf;rwa[ag (sI.seqT g1) rfl ?_];rwa[mm.mk _ _ _ _ _ rfl (sI.seqT g2) (Paired.imp' (λx c z=>b9.keep z sI.st) g4) ⟨xd,aA.of eI,pI⟩ dg @c @c de.2 λlc yc HJ sJ nJ eJ pJ dM=> ?_];have ae:=sI.trans sJ;rwa[ag (ae.seqT g1) rfl ?_];rwa[fg (ae.seqT g3) ?_]
 have dL:yc.length=O.length:=by rw [pJ.len,mX]
 rwa[dB (xs:=ys) (λi us I=>aj HJ I/\ax K I us (((ws.take i).map @dn).map aH.d)) @S (λi us I h=>by rw [aD h.2,length_map,length_take];exact Nat.min_le_left _ _) ⟨.refl _,.nil⟩ (λi us I _ h=>(ae.trans h.1).seqT g3) (λi y us I hy hP=> ?_) (λus I hP S nr=> ?_)]
 ·obtain ⟨sX,dX⟩:=hP;obtain ⟨r,cO,dr⟩:=bc g5 hy;have dr:=bH.same dr (ae.trans sX);obtain ⟨ra,rfl,hT⟩:=cJ dr
  have nx:((ws.take (i+1)).map @dn).map aH.d=((ws.take i).map @dn).map aH.d++[aH.d (yr @fZ r)]:=by
   rw [take_add_one,cO,map_append,map_append];rfl
  rw [nx];have br:=cx r (mem_of_getElem? cO);rwa[⟨bg,?_⟩];have bk:yr @fZ r=r->aj HJ I/\ax K I (us++[.ref ra]) (((ws.take i).map @dn).map aH.d++[aH.d (yr @fZ r)]):=λe=>⟨sX,by rw [e];exact Paired.app dX (.cons dr .nil)⟩;rwa[ag hT rfl ?_];by_cases z:r.lift> -1
  ·rwa[jA z ?_]
   obtain ⟨j,c,ej,hj,hc⟩:∃(j:Nat) (c:Cb),r.lift=(j:Int)/\O[j]? =some c/\c.mr=0:=by
    rcases br with y|y
    ·lia
    ·exact y
   have dW:=(List.getElem?_eq_some_iff.mp hj).1
   have cP:j<yc.length:=by lia
   obtain ⟨c',dt,y',ey,dm⟩:=pJ.get1 (getElem?_eq_getElem cP);obtain ⟨ab,bs,df,_⟩:=dm
   have gd:(bO O J).getD r.lift.toNat lX=c':=by rw [ej,getD_eq_getElem?_getD,show ((j:Int)).toNat=j by lia,dt];rfl
   rwa[ag hT rfl ?_];rwa[aN (aA.of (sX _ _ eJ)) (v:= .ref y') (by rw [ej];exact bz (by rw [getElem?_eq_getElem cP,ey])) ?_];rwa[ag (aC.of (sX _ _ df)) rfl ?_];rwa[eh @cX @cX]
   ·rwa[gK hT (by show ¬(HT.sIx 4 0 none=0/\HT.sIx 4 4 (some 3)=4);decide) λt4 H4 s4 n4 e4=> ?_];have e4:H4 t4=some (.tup [.int r.tag,.int r.start,.int r.goal]):=e4;rwa[bX (bt (by show 1<=1000000;decide)) λt5 H5 s5 n5 e5=> ?_];rwa[uA @cD e5 @e (bt (by show 3+1<=1000000;decide)) λt6 H6 s6 e6=> ?_];have e6:H6 t6=some (.tup [.int r.tag,.int r.start,.int r.goal,.int (-1)]):=e6;have ci:=s4.trans @cA;rwa[⟨sX.trans ci,?_⟩];rw [show yr @fZ r= {r with lift:= -1} from if_pos ⟨z,by rw [gd];exact u⟩];exact Paired.app (ax.same dX ci) (.cons (hI (aC.of e6) (.cons (.int _) (.cons (.int _) (.cons (.int _) (.cons (.int _) .nil))))) .nil)
   ·exact bk (if_neg λh=>u (by rw [gd] at h;exact h.2))
  ·rwa[dF z ?_];rwa[be rfl ?_];exact bk (if_neg λh=>z h.1)
 obtain ⟨sX,dX⟩:=hP;rw [yl,take_length] at dX;have sK:aj I (upd I S (.lst us)):= .upd nr;have eK:upd I S (.lst us) S=some (.lst us):=af;have dj:=ke (ae.trans sX) nr
 have cw:ld≠S:=λz=>by rw [<-z,(sJ.trans sX) _ _ eI] at nr;cases nr
 have dp:lc≠S:=λz=>by rw [<-z,sX _ _ eJ] at nr;cases nr
 have c4:lc≠ld:=λz=>by rw [z,eI] at nJ;cases nJ
 generalize upd I S (.lst us)=HK at sK eK;have b2:=sX.trans sK;have a4:=ae.trans b2;rwa[o0 (a0.same a4).1.1 λlL HL sL nL eL=> ?_];rwa[b6 (aA.of eL) ?_];have di:=Jj (xs:=ns.map V.int);generalize (fV @bz (some 42) (some 62)).length=cH at di;erw[lH (a0.same (a4.trans sL)) @b @b @b @b λdn d0 d1=> ?_];obtain ⟨a5,bh,dH,dG⟩:∃a5:Int,a5=(if dn>(cH:Int) then dn else (cH:Int))/\0<=a5/\a5<=20:=⟨_,rfl,by split<;>lia,by split<;>lia⟩;rw [<-bh];clear bh;rwa[⟨⟨by lia,by lia⟩,?_⟩];have cq:=a4.trans sL;have aE:=b2.trans sL;rwa[cB (λj σ HY=>∃(Z xe:List V) (Y:List aH) (b8 bF:Option V),aj HG HY/\aJ HJ HY/\HY lc=some (.lst yc)/\HY S=some (.lst Z)/\ax K HY Z ((ws.map @dn++Y).map aH.d)/\HY ld=some (.lst xe)/\Paired (DR HY) xe (J++cF Y)/\Y.length=j/\(∀r∈Y,gC hs.fl r/\r.lift= -1)/\Y.map (·.tag)=(List.range Y.length).map (λi:Nat=>fL ns (40+(i:Int)))/\σ=[some (.ref a),some (.ref hA),some (.ref st),some (.str k.wd),some (.ref ln),some (.ref ru),some (.ref ca),some (.ref ld),some (.ref lc),some (.ref S),b8,bF,none,none]) ⟨us,xd,[],_,_,cq,aE.st,aE _ _ eJ,sL _ _ eK,by rw [append_nil];exact ax.same dX (sK.trans sL),(sJ.trans aE) _ _ eI,by show Paired _ _ (J++[]);rw [append_nil];exact vZ pI (sJ.trans aE),rfl,(λr hr=>nomatch hr),rfl,rfl⟩ (λj σ HY hj pv=> ?_) @ec]
 ·obtain ⟨Z,xe,Y,b8,bF,sY,tY,ec,er,dr,ee,pe,ql,qk,qt,rfl⟩:=pv
  have i0:(0:Int)+(j:Nat)=((j:Nat):Int):=by lia
  rw [i0]
  have hj:(j:Int)<20:=by lia
  have ct:=a0.same sY;rwa[pN.mk _ _ _ rfl ct (by show (0:Int)<=40+(j:Int);lia) (by show (40:Int)+(j:Int)<1000;lia) λtg dE=> ?_];rwa[gm (bt (by show 1<=1000000;decide)) λla H2 s2 n2 e2=> ?_];rwa[iK.mk _ _ _ _ _ _ _ [-1] rfl (ct.same s2) (by show (0:Int)<=42+(j:Int);lia) (by show (42:Int)+(j:Int)<1000;lia) (a1.same (sY.trans s2)) (aA.of (show H2 la=some (.lst (([-1]:List Int).map V.int)) from e2)) @e @b λv r H3 s3 dv br bN dy=> ?_];have U:=s2.trans s3;obtain ⟨ra,rfl,hT⟩:=cJ dv;have aF:=U _ _ er
  have dS:Z.length=ws.length+Y.length:=by rw [aD dr,length_append,length_map]
  have dQ:xe.length=J.length+Y.length:=by rw [pe.len,length_append];unfold cF;rw [length_map]
  rwa[⟨.inl ⟨rfl,_,aA.of aF⟩,?_⟩];rwa[gB aF @dh ?_];have bm:aJ H3 (upd H3 S (.lst (Z++[.ref ra]))):= .updL aF;have b5:bH K (upd H3 S (.lst (Z++[.ref ra]))) (.ref ra) @ey:=bH.noL dv rfl aF;have cf:=dA (o:= .lst (Z++[.ref ra])) (ax.same dr U) (kW _) aF
  have bp:upd H3 S (.lst (Z++[.ref ra])) ld=some (.lst xe):=by rw [ak cw];exact U _ _ ee
  have ck:upd H3 S (.lst (Z++[.ref ra])) lc=some (.lst yc):=by rw [ak dp];exact U _ _ ec
  have cU:upd H3 S (.lst (Z++[.ref ra])) S=some (.lst (Z++[.ref ra])):=af;have cp:aj HG (upd H3 S (.lst (Z++[.ref ra]))):=aj.updF (sY.trans U) dj;generalize upd H3 S (.lst (Z++[.ref ra]))=H4 at bm b5 cf bp ck cU cp;have c6:Paired (DR H4) xe (J++cF Y):=Paired.imp' (λx d ⟨a,e,z⟩=>⟨a,e,(z.same U).keep bm⟩) pe;obtain ⟨dO,c2,b0⟩:=cJ b5;cases c2;rwa[⟨.inl ⟨rfl,_,aA.of bp⟩,?_⟩];rwa[ag b0 rfl ?_];rwa[ag b0 rfl ?_];rwa[ag b0 rfl ?_];rwa[bX (bt (by show 5<=1000000;decide)) λt5 H5 s5 n5 e5=> ?_];have aL:=s5 _ _ bp;rwa[gB aL @dh ?_];have c8:r.lift= -1:=mem_singleton.mp dy;have bN:r.tag=fL ns (40+(j:Int)):=bN.trans dE;rwa[⟨Z++[.ref ra],xe++[.ref t5],Y++[r],_,_,aj.updF (cp.trans s5) nI,((tY.trans U.st).trans bm).trans (s5.st.trans (.updL aL)),by rw [ak c4];exact s5 _ _ ck,by rw [ak cw.symm];exact s5 _ _ cU,?_,af,?_,by rw [length_append,ql];rfl,λq hq=> ?_,?_,rfl⟩]
  ·rw [<-append_assoc,map_append];exact Paired.app (dA (ax.same cf s5) (kW _) aL) (.cons (bH.noL (d:=aH.d r) (bH.same b5 s5) rfl aL) .nil)
  ·have:J++cF (Y++[r])=(J++cF Y)++[.come r.tag r.start r.goal false]:=by
    unfold cF;rw [map_append,append_assoc];rfl
   rw [this];exact MB aL (vZ c6 s5) e5 trivial
  ·rcases mem_append.mp hq with z|z
   ·exact qk q z
   ·rw [mem_singleton.mp z];exact ⟨br,c8⟩
  ·rw [map_append,qt,length_append,show Y.length+[r].length=Y.length+1 from rfl,range_succ,map_append,ql,map_cons,bN];rfl
 obtain ⟨Z,xe,Y,b8,bF,sY,tY,ec,er,dr,ee,pe,ql,qk,qt,rfl⟩:=pv;have an:J5 ns hs O ws J Y:=⟨ho,cl,cj,al.ws,dD,cx,ah,by lia,qk,qt⟩;obtain ⟨M1,eM,hf,bl,bd,bL,bB⟩:=an.m1 (last:=aT);obtain ⟨⟨mc,mw,cV⟩,bj⟩:=an.pre kk (by rw [bd];exact bI) bL bB;have cN:=sY.seqT g1;rwa[ag cN rfl ?_];rwa[IR (k:=k) (M:=M1) (aA.of (sY _ _ cg)) (lO (.inl (aA.of ec)) (by rw [bL];exact Paired.imp' (λx c z=>b9.keep z tY) pJ)) er (by rw [bB];exact dr) bl (by rw [bd];exact bI) @c @c mw cV bd λtd lw lg yd zd HM sM bT cM b3 c1 bR=> ?_];obtain ⟨gs,bU⟩:=rn (dl:=hG k) (W:=M1.ws) bl M1.ws.length;have cD:=(dN (dl:=hG k) (W:=M1.ws) (M:=M1) M1.ws.length).1;generalize c0:az (hG k) M1.ws M1.ws.length M1=M2 at bT b3 bR bU cD;have av:=sY.trans sM;have fc:Fc P w K mg base gu ca st ld td hs wf (dq mg Pn Pl k lx) O ws aT (J++cF Y) M2 HM:=⟨cy.same av,DA av.nt b4,⟨xe,sM _ _ ee,vZ pe sM⟩,⟨lw,lg,yd,zd,bT,cM,b3,c1,bR⟩⟩;have bo:=sM _ _ ee;have c3:=a1.same av;have dz:=bJ.same av;have dK:=tf _ _ av.st tG
 have cK:M2.ws.length<=64:=by rw [cD];exact mw
 clear a0 a1 b4 cg cA bJ cy tG g1 g2 g3 g4 g5 eI pI eJ pJ sI sJ ae sX dX sK eK b2 a4 sL eL cq aE sY tY ec er dr ee pe cN sM bT cM b3 c1 bR av;obtain ⟨dc,dh,cL,ch,a8,_⟩:=fc.crt.ex;rwa[lq a8 rfl dY ?_];rwa[fC (.inl (aA.of bo)) λlh HN sN nN eN=> ?_];rwa[fc.turn bo sN eN cC a7 an al eM hf bj c0 λr bf ll zs a3 ba HP L fP sP er aX aw dl zl ew=> ?_];obtain ⟨lw,lg,yd,zd,u1,u2,u3,u4,u5⟩:=fP.du;rw [bU] at dl u5;rwa[oX.mk _ _ _ _ _ _ _ _ _ _ _ _ _ _ _ rfl er aX aw dl u1 u2 u3 u4 u5 ew zl cK λHQ sQ=> ?_];rwa[be rfl ?_];have fQ:=fP.same sQ;have bn:aP HM HQ:=sP.trans sQ.nt;have cn:=bn _ _ (λ_ z=>by cases z) bo;clear er aX aw dl zl ew u1 u2 u3 u4 u5 fP sP sQ fc a8 sN eN nN;clear r bf ll zs a3 ba L lw lg yd zd;rwa[gm (bt (by show 2<=1000000;decide)) λl2 HR sR nR eR=> ?_]
 obtain ⟨k2,c9,bi,cG⟩:∃k2:Dk,k2.is=[]/\k2.ok hs/\lU [V.str "turns",.str "near"] (if decide (k.wd=s!"turns")=true then 1 else 0)=some (.str (k6 k2.wd k2.is)):=by
  by_cases z:k.wd=s!"turns"
  ·rw [if_pos @X];exact ⟨.near,rfl,trivial,rfl⟩
  ·rw [if_neg (by rw [decide_eq_false z];decide)];exact ⟨.turns,rfl,trivial,rfl⟩
 rwa[aN (aA.of eR) cG ?_];have gQ:=fQ.crt.gg;have cZ:=xC (bn.trans sR.nt) c3;rwa[Rv (k:=k2) cZ bi (λh=>absurd c9 h) (tf _ _ sR.st gQ.1) λbG HS sS gS dd c7=> ?_];rwa[OK cC λcb cS HU sU nU eU=> ?_];have cE:=sS.trans sU.nt;have aV:=sR.nt.trans cE;have c5:=bn.trans aV
 have fU:Fc P w K mg base gu cb st ld td hs wf (dq mg Pn Pl k2 bG) O ws aT (J++cF Y) M2 HU:=by
  have fR:=fQ.nt aV ⟨tf _ _ sU.st gS,Dk.gnt aV gQ.2⟩;exact ⟨⟨⟨cS,hA,ru,k2.ad kn kl kT bG,eU,xC cE cZ,Ec c5 dz,cv k2 bG⟩,⟨tf _ _ sU.st gS,Dk.gst sU.st dd⟩,Dk.lnt sU.nt c7⟩,fR.st,fR.ds,fR.du⟩
 have cX:=aV _ _ (λ_ z=>by cases z) cn;obtain ⟨_,bS⟩:=an.pre bi (by rw [bd];exact bI) bL bB;rwa[lq eU rfl dY ?_];rwa[fC (.inl (aA.of cX)) λlv HV sV nV eV=> ?_];rwa[fU.turn cX sV eV cC a7 an al eM hf bS rfl λr bf ll zs a3 ba HW L fW db er aX aw dl zl ew=> ?_];clear er aX aw dl zl ew;clear r bf ll zs a3 ba L;have bP:=aV.trans db;have fc:=fQ.nt bP ⟨fW.crt.gg.1,Dk.gnt bP gQ.2⟩;have ce:=bP _ _ (λ_ z=>by cases z) cn;clear fU fW eU fQ sV eV;obtain ⟨dc,dh,cL,ch,a8,_⟩:=fc.crt.ex;rwa[lq a8 rfl dY ?_];rwa[fC (.inl (aA.of ce)) λlh HN sN nN eN=> ?_];rwa[fc.turn ce sN eN cC a7 an al eM hf bj c0 λr bf ll zs a3 ba HP L fP sP er aX aw dl zl ew=> ?_];obtain ⟨lw,lg,yd,zd,u1,u2,u3,u4,u5⟩:=fP.du;rw [bU] at dl u5;rwa[oX.mk _ _ _ _ _ _ _ _ _ _ _ _ _ _ _ rfl er aX aw dl u1 u2 u3 u4 u5 ew zl cK λHZ sZ=> ?_];exact q HZ
end
end My
namespace My
open PySem L2 PyProof.Rows
seal PE PT PS tH PA PI PG CW GE PW PO cU M7 aW C3 yv MO Gp
seal su iL iM u9 Jn ua AZ km qd nQ xx Jq Ju xu Dr xz setL Bo Af rA wu C1 As ik A3 GR xN
seal CK m5 Ab L2.xK L2.putAt L2.vJ iU Jb Mu LV PN F8 Jr
seal IS xA DG oZ kN jj
theorem Fo {K:Fg}{H:Hp}{a:Addr}{R:List Int}{E:XK}(S:aA K H a @fA)(W:R.length<=63)(F:∀i∈R,Builtin.Int.intBits i<=2^20)(L:∀t∈([(315,311),(320,318),(334,330),(341,337)]:List (Addr×Addr)),H t.2=some (.tbl #[])):wU K 311 318 330 337 [.ref a] H (λv _=>v= .bl true) E:=⟨a,R,rfl,⟨⟨S,W⟩,F⟩,⟨jh (L (315,311) (.head _)),jh (L (320,318) (.tail _ (.head _))),jh (L (334,330) (.tail _ (.tail _ (.head _)))),jh (L (341,337) (.tail _ (.tail _ (.tail _ (.head _)))))⟩,λ_=>rfl⟩
theorem FR {P:Program}{w:World}{K:Fg}{mg:Str->Option Value}{base:Heap}{j F z:Addr}(J:tJ K j)(L:bw K j "turns")(U:tJ K F)(O:bw K F "turns")(Y:tJ K z)(G:bw K z "turns")(W:oP P w K mg base aZ 1 "left" j (iJ K JN))(S:oP P w K mg base aZ 1 "left" F (iJ K hst))(I:oP P w K mg base aZ 1 "left" z (iJ K Gz)):J4 P w K mg base j F z:=by
 rwa[⟨λk R=> ?_,λk R=> ?_⟩]
 ·rcases R with rfl|rfl|rfl
  ·rw [Mg];exact ⟨J,L⟩
  ·rw [Mh];exact ⟨U,O⟩
  ·rw [Mf];exact ⟨Y,G⟩
 ·rcases R with rfl|rfl|rfl
  ·rw [Mg];exact W
  ·rw [Mh];exact S
  ·rw [Mf];exact I
theorem MK {l:PySem.W.OpenLaw}{w:World}{K:Fg}{h:Heap}{mg:Str->Option Value}{fa:Addr}(X:K.In h)(G:h.Ns mainGlobals mg)(cB:mg "law"=some (.ref fa))
{ss lz vP iX aa S j vQ g8 jI gu f1 f2 f3 f4 f5 f6 f7 f8 f9 cK cW di dZ dN cR bR ef b2 bK cy dy bl Y bQ cP bu ec dE cF ca bS cA eo cm ct el bJ bq bH br ab af b7 ac ag dS cL dQ b9 cE cu bW dF bz c3 dt a7 cq cU bs dh bF c7 dA dm cJ ep a6 aB cb dj de ea bp db dC b1 d5 bM d3 et dM d2 c6 bC b0 en dK d4 d9 b4 eh dV cS:Addr}{aF a9:Option Addr}{ap:Array @B}{ay aY aw a2 bj:Value}{as a5:Option Addr}{al:Array @B}{a1 a3 aX aI aN:Value}{bb an:Option Addr}{aW:Array @B}{aM ba bc aj ar:Value}{aH aC:Option Addr}{aA:Array @B}{ak aE bd aP am:Value}{Ds:Tok}{Kz:Tok}{Ky:Tok}{sd:Tok}{Dt:Tok}{wN:Tok}{wM:Tok}{Kx:Tok}
(Nf:W.nsIn K mainGlobals "Door"=some (some (.ref ss)))
(Kh:W.nsIn K mainGlobals "Hasty"=some (some (.ref lz)))
(Nd:W.nsIn K mainGlobals "Slow"=some (some (.ref vP)))
(GJ:W.nsIn K mainGlobals "NoDeal"=some (some (.ref iX)))
(M9:W.nsIn K mainGlobals "near"=some (some (.ref aa)))
(Kc:W.nsIn K mainGlobals "least"=some (some (.ref S)))
(Bm:W.nsIn K mainGlobals "by_turns"=some (some (.ref j)))
(GK:W.nsIn K mainGlobals "Moment"=some (some (.ref vQ)))
(GI:W.nsIn K mainGlobals "NoRule"=some (some (.ref g8)))
(Ke:W.nsIn K mainGlobals "Table"=some (some (.ref jI)))
(Ki:W.nsIn K mainGlobals "Court"=some (some (.ref gu)))
(R:J6 K ss)
(L:J6 K lz)
(U:J6 K vP)
(I:wt K vQ)
(cT:Py K jI)
(cC:MY K gu)
(h1:L2.NF K "bit" K5 f1)
(h2:L2.NF K "has" K4 f2)
(h3:L2.NF K "with_bit" qo f3)
(h4:L2.NF K "below" zz f4)
(h5:L2.NF K "above" zA f5)
(h6:L2.NF K "mask_of" vg f6)
(h7:L2.NF K "listed" vi f7)
(h8:L2.NF K "lowest" vh f8)
(h9:L2.NF K "highest" qz f9)
(eg:L2.NF K "floor_of" qA cK)
(cD:L2.NF K "goals_aboard" gN cW)
(bL:L2.NF K "way_of" zq di)
(co:L2.NF K "tasks_of" qq dZ)
(dp:L2.NF K "goes_along" j6 dN)
(bx:L2.NF K "here_of" vz cR)
(dc:L2.NF K "view" D7 bR)
(dX:L2.NF K "turned" vd ef)
(cs:L2.NF K "bounded" qD b2)
(bD:L2.NF K "with_changes" gL bK)
(cn:L2.NF K "steered" qr cy)
(cI:L2.NF K "may_step_in" jZ dy)
(cZ:L2.NF K "exchanged" j8 bl)
(ek:L2.MF K ss "__init__" "Door.__init__" mR Y)
(ao:L2.MF K ss "left" "Door.left" mQ bQ)
(aJ:L2.MF K lz "left" "Hasty.left" j5 cP)
(ah:L2.MF K vP "left" "Slow.left" my bu)
(dd:L2.NF K "door_of" vA ec)
(cQ:L2.NF K "room_of" vf dE)
(ej:L2.NF K "turns_of" qp cF)
(dv:L2.NF K "kind_of" vy ca)
(dk:L2.NF K "do_come" vC bS)
(d8:L2.NF K "dealt_to" qB cA)
(c2:L2.NF K "with_marks" jT eo)
(ed:L2.NF K "without" qm cm)
(dH:L2.NF K "put_mark" qw ct)
(dR:L2.NF K "lose_mark" mI el)
(cr:L2.NF K "do_deed" vB bJ)
(dz:L2.NF K "is_serving" j4 bq)
(dw:L2.NF K "serving" qv bH)
(du:L2.NF K "serving_from" gM br)
(bA:W.nsIn K mainGlobals "near"=some (some (.ref ab)))(av:K.lookup ab=some ⟨ay,aF,.func (W.fnOf "near" "near" (bI d7) (bh d7) @gf .none aY aw a2 a9 (.ref 315) bj),ap⟩)(aV:W.codeIn K (.ref 315) "near"=true)(be:W.keepIn K (.ref ab)=true)
(aK:W.codeHdIn K 315 311=true)
(cO:W.nsIn K mainGlobals "least"=some (some (.ref af)))(bg:K.lookup af=some ⟨a1,as,.func (W.fnOf "least" "least" (bI cN) (bh cN) @gg .none a3 aX aI a5 (.ref 320) aN),al⟩)(a8:W.codeIn K (.ref 320) "least"=true)(az:W.keepIn K (.ref af)=true)
(ai:W.codeHdIn K 320 318=true)
(dL:L2.NF K "by_turns" qC b7)
(d0:W.nsIn K mainGlobals "zone_of"=some (some (.ref ac)))(aQ:K.lookup ac=some ⟨aM,bb,.func (W.fnOf "zone_of" "zone_of" (bI cX) (bh cX) (ae cX) .none ba bc aj an (.ref 334) ar),aW⟩)(a4:W.codeIn K (.ref 334) "zone_of"=true)(aS:W.keepIn K (.ref ac)=true)
(aD:W.codeHdIn K 334 330=true)
(cj:W.nsIn K mainGlobals "fixed_of"=some (some (.ref ag)))(aq:K.lookup ag=some ⟨ak,aH,.func (W.fnOf "fixed_of" "fixed_of" (bI ce) (bh ce) (ae ce) .none aE bd aP aC (.ref 341) am),aA⟩)(aT:W.codeIn K (.ref 341) "fixed_of"=true)(ax:W.keepIn K (.ref ag)=true)
(aL:W.codeHdIn K 341 337=true)
(bN:L2.NF K "writes_number" fM dS)
(bX:L2.NF K "number_of" mz cL)
(cv:L2.NF K "read_lifts" jW dQ)
(cV:L2.NF K "dealer_of" mT b9)
(bw:L2.NF K "deal" AK cE)
(bP:L2.NF K "deal_all" kU cu)
(bt:L2.NF K "log_steps" mJ bW)
(b8:L2.NF K "exchange" mP dF)
(eq:L2.NF K "go_by_rule" mM bz)
(ei:L2.NF K "go_without_fire" fe c3)
(b6:L2.NF K "go" QM dt)
(ee:L2.MF K vQ "__init__" "Moment.__init__" iO a7)
(c0:L2.NF K "state_of" qu cq)
(dg:L2.NF K "need_floor" jX cU)
(b5:L2.NF K "need_lift" mF bs)
(bk:L2.NF K "need_ride" mE dh)
(ck:L2.NF K "need_deed" mG bF)
(dW:L2.NF K "tags_in" ve c7)
(bB:L2.NF K "need_deeds" jY dA)
(bi:L2.MF K gu "turn" "Court.turn" gO dm)
(cY:L2.NF K "place_in_table" fN cJ)
(a0:L2.MF K jI "word" "Table.word" jU ep)
(bO:L2.MF K jI "__init__" "Table.__init__" jV a6)
(c4:L2.MF K gu "__init__" "Court.__init__" j9 aB)
(dl:L2.NF K "_law_cell" zx cb)
(bG:L2.NF K "_law_draw" zv dj)
(da:L2.NF K "_law_great" vq de)
(dq:L2.NF K "_law_whole" vj ea)
(c9:L2.NF K "_law_tag" D8 bp)
(d6:L2.NF K "_law_lift" zu db)
(bV:L2.NF K "_law_house" vp dC)
(dI:L2.NF K "_law_goals" vt b1)
(bZ:L2.NF K "_law_cabin" vw d5)
(dB:L2.NF K "_law_rider" vn bM)
(er:L2.NF K "_law_state" vk d3)
(df:L2.NF K "_law_letters" mL et)
(ch:L2.NF K "_law_rows" zr dM)
(eb:L2.NF K "_law_behind" qy d2)
(bT:L2.NF K "_law_at" K2 c6)
(c5:L2.NF K "_law_best" zy bC)
(dn:L2.NF K "_law_near" zt b0)
(dG:L2.NF K "_law_least" vo en)
(c1:L2.NF K "_law_told_lift" j3 dK)
(bn:L2.NF K "_law_numbers" mK d4)
(cx:L2.NF K "_law_ahead" vx d9)
(dD:L2.NF K "_law_marked" qx b4)
(cG:L2.NF K "_law_dealt" vv eh)
(cp:L2.NF K "_law_right" vm dV)
(cH:L2.NF K "law" K1 cS)
(J3:L2.tJ K ss)
(yq:W.findIn K (.ref ss) "turns"=some none)
(Gx:L2.tJ K lz)
(ww:W.findIn K (.ref lz) "turns"=some none)
(J2:L2.tJ K vP)
(yp:W.findIn K (.ref vP) "turns"=some none)
(Kb:W.nsIn K mainGlobals "range"=some none)
(P1:W.nsIn K mainGlobals "len"=some none)
(Ka:W.nsIn K mainGlobals "tuple"=some none)
(LU:L2.Mk K ss Y)
(II:L2.Mk K lz Y)
(LS:L2.Mk K vP Y)
(C4:W.nsIn K mainGlobals "NO_LIFT"=some (some (.int (-1) Ds)))
(Kg:W.nsIn K mainGlobals "STUCK"=some (some (.int 0 Kz)))
(Kf:W.nsIn K mainGlobals "TAKEN"=some (some (.int 1 Ky)))
(yw:W.nsIn K mainGlobals "enumerate"=some none)
(PY:W.nsIn K mainGlobals "min"=some none)
(P5:W.nsIn K mainGlobals "abs"=some none)
(P4:W.nsIn K mainGlobals "all"=some none)
(r9:W.nsIn K mainGlobals "MOST_FIGURES"=some (some (.int 9 sd)))
(C5:W.nsIn K mainGlobals "FIGURES"=some (some (.str "0123456789" Dt)))
(P2:W.nsIn K mainGlobals "int"=some none)
(P3:W.nsIn K mainGlobals "any"=some none)
(jq:W.excIn K iX [.type "ValueError",.type "Exception",.type "BaseException",.type "object"] "ValueError.__new__"=true)
(wD:W.nsIn K mainGlobals "MOST_FIXED"=some (some (.int 9 wN)))
(Na:W.nsIn K mainGlobals "list"=some none)
(Nb:W.nsIn K mainGlobals "dict"=some none)
(Fe:L2.Mk K vQ a7)
(wB:W.nsIn K mainGlobals "TABLE_SIZE"=some (some (.int 36 wM)))
(Kd:W.nsIn K mainGlobals "WORDS"=some (some (.str "oxuds" Kx)))
(vS:W.excIn K g8 [.type "ValueError",.type "Exception",.type "BaseException",.type "object"] "ValueError.__new__"=true)
(wA:W.nsIn K mainGlobals "isinstance"=some none)
(Nc:W.nsIn K mainGlobals "bool"=some none)
(PX:W.nsIn K mainGlobals "str"=some none)
(PZ:W.nsIn K mainGlobals "max"=some none)
(IH:L2.Mk K jI a6)
(MT:L2.tM K jI)
(IJ:L2.Mk K gu aB)
(MV:L2.tM K gu):
 ∃fd:FuncData,(∀(s:Shared) (v:Value),BindsTo s fd ⟨[v],[]⟩ [("_law_script",v)])/\∀base:Heap,K.In base->base.Ns mainGlobals mg->L2.jf base mg->au l.prog w K mg base aZ 11 fa fd ["_law_script"] (wU K 311 318 330 337):=by
 obtain ⟨bE,_,F94⟩:=cH;cases cB.symm.trans (W.mg_of X G bE);rwa[⟨_,F94.law,λbase KB _ BB=> ?_⟩];have T:L2.tE l.prog w K mg base h:=⟨X,G⟩;have OR:=T.gl Nf;have Mr:=T.gl Kh;have OQ:=T.gl Nd;have jr:=T.gl GJ;have ut:=T.gl M9;have m8:=T.gl Kc;have eu:=T.gl Bm;have I9:=T.gl GK;have vW:=T.gl GI;have Mq:=T.gl Ke;have Ms:=T.gl Ki;have F41:=m9 (x:="near") (qual:="near") (st:=d7) av aV be
 have ci:=F41.binds (ps:=["cabins","waiting","rider","last"]) λ_ _ _ _ _ _ us hl=>match us,hl with|[_,_,_,_],_=>rfl
 have F42:=m9 (x:="least") (qual:="least") (st:=cN) bg a8 az
 have d1:=F42.binds (ps:=["cabins","waiting","rider","last"]) λ_ _ _ _ _ _ us hl=>match us,hl with|[_,_,_,_],_=>rfl
 have F44:=m9 (x:="zone_of") (qual:="zone_of") (st:=cX) aQ a4 aS
 have cw:=F44.binds (ps:=["lifts"]) λ_ _ _ _ _ _ us hl=>match us,hl with|[_],_=>rfl
 have F45:=m9 (x:="fixed_of") (qual:="fixed_of") (st:=ce) aq aT ax
 have c8:=F45.binds (ps:=["lifts"]) λ_ _ _ _ _ _ us hl=>match us,hl with|[_],_=>rfl
 have Ps:=J3.cl;have MU:=Gx.cl;have Pq:=J2.cl;have z:=T.no Kb;have J:=T.no P1;have bo:=T.no Ka;have Z:=T.gl C4;have vV:=T.gl Kg;have FI:=T.gl Kf;have cz:=T.no yw;have Cj:=T.no PY;have Cm:=T.no P5;have L6:=T.no P4;have jJ:=T.gl r9;have xG:=T.gl C5;have vL:=T.no P2;have Ck:=T.no P3;have oo:=T.gl wD;have cc:=T.no Na;have Fi:=T.no Nb;have on:=T.gl wB;have FH:=T.gl Kd;have bv:=T.no wA;have Fj:=T.no Nc;have Ci:=T.no PX;have L5:=T.no PZ;have yg:=T.cal' h1 λF=>LN F;have oO:=T.cal' h2 λF=>LJ F yg;have eF:=T.cal' h3 λF=>ED F yg;have wg:=T.cal' h4 λF=>E4 F yg;have Gc:=T.cal' h5 λF=>E6 F wg;have rJ:=T.cal' h6 λF=>BY F eF;have Be:=T.cal' h7 λF=>B3 F z oO;have Bd:=T.cal' h8 λF=>B1 F Be;have x9:=T.cal' h9 λF=>zP F;have bU:=T.cal' eg λF=>EY F;have cg:=T.cal' cD λF=>EX F;have ib:=T.cal' bL λF=>Ly F;have uB:=T.cal' co λF=>EH F J cg rJ;have oB:=T.cal' dp λF=>E5 F ib;have ya:=T.cal' bx λF=>Ix F bU oO cg oB;have JX:=T.cal' dc λF=>Ih F bU uB Gc Bd wg x9 ya;have Bc:=T.cal' dX λF=>zN F J bU cg;have yf:=T.cal' cs λF=>zQ F bU;have cf:=T.cal' bD λF=>Ig F;have x6:=T.cal' cn λF=>zM F J Bc yf cf;have ie:=T.cal' cI λF=>LF F ib;have rV:=T.cal' cZ λF=>Iy F J bo bU ib ie;obtain ⟨ev,_,F23⟩:=ek;have ad:=T.ok (Iw F23);have Fm:=T.mkc F23 LU OR ad;have zZ:=T.mkc F23 II Mr ad;have Fk:=T.mkc F23 LS OQ ad;have Aq:=T.mcal' ao Ps ao.1 λF=>EV F;have ym:=T.mcal' aJ MU aJ.1 λF=>EU F;have Ap:=T.mcal' ah Pq ah.1 λF=>ET F;have yb:=T.cal' dd λF=>Ca F R L U Fm zZ Fk;have lQ:=T.cal' cQ λF=>Io F;have jw:=T.cal' ej λF=>zL F;have x8:=T.cal' dv λF=>B9 F;have ye:=T.cal' dk λF=>IA F I Z oO;have eQ:=T.cal' d8 λF=>EZ F;have fD:=T.cal' c2 λF=>Lw F;have xZ:=T.cal' ed λF=>zK F yg oO;have uC:=T.cal' dH λF=>Ip F I Z eF fD eQ;have rK:=T.cal' dR λF=>EO F I xZ fD;have lT:=T.cal' cr λF=>OF F I vV FI ye eF uC rK;have fG:=T.cal' dz λF=>LH F;have lP:=T.cal' dw λF=>Il F cz fG;have bY:=T.cal' du λF=>OA F J z Z fG;have em:=T.ok (Ir av aV (W.codeHd_of_K KB aK) BB Cj Cm Z lP);have Gb:L2.aR l.prog w K mg base _ "near" ["cabins","waiting","rider","last"] _:=⟨_,_,em,ci,be,T.gl bA⟩;have dT:=T.ok (EW bg a8 (W.codeHd_of_K KB ai) BB Cj J Z lP);have Ak:L2.aR l.prog w K mg base _ "least" ["cabins","waiting","rider","last"] _:=⟨_,_,dT,d1,az,T.gl cO⟩;have nu:=T.cal' dL λF=>EF F Z bY;have b3:=L2.JT (P:=l.prog) (w:=w) (mg:=mg) (base:=base) (k:=0) (N:=["lifts"]) (lp:=py cX) (lb:=pq cX) (lsc:=gt cX) aQ a4 DN (W.codeHd_of_K KB aD) BB @cn @cn @cn rfl;have rD:L2.aR l.prog w K mg base _ "zone_of" ["lifts"] _:=⟨_,_,b3,cw,aS,T.gl d0⟩;have dP:=L2.JT (P:=l.prog) (w:=w) (mg:=mg) (base:=base) (k:=0) (N:=["lifts"]) (lp:=py ce) (lb:=pq ce) (lsc:=gt ce) aq aT BK (W.codeHd_of_K KB aL) BB @cn @cn @cn rfl;have nq:L2.aR l.prog w K mg base _ "fixed_of" ["lifts"] _:=⟨_,_,dP,c8,ax,T.gl cj⟩;have i8:=T.cal' bN λF=>Oz F J L6 jJ xG;have rE:=T.cal' bX λF=>LC F vL i8;have ft:=T.calX' cv λF=>OB F J Ck jr jq rE;have yx:=T.calX' cV λF=>OG (Pn:=311) (Pl:=318) (Pz:=330) (Pf:=337) @b F J oo jr jq ut m8 eu ft rD nq;have ii:=yx.calm;have Bg:=T.cal' bw λF=>E1 F I bo Z eQ;have jy:=T.cal' bP λF=>Cc F I cc cz Z Bg;have rL:=T.cal' bt λF=>Iu F I bU;have uF:=T.cal' b8 λF=>LL F I (FR J3 yq Gx ww J2 yp Aq ym Ap) J lQ jw x8 rV rL yb oO cf;have oC:=T.cal' eq λF=>LM F I lQ jw JX x6;have gA:=T.cal' ei λF=>LK F I uF cf oC;have bm:=T.cal' b6 λF=>OD F I vV oO gA;have ly:=T.mkc' ee Fe I9 λF=>EN F cc;have jx:=T.cal' c0 λF=>LA F I bo;have oz:=T.cal' dg λF=>BX F;have rG:=T.cal' b5 λF=>EM F J;have rF:=T.cal' bk λF=>EL F oz;have rH:=T.cal' ck λF=>Iq F rF rG;have x5:=T.cal' dW λF=>Ik F;have fE:=T.cal' bB λF=>LD F Fi x5 rH;have dY:=T.mcal' bi MV bi.1 λF=>EG F I J z fE ly lT jy bm jx;have iw:=T.cal' cY λF=>EK F;have jc:=T.mcal' a0 MT a0.1 λF=>BW F iw;have zY:=T.mkc' bO IH Mq λF=>EI F J Ck on FH vW vS;have vM:=T.mkc' c4 IJ Ms λF=>E3 F;have gz:=T.cal' dl λF=>IB F J;have O:=T.cal' bG λF=>OE F gz;have rP:=T.cal' da λF=>OC F gz;have dO:=T.cal' dq λF=>EE F bv vL Fj;have dU:=T.cal' c9 λF=>Lz F O rP;have uE:=T.cal' d6 λF=>ES F O;have rO:=T.cal' bV λF=>B4 F bo z O uE;have rQ:=T.cal' dI λF=>B5 F cc z;have rS:=T.cal' bZ λF=>B7 F J z bo O dU rQ;have fq:=T.cal' dB λF=>B0 F J O;have rM:=T.cal' er λF=>BZ F z J bo O dU rS fq;have lS:=T.cal' df λF=>Iv F z O;have nj:=T.cal' ch λF=>Im F bv cc bo Ci J dO;have fF:=T.cal' eb λF=>LO F J z;have Bf:=T.cal' bT λF=>OH F fF;have eO:=T.cal' c5 λF=>IC F J z;have uD:=T.cal' dn λF=>ER F Cm eO;have rN:=T.cal' dG λF=>B2 F J z eO;have ja:=T.cal' c1 λF=>Ij F J uD rN fF Bf;have lR:=T.cal' bn λF=>EQ F J z O;have rT:=T.cal' cx λF=>B8 F J O;have oA:=T.cal' dD λF=>zO F cc;have rR:=T.cal' cG λF=>B6 F J z cc ja;have ig:=T.cal' cp λF=>EJ F bv bo J nj dO;exact LG (Pn:=311) (Pl:=318) (Pz:=330) (Pf:=337) @b F94 J z cc L5 Ci vL ut m8 eu Gb Ak nu bY ii rO O rM lS dU lR rT oA fq rR ig zY cT jc vM cC dY
theorem P6 {l:PySem.W.OpenLaw}{q:Program}{j:List Str}{L:(Str->Option Value)->Heap->Prop}{J:World->Heap->Prop}{d:DefRec}{K:Params->Fg}(R:l.most=some 63)(G:d.params.defaults=[])
(O:∀(w:World) (h:Heap),J w h->(K w.params).In h/\∀t∈([(315,311),(320,318),(334,330),(341,337)]:List (Addr×Addr)),h.get? t.2=some (W.tabObj #[]))(aj:∀w:World,W.noTabs @bH=true)(I:∀w:World,∀t∈([(315,311),(320,318),(334,330),(341,337)]:List (Addr×Addr)),W.codeHdIn @bH t.1 t.2=true)
(F:∀(w:World) (mg:Str->Option Value) (fa:Addr) (h:Heap),(K w.params).In h->h.Ns mainGlobals mg->mg d.name=some (.ref fa)->
   ∃fd:FuncData,(∀(s:Shared) (u:Value),BindsTo s fd ⟨[u],[]⟩ [("_law_script",u)])/\∀base:Heap,(K w.params).In base->base.Ns mainGlobals mg->L2.jf base mg->au l.prog w @bH mg base aZ 11 fa fd ["_law_script"] (wU @bH 311 318 330 337)):
 PySem.W.WalkO q j L J l.row.toRowW d [] @cI:=
 L2.Df (tabs:=λ_=>[(315,311),(320,318),(334,330),(341,337)]) (n:=63) (k:=11) (x:="_law_script") (CX:=λ_=>aZ) (sp:=λw=>wU @bH 311 318 330 337) R @b G ⟨rfl,by decide,by decide⟩ O aj I F (λ_ _ a ns Z Y S U=>Fo U Z Y S) λ_ _ _ _ _ z=>z
end My
open PySem PySem.W PyProof.Rows
local macro_rules | `(tactic| walk_at "l3t") => `(tactic| first | (refine' L2.OI ?_ ?_ ?_ ?_; all_goals try k_is) | (refine' L2.OM ?_ ?_ ?_ ?_ ?_; all_goals try k_is) | k_is | kernel_rfl | (refine L2.RM ?_; constructor <;> walk_at "l3t"))
set_option maxRecDepth 100000 in
set_option maxHeartbeats 0 in
theorem PySem.Challenge.cw_liftcourt_k35_dealt_in_a_turn_holds : PySem.Challenge.rw_liftcourt_k35_dealt_in_a_turn.Holds := by
 w_on;o_law;k_head;(case hw=>w_witness2)
 k_fill
 rwa[My.P6 (l:=PySem.Challenge.rw_liftcourt_k35_dealt_in_a_turn) rfl rfl (λw h Y=>⟨PySem.W.km_in_of Y,λt J=>PySem.W.km_tabs_of Y _ (by simp only [mem_cons,not_mem_nil,or_false] at J;rcases J with rfl|rfl|rfl|rfl<;>decide)⟩) ?lnt ?lhc ?F]
 (case lnt=>intro w;kernel_rfl)
 (case lhc=>intro w t J;simp only [mem_cons,not_mem_nil,or_false] at J;rcases J with rfl|rfl|rfl|rfl<;>kernel_rfl)
 case F=>
  intro w mg j h Z G U;refine' My.MK Z G U ?_ ?_ ?_ ?_ ?_ ?_ ?_ ?_ ?_ ?_ ?_ ?_ ?_ ?_ ?_ ?_ ?_ ?_ ?_ ?_ ?_ ?_ ?_ ?_ ?_ ?_ ?_ ?_ ?_ ?_ ?_ ?_ ?_ ?_ ?_ ?_ ?_ ?_ ?_ ?_ ?_ ?_ ?_ ?_ ?_ ?_ ?_ ?_ ?_ ?_ ?_ ?_ ?_ ?_ ?_ ?_ ?_ ?_ ?_ ?_ ?_ ?_ ?_ ?_ ?_ ?_ ?_ ?_ ?_ ?_ ?_ ?_ ?_ ?_ ?_ ?_ ?_ ?_ ?_ ?_ ?_ ?_ ?_ ?_ ?_ ?_ ?_ ?_ ?_ ?_ ?_ ?_ ?_ ?_ ?_ ?_ ?_ ?_ ?_ ?_ ?_ ?_ ?_ ?_ ?_ ?_ ?_ ?_ ?_ ?_ ?_ ?_ ?_ ?_ ?_ ?_ ?_ ?_ ?_ ?_ ?_ ?_ ?_ ?_ ?_ ?_ ?_ ?_ ?_ ?_ ?_ ?_ ?_ ?_ ?_ ?_ ?_ ?_ ?_ ?_ ?_ ?_ ?_ ?_ ?_ ?_ ?_ ?_ ?_ ?_ ?_ ?_ ?_ ?_ ?_ ?_ ?_ ?_ ?_ ?_ ?_ ?_ ?_ ?_ ?_ ?_
  all_goals try walk_at "l3t"
