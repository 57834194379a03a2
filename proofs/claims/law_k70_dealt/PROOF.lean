import PyProof.Rows.All
import Wide.All
import KE.KDictOf
import KE.KDictList
import KE.KNestM
import KE.KFromBytes
import KE.KIsAll
import KE.KLam
import KE.RegMulBits
import Wide.FinOn
import KE.LcSums
import KE.KIntText
import KE.KRevIter
import KE.KMinKey
import KE.KCount
import PySem.Challenge.RW_liftcourt_k70_dealt
set_option Elab.async false
set_option bootstrap.genMatcherCode false
set_option linter.all false
set_option maxRecDepth 100000
set_option maxHeartbeats 4000000
local macro_rules|`(s! $x)=>match x.raw[0].isInterpolatedStrLit? with|some s=>`(PySem.Str.ofString $(Lean.quote s))|_=>Lean.Macro.throwUnsupported
local macro_rules|`(tactic|symm)=>`(tactic|(intro _ _ _ _ h;cases h;subst_vars;rfl))
local macro_rules|`(tactic|ac_rfl)=>`(tactic|exact ⟨rfl,rfl,rfl,by decide+kernel,rfl,by decide+kernel,by decide+kernel⟩)
local macro_rules|`(tactic|ext)=>`(tactic|conv=>whnf)
local macro_rules|`(tactic|rwa[$x:term])=>`(tactic|refine $x)
local macro_rules|`(tactic|erw[$x:term])=>`(tactic|(refine $x;conv=>whnf))
local macro_rules|`(tactic|left)=>`(tactic|walk_at "l3go")
local macro_rules|`(tactic|right)=>`(tactic|walk_at "l3dd")
namespace Lean
def wN:=Syntax.node .none
def wI(s:String):Syntax:=mkIdent (.mkSimple s)
def wA(s:String):Syntax:=if s=="_" then wN ``Parser.Term.hole #[mkAtom s] else
 let c:=s.front;if c=='?' then wN ``Parser.Term.syntheticHole #[mkAtom "?",mkAtom "_"] else if c=='@' then wN ``Parser.Term.explicit #[mkAtom "@",mkIdent (s.drop 1).toString.toName] else
 if c.isDigit then Syntax.mkNumLit s else if c=='"' then Syntax.mkStrLit ((s.drop 1).dropEnd 1).toString else if c=='!' then Unhygienic.run (match s with|"!r"=>`((by right))|"!d"=>`((by decide))|"!l"=>`((by lia))|"!a"=>`((by assumption))|"!s"=>`((by simp))|"!k"=>`((by decide+kernel))|"!c"=>`((by kernel_rfl))|"!q"=>`((by walk_at "l3sq"))|"!f"=>`((by first|assumption|decide|lia))|"!g"=>`((by first|assumption|decide))|"!h"=>`((by first|decide|lia))|_=>`((by with_unfolding_all rfl))) else
 let d p:= !(p:String).front.isDigit;if c=='.' then wN ``Parser.Term.dotIdent #[mkAtom ".",mkIdent (s.drop 1).toString.toName] else let q:=s.splitOn ".";let i:Syntax:=mkIdent ((q.takeWhile d).foldl .str .anonymous);(q.dropWhile d).foldl (λt p=>wN ``Parser.Term.proj #[t,mkAtom ".",if d p then wI p else wN `fieldIdx #[mkAtom p]]) i
def wE(x:String):Syntax->Bool|.atom _ y=>x != y|_=>true
def wF:List Syntax->Syntax|[]=>.missing|[x]=>x|x::y=>Syntax.mkApp ⟨x⟩ (y.toArray.map (⟨·⟩))
def wL(l:List Syntax):Syntax:=match l.dropWhile (wE "λ") with|[]=>wF l|_::b=>let v:TSyntaxArray ``Parser.Term.funBinder:=(b.takeWhile (wE "=>")).toArray.map (⟨·⟩);let e:Term:=⟨wF ((b.dropWhile (wE "=>")).drop 1)⟩;wF (l.takeWhile (wE "λ")++[(Unhygienic.run `(fun $v*=>$e)).raw])
def wS(l:List Syntax):Syntax:=let r:=l.foldl (λ(s:Array Syntax×List Syntax) x=>if wE "," x then (s.1,x::s.2) else (s.1.push (wL s.2.reverse),[])) (#[],[]);Syntax.mkSep (if r.2.isEmpty then r.1 else r.1.push (wL r.2.reverse)) (mkAtom ",")
def wC(c:Char)(l:List Syntax):Syntax:=if c==']' then wN `«term[_]» #[mkAtom "[",wS l,mkAtom "]"] else if c=='⟩' then wN ``Parser.Term.anonymousCtor #[mkAtom "⟨",wS l,mkAtom "⟩"] else match l with|x::y::r=>if wE ":=" y then wL l else wN ``Parser.Term.namedArgument #[mkAtom "(",x,mkAtom ":=",wL r,mkAtom ")"]|_=>wL l
def wP(s:List (List Syntax)×String)(x:Syntax):List (List Syntax)×String:=match s.1 with|[]=>s|f::g=>((x::f)::g,"")
def wG(s:List (List Syntax)×String):List (List Syntax)×String:=if s.2=="" then s else wP s (if s.2=="=>"||s.2==":=" then mkAtom s.2 else wA s.2)
def wT(s:List (List Syntax)×String)(c:Char):List (List Syntax)×String:=if " ([⟨)]⟩,λ".contains c then let s:=wG s;if c==' ' then s else if "([⟨".contains c then ([]::s.1,"") else if c==','||c=='λ' then wP s (mkAtom c.toString) else match s.1 with|f::g=>wP (g,"") (wC c f.reverse)|_=>s else (s.1,s.2.push c)
def wD(t:String):Syntax:=match (wG (t.foldl wT ([[]],""))).1 with|[f]=>wL f.reverse|_=>.missing
def wH(s:String):MacroM (TSyntax `tactic):=do
 let r←(s.splitOn "|").toArray.mapM λx=>do
  let q:=x.splitOn "~";let p:Term:=⟨wD q.head!⟩;let e:Term:=⟨wD q.getLast!⟩;`(Parser.Tactic.tacticSeq|(show $p;exact $e))
 `(tactic|first $[|$r]*)
end Lean
def Lean.wW:=("!r~!l~!d~model X.prog X.w~!s~Nat.le_refl _~!k~ac(am @a)~λC s H ex => @a~λj A outer s H L Q E U h => ?_~λz => ?_~model prog w~bc X scope N' C s H ex~Or.inl rfl~!c~upd(upd H dx(.own a))a(.ins C dx[])~Nat.lt_of_lt_of_le(Heap.lt_size e)I.ok.above~λC s H ex => bC~λC s H ex => (ff(K := K)(n := 4)rfl rfl(aE @a(aE @a(aE @a(aE @a dB)))))~PySem.W.instObj C s.heap.objs.size~EP X pins σ Q~λz => absurd z.1 @c~starEach es X.env~λC s H ex => (ff(K := K)(n := 2)rfl rfl(aE @a(aE @a dB)))~az @a(ac(am bZ))av~Option Nat~excClassObj nm q C N bs bm hdct sn sub ab col dd k0 k1 k2 k3 k5 newId~bb I q @e~fK a(.ref C)none~post_val_or_str⟨Nat.le_trans(Txt.slice_le z _ _)J,G⟩~dg pk σ~bc X scope N' C F H fp~λad A outer s H vs Q E hr h => ?_~ao @a aj~wpAny_mono go(λv s₃ Y => wpAny_bind(wpAny_standAt(wpAny_pure Y)))λ_ _ x => x~some(.ref f)~ao(wv 1)aj~envOfC qual scope s.heap.objs.size f cd~fK a(.ref C)(some d)~Heap.lt_size e~upd H p(.lst ys)~model P w~ac(aS @a)~λC s H ex => (wv 0)~λS A outer s H vs Q E hr h => ?_~Option Value~ns.map V.int~lV P w~upd H a o~λC s H ex => (fz @a)~!u~length_filter_le _ _~~~~~~~~~~~bt i M~aB hs.lo⟨cs,ws,last,false,0,[]⟩ds~fc X.env.cells scope.names[]~λL => L.map Rw.d~Nat.ne_of_lt(Nat.lt_of_lt_of_le @N(I.ok.cab x c U J))~iQ(aK.of e1)(.cons(.str _)(.cons(.int _).nil))~A.deeper(envOfC qual(ae st)s.heap.objs.size f cdv)~List.map V.bl bs~wpAny_pure⟨_,rfl,wpAny_pure h⟩~rs.map bo.d~az @a @h av~λ_ _ => rfl~Nat.lt_irrefl _~iR CX P w K mg base N qual scope f j A outer s H E~cW so room pl s r~λj A outer s H R Q E U h => ?_~λG A outer s H L Q E U h => ?_~envX qual scope s.heap.objs.size f(.ref c')Y~bw @b~I.hok.fresh @f~j pins s σ H _ I h~aB hs.lo S.st ds~List Dd~List Rw~~λx c z => fk.keep z st~zs.map V.int~binaryOp .Add~Nat.le_succ _~mem_append_right _(.head _)~λh => ?_~start N vs~some v~upd H p(.lst(xs.set j v))~upd(upd H P _)c' _~dE rfl(wv 0)(wv 1)~kla_obj name qual j R scope Y pm c' ctv~bw @e~c9 rfl~S pins s σ H _ I h~I.ok.hd hc~L pins s σ H _ I h~U pins s σ H _ I h~K w.params~ac cI~mS cs ws j~λh2 => ?_~Nat.ne_of_lt @q~qE xs lo hi~starEach es env~upd H' D(.lst ys)~λR A outer s H vs Q E hr h => ?_~~~~~~~~~~~λb o j e => eb b o j e~upd H a(.ins C dx(putF f y fs))~G.hok.fresh @f~upd H l(.lst ys)~ps.zip us~ae st~Builtin.Str.glued z ts~λz A outer s H L Q E U h => ?_~!q~λj A outer s H O Q E U h => ?_~bv hs.fl R~L.st.trans(.updL(L _ _ a.el))~aV(kI rfl)rfl dN boot_list @H~pyNext(.ref it)~λys H' p l2 Y => ?_~F.mapλf => aW n f r~letOwnedTupleGo tg(.ref it)u~wpAny_pure ?_~Value.ref j.objs.size~Value.ref G.objs.size~upd H2 l1(.lst(I.map V.int))~keywordEach[]X.env~ao(wv 2)aj~ao(wv 5)aj~ao(wv 4)aj~jD H m lc lw ll~λvs H Q E h => ?_~ac(am j8)~PySem.F.args_tuple_add_2 _ _~aD.of a.ec~mS S.cs S.ws S.last~fc env.cells scope.names[]~ds.getD j .non~es.getD j .non~λ_ _ _ q => q~Nat.lt_succ_self _~ps.mapλp => p.cps.toList~λh1 => ?_~compEnvC scope @bc C X.env~starEach[]X.env~upd H dd(.dK[])~cg hs.so c.pl c.li c.ps wd~upd H l(.tup ys)~aD.of e2~J.same L~aD.of el~R b o e j~g i j~wpAny_bind ?_~assign(.Name x G)X.env~aP h'.1~br h'.2~~~~~~~~~~~λx => x.1.isSome~upd H p o~λf vs => PySem.call f vs~unhid cs H H2~cg so pl li ps wd~λz => h1 z.1~Sum.inl f.tag~az @a(ac @a)av~ij @a(lr @a(wv 2)qU)~f(.int i t)(.int j u)~iX(j.take xs.length)f~ao(wv 3)aj~λy => ?_~bV P w~~λ_ q => q~compareOp .NotIn~some d~ps.mapλp => p.2.toNat~decide_eq_true z~I.base.keep b o e n O G~Y pos pins s σ H _ I h~ts.map V.str~CR aY outer P w H s Q E~upd(upd H1 a @C)a @M~nV Kλl => .int l.rm~nV Kλl => .int l.tn~bA rfl aQ @H~λi x ys H' J p => ?_~F.args_str_split_2 _ _~iV.ok fl~aD.of e1~aB hs.lo @bT ds~ac(am(wv 2))~λj ys H' hj p => ?_~I.base.free b o e n j~~PySem.mem_of_lookup h~HT.sIx xs.length 0 lo~cQ st~λb u z => ?_~rs.take i~AD @b~L2.hid cs H~S0 hs~~G.map V.int~TP X pins σ Q~PySem.W.instObj C dx~hi pins s σ H _ I h~ao(wv 11)aj~λW => ?_~~~~~~~~~~~I.freeC x c e~xx X.stack~compareOp .In~σ.set j none~Int.le_refl _~J.unmark I.ok~mem_cons_of_mem _ O~iP x(.ref J)none~some u~aD.of af~fV rfl~λL H Q E h => ?_~I.base.tups b xs e~iP a(.ref D)@dr~az(fG @a)@cB av~az(fG @a)@bS av~iP x(.ref G)@dr~eval o X.env~λfl s' hs => ?_~keeperOf(.ref f)~λz => h z.2~λz => R z.1~W0.map V.int~Ne.symm R~UW X pins σ tg R~I.ok.hd J~Value.type.inj cl~decide_eq_true h1~wv 10~yC K GG LB pre dl~dE rfl(wv 0)@a~R.seqT hT~Sum.inl t~F b _ qλz => z~u2 h lc lw M.last M.fire M.bl ll~λσ J pv => ?_~λz2 => ?_~λσ G pv => ?_~bq q F~compareOp j~typeIs_str s z t~ns.map WData.int~FU pk wi g tt te~FH pk wi g tt te~typeIs_str _ _ _~λ_ _ _ => False~u4 j.heap H~iY rfl~cg so pl li ps j~jD H1 m lc lw ll~gQ P w K mg base~yj rfl~~~~~~~~~~~λσ J Y => ?_~λσ U Z => ?_~Nat.ne_of_lt @N~eval iter X.env~s.heap.push PySem.W.emptyDict~I.hok.fresh @bC~sIx j.size 0 lo~eV st~aK.of e1~λS => ?_~fb lo M t s g k~d9 R 0 n~Rr r ta tb~~Or.inr rfl~upd H a @M~h1.trans z~xs.set i v~L _ _ a.ew~uc h ru df~Heap.lt_size q~binaryOp .Mult~λ_ _ => False~Nat.ne_of_lt z~XP X pins σ E~aR dl M.ws i M~ao(wv 0)@cw~jX(B2 k)@bv~ao(wv 4)@cx~some(.ref a)~some 6~tupleKind @dn~I.ok.hd R~bV X.prog X.w~I.tok _~hb _ _ _ _ ?_~wpAny_rule ?_~gC F h2~Nat.zero_le _~ps.map mE~aa @bk @h~ps.take i~ds.take i~tI hr~Str.ofString \"0123456789\"~bx(j := 0)rfl~vd rfl hr~W q J~ao(wv 6)aj~I.stkSub b z~σ.set i @bG~eval e X.env~~~~~~~~~~~eE S.cs S.ws~Option V~bc X scope N' C s H fp~List Nat~hid cs H~d9 R t m~j.map lT~fs.lookup f~SP X pins D~hr.deeper _~i _ _ _ _ q~aS @a~fq dl M p r~aR dl W i M~ls.map iV.d~zs.getD i 0~FF dss Ls i~bE G R~ac(am cE)~Str.ofString \"oxuds\"~toString i~tb σ H1 Q~Flow.ret v~vb c' q~eG kvs k y~eG kvs k v~xf I.hok U~L _ _ a.el~aD.of a.ew~rk.cl k~dq mg k lx~aK.of al.1~R.map ce.d~fQ R n W r~λ_ => rfl~L.foldl(aW n)f~upd H x o~Ne.symm F~KX _ _ lk~L.trans S~bs.all id~xs.length~ks.map kV~yk rfl hr~s2.get e1~Me C dx t~bw @c~s6 _ _ ah~bx hy~zq M i~TT R t~X.wish E~~~~~~~~~~~eh kvs k~eE cs ws~aB hs.lo @cE ds~backTo pos @bX~eG kvs G.1 G.2~MI lo n~kc kD kH kS k~hs.ls.map Nf~ds.filter jx~JK K a~MG K a~Df R t W Ls~its.push y~aB lo M ds~L2.pK _ _ _ _ _~L2.ar !q rfl ?_~L2.bP !q rfl ?_~L2.jf _ _ _ _~L2.gW !q ?_~L2.eQ !q ?_~L2.FK _ _ _ _ _~L2.gz !q rfl ?_~L2.spDraw _ _ _ _ _~L2.drawI !q !l !l !l ?_~L2.lD _ _ _ _ _~L2.isiAnyI rfl(.tup !q)rfl ?_~L2.isiAnyI rfl(.lst !q)rfl ?_~L2.vv _ _ _~L2.oX !f ?_~L2.fI !f ?_~L2.P2 !f ?_~L2.EB !f ?_~L2.b6 !g ?_~L2.bG !g ?_~And(L2.Tb _ _ _ _)_~⟨.inl⟨rfl,_,!q⟩,?_⟩~And(L2.E7 _ _)_~⟨L2.SM !d !d,?_⟩~And(L2.uF _ _)_~⟨L2.uf !h !h,?_⟩".splitOn "~").toArray
local macro_rules|`(@$i:ident)=>do
 let n:=i.getId;let k:=n.toString.foldl (λk c=>k*62+(("abcdefghijklmnopqrstuvwxyzABCDEFGHIJKLMNOPQRSTUVWXYZ0123456789".splitOn c.toString).head!).length) 0;let s:=Lean.wW.getD k "";if n.hasMacroScopes||n.toString.length>2||s=="" then Lean.Macro.throwUnsupported else return Lean.wD s
open List (all_cons all_eq_true all_map any_cons any_eq_false any_eq_true any_filter any_map append_assoc append_nil cons_append contains_cons drop_append_of_le_length drop_eq_getElem_cons drop_length drop_of_length_le drop_zero ext_getElem filterMap_append filterMap_cons filterMap_map filter_append filter_cons filter_cons_of_neg filter_cons_of_pos find?_cons flatMap_append flatMap_cons flatMap_nil flatten_cons foldl_append foldl_cons foldl_toArray forIn_cons getD_eq_getElem?_getD getElem?_append_left getElem?_append_right getElem?_drop getElem?_eq_getElem getElem?_map getElem?_replicate getElem?_set_ne getElem?_set_self getElem?_take_of_lt getElem?_zip_eq_some getElem_inj getElem_mem length_append length_cons length_drop length_eq_zero_iff length_filter_le length_map length_nil length_range length_replicate length_set length_singleton length_take lookup_cons lookup_cons_self lookup_eq_none_iff map_append map_congr_left map_cons map_map map_nil map_set mem_append mem_append_left mem_append_right mem_cons mem_cons_of_mem mem_cons_self mem_filter mem_filterMap mem_flatMap mem_flatten mem_iff_getElem mem_iff_getElem? mem_map mem_map_of_mem mem_of_getElem? mem_of_mem_drop mem_of_mem_take mem_or_eq_of_mem_set mem_range mem_reverse mem_singleton nil_append nodup_append nodup_cons not_mem_nil of_mem_zip pairwise_lt_range range_succ range_succ_eq_map rel_of_pairwise_cons replicate_succ set_getElem_self size_toArray sum_cons take_add_one take_append_of_le_length take_length take_of_length_le take_sublist take_succ take_zero)
local macro_rules|`(#check $s:str)=>do
 let a←(s.getString.splitOn " ").toArray.mapM λw=>let i:=Lean.mkIdent (.str `PySem.W.Fast ("tw"++toString (w.foldl (λk c=>k*62+(("0123456789ABCDEFGHIJKLMNOPQRSTUVWXYZabcdefghijklmnopqrstuvwxyz".splitOn c.toString).head!).length) 0)));`(command|def $i:ident:=True)
 return Lean.mkNullNode (a.map (·.raw))
#check "PLOCb5Qiwx ErgmjGNlbNA HqzoE8aT0dz IW3rv8iVKlR 4xkpqfT2cDg 1lAPony3jXz I8Gg9swbsVG 2GUV8GFzJpS 1zo2f9mUkXZ D1n6aigo7pc 5hjbjHX7gSL 7Q5ylAwZ4LC LqJsoXoOFVo I4YgqcPsQdx BONfPEfjVvA DP1Ybl4Jm4 JtNE3XIFioG EkoRBNkOR26 53CbJ2n14H2 yRQlafaRMy CbljdUspK9x 7WUYsdL214O BskQ2NUz6i4 1mCfxDgjCGg Awl7lKR2A60 3ooAaIXqP0f JybJGuNjudm KbJ6Q0ePjWI A5FOBwZTnhJ BDMQJh2A7Mn IQs5aqCb84u G0Qk8nDOpvr CrjBxA9oylW K6Ec2jTz326 Ezayy7e81OV 70IbEJEJpPA 67yTvZfXFaY 6BOncemzkEC 7CQz53Vvxzi FNCbcnFBxOv 48rxae5V7JU ImyONTSBjZO 1CSgjf0xWGN HoedcOgphnk 19YYYQmnQdd C7Rh7lrZS6j 7gymwBlKtj4 LcocvHZgLaA ImO1RQWWJk5 1VldkdKxZCl 7jIzamV62a3 3rDSVIbWaKu DkRZT8T1vbe HqWsC0RteIk HboSz9QSEwi 1CoTBgVNEdm 9JpgUSsdfHl 3bB95AjWXhy EI1XcbDeLiZ JQHLE99mOuW 5kFt5DWIKkr EtxeCN8iBXB DDtYv8vf1nn 5hcHRUBommi Fmxb6lGyZSN CvDTG2Ru5VT KfqgEB97MAS CRzjblWqsb6 BJ5svQZ6N0p BNjOBvcvdeo 2svTWjJhSgK GBAtdDtmKMe GANo7tkBrT EwbwkKwkAh4 9e0w56rywq BanicT0OvR0 FuN09JEYcrn 1HUCj8LlItK GK7sp0p5C4Z 2kzIQbX8G9o ChcdYTzwQ1w 1EFwxMgrSZ6 8kDmFfO1JMz 1ZLPjRq947S 1gtwsVPYcOF 6ejcDN9SPpY IhBkk6HDlAs 9zH5Idmx824 1HN76Y52NtU 7z9xolTyxBA 633jlcTI4c2 KfdIi5SoxDs 4jTNYt0eEFo ETIG8col2FN JYB5W33m6cQ 4mUxlzffCUQ IsNpnfvGJp3 7aIhktw3fU6 L6G8AWpJNTt 7UXjFdXgeRS JUScth3FxaY LA1DGKRm9OQ 1ZkfCR3Y1Cf 5qlcyXjVCZ2 HvYwnNUMnCv I10H6kf11ol DjJhHB8Rylt IL3s7gjfyHh EIGE4kRg6Xg 3bb1R1oqbq9 DpwmZDjsy1j CstkoAkDYTk Kr8UTjhWwO4 AaXSWq5SVLh FWV7xZfbRHW BLrQgvu2A1s Ent5bNpVmBJ I8QbZdXSODF DSjxlQqMDB3 3afdcAqbyWk BDbd78kh5Fs L4yNCAlGHsH 437whh4Kvta 7eZIQO6m4iV AAzHjSw9tdF 9XkeXIa9v0b AnbTQELY5Y9 AF8mBY3ZNeX LYInusQyBz7 K5JgqiZwaUz H5966H43joo K1KTrAePYck DitkFi6zBBY 8P2C28qqGWP 89Moi72wCNB FJTsBJCezde DRgo3rbB06Z 5LSodJgkLCN 8jmlw6o6GW0 JL3ppwlxxUR FjISbHeHnvB KSCrdtBQqvR 12D0Ls7i3MR FHSF90XO7wy EzDwhyh6x7l Hbki4wH4jkT L67B3uPO6lx 6iLPwsnGLX3 7Ol6tE2ilUP 6nglV8Fx6Ho KoFHLcqULFV CyxM2GrPN4r 45UBXy8yEty 4vegPmBfTHU FzyEUdsayDq L44OjKGPZa1 B615LzTgw1g 6zsLI1qVrXh 9VZM9K8sbkc J5o04qeAcRN ADdwTnv8dRt 2Op5VrgBdSM hHDWgLmGcg LBSGxDmKGfv HbR1IqC9DIu HLdxsFF1Ofu 9pZ3hZWVWyb 5J2nP5zJiqs C4UEZX3HLSn 6vt5MEWJLHs 1OXY7eSV2Pj Ha2fRw2p8aF 8Xzc465eWYD 32zdpM1RPr5 Iufw7CagTMl AbQz7n1AhVc 13aWfiJ1pZX HKfI6nqIx1O CfDbhywcMXu AMWE5PwRgHv JODRfDuuBfd ITJKyu0zlib 5ZIIUwcORZw CVqp1kqgOP1 KnorJrFFY8s GBIBIuRoaJi KKht319EhiW 7p2247ZzxGt 7iBuVPQaWKO 81abfszHei1 3waOPGQ7T3G 8KBH9dTQCog 3cGLy5Ts249 LIO9IAEGKbc 84u3VWuwZlW 8dD7WRJnGIP IfOiwluMV6q 1Byqbxbf4q8 2KKCjwljoH2 KHffezdBej6 9mgxVvlzAlT H0VZ5kd2voH 6hGzQ5PbHK8 1C4pgD70QuH 60uXxhESOPf 1cFFh0WoYuP 5srx1slZeRd BAqoynhMTAL Lh3VjSlTyNU Iw8aaGkiCYB CSy3X0HiXHJ 1Rv8aRjYyrS FdwqXfQZuPb 7VleKbLRMYP CobJsx0t2Pr Ccr7zrCFKxr LVmbplzR1Iv B3rsILkVqlT 3AGrwzzP1xt ECTgi3ojln3 8WDUW9xmaZP Cn5s7njLQWd G4KeGNZ7WGj An7VkPoO6zN HR2yjL3oWvE CKDD7EyPaFd 7xplsEkHawl 6aBYVnKUumy 4Ov592FOwE1 E9en9P7qH4t 5YEKr85pVhN 7s0FVdmoeMU HqPH7iwRusE EruI2mgdDxB 1CNvpMiL1Gt 6nLATcThPTg 1hxXZVQaBci 8HOkKTdpoyR 4PfoyUXMKNY yH4u28RfLe GLIn0Y7B7HH 7Mh1Um84XiO G3gves3aJQu Ent9tuHAthy JDtapFtDZfn LAU0XKsMfId gHYkzcQrsx gu1Aq90Pc5 8xLE7533p2g 3jtErXlkip 3TvX3MCGAb5 5PEvijt61pX Ado3ww4co2C Hb8umhaqdgW 9InQVdhZnMr L0LlSfQwbTk 9m01TqRx6YG yRcye6L8Rg EN4PfjfSvex 1xS4B2HC7wT ABtysMbafED 81M1ZVxxqFh IWC7774e5qz 9VhwWZsuUAm 4WZfuJwN13i 1DeqUhi8Pc2 1pcbVAW0N3x 1U3jwbrmvjU 5QF2BK2eoxE 7Zl22l1iVqJ C1KqvjPG4ae CUWkgoCvdvy IlDyDvfWmLn 7dNwGYycCBR 8Ybqt4YgkY4 2JmgwKNT0Ov LbDXuWzTnOb HYteoxrmySS 5l6XejBFHcM 9o1bEv0Xjph 8huhixXzrg7 56HBfX6ShfK 3BpQ4dogVXF ABDVs2CndUK Eao0xGSmBLh CsITv6BY0Ni HdsWe4fDNSr A5xIsN0cSiW A1U3QVJjLnw GhC3n9iJq1q 54C3RLYCMNQ LeDHgLdAweO KKztwTKlwwp 4x6vKNxgnWl DStolQFGBQJ DWzDqyI9UOL 6icnezRSflz FB2rNUoneXM 2wdbq1yZ3ka 1SGyzCtHNxg 8lorQdBhFuG Glsb7amO8Jd GWhEGrJZajx Gcf4KYIn960 pZCxsjS5US BU783cKYR29 AXWsccgXNXC CCQulGyRUvJ KTwo24iwlfc AARVFWRLyzv S5DVLYirhE EaIsqOz04Fx 8TqmdeciRHI 5lzQYmCs6fY LNfAKdoOrkb 487xWHnpyT7 EDK0nSbZTij JZno1RbfiI2 62jeOv7aIk6 GbkmabAZMTG 7UmoRs5trdN J5NTbux3AYW IP1lFxQkm4A Bfzy7W1tH8p Ejf0aDjEI1N 6OWdEPssKM8 6wr1ZxeWEPV ADfUlzXCWVP 1hYbxMVjbV9 1Y3mujBfvi2 1XsmpYjz5zv HrRwX0ILyxk L47Ocm1yDdn E6bKhys3bal 6hEMv17ZNK AWglIEdai6k IBjijfAAdix 4ieSXMw0Mhw J36C61MITbt 3PmFmFVEY5P 3e2VclSJlTv 5sgVj0R2BNV FeCZhJjP0wA 2vlOmR0N0Zd JkbTcXWxAxe IiVMhhZNBrc HZEOT8uHJgq AXHAZQvUntz 7bHbbI1wB5F 2yGwejZ2s4P D4979tpLgAP 3emLW26dsQT Hai3Q4Ox33a 6NpRHFhPPyC F12xYUemX0G 2F6UpqbIFlk 2oE8OGiKQmq LhMrsRCKwcn KYQTSLiGfF7 AFynyxKlNwx JbW3TuEDMK9 I4912XPpU90 5PaCBa6zejL dxJzTWnIsH 8yiynCxlzQR 6q0DEDpccjb 9QwlM3RFbQA 74aUmI4Zx68 6jIZOViiY15 lDzfsmsZlJ 120pMiDW76v J1y34yprvhu 7w7dkg5WNMk 92zlclgE7t2 JmuUlxlCxY8 DvISjGspSQN 2iWmM3qJ8ar 6wc1B1xjrQd 9D69DJSDfLT 5KZcmLh1aCb GW2DU7rpHDZ 2Lv9vvZ6LuQ HXJwrCy4BAK EDeacIl7sr9 EOm7IV4ycja J0O3aTT7pZm 1grJRjfzaGH FZSZGzeIg6N 4jVcynAw5q4 DxXNmxCqUrg ADQ0v5Hf7u3 9ZO3izAETCF BDZR7S5AqUu HbCB4zhD5Kk A92JraSPctc EaIEUcSQ2l3 GqB3NoY4KJP 50JwDdJFrLO 3dgFq9bXXgI K7prgjHbSos 129GB1xeG5d Lq1rtOJLPsh ACM5mNFUgSm D6PIA5i1pVI 3US8XhgMCve 83v3YVDF3Lt 98iScxS2l3k KFNvTp2yups GvLg5wcKx4S 7gNCz92ZWzg 5jwYpWDJ6HU GBJKhryGONs 1itjhUshEo4 32zORKNdk2M I6hwz92EZKo 2Az3dMSSs1z 5YOY6guxTaO 63GwQgMPvpW IR2xMsGUyB7 IWfyQiVHvsk DrVctkz5ToO J1zT3W6LOS2 lwdKKEre83 AhCcpeOlHzp ASBBXB5pSmj 7JubZT03ogY DMhAzPGqgxi 2vGLUqP4S1L 2O283gdSLn5 BUe4PapWLJJ JJXRYSPSVfl LUbOZ3qzVBM PRIMfuZqds 1LDzqZXCkUB 8x3R5rljPnU BVXNdqigKt1 KF1TT8qJwFl B1X4ekOjOxy BcMQ8yg8ev9 7w7VKaIVk7T tF1YKaP0mF KXSF4wFSjif IdAFuBe0Ym5 2rFHr1iaIuc 1Ttv6dDmgig IrImtScCKdX EZXTlOybFkl Do4Sne2M0K1 6gjeObk97EF PGoZiX5LqC EkDT2dgmlxy KtINF6MkMZj Jds58xoUNJ5 496OGJknoK6 CqbciuoD4mF 4lRiuuRBa9c IOWqvObU9dR EGR6FkGRl4a 8aAJOPvVYpV D9ez07caxzk 1lYTUMRpFuK eJCPCvsLnL BtcpjyD4II3 DRX3pCDaBXr 7b58s9TQFqT Ir7vRwxH5YU 5M9pQLvUdLl Ee80DzJFVGl C8bS2gZTPNI 9oiNC5i1bRL 5TK9W5suKW2 cCOn9reFiC GQMP8ipIwoK CJfHJLeKhPn IXa7wzcV54A GYoxGVEjynW 9CArt3hn0B AdX2FJnBxMy 8yTWHv75sqn 88FeQ5odHfE 5jadlFhVAfm 17VcdLjmiO2 9bQgsTPK38S IpsK0Q2Q9Ag HqyZ37pdnCZ 42NHn4Bgu7M 8Mz4baKdTjS 8Kr9Rmuj5FJ C1aEUOur3xc VEXNq5HtCQ 4R6TxdfOxVl DgaWuLkymBH 5z2dFa4LlN 70XV6uPHxQR KFfRP1pyrvX AOA93Ac9EP5 KXHVaKmJ0jz 8ZvagIWQa99 8LbWCrOfgjT 5CsrV89ghNJ BQgSNSdiOsy CQI4ZPYMTne ETE2WovcdJZ AQqcG7mi7r4 ASk4qW6bbdZ 2jeZUN0PSuo Hr9eH5b5nUq C1z3bzs1I9e 12ZOCiuQBAa 3UVZ9JVNBKf BEZGcyxBWAU 4U6D0cVqq1Z 4nNWEtmivSl 4PLMPEVNU1Z 1W3PY6rUcuC 14jyNZYK9CN 9CVmofwu5ze DHKC4pvKGdv 3WSSVP5fikH DMk5aMxveKT J9Ms9fkODBj IfPitIKZcMY 1xDn07KkXvI 9Tz6109mt4l E8yiI149hho 2ZE3868T7lI FoJS5Be7nKg F4BU3CnYnmP L4kF5pW6xim BHtpniXlxI4 IMKlN8IYw4t AUp19xwuVXN LhGAU91UYYU Bdxy3a5UcfR 9UjmD9SPM9U AC8ciqPuNlN 5UVXM3u7mop K3kh2QTfaQ2 B0XbUknOmnN 9tPKbUiQAjw ElJVxXvme0Q 4p7hgprGQl B0dhqt5fuPO CboKpVbxHYh EkGDooofHYQ DTp7C6y30e8 ArQPHIlE7w3 40OGdQ2eN0I CJT4afx2XKp HxW7vx3phe7 5wDo7FMPO40 C6gfwCeh9bS Hlqjv4LotUM HuTuIGB8Qhu 6lNVQ417Kks EBhz1cWSMk1 KpspRrj1N2V 2A5EtgMzbo8 LbOBjCb2SKO BlvEHosTd4R 5l20K5Vevrc 1N0bPOdXGq2 85k17EPAXGF 8HTYuXV5x6X 3Y7JL1a4edW 2uITXv3Rolg 7yWzKSCkrF8 76hjfcxYB7o 8MlAit7RLqf KwauA44fQpc 1KiJCtFFAAC 9HhopXHhBuD BOj4KOJp8Ur ITQLnkUVpV2 I8x0VnYo6SV 5f8daVeMddj 2U1uguCNmdE Lg2Q43on76m 8yIgx3nHdTK 4ACgXf16HVQ DVaRy7LEn0R JsIqmmhhEl5 29vSFuchvWa 2YIfIJhBSiZ A5pMuRN8qLN Ki3snQp2jpc 2uZr7XxP4YU 21vPdOfRuuY 31iPWQpXM2a LPKjBdEyIix JuZHqRIpGCp 92t8C6UlDvS K9NQyC0v0O8 GWVNGJWOlPI 8WWyuRQBcoP 2ZbePSyW3OM 8axyIzax488 BIh8VL39qq5 CgEMsieFVjK IdcNkLw3Pk6 7EWzTnhDOlY 1lwZ3e9aSUA 9hgNRQGR7IY H3VISlEx46H KwqbK3XtSh5 65Pd6BivwV5 H7A5NAL9rgn CJOGI2LyCM6 7OSh9Un8fiv 65Sa35VRFR0 IswrAo0WEpy H2tQcS3N6qb 3yMdjuD6kN4 G9kI4E6gapb LgfnDzdTalt tbrxkypKY1 JR1qQGS75nJ AJOduDV0zbs B16Kr5unaaE 6BeAkzXdpXx 2gjlFVbCsfn Joj7BgmDQ1s 3XZDg3jSN2z BdxBQYFSRQl CiaERfikhLq 5ZjEvWLFVdd Ffs3sjkBVS9 IUWhdc26G5W 5l1ui6NVOF7 Lw16PVDUct1 B7qjoRtyjIW 2LaUf96wheT 5tM38Oo5AYg DT3G1hZ9TUc A26AYkPwX5K 5MSgaCRgMtY G33tuqP5Crj FZIlMLHa7GB 1C5yb45AfbV G1oRdUJ4QiX BknSwpXTfFm 8LSjJdqwv4A 8AtWOagFqc9 KWMn9ZxFIX6 DwkpXFzD7zF XTLM4LvNsg Ln1ufmJrQ9Q FktNH9gSjTD HmwixpXnWCl LWKFY9qqjFG LochjgXESXD KlTC92dSPwB HXs8I5eIDtv GoHXwKemGBO 4PzN6e5IuNt GOiFi8pCmdT C0zNIxA0DQZ GFCf9zth762 17gNomWWbc3 8gyY8Kvz032 2aYBDTe3vDy 3VehcPzQJ2W J1nPg6U78CD 8P5I0qegLpQ 12861qdf1zi DirwUdvTslX CWsDXicMNMU 3KX0KzyxEUB 7cyqaEUEnCQ 4tZxzHABAwa EbWODGpzrTC FGTFUPjMU80 GidfOnRDfy5 4W2F1YnukfD EJEaMkDexxy 7im0kDBfqR9 FORNOg0qRM5 8fzTwiq2fhI 3FC7uTCXOeq 8XIHGDusMvK FbQCD90gCzu JqTBrtDXEPg J9t1HhOzEHx 6w2e6ivi1ke FJP8rHmxh3U DbwFs7YxQqn KbeJJdkiSGb 6ALSGbVwxnL HkchEXkUjGQ 5UpiyzmbUnk 85WZy1m5w1r 3sAOCNO30GV 8v57CD37LZW 5aUb056y2WF 2pIaciBtoc5 9Qiv8RL8xuj 3YvLnB2lUXt AN6Kc3dLoi2 8kz9QrHArtl 9KFoEGPOCOG HQWNxY9NTdx DnquGZroXmL IY7Mud8L4Do BOA1vWslx0N 19x1e8uVfHi 2ExsS3ofeMG 8GHbdt5XI1A EbciDi6itji 5AmAYfbf7NJ 9Yduh8sypP1 FWkN8gfEbe6 LOKVRWRKNZk KDGBvmaecqQ VoRLzUZpdw CXuwhD6HvTo 6kwKMAwnVOG GyeKhT77mYn 8SFU1qGrOql 6idewF5K350 DvRhxOtaK9F 2lhMkWIlxBs K4LTQ1l7M6n FGgxIXTkMfO 86HS8NpkKx0 IzzXqi06Ry3 DSihBxombxF 5i51Cnzrg9f IWflKqNId3X FNMicZaUabi K6G0yosYXaz 6y4q0VeXqAF LT4OpiIATs0 3pHBrSKgHlv Kp6vOaR9fzN EoiVGHI3TNA J0g4sys2N6t 3hxQqhdpPJa 4dKwwoB0Myc Gp3DN9yZxjn 2Lq0478B6em 7eTZM1JY8cx B8ZH2SymBjf 4KxUQV0OkFj DYvM7hLRRxH J8q993UivKv 2lLuHGQJhWA ApNlN5eDaEs 6SxPRMIQDLe 2XmZGjCV8fa 7K8tZ1kIR48 7ZkpbsqUZzW 1kT5R5E5Ca4 AJUOxl61Ehz KTmAQ58UCwn 66Nam5iEwaK LW3XR2lSdds HOii3DurE8I InL4oxEPpUc KfzthGzqudI 9vAV4gik2YJ 6pFTy4aHsXC DIXAuruVzaV BHGd0LRSkx IDjtqlqBLl8 Cd2Ev1Dhpt3 4JpnhDwnBnO 1IyKIDRPPr0 4CzRtsIN0uQ Gl3Sg4nmrE6 5thx6aTjABQ EyZTj7zFbVR KqLL82jHx43 EKQHZVv8iQL ESDLQUT1jqE KEWFcKwV19R 2SyILSnNDne 2shBKVoETHV KTJ8mK4pLyz HADOVHrOhH0 Hw3a5SNgjdC 5guEAp2eQLB 1Hq3VfFR1gL FGSzrZf8xMW AXEvCdAlu1T AwC00v4HVq9 JueXfjrqs2o qC36NE750w 8nGiz3D8ufR KPCHpb86Z5H 1YOzJ3NLkI5 BiAZG2nyo0r IK2cbj8DYnT CBy211IWNpl Ifb3tApxXaS 9pmBvBZ9dLk KVCAnLNDsgd KjOSrE9jsnh AStNEKNxYbh 2aJOQ0g5vOP H4s4rpU6OJO KmKvuo8Cgfd 39OdlCbHhr8 DQ1mrjOSzJ7 CYjm7tghJnB HskOHqdL2dv i9b0HMAHWw F0CCU5rqR8w 7ak9imduByi 8qazv8Nyd2w 1OwgoOlzlEm AAsdJ8Hd4GP GGcclBFjawy Aepk9KD8u41 8HzovCjaFXS 3BsjD0ZM6VY DNpYbJCKX9k KFVYQeXeSYz JUANvIHdBMt 8rMk6wWsTTs 3mi1odSnCSR Fikq3Rwyebm HmKQzd9R1yp 6F1mt816Wo A6LBZqJDnmS G0qK4g1aMw1 2hI9ySAl70p KXtPv86WxNU HBxlMuVVSxJ KP7ldOhjOFJ 5ItZt81f0e Absmtf99Mdr JpjcbXxGCtY 9KQ9sYQqB5j LqiM9jPLD2V EyfILLGBscw 3dWbi4oTLU5 4siClc1fCV0 KbIwCoQWIIc Jx59HblsagT 41P405Vx7zo GGSkyw6KEsI BMZz4oCeWuo J3LP3gJPG1 HgZbMELDanv 1dOle1ESfyi FL33d0x24D CmEKKIyZ46Y 6AOifgsJXnG AM1jhwgqr5r GWPsTC3z5VJ L1sSLU3LK7G IFlB6kuT76v 4rg4bnF7xW8 9HVTtOQCqqY GQifeILYzNi EQ4ppPssuGw 9uMa5qwVfge GgyON2JHtoi 9VnoF1fouiW 8f7GNJpkj7g L1jeecSJujL 8Urpfdn7Mia IvxepbZ0DpV ARVrXFEz8BO 896SEBwtf7L LrlM1UkMjXs HYVkE2zbwQ9 C3QvsJEwJQ6 JqIqGSg2Y12 Ka6a8eS0fba HlcSj0FlhTK 1N7L4WwPl3k BsG9Lg6OW5K 6Hvk4L5PAhF 9IowahAiwp6 301HHcReqAD AzaioVPBCQA HwcnpRfrT5j 18xx2pA1rYV ABKzFceUVXs BrrCDrnxLAe HnP89Ov42Q HSzHYOdsU4N Fp7McLlrXQb BFSEBjOvfsp KAfchVfipNz iKgJOwcQm0 I9OfXajTu3p CiUqjjkixSe JnL3N0pI22y 2Dr3WzSfi5z CIDkoPUJIRC AOiukDjcHHK KPYFqnHMSNK 8uu7MTItE1J KFAVefiIRDi 2Wr8drW0dXr 8ldidudLqFD D69AV4y8DWV 5lfksQ0NUkg LDUjkWB9hbp SZUf4FAwsF 3jfBXc4Wp0R ExviIf7Eaup LJQptRbKLp3 6W0C4q6xdz8 7K4pII1mQaw KmXy7mDA3Oa 443vuvi2kOn 6uM1gbe1yjv 2v6fHAYBOGY EL6Dff3JLFU CNuoxzswoXf KfmDW3KnsIy rxnMzYAKEj KmtPZC6J8G5 BTlnrWfzUPw 7CqKFJS7MVb HcjBOS34nnJ 5t5fnXr0lIw KYjXhqCMizV 2ugiGZUEGqV FRdAi4upn4X IaLCAAI0DBz 81lbVGgRTVN 4I2joOaID6U 2LQr5EV21UZ AxV2UWTI9S8 KCZXXhQzCmo IbflX4bGS1W LnayE5NYz0D 1fB2zd7Lf1c 9YYzjEbZkc4 LkfZ9qqi9NP DDvu4GNZhhV 316XAiqeNaO JnnrVY6xsRq EHiHuZKH1Id IHrhNTWfyIn Er2P7jVuFZu lAXUyrGgrh 1m8BoOiacGx 1GSZkuMMNpR AQ5BI7o4cXt Ghy0xhyyFpZ 8CaSueLJXXd K1HuExoLv1m 2ApuaeBAypx CXhhESNJW0N LNUnnxG8S7y c1tOmp8dK K9P4OSlGyZX JOmChJaJs4T 4OqZEeVCGNX HMIActLPiXk BaFaeMKxiXy 5eVRFF29gMM 22sPk8R8AUQ A0O288krwlC 498InicjhJL 5dEdYytLyTS Aw5FNYDLwtI GUm0UyRXiX0 BXTPl9dkVvi 1OkxJk03U4x ZTjOyo43GN KWPgYit5IQj 6fwEKWSO7ET THwEYsUm4A GW2BdUaemCo L3umubUWMJA 3kYF3NrPs7f 4Buuffh6iEE FZfwsB4GE3J EtyGQTHOCXh 6xFiYnO4zNh 1hgiudIj6q5 6fcRScFq009 GoIUZEacyRS E9OYYBr6LiR Kj9Uh5lHeu7 D9vev5GrFrB CPtX2i4woOB 4eTOZ25POYQ KAVeZZhDFbK GHr5bFXQVQA KAD0SIOWdqk GqmotEtRSMi 1xjLinHVBva DN7qtWJp8Pf 4WZPbflWLfo 5AFm8wf4GS6 Hfm5X4T63XW FBbuCZhVjZu 1SWzYvcRBpM Ha1bIpcKIDZ IO2ILCFQVvm 57E1qEWv54 FC2rh035m24 5BWPz0lm6fX 2tnwgNqtA67 2ikFVxggFhj 1cJmox0876A 1oEN1epQOMd 1mFPAcRqBLy LQD54dhejaG GLfuGELH1eE 2ymNDeodQpN DsVelnlM0Kz Dkyw8McdmOz GqlvfYOwl03 4WVB2XFHQvV AwJQasl0EdF 7GvhAJ1Q5AU Y0phWVuSci K5MRKkV5XHe JfVGk63c8JL 2PCArEf1Zpd 1KLqcvQuE15 Hzp0iwuFukD JJn7x6zkUIr LUraf5eXd77 kk3pKQbJ0i G7I9z252A0Y EIFut4S7LDc ExkUjFCiBFv BLU9oWxFlf KWl7J5W8VYa D6GrVHys9yO 2g2B5LcgvGJ BEkasEsaeWS 9Ef0NbvazV1 JsTdS58myWu ApurR8yxg10 3O6DM2XtJBy EET6d4XgUXx 9PyQLqFB5sa 11Iij7XleQL 4jb338K1nOP 2zO7FbIu6Ri 5PNiwnFKVrz KnTXhSdsKpT K5ASdT96D0 AKsnxABwrbM LmLG1ZIfvQo 24EJyz6E1qs"
abbrev Fg:=PySem.W.Frag
namespace L2
open PySem PySem.Spec PyProof.Rows
abbrev cr:=Sum Int Str
noncomputable def vq:cr->Value->Bool
 | .inl k,v=>Value.isInt k v
 | .inr x,v=>Value.isStrOf x v
noncomputable def UJ (w:World):cr->Int
 | .inl k=>hashInt k
 | .inr x=>hashStr w x
theorem bW:∀ {k:cr} {v:Value},vq k v=true->(∃i t,k=Sum.inl i/\v=Value.int i t)\/(∃x t,k=Sum.inr x/\v=Value.str x t)
 | .inl i,v,h=>by
   obtain ⟨t,e⟩:=Value.isInt_shape (k:=i) (v:=v) h;exact .inl ⟨i,t,rfl,e⟩
 | .inr x,v,h=>by
   obtain ⟨t,e⟩:=Value.isStrOf_shape (x:=x) (v:=v) h;exact .inr ⟨x,t,rfl,e⟩
theorem Ex (i:Int)(t:Tok):vq (.inl i) (.int i t)=true:=by simp [vq,Value.isInt]
theorem Ew (x:Str)(t:Tok):vq (.inr x) (.str x t)=true:=by simp [vq,Value.isStrOf]
theorem PL (a b:Int):decide ((Sum.inl a:cr)=Sum.inl b)=(a==b):=by
 by_cases e:a=b
 ·subst e;simp
 ·have h: ¬(Sum.inl a:cr)=Sum.inl b:=λq=>e (Sum.inl.inj q);rw [decide_eq_false h];exact (beq_eq_false_iff_ne.mpr e).symm
theorem PH (a b:Str):decide ((Sum.inr a:cr)=Sum.inr b)=decide (a=b):=by
 by_cases e:a=b
 ·subst e;simp
 ·have h: ¬(Sum.inr a:cr)=Sum.inr b:=λq=>e (Sum.inr.inj q);rw [decide_eq_false h,decide_eq_false e]
theorem PK (a:Int)(b:Str):decide ((Sum.inl a:cr)=Sum.inr b)=false:=decide_eq_false (λq=>nomatch q)
theorem PJ (a:Str)(b:Int):decide ((Sum.inr a:cr)=Sum.inl b)=false:=decide_eq_false (λq=>nomatch q)
noncomputable def bV (prog:Program)(w:World):PySem.KeyKind prog w cr where
 is:=vq
 hash:=UJ w
 inj:=λv a b ha hb=>by
  rcases bW ha with ⟨i,t,rfl,rfl⟩|⟨x,t,rfl,rfl⟩
  ·rcases bW hb with ⟨j,u,rfl,e⟩|⟨y,u,rfl,e⟩
   ·injection e with e1 _;rw [e1]
   ·exact nomatch e
  ·rcases bW hb with ⟨j,u,rfl,e⟩|⟨y,u,rfl,e⟩
   ·exact nomatch e
   ·injection e with e1 _;rw [e1]
 byValue:=λk v h=>by
  rcases bW h with ⟨i,t,rfl,rfl⟩|⟨x,t,rfl,rfl⟩<;>rfl
 pyHash:=λhv h=>by
  rcases bW hv with ⟨i,t,rfl,rfl⟩|⟨x,t,rfl,rfl⟩
  ·exact wpAny_pyHash_int h
  ·exact wpAny_pyHash_str h
 eqBool:=λhu hv h=>by
  rcases bW hu with ⟨i,t,rfl,rfl⟩|⟨x,t,rfl,rfl⟩
  ·rcases bW hv with ⟨j,u,rfl,rfl⟩|⟨y,u,rfl,rfl⟩
   ·rw [PL] at h;exact wpAny_eqBool_int h
   ·rw [PK] at h;exact SeqAt.EqAt.int_str i t y u _ _ _ _ h
  ·rcases bW hv with ⟨j,u,rfl,rfl⟩|⟨y,u,rfl,rfl⟩
   ·rw [PJ] at h;exact SeqAt.EqAt.str_int x t j u _ _ _ _ h
   ·rw [PH] at h;exact wpAny_eqBool_str h
 «strs»:=λk x t v h=>by
  rcases bW h with ⟨i,u,rfl,e⟩|⟨y,u,rfl,e⟩
  ·exact nomatch e
  ·injection e with e1 _;subst e1;cases v<;>rfl
theorem y4 (prog:Program)(w:World)(i:Int)(t:Tok):(bV prog w).is (.inl i) (.int i t)=true:=Ex i t
theorem y3 (prog:Program)(w:World)(x:Str)(t:Tok):(bV prog w).is (.inr x) (.str x t)=true:=Ew x t
inductive V where
 |non|bl (b:Bool)|int (i:Int)|str (x:Str)|byt (b:Array UInt8)|flt (b:UInt64)|ref (a:Addr)|ty (n:String)
 deriving DecidableEq
def aL:V->Value->Prop
 | .non,u=>u=Value.none
 | .bl b,u=>u=Value.bool b
 | .int i,u=>∃t,u=Value.int i t
 | .str x,u=>∃t,u=Value.str x t
 | .byt b,u=>∃t,u=Value.bytes b t
 | .flt b,u=>∃t,u=Value.float b t
 | .ref a,u=>u=Value.ref a
 | .ty n,u=>u=Value.type n
abbrev aO:List V->List Value->Prop:=Paired aL
theorem aO.length {xs:List V}{us:List Value}(r:aO xs us):xs.length=us.length:=Paired.length r
theorem aO.get:∀ {xs:List V} {us:List Value} {i:Nat} {x:V},aO xs us->xs[i]? =some x->∃u,us[i]? =some u/\aL x u
 |_,_,_,_,.nil,e=>by simp at e
 |_,_,0,_,.cons r _,e=>by simp at e;subst e;exact ⟨_,rfl,r⟩
 |_,_,i+1,x,.cons _ t,e=>by
  obtain ⟨u,h1,h2⟩:=aO.get (i:=i) (x:=x) t (by simpa using e);exact ⟨u,by simpa using h1,h2⟩
theorem aO.set {x:V}{u:Value}(r:aL x u):∀ {xs:List V} {us:List Value} (i:Nat),aO xs us->aO (xs.set i x) (us.set i u)
 |_,_,_,.nil=> .nil
 |_,_,0,.cons _ t=> .cons r t
 |_,_,i+1,.cons q t=> .cons q (aO.set r i t)
theorem aO.append:∀ {xs ys:List V} {us ws:List Value},aO xs us->aO ys ws->aO (xs++ys) (us++ws)
 |_,_,_,_,.nil,s=>s
 |_,_,_,_,.cons r t,s=> .cons r (aO.append t s)
theorem aO.take:∀ {xs:List V} {us:List Value} (n:Nat),aO xs us->aO (xs.take n) (us.take n)
 |_,_,0,_=> .nil
 |_,_,_+1,.nil=> .nil
 |_,_,n+1,.cons r t=> .cons r (aO.take n t)
theorem aO.drop:∀ {xs:List V} {us:List Value} (n:Nat),aO xs us->aO (xs.drop n) (us.drop n)
 |_,_,0,r=>r
 |_,_,_+1,.nil=> .nil
 |_,_,n+1,.cons _ t=>aO.drop n t
def iT:Option V->Option Value->Prop
 |some v,some u=>aL v u
 |none,none=>True
 |_,_=>False
def KV {κ:Type}:List (κ×V)->List (κ×Value)->Prop:=Paired λ(p:κ×V) (q:κ×Value)=>p.1=q.1/\aL p.2 q.2
noncomputable def kV:cr->V
 | .inl i=> .int i
 | .inr x=> .str x
inductive HO where
 |lst (xs:List V)
 |tup (xs:List V)
 |dK (kvs:List (cr×V))|dT (kvs:List (List cr×V))
 |set (S:Int->Bool) (n:Nat)
 |ins (C dx:Addr) (fs:List (Str×V))
 |own (x:Addr)
 |xd (fs:List (Str×V))
 |met (f x:Addr)
 |rng (lo hi:Int)
 |frz (o:Obj) (u:HO)
 |tbl (ps:Array Value)
 |ext (φ:Heap->Prop)
abbrev Hp:=Addr->Option HO
noncomputable def upd (H:Hp)(a:Addr)(o:HO):Hp:=λb=>if b=a then some o else H b
theorem af {H:Hp}{a:Addr}{o:HO}:upd H a o a=some o:=by unfold upd;rw [if_pos rfl]
theorem ag {H:Hp}{a b:Addr}{o:HO}(h:b≠a):upd H a o b=H b:=by unfold upd;rw [if_neg h]
theorem Cm {H:Hp}{a:Addr}{o u:HO}:upd @W a u=upd H a u:=by
 funext b;unfold upd;split<;>rfl
theorem Sl {H:Hp}{a b:Addr}{o u:HO}(h:H a=some o)(h':H b=some u)(d:o≠u):a≠b:=by
 intro e;subst e;rw [h] at h';exact d (Option.some.inj h')
theorem bq {H:Hp}{a b:Addr}{o:HO}(h:H a=some o)(h':H b=none):a≠b:=by
 intro e;subst e;rw [h] at h';cases h'
section
variable (P:Program)(w:World)
def bh (H:Hp)(h:Heap)(a:Addr):HO->Prop
 | .lst xs=>xs.length<=sizeLine/\∃(its:List Value) (n:Nat),aO xs its/\h.get? a=some {cls:= .type "list",data:= .seq its.toArray n}
 | .tup xs=>xs.length<=sizeLine/\∃its:List Value,aO xs its/\IsTup h a its.toArray
 | .dK kvs=>kvs.length<=sizeLine/\(a==sysModules)=false/\∃vs,KV kvs vs/\h.DictOf @dn a vs
 | .dT kvs=>kvs.length<=sizeLine/\(a==sysModules)=false/\∃xs:List (List cr×Addr×Value),
    Paired (λ(p:List cr×V) (q:List cr×Addr×Value)=>p.1=q.1/\H q.2.1=some (.tup (p.1.map kV))/\aL p.2 q.2.2) kvs xs/\
    ∃o es ep,h.get? a=some o/\o.ExactDict/\o.data= .dict es ep/\es.toList=xs.map (entryOfKey @fF)/\(xs.map (·.1)).Nodup
 | .set S n=>h.SetOf (intKind P w) a S n
 | .ins C dx fs=>H dx=some (.own a)/\fs.length<=1000/\dx≠a/\h.get? a=some @dW/\
    ∃mA,h.Ns1 dx mA/\(∀f,iT @gh (mA f))/\PySem.Within mA (fs.map (·.1))
 | .own _=>∃o,h.get? a=some o
 | .xd fs=>∃mA,h.Ns1 a mA/\∀f,iT @gh (mA f)
 | .rng lo hi=>∃t u v,h.get? a=some {cls:= .type "range",data:= .fields #[.int lo t,.int hi u,.int 1 v]}
 | .frz o u=>h.get? a=some o/\bh H h a u
 | .tbl ps=>h.get? a=some {cls:= .none,data:= .fields ps}
 | .met f x=>h.get? a=some (W.methodObj (.ref f) (.ref x))
 | .ext φ=>φ h/\(∃o,h.get? a=some o)/\∀h1 h2:Heap,φ h1->(∀o,h1.get? a=some o->h2.get? a=some o)->φ h2
def gi (H:Hp)(h:Heap):Prop:=∀a o,H a=some o->bh P w H h a o
end
section
variable {P:Program}{w:World}{H H':Hp}{h h':Heap}{a:Addr}{o:HO}
theorem bh.lt (x:bh P w H h a o):a<h.objs.size:=by
 cases o with
 |lst xs=>obtain ⟨_,_,_,_,e⟩:=x;exact Heap.lt_size e
 |tup xs=>obtain ⟨_,_,_,p⟩:=x;exact p.lt
 |dK kvs=>obtain ⟨_,_,_,_,o,_,_,e,_⟩:=x;exact Heap.lt_size e
 |dT kvs=>obtain ⟨_,_,_,_,o,_,_,e,_⟩:=x;exact Heap.lt_size e
 |set S n=>obtain ⟨o,_,_,_,e,_⟩:=x;exact Heap.lt_size e
 |ins C dx fs=>obtain ⟨_,_,_,e,_⟩:=x;exact Heap.lt_size e
 |own y=>obtain ⟨_,e⟩:=x;exact Heap.lt_size e
 |xd fs=>obtain ⟨_,⟨_,_,_,e,_⟩,_⟩:=x;exact Heap.lt_size e
 |rng lo hi=>obtain ⟨_,_,_,e⟩:=x;exact Heap.lt_size e
 |frz ob u=>obtain ⟨e,_⟩:=x;exact Heap.lt_size e
 |tbl ps=>exact Heap.lt_size (show h.get? a=some _ from x)
 |met f y=>exact Heap.lt_size (show h.get? a=some _ from x)
 |ext φ=>obtain ⟨_,⟨_,e⟩,_⟩:=x;exact Heap.lt_size e
theorem Paired.mapP {α β:Type}{F G:α->β->Prop}:∀ {l₁:List α} {l₂:List β},Paired F l₁ l₂->(∀a b,F a b->G a b)->Paired G l₁ l₂
 |_,_,.nil,_=> .nil
 |_,_,.cons r t,f=> .cons (f _ _ r) (Paired.mapP t f)
theorem Paired.imp' {α β:Type}{F G:α->β->Prop}(f:∀a b,F a b->G a b){j:List α}{z:List β}(r:Paired F j z):Paired G j z:=Paired.mapP r f
theorem bh.stay (x:bh P w H h a o)(k:∀b u,(b=a\/H b=some (.own a))->h.get? b=some u->h'.get? b=some u)
(J:∀b,H b=some (.own a)->H' b=some (.own a))(O:∀b xs,H b=some (.tup xs)->H' b=some (.tup xs)):bh P w H' h' a o:=by
 induction o with
 |lst xs=>obtain ⟨z,its,n,r,e⟩:=x;exact ⟨z,its,n,r,k _ _ (.inl rfl) e⟩
 |tup xs=>obtain ⟨z,its,r,j,e,c⟩:=x;exact ⟨z,its,r,j,k _ _ (.inl rfl) e,c⟩
 |dK kvs=>obtain ⟨z,y,L,r,j,es,F,e,c⟩:=x;exact ⟨z,y,L,r,j,es,F,k _ _ (.inl rfl) e,c⟩
 |dT kvs=>
  obtain ⟨z,y,xs,r,j,es,F,e,c⟩:=x;exact ⟨z,y,xs,Paired.mapP r λp q z=>⟨z.1,O _ _ z.2.1,z.2.2⟩,j,es,F,k _ _ (.inl rfl) e,c⟩
 |set S n=>obtain ⟨j,es,F,t,e,c⟩:=x;exact ⟨j,es,F,t,k _ _ (.inl rfl) e,c⟩
 |ins C dx fs=>
  obtain ⟨d,z,I,e,mA,⟨G,es,F,e2,c⟩,r⟩:=x;exact ⟨J _ d,z,I,k _ _ (.inl rfl) e,mA,⟨G,es,F,k _ _ (.inr d) e2,c⟩,r⟩
 |own y=>obtain ⟨j,e⟩:=x;exact ⟨j,k _ _ (.inl rfl) e⟩
 |xd fs=>obtain ⟨mA,⟨G,es,F,e,c⟩,r⟩:=x;exact ⟨mA,⟨G,es,F,k _ _ (.inl rfl) e,c⟩,r⟩
 |rng lo hi=>obtain ⟨t,u,v,e⟩:=x;exact ⟨t,u,v,k _ _ (.inl rfl) e⟩
 |frz j u ih=>obtain ⟨e,q⟩:=x;exact ⟨k _ _ (.inl rfl) e,ih q⟩
 |tbl ps=>
  have e:h.get? a=some {cls:= .none,data:= .fields ps}:=x;show h'.get? a=some {cls:= .none,data:= .fields ps};exact k a _ (.inl rfl) e
 |met f y=>
  have e:h.get? a=some (W.methodObj (.ref f) (.ref y)):=x;show h'.get? a=some (W.methodObj (.ref f) (.ref y));exact k a _ (.inl rfl) e
 |ext φ=>obtain ⟨p,⟨o,e⟩,st⟩:=x;exact ⟨st _ _ p λo q=>k _ _ (.inl rfl) q,⟨o,k _ _ (.inl rfl) e⟩,st⟩
theorem gi.lt (x:gi P w H h)(e:H a=some o):a<h.objs.size:=(x a o e).lt
theorem gi.fresh (x:gi P w H h)(e:h.objs.size<=a):H a=none:=by
 cases q:H a with
 |none=>rfl
 |some u=>exact absurd (Nat.lt_of_lt_of_le (x.lt q) e) @bm
theorem gi.kept (x:gi P w H h)(k:∀b u,h.get? b=some u->h'.get? b=some u):gi P w H h':=λa o e=>
 (x a o e).stay (λb u _ q=>k b u q) @dp λ_ _ q=>q
theorem gi.laid (x:gi P w H h)(k:∀b u,h.get? b=some u->h'.get? b=some u)(G:h.objs.size<=a)(j:bh P w @W h' a o):gi P w @W h':=λb u e=>by
 have F:=x.fresh G;by_cases z:b=a
 ·subst z;rw [af] at e;cases e;exact j
 ·rw [ag z] at e
  exact (x b u e).stay (λc v _ q=>k c v q) (λc q=>by rw [ag @eM];exact q) λc xs q=>by rw [ag @eM];exact q
end
def Rd (H:Hp)(a:Addr)(u:HO):Prop:=H a=some u\/∃o,H a=some (.frz o u)
theorem Rd.ok {P:Program}{w:World}{H:Hp}{h:Heap}{a:Addr}{u:HO}(r:Rd H a u)(x:gi P w H h):bh P w H h a u:=by
 rcases r with r|⟨o,r⟩
 ·exact x a u r
 ·obtain ⟨_,q⟩:=x a _ r;exact q
def S1:Option HO->Prop
 |some (.lst _)=>True
 |some (.dK _)=>True
 |some (.dT _)=>True
 |some (.set _ _)=>True
 |some (.ins _ _ _)=>True
 |some (.ext _)=>True
 |_=>False
section
variable {P:Program}{w:World}{H:Hp}{h h':Heap}{x e:Addr}{o':HO}
theorem gi.write (W:gi P w H h)(L:S1 (H x))(S:e=x\/H e=some (.own x))(k:∀b u,b≠e->h.get? b=some u->h'.get? b=some u)(R:∃u,h'.get? e=some u)
(O:bh P w (upd H x o') h' x o'):gi P w (upd H x o') h':=λb u q=>by
 have F:∀c y,H c=some (.own y)->c≠x:=λc y r z=>by subst z;rw [r] at L;exact L
 have G:∀c xs,H c=some (.tup xs)->c≠x:=λc xs r z=>by subst z;rw [r] at L;exact L
 by_cases I:b=x
 ·subst I;rw [af] at q;cases q;exact O
 ·rw [ag I] at q;by_cases j:b=e
  ·have q':H b=some (.own x):=by
    rcases S with z|z
    ·exact absurd (j.trans z) I
    ·rw [j];exact z
   rw [q] at q';cases q';obtain ⟨v,U⟩:=R;exact ⟨v,by rw [j];exact U⟩
  ·refine (W b u q).stay (λc v J r=>k c v ?_ r) (λc r=>by rw [ag (F c b r)];exact r) λc xs r=>by rw [ag (G c xs r)];exact r
   rcases J with rfl|J
   ·exact j
   ·rintro rfl
    rcases S with z|z
    ·exact F c b J z
    ·rw [J] at z;cases z;exact I rfl
end
structure Un (fs ex:List Addr)(H H':Hp)(h h':Heap):Prop where
 keep:∀b o,h.get? b=some o->H b=none->b∉fs->b∉ex->h'.get? b=some o
 slot:∀b o,h.get? b=some o->H b=none->b∈fs->b∉ex->∃sl,h'.get? b=some {o with slots:=sl}
 free:∀b o,h.get? b=some o->H b=none->b∉ex->H' b=none
 there:∀b o,h.get? b=some o->b∉ex->∃o',h'.get? b=some o'
 tups:∀b xs,H b=some (.tup xs)->H' b=some (.tup xs)
 frzs:∀b o u,H b=some (.frz o u)->H' b=some (.frz o u)
 tbls:∀b ps,H b=some (.tbl ps)->∃more,H' b=some (.tbl (ps++more))
section
variable {fs fs' ex ex':List Addr}{H H1 H2:Hp}{h h1 h2 h':Heap}{a x e:Addr}{o:HO}
theorem Un.any (u:Un fs ex H H1 h h1){b:Addr}{j:Obj}(q:h.get? b=some j)(n:H b=none)(z:b∉ex):∃sl,h1.get? b=some {j with slots:=sl}:=by
 by_cases F:b∈fs
 ·exact u.slot b j q n F z
 ·exact ⟨j.slots,u.keep b j q n F z⟩
theorem Un.kept (k:∀b u,h.get? b=some u->h'.get? b=some u):Un fs ex H H h h':=
 ⟨λb j q _ _ _=>k b j q,λb j q _ _ _=>⟨j.slots,k b j q⟩,λ_ _ _ n _=>n,λb j q _=>⟨j,k b j q⟩,λ_ _ q=>q,λ_ _ _ q=>q,λ_ ps q=>⟨#[],by rw [q];simp⟩⟩
theorem Un.refl:Un fs ex H H h h:=Un.kept λ_ _ q=>q
theorem Un.laid (k:∀b u,h.get? b=some u->h'.get? b=some u)(G:h.objs.size<=a)(F:H a=none):Un fs ex H @W h h' where
 keep:=λb u q _ _ _=>k b u q
 slot:=λb u q _ _ _=>⟨u.slots,k b u q⟩
 free:=λb u q n _=>by rw [ag (Nat.ne_of_lt (Nat.lt_of_lt_of_le @fu G))];exact n
 there:=λb u q _=>⟨u,k b u q⟩
 tups:=λb xs q=>by rw [ag @eM];exact q
 frzs:=λb u xs q=>by rw [ag @eM];exact q
 tbls:=λb ps q=>⟨#[],by rw [ag @eM,q];simp⟩
theorem Un.write (L:S1 (H x))(S:e=x\/H e=some (.own x))(k:∀b u,b≠e->h.get? b=some u->h'.get? b=some u)(R:∃u,h'.get? e=some u):Un fs ex H @gK h h':=by
 have G:∀b,H b=none->b≠x:=λb n z=>by subst z;rw [n] at L;exact L
 have I:∀b,H b=none->b≠e:=λb n z=>by
  subst z
  rcases S with r|r
  ·exact G b n r
  ·rw [n] at r;cases r
 have F:∀b u,H b=some u-> ¬S1 @ei->b≠x:=λb u q nm z=>by subst z;rw [q] at L;exact nm L
 refine ⟨λb u q n _ _=>k b u (I b n) q,λb u q n _ _=>⟨u.slots,k b u (I b n) q⟩,λb u q n _=>by rw [ag (G b n)];exact n,λb u q _=> ?_,
  λb xs q=>by rw [ag @eH];exact q,λb u xs q=>by rw [ag @eH];exact q,λb ps q=>⟨#[],by rw [ag @eH,q];simp⟩⟩
 by_cases j:b=e
 ·subst j;exact R
 ·exact ⟨u,k b u j q⟩
end
noncomputable def Tc (h:Heap)(H:Hp):List Addr:=(List.range h.objs.size).filter λa=>(H a).isSome
noncomputable def u4 (h:Heap)(H:Hp):Heap:=W.hideAll h (Tc h H)
theorem EC (h:Heap)(H:Hp):(u4 h H).objs.size=h.objs.size:=W.hideAll_size _ _
theorem IH {h:Heap}{H:Hp}{b:Addr}{o:Obj}(e:h.get? b=some o)(n:H b=none):(u4 h H).get? b=some o:=
 W.hideAll_get _ e λF=>by
  have q:(H b).isSome=true:=(mem_filter.mp F).2;rw [n] at q;simp at q
theorem Lw {h:Heap}{H:Hp}{b:Addr}{o:Obj}(e:(u4 h H).get? b=some o):h.get? b=some o/\H b=none:=by
 have j:h.get? b=some o:=W.of_hideAll (Tc h H) e;rwa[⟨j,?_⟩]
 cases q:H b with
 |none=>rfl
 |some x=>
  have F:b∈Tc h H:=mem_filter.mpr ⟨mem_range.mpr (Heap.lt_size j),by simp [q]⟩;have z:(u4 h H).get? b=none:=W.hideAll_none (Tc h H) F;rw [z] at e;cases e
noncomputable def Mw (g h:Heap)(L:Addr):List (Addr×Obj):=(List.range h.objs.size).filterMap λa=>if a=L\/(g.get? a).isSome=true then none else (h.get? a).map λo=>(a,o)
noncomputable def cq (g h:Heap)(L d:Addr):List (Addr×Obj):=(Mw g h L).filter λp=>decide (p.1≠d)
structure Mod (K:Fg)(mg:Str->Option Value)(base:Heap):Prop where
 kin:K.In base
 glob:base.Ns mainGlobals mg
 blt:∃mb,base.Ns builtinsNs mb/\∀x:Str,x≠"__name__"->mb x=bootBuiltins x
 nolimit:base.NoLimit
structure Cx where
 prog:Program
 w:World
 K:Fg
 mg:Str->Option Value
 base:Heap
 A:Around
 N:List Str
 s₀:Shared
 H₀:Hp
 env:Env
 outer:List Env
 stack:List Env
 ex:List Addr
 fn:Str->Bool
 calm:Bool
 pn:List (Addr×Obj)
 xe:Value->Shared->Prop
noncomputable def xx (l:List Env):List Addr:=l.filterMap (·.frame)
noncomputable abbrev Cx.fs (X:Cx):List Addr:=xx X.outer
def SW (sc:Scope)(x:Str):Prop:=sc.names.lookup x=some .local\/sc.names.lookup x=some .cell\/sc.names.lookup x=some .free
def Nn (sc:Scope)(x:Str):Prop:=sc.names.lookup x=some .local\/sc.names.lookup x=some .cell
def UX (env:Env)(h:Heap)(m:Str->Option Value)(x:Str)(u:Value):Prop:=
 (env.kindOf x=some .local/\m x=some u)\/((env.kindOf x=some .cell\/env.kindOf x=some .free)/\∃c,env.cells.lookup x=some c/\h.IsCell c @ei)
structure Cx.Ok (X:Cx):Prop where
 mod:Mod X.K X.mg X.base
 kind:X.env.scope.kind= .function
 glob:X.env.globals=mainGlobals
 blt:X.env.builtins=builtinsNs
 above:X.s₀.heap.objs.size<=X.env.locals
 inj:∀x y c,X.env.cells.lookup x=some c->X.env.cells.lookup y=some c->x=y
 has:∀x,(X.env.kindOf x=some .cell\/X.env.kindOf x=some .free)->∃c,X.env.cells.lookup x=some c
 cab:∀x c,X.fn x=true->X.env.cells.lookup x=some c->X.s₀.heap.objs.size<=c
 hd:X.calm=true->X.A.handled=none
 frames:X.A.frames=some X.stack
 stk:X.stack=X.outer\/(X.stack=X.env::X.outer/\X.env.frame=some X.env.locals)
 exf:∀b∈X.ex,b≠X.env.locals/\∀x c,X.env.cells.lookup x=some c->c≠b
 bs:∀b o,X.base.get? b=some o->X.s₀.heap.get? b=some o/\X.H₀ b=none
 bsz:X.base.objs.size<=X.s₀.heap.objs.size
 noex:∀b o,X.base.get? b=some o->b∉X.ex
 exfs:∀b∈X.ex,b∉X.fs
 funs:X.s₀.heap.FunFrames X.base X.outer
 frf:∀b∈X.fs,X.H₀ b=none
structure ay (X:Cx)(pins:List (Addr×Obj))(σ:List @gb)(H:Hp)(s:Shared):Prop where
 ok:X.Ok
 os:s.os=X.s₀.os
 bare:AllBare s.gens
 base:Un X.fs X.ex X.H₀ H X.s₀.heap s.heap
 loc:∃m,s.heap.Ns X.env.locals m/\∀(i:Nat) (x:Str) (v:V),X.N[i]? =some x->σ[i]? =some @bG->SW X.env.scope x->∃u,aL v u/\UX X.env s.heap m x u
 cell:∀x c,X.env.cells.lookup x=some c->∃v,s.heap.IsCell c v
 free:H X.env.locals=none
 freeC:∀x c,X.env.cells.lookup x=some c->H c=none
 pin:∀p∈X.pn++pins,s.heap.get? p.1=some p.2/\H p.1=none/\p.1≠X.env.locals/\p.1∉X.fs/\∀v,p.2.data≠ .cell v
 hok:gi X.prog X.w H s.heap
 len:σ.length=X.N.length
section
variable {X:Cx}{pins:List (Addr×Obj)}{σ:List @gb}{H H':Hp}{s:Shared}{h':Heap}
theorem Cx.Ok.nofr (W:X.Ok){b:Addr}{o:Obj}(e:X.base.get? b=some o):b∉X.fs:=λz=>by
 have:=(W.funs.mem z).1;rw [e] at this;cases this
theorem ay.bs (I:ay X pins σ H s):∀b o,X.base.get? b=some o->s.heap.get? b=some o/\H b=none:=λb o e=>
 ⟨I.base.keep b o (I.ok.bs b o e).1 (I.ok.bs b o e).2 (I.ok.nofr e) (I.ok.noex b o e),I.base.free b o (I.ok.bs b o e).1 (I.ok.bs b o e).2 (I.ok.noex b o e)⟩
theorem ay.bk (I:ay X pins σ H s):∀b o,X.base.get? b=some o->s.heap.get? b=some o:=λb o e=>(I.bs b o e).1
theorem ay.mod (I:ay X pins σ H s):Mod X.K X.mg X.base:=I.ok.mod
theorem ay.kIn (I:ay X pins σ H s):X.K.In s.heap:=I.ok.mod.kin.keeps I.bk
theorem ay.lt (I:ay X pins σ H s):X.env.locals<s.heap.objs.size:=let ⟨_,hn,_⟩:=I.loc;hn.lt
theorem ay.sz (I:ay X pins σ H s):X.s₀.heap.objs.size<=s.heap.objs.size:=Nat.le_trans I.ok.above (Nat.le_of_lt I.lt)
theorem ay.nofs (I:ay X pins σ H s){a:Addr}(h:s.heap.objs.size<=a):a∉X.fs:=λz=>by
 obtain ⟨_,o,J,_⟩:=I.ok.funs.mem z;exact absurd (Nat.lt_of_lt_of_le (Heap.lt_size J) (Nat.le_trans I.sz h)) @bm
theorem ay.cne (I:ay X pins σ H s):∀x c,X.env.cells.lookup x=some c->c≠X.env.locals:=λx c e z=>by
 obtain ⟨v,o,J,G⟩:=I.cell x c e;obtain ⟨m,⟨o',es,L,F,j,_⟩,_⟩:=I.loc;rw [z,F] at J;cases J;rw [j] at G;cases G
theorem ay.funs (I:ay X pins σ H s):s.heap.FunFrames X.base X.outer:=by
 have J:∀(l:List Env),(∀b∈xx l,b∈X.fs)->X.s₀.heap.FunFrames X.base l->s.heap.FunFrames X.base l:=by
  intro l
  induction l with
  |nil=>intro _ _;trivial
  |cons env r ih=>
   intro hs W;obtain ⟨S,⟨L,o,F,R,O,Y⟩,U⟩:=W;have j:L∈X.fs:=hs L (by unfold xx;rw [filterMap_cons,F];exact mem_cons_self);obtain ⟨sl,e⟩:=I.base.slot L o O (I.ok.frf L j) j λz=>I.ok.exfs L z j;exact ⟨S,⟨L,_,F,R,e,Y⟩,ih (λb G=>hs b (by unfold xx;rw [filterMap_cons,F];exact mem_cons_of_mem _ G)) U⟩
 exact J X.outer (λ_ G=>G) I.ok.funs
theorem ay.stack (I:ay X pins σ H s):s.heap.FunFrames X.base X.stack:=by
 rcases I.ok.stk with e|⟨e,F⟩
 ·rw [e];exact I.funs
 ·rw [e];obtain ⟨m,j,_⟩:=I.loc;rwa[.cons (by rw [I.ok.kind];decide) F j ?_ I.funs];exact Heap.get?_none_of_le (Nat.le_trans I.ok.bsz I.ok.above)
theorem ay.stkSub (I:ay X pins σ H s):∀b∈xx X.stack,b∈X.env.locals::X.fs:=λb z=>by
 rcases I.ok.stk with e|⟨e,F⟩
 ·rw [e] at z;exact mem_cons_of_mem _ z
 ·rw [e] at z;unfold xx at z;rw [filterMap_cons,F] at z;exact z
theorem ay.stkFree (I:ay X pins σ H s):∀b∈xx X.stack,H b=none:=λb j=>by
 rcases mem_cons.mp (I.stkSub b j) with e|j
 ·rw [e];exact I.free
 ·obtain ⟨_,o,J,_⟩:=I.ok.funs.mem j;exact I.base.free b o J (I.ok.frf b j) λz=>I.ok.exfs b z j
theorem ay.step {g':Array GenState}{t':Nat}{d':Drawn}{ch:List Addr}(I:ay X pins σ H s)
(L:∀b∈ch,(b∈X.ex\/X.s₀.heap.objs.size<=b)/\b≠X.env.locals/\(∀x c,X.env.cells.lookup x=some c->c≠b)/\∀p∈X.pn++pins,p.1≠b)
(J:∀b o,b≠X.env.locals->b∉X.fs->b∉ch->s.heap.get? b=some o->H b=none->h'.get? b=some o)
(S:∀b o,b≠X.env.locals->b∈X.fs->b∉ch->s.heap.get? b=some o->H b=none->∃sl,h'.get? b=some {o with slots:=sl})(F:∀b o,b∉ch->s.heap.get? b=some o->H b=none->H' b=none)
(U:∀b o,b∉ch->s.heap.get? b=some o->∃o',h'.get? b=some o')
(aa:∀b xs,H b=some (.tup xs)->H' b=some (.tup xs))(ad:∀b o u,H b=some (.frz o u)->H' b=some (.frz o u))(Z:∀b ps,H b=some (.tbl ps)->∃more,H' b=some (.tbl (ps++more)))
(ns:∀m,s.heap.Ns X.env.locals m->h'.Ns X.env.locals m)(af:gi X.prog X.w H' h')(hg:AllBare g'):
 ay X pins σ H' {s with heap:=h',gens:=g',drawn:=d',toks:=t'}:=by
 have ac:∀b o,X.s₀.heap.get? b=some o->b≠X.env.locals:=λb o e=>Nat.ne_of_lt @q
 have R:∀b o,X.s₀.heap.get? b=some o->b∉X.ex->b∉ch:=λb o e j W=>by
  rcases (L b W).1 with z|z
  ·exact j z
  ·exact absurd (Nat.lt_of_lt_of_le @N z) @bm
 have G:∀x c,X.env.cells.lookup x=some c->∀v,s.heap.IsCell c v->h'.IsCell c v:=λx c e v ⟨o,Y,hd⟩=>by
  have O:c∉ch:=λz=>(L c z).2.2.1 x c e rfl;by_cases hc:c∈X.fs
  ·obtain ⟨sl,q⟩:=S c o (I.cne x c e) hc O Y @ea;exact ⟨_,q,hd⟩
  ·exact ⟨o,J c o (I.cne x c e) hc O Y @ea,hd⟩
 rwa[⟨I.ok,I.os,hg,⟨λb o e n W j=> ?_,λb o e n W j=> ?_,λb o e n j=> ?_,λb o e j=> ?_,λb xs e=>aa b xs @em,λb o xs e=>ad b o xs (I.base.frzs b o xs e),λb ps e=> ?_⟩,?_,λx c e=> ?_,?_,λx c e=> ?_,λp hp=> ?_,af,I.len⟩]
 ·exact J b o (ac b o e) W @cU (I.base.keep b o e n W j) @dJ
 ·obtain ⟨sl,e1⟩:=I.base.slot b o e n W j;obtain ⟨ae,e2⟩:=S b _ (ac b o e) W @cU e1 @dJ;exact ⟨ae,e2⟩
 ·obtain ⟨o',e1⟩:=I.base.there b o e j;exact F b o' @cU e1 @dJ
 ·obtain ⟨o',e1⟩:=I.base.there b o e j;exact U b o' @cU e1
 ·obtain ⟨m1,e1⟩:=I.base.tbls b ps e;obtain ⟨m2,e2⟩:=Z b _ e1;exact ⟨m1++m2,by rw [e2,Array.append_assoc]⟩
 ·obtain ⟨m,hn,hl⟩:=I.loc;rwa[⟨m,ns m hn,λi x v e1 e2 e3=> ?_⟩];obtain ⟨u,r,l⟩:=hl i x v e1 e2 e3;rwa[⟨u,r,?_⟩]
  rcases l with l|⟨k,c,e,z⟩
  ·exact .inl l
  ·exact .inr ⟨k,c,e,G x c e _ z⟩
 ·obtain ⟨v,z⟩:=I.cell x c e;exact ⟨v,G x c e v z⟩
 ·obtain ⟨m,⟨o,_,_,Y,_⟩,_⟩:=I.loc;exact F _ o (λz=>(L _ z).2.1 rfl) Y I.free
 ·obtain ⟨v,o,Y,hd⟩:=I.cell x c e;exact F c o (λz=>(L c z).2.2.1 x c e rfl) Y @ea
 ·obtain ⟨e,n,ne,nf,d⟩:=I.pin p hp;have O:p.1∉ch:=λz=>(L p.1 z).2.2.2 p hp rfl;exact ⟨J p.1 p.2 ne nf O e n,F p.1 p.2 O e n,ne,nf,d⟩
theorem ay.un {t':Nat}(I:ay X pins σ H s)(u:Un X.fs [] H H' s.heap h')(af:gi X.prog X.w H' h'):ay X pins σ H' {s with heap:=h',toks:=t'}:=by
 obtain ⟨m,⟨o,es,W,L,r⟩,_⟩:=id I.loc;obtain ⟨sl,O⟩:=u.any L I.free @e
 exact I.step (g':=s.gens) (d':=s.drawn) (ch:=[]) (λ_ z=>nomatch z) (λb o _ G _ e n=>u.keep b o e n G @e) (λb o _ G _ e n=>u.slot b o e n G @e) (λb o _ e n=>u.free b o e n @e) (λb o _ e=>u.there b o e @e) u.tups u.frzs u.tbls (λU S=>by
  obtain ⟨o',J,j,F,R⟩:=S;rw [L] at F;cases F
  exact ⟨_,J,j,O,R⟩) af I.bare
theorem ay.call {g':Array GenState}{t':Nat}{d':Drawn}{ch:List Addr}(I:ay X pins σ H s)(u:Un @eb ch H H' s.heap h')(af:gi X.prog X.w H' h')(S:AllBare g')
(L:∀b∈ch,(b∈X.ex\/X.s₀.heap.objs.size<=b)/\b≠X.env.locals/\(∀x c,X.env.cells.lookup x=some c->c≠b)/\∀p∈X.pn++pins,p.1≠b):
 ay X pins σ H' {s with heap:=h',gens:=g',drawn:=d',toks:=t'}:=by
 obtain ⟨m,⟨o,es,ep,R,r⟩,_⟩:=id I.loc;obtain ⟨sl,j⟩:=u.any R I.free λz=>(L _ z).2.1 rfl
 exact I.step (ch:=ch) L (λb o j W J e n=>u.keep b o e n (λz=>(mem_cons.mp @fX).elim j W) J) (λb o _ _ J e n=>u.any e n J) (λb o J e n=>u.free b o e n J) (λb o J e=>u.there b o e J) u.tups u.frzs u.tbls (λZ Y=>by
  obtain ⟨o',O,G,F,U⟩:=Y;rw [R] at F;cases F
  exact ⟨_,O,G,j,U⟩) af S
theorem ay.turned {t':Nat}{it:Addr}(I:ay X pins σ H s)(k:∀b o,b≠it->s.heap.get? b=some o->h'.get? b=some o)(R:H it=none)(F:it≠X.env.locals)
(h1:it∈X.ex\/X.s₀.heap.objs.size<=it)(h2:∀x c,X.env.cells.lookup x=some c->c≠it)(G:∀p∈X.pn++pins,p.1≠it):ay X pins σ H {s with heap:=h',toks:=t'}:=by
 have j:∀b u,H b=some u->b≠it:=λb u e z=>by rw [z,R] at e;cases e
 refine I.step (g':=s.gens) (d':=s.drawn) (ch:=[it]) (λb S=> ?_) (λb o _ _ J e _=>k b o (λz=>J (by simp [z])) e) (λb o _ _ J e _=>⟨o.slots,k b o (λz=>J (by simp [z])) e⟩) (λ_ _ _ _ n=>n)
  (λb o J e=>⟨o,k b o (λz=>J (by simp [z])) e⟩) (λ_ _ e=>e) (λ_ _ _ e=>e) (λb ps e=>⟨#[],by rw [e];simp⟩) (λm U=> ?_) (λb u e=> ?_) I.bare
 ·have e:b=it:=by simpa using S
  subst e;exact ⟨h1,F,h2,G⟩
 ·obtain ⟨o,es,O,L,r⟩:=U;exact ⟨o,es,O,k _ o @gL L,r⟩
 ·rwa[(I.hok b u e).stay (λc v J q=>k c v ?_ q) @dp λ_ _ q=>q]
  rcases J with z|z
  ·rw [z];exact j b u e
  ·exact j c _ z
theorem ay.tok (I:ay X pins σ H s)(t:Nat):ay X pins σ H {s with toks:=t}:=I.un (h':=s.heap) (t':=t) Un.refl I.hok
theorem ay.kept {t':Nat}(I:ay X pins σ H s)(k:∀b u,s.heap.get? b=some u->h'.get? b=some u):ay X pins σ H {s with heap:=h',toks:=t'}:=I.un (Un.kept k) (I.hok.kept k)
theorem ay.laid {a:Addr}{o:HO}{t':Nat}(I:ay X pins σ H s)(k:∀b u,s.heap.get? b=some u->h'.get? b=some u)(G:s.heap.objs.size<=a)(j:bh X.prog X.w @W h' a o):
 ay X pins σ @W {s with heap:=h',toks:=t'}:=I.un (Un.laid k G (I.hok.fresh G)) (I.hok.laid k G j)
theorem ay.write {x e:Addr}{o:HO}{t':Nat}(I:ay X pins σ H s)(L:S1 (H x))(S:e=x\/H e=some (.own x))(k:∀b u,b≠e->s.heap.get? b=some u->h'.get? b=some u)(R:∃u,h'.get? e=some u)
(j:bh X.prog X.w @gK h' x o):ay X pins σ @gK {s with heap:=h',toks:=t'}:=I.un (Un.write L S k R) (I.hok.write L S k R j)
theorem ay.weak {j:List @gb}(I:ay X pins σ H s)(W:j.length=σ.length)(w:∀(i:Nat) v,j[i]? =some @bG->σ[i]? =some @bG):ay X pins j H s:=
 ⟨I.ok,I.os,I.bare,I.base,let ⟨m,hn,hl'⟩:=I.loc;⟨m,hn,λi x v e1 e2 z=>hl' i x v e1 (w i v e2) z⟩,I.cell,I.free,I.freeC,I.pin,I.hok,W.trans I.len⟩
theorem ay.pins_of {j:List (Addr×Obj)}(I:ay X pins σ H s)(h:∀p∈j,s.heap.get? p.1=some p.2/\H p.1=none/\p.1≠X.env.locals/\p.1∉X.fs/\∀v,p.2.data≠ .cell v):ay X j σ H s:=
 ⟨I.ok,I.os,I.bare,I.base,I.loc,I.cell,I.free,I.freeC,λp G=>(mem_append.mp G).elim (λz=>I.pin p (mem_append_left _ z)) (h p),I.hok,I.len⟩
theorem mI {N:List Str}(z:N.Nodup){i j:Nat}{x:Str}(a:N[i]? =some x)(b:N[j]? =some x):i=j:=by
 obtain ⟨h1,e1⟩:=List.getElem?_eq_some_iff.mp a;obtain ⟨h2,e2⟩:=List.getElem?_eq_some_iff.mp b;exact (getElem_inj z).mp (e1.trans e2.symm)
theorem vh {M:Model}{A:Around}{E:Value->Shared->Prop}{i:Nat}{x:Str}{v:V}{u:Value}{Q:Unit->Shared->Prop}(I:ay X pins σ H s)(hN:X.N.Nodup)(hi:X.N[i]? =some x)(G:Nn X.env.scope x)(r:aL v u)
(h:∀s',ay X pins @fY H s'->(∃a,Heap.SameBut a s.heap s'.heap/\(a=X.env.locals\/X.env.cells.lookup x=some a))->Q () s')(hf:X.fn x=true\/X.env.scope.names.lookup x=some .local:=by first|exact .inl rfl|exact .inr rfl|assumption):wpAny M A (storeName X.env x u) Q E s:=by
 obtain ⟨m,hn,hl⟩:=id I.loc
 have Y:(X.env.scope.kind== .class||(X.env.scope.kind== .module&&X.env.locals != X.env.globals))=false:=by rw [I.ok.kind];rfl
 have aa:i<σ.length:=by rw [I.len];exact (List.getElem?_eq_some_iff.mp hi).1
 have W:=I.cne
 have F:∀ {a:Addr} {h':Heap},(∃o,s.heap.get? a=some o/\H a=none)->Heap.SameBut a s.heap h'->gi X.prog X.w H h':=λ{a h'} ha hs b ob e=>by
  obtain ⟨_,_,L⟩:=ha;rwa[(I.hok b ob e).stay (λc w' J q=>(hs.2 c ?_).trans q) @dp λ_ _ q=>q];rintro rfl
  rcases J with rfl|J
  ·rw [L] at e;cases e
  ·rw [L] at J;cases J
 rcases G with S|S
 ·rwa[wpAny_storeName_local S hn (λh' af hs=> ?_) Y];obtain ⟨oL,_,_,ag,_⟩:=id hn;rwa[h _ ⟨I.ok,I.os,I.bare,⟨λb o e n O G=> ?_,λb o e n O G=> ?_,I.base.free,λb o e G=> ?_,I.base.tups,I.base.frzs,I.base.tbls⟩,⟨_,af,λj y v' e1 e2 e3=> ?_⟩,λy c e=> ?_,I.free,I.freeC,λp hp=> ?_,F ⟨oL,ag,I.free⟩ hs,by simpa using I.len⟩ ⟨_,hs,.inl rfl⟩]
  ·exact (hs.2 b @bV).trans @du
  ·obtain ⟨sl,e1⟩:=I.base.slot b o e n O G;exact ⟨sl,(hs.2 b @bV).trans e1⟩
  ·obtain ⟨o',e1⟩:=I.base.there b o e G;exact ⟨o',(hs.2 b @bV).trans e1⟩
  ·by_cases R:j=i
   ·subst R;rw [hi] at e1;cases e1;rw [getElem?_set_self aa] at e2;cases e2;exact ⟨u,r,.inl ⟨S,by simp⟩⟩
   ·rw [getElem?_set_ne @ex] at e2;obtain ⟨u',r',q⟩:=hl j y v' e1 e2 e3;rwa[⟨u',r',?_⟩]
    rcases q with ⟨k,e⟩|⟨k,c,e,z⟩
    ·rwa[.inl ⟨k,?_⟩];have:y≠x:=λe=>R (mI hN e1 (e▸hi));simp [this,e]
    ·exact .inr ⟨k,c,e,z.sameBut hs (W y c e)⟩
  ·obtain ⟨w',z⟩:=I.cell y c e;exact ⟨w',z.sameBut hs (W y c e)⟩
  ·obtain ⟨e,n,ne,nf,d⟩:=I.pin p hp;exact ⟨(hs.2 p.1 ne).trans e,n,ne,nf,d⟩
 ·have U:X.fn x=true:=by
   rcases hf with z|z
   ·exact z
   ·rw [z] at S;cases S
  obtain ⟨c,J⟩:=I.ok.has x (.inl S);obtain ⟨w',z⟩:=I.cell x c J;rwa[wpAny_storeName_cell I.ok.kind S J z (λh' ac hs=> ?_)];obtain ⟨oc,ad,Z⟩:=id z;rwa[h {s with heap:=h'} ⟨I.ok,I.os,I.bare,⟨λb o e n O G=> ?_,λb o e n O G=> ?_,I.base.free,λb o e G=> ?_,I.base.tups,I.base.frzs,I.base.tbls⟩,⟨m,hn.sameBut hs (Ne.symm (W x c J)),λj y v' e1 e2 e3=> ?_⟩,λy c' e=> ?_,I.free,I.freeC,λp hp=> ?_,F ⟨oc,ad,I.freeC x c J⟩ hs,by simpa using I.len⟩ ⟨c,hs,.inr J⟩]
  ·exact (hs.2 b @be).trans @du
  ·obtain ⟨sl,e1⟩:=I.base.slot b o e n O G;exact ⟨sl,(hs.2 b @be).trans e1⟩
  ·obtain ⟨o',e1⟩:=I.base.there b o e G;exact ⟨o',(hs.2 b @be).trans e1⟩
  ·by_cases R:j=i
   ·subst R;rw [hi] at e1;cases e1;rw [getElem?_set_self aa] at e2;cases e2;exact ⟨u,r,.inr ⟨.inl S,c,J,ac⟩⟩
   ·rw [getElem?_set_ne @ex] at e2;obtain ⟨u',r',q⟩:=hl j y v' e1 e2 e3;rwa[⟨u',r',?_⟩]
    rcases q with q|⟨k,c',e,z'⟩
    ·exact .inl q
    ·rwa[.inr ⟨k,c',e,z'.sameBut hs ?_⟩];rintro rfl;exact R (mI hN e1 (I.ok.inj _ _ _ e J▸hi))
  ·by_cases ae:c'=c
   ·subst ae;exact ⟨_,ac⟩
   ·obtain ⟨w2,z2⟩:=I.cell y c' e;exact ⟨w2,z2.sameBut hs ae⟩
  ·obtain ⟨e,n,ne,nf,d⟩:=I.pin p hp;rwa[⟨(hs.2 p.1 ?_).trans e,n,ne,nf,d⟩];intro q;rw [q,ad] at e;have q':oc=p.2:=Option.some.inj e;exact d w' (by rw [<-q'];exact Z)
theorem rh {M:Model}{A:Around}{E:Value->Shared->Prop}{i:Nat}{x:Str}{v:V}{u:Value}{Q:Unit->Shared->Prop}(I:ay X pins σ H s)(j:X.N.Nodup)(hi:X.N[i]? =some x)(z:Nn X.env.scope x)(r:aL v u)
(h:∀s',ay X pins @fY H s'->Q () s')(F:X.fn x=true\/X.env.scope.names.lookup x=some .local:=by first|exact .inl rfl|exact .inr rfl|assumption):wpAny M A (storeName X.env x u) Q E s:=
 vh I j hi z r (λs' G _=>h s' G) F
theorem ay.call' {s':Shared}{ch:List Addr}(I:ay X pins σ H s)(J:s'.os=s.os)(u:Un @eb ch H H' s.heap s'.heap)(af:gi X.prog X.w H' s'.heap)(S:AllBare s'.gens)
(L:∀b∈ch,(b∈X.ex\/X.s₀.heap.objs.size<=b)/\b≠X.env.locals/\(∀x c,X.env.cells.lookup x=some c->c≠b)/\∀p∈X.pn++pins,p.1≠b):ay X pins σ H' s':=by
 obtain ⟨h',F,z,j,o'⟩:=s';have e:o'=s.os:=J;subst e;exact I.call (g':=F) (t':=j) (d':=z) u af S L
end
abbrev XK:=Value->Option Addr->Hp->Prop
abbrev St:=List @gb
abbrev VK:=V->Hp->Prop
abbrev TE:=St->Hp->VK->Prop
abbrev TT:=St->Hp->(Bool->Hp->Prop)->Prop
abbrev TA:=St->Hp->(List V->Hp->Prop)->Prop
structure lQ where
 nx:St->Hp->Prop
 rt:VK
 bk:St->Hp->Prop:=λ_ _=>False
 ct:St->Hp->Prop:=λ_ _=>False
abbrev TS:=lQ->St->Hp->Prop
def EP (X:Cx)(pins:List (Addr×Obj))(σ:St)(Q:VK)(u:Value)(s':Shared):Prop:=∃v H',ay X pins σ H' s'/\aL v u/\Q v H'
def TP (X:Cx)(pins:List (Addr×Obj))(σ:St)(Q:Bool->Hp->Prop)(b:Bool)(s':Shared):Prop:=∃H',ay X pins σ H' s'/\Q b H'
def AP (X:Cx)(pins:List (Addr×Obj))(σ:St)(Q:List V->Hp->Prop)(us:List Value)(s':Shared):Prop:=∃vs H',ay X pins σ H' s'/\aO vs us/\Q vs H'
def SP (X:Cx)(pins:List (Addr×Obj))(D:lQ)(f:Flow)(s':Shared):Prop:=
 match f with
 | .next=>∃σ' H',ay X pins σ' H' s'/\D.nx σ' H'
 | .brk=>∃σ' H',ay X pins σ' H' s'/\D.bk σ' H'
 | .cont=>∃σ' H',ay X pins σ' H' s'/\D.ct σ' H'
 | .ret u=>∃v σ' H',ay X pins σ' H' s'/\aL v u/\D.rt v H'
def PE (X:Cx)(e:Expr)(t:TE):Prop:=
 ∀(pins:List (Addr×Obj)) (s:Shared) (σ:St) (H:Hp) (Q:VK),ay X pins σ H s->t σ H Q->wpAny @d X.A @fZ @u X.xe s
def PT (X:Cx)(e:Expr)(t:TT):Prop:=
 ∀(pins:List (Addr×Obj)) (s:Shared) (σ:St) (H:Hp) (Q:Bool->Hp->Prop),ay X pins σ H s->t σ H Q->wpAny @d X.A (isTrue e X.env @fZ) @dV X.xe s
def PW (X:Cx)(e:Expr)(t:TT):Prop:=
 ∀(whole:Sem Value) (pins:List (Addr×Obj)) (s:Shared) (σ:St) (H:Hp) (Q:Bool->Hp->Prop),ay X pins σ H s->t σ H Q->wpAny @d X.A (isTrue e X.env whole) @dV X.xe s
theorem PW.pt {X:Cx}{e:Expr}{t:TT}(h:PW X e t):PT X e t:=h _
def PA (X:Cx)(es:List Expr)(t:TA):Prop:=
 ∀(pos:Pos) (pins:List (Addr×Obj)) (s:Shared) (σ:St) (H:Hp) (Q:List V->Hp->Prop),ay X pins σ H s->t σ H Q->wpAny @d X.A (spliced (backTo pos @w)) (AP X pins σ Q) X.xe s
def PS (X:Cx)(st:Stmt)(t:TS):Prop:=
 ∀(pins:List (Addr×Obj)) (s:Shared) (σ:St) (H:Hp) (D:lQ),ay X pins σ H s->t D σ H->wpAny @d X.A (exec st X.env) @gi X.xe s
def uG (X:Cx)(st:List Stmt)(t:TS):Prop:=
 ∀(pins:List (Addr×Obj)) (s:Shared) (σ:St) (H:Hp) (D:lQ),ay X pins σ H s->t D σ H->wpAny @d X.A (execs st X.env) @gi X.xe s
theorem bz {α:Type}{t:Sem α}{Q j:α->Shared->Prop}{M:Model}{A:Around}{E:Value->Shared->Prop}{s:Shared}(h:wpAny M A t Q E s)(z:∀a s,Q a s->j a s):wpAny M A t j E s:=wpAny_mono h z λ_ _ x=>x
section
variable {X:Cx}
def Ug (i:Nat):TE:=λσ H Q=>∃v,σ[i]? =some @bG/\Q v H
def tC (v:V):TE:=λ_ H Q=>Q v H
theorem G5 {i:Nat}{x:Str}{pos:Pos}(R:X.N[i]? =some x)(U:SW X.env.scope x)(G:(x==("__debug__":Str))=false:=by decide)(F:(x==("__classdict__":Str))=false:=by decide):PE X (.Name x pos) (Ug i):=by
 intro pins s σ H Q I h;obtain ⟨v,e,h⟩:=h;obtain ⟨m,L,W⟩:=I.loc;obtain ⟨u,r,l⟩:=W i x v R e U;have z:EP X pins σ Q u s:=⟨v,H,I,r,h⟩
 rcases l with ⟨S,O⟩|⟨S,c,J,j⟩
 ·exact wpAny_Name (wpAny_loadName_local I.ok.kind S L O z) G
 ·rcases S with S|S
  ·exact wpAny_Name (wpAny_loadName_cell I.ok.kind S J j z) G
  ·exact wpAny_Name (wpAny_loadName_free I.ok.kind S J j z F) G
theorem cE {i j pos}:PE X (.Constant (.int i) j pos) (tC (.int i)):=λ_ _ _ H _ I h=>wpAny_Constant_int ⟨.int i,H,I.tok _,⟨_,rfl⟩,h⟩
theorem j8 {b j pos}:PE X (.Constant (.bool b) j pos) (tC (.bl b)):=λ_ _ _ H _ I h=>Constant_bool ⟨.bl b,H,I,rfl,h⟩
theorem wY {j pos}:PE X (.Constant .none j pos) (tC .non):=λ_ _ _ H _ I h=>Constant_none ⟨.non,H,I,rfl,h⟩
theorem bZ {x j pos}:PE X (.Constant (.str x) j pos) (tC (.str x)):=λ_ _ _ H _ I h=>Calls.Constant_str ⟨.str x,H,I.tok _,⟨_,rfl⟩,h⟩
def Gl (X:Cx)(x:Str):Prop:=X.env.kindOf x=some .globalImplicit
theorem eR {E:Value->Shared->Prop}{pins:List (Addr×Obj)}{s:Shared}{σ:St}{H:Hp}{x:Str}{u:Value}{pos:Pos}{Q:Value->Shared->Prop}(I:ay X pins σ H s)(S:Gl X x)(F:X.mg x=some u)(h:Q u s)
(G:(x==("__debug__":Str))=false:=by decide):wpAny @d X.A (eval (.Name x pos) X.env) Q E s:=
 Calls.Name_function_global I.ok.kind S (Calls.loadGlobal_global (by rw [I.ok.glob];exact I.mod.glob.keeps I.bk) F h) G
theorem ly {E:Value->Shared->Prop}{pins:List (Addr×Obj)}{s:Shared}{σ:St}{H:Hp}{x:Str}{u:Value}{pos:Pos}{Q:Value->Shared->Prop}(I:ay X pins σ H s)(S:Gl X x)(F:X.mg x=none)(U:bootBuiltins x=some u)(h:Q u s)
(j:x≠"__name__":=by decide)(G:(x==("__debug__":Str))=false:=by decide):wpAny @d X.A (eval (.Name x pos) X.env) Q E s:=by
 obtain ⟨z,h1,h2⟩:=I.mod.blt;exact Calls.Name_function_global I.ok.kind S (Calls.loadGlobal_builtin (by rw [I.ok.glob];exact I.mod.glob.keeps I.bk) F (by rw [I.ok.blt];exact h1.keeps I.bk) ((h2 x j).trans U) h) G
theorem Cz {x:Str}{v:V}{u:Value}{pos:Pos}(S:Gl X x)(F:X.mg x=some u)(r:aL v u)(G:(x==("__debug__":Str))=false:=by decide):PE X (.Name x pos) (tC v):=
 λ_ _ _ H _ I h=>eR I S F ⟨v,H,I,r,h⟩ G
theorem wZ {x:Str}{v:V}{u:Value}{pos:Pos}(S:Gl X x)(F:X.mg x=none)(U:bootBuiltins x=some u)(r:aL v u)(j:x≠"__name__":=by decide)(G:(x==("__debug__":Str))=false:=by decide):PE X (.Name x pos) (tC v):=
 λ_ _ _ H _ I h=>ly I S F U ⟨v,H,I,r,h⟩ j G
variable {a b:Expr}{ta tb:TE}{pos:Pos}
def PC (X:Cx)(op:CmpOp)(a b:Expr)(t:TE):Prop:=
 ∀(pins:List (Addr×Obj)) (s:Shared) (σ:St) (H:Hp) (Q:VK),ay X pins σ H s->t σ H Q->
  wpAny @d X.A (eval a X.env) (λv s₁=>wpAny @d X.A (eval b X.env) (λu s₂=>wpAny @d X.A (compareOp op v u) @u X.xe s₂) X.xe s₁) X.xe s
def tB (t:TE):TT:=λσ H Q=>t σ H λx H1=>∃c,x= .bl c/\Q c H1
theorem OM {j:CmpOp}{t:TE}(h:PC X j a b t)(h1:behindInMarks j b=false:=by first|exact nobehind _ @c @c|rfl):PT X (.Compare a [j] [b] pos) (tB t):=by
 intro pins s σ H Q I z;rwa[wpAny_isTrue_Compare1 (bz (h pins s σ H _ I z) λv L h1=>bz h1 λu R h2=>bz h2 λc O ⟨x,H1,G,F,J⟩=> ?_) h1];obtain ⟨d,rfl,q⟩:=J;cases F;exact wpAny_truthy_bool ⟨H1,G,q⟩
variable {tA tB':TT}{cq:List Expr}
def Ur (t u:TT):TT:=λσ H Q=>t σ H λc H1=>if c=true then u σ H1 Q else Q false H1
def Vd (t u:TT):TT:=λσ H Q=>t σ H λc H1=>if c=true then Q true H1 else u σ H1 Q
def Uk (t:TT):TT:=λσ H Q=>t σ H λc H1=>Q (!c) H1
theorem Cy (j:PT X a tA):PW X (.BoolOp .And [a] pos) tA:=by
 intro z pins s σ H Q I h;rwa[isTrue_and (bz (j pins s σ H Q I h) λc L e=> ?_)]
 cases c with
 |true=>exact isTrue_and_nil e
 |false=>exact e
theorem Bl (j:PT X a tA):PW X (.BoolOp .Or [a] pos) tA:=by
 intro z pins s σ H Q I h;rwa[isTrue_or (bz (j pins s σ H Q I h) λc L e=> ?_)]
 cases c with
 |false=>exact isTrue_or_nil e
 |true=>exact e
theorem OK (j:PT X a tA)(F:PW X (.BoolOp .And (b::cq) pos) tB'):PW X (.BoolOp .And (a::b::cq) pos) (Ur tA tB'):=by
 intro z pins s σ H Q I h;rwa[isTrue_and (bz @bu λc L ⟨H1,G,J⟩=> ?_)]
 cases c with
 |true=>exact F z pins L σ H1 Q G J
 |false=>exact ⟨H1,G,J⟩
theorem RN (j:PT X a tA)(F:PW X (.BoolOp .Or (b::cq) pos) tB'):PW X (.BoolOp .Or (a::b::cq) pos) (Vd tA tB'):=by
 intro z pins s σ H Q I h;rwa[isTrue_or (bz @bu λc L ⟨H1,G,J⟩=> ?_)]
 cases c with
 |true=>exact ⟨H1,G,J⟩
 |false=>exact F z pins L σ H1 Q G J
theorem fG (j:PT X a tA):PT X (.UnaryOp .Not a pos) (Uk tA):=by
 intro pins s σ H Q I h;exact isTrue_not (j pins s σ H (λc H1=>Q (!c) H1) I h)
theorem Bn {j}{t:TE}(h:PE X a t):PE X (.BoolOp j [a] pos) t:=λpins s σ H Q I z=>BoolOp_one (h pins s σ H Q I z)
def Ve (t:TT)(ta tb:TE):TE:=λσ H Q=>t σ H λc H1=>if c=true then ta σ H1 Q else tb σ H1 Q
theorem G8 {c:Expr}(j:PT X c tA)(z:PE X a ta)(F:PE X b tb):PE X (.IfExp c a b pos) (Ve tA ta tb):=by
 intro pins s σ H Q I h;rwa[wpAny_IfExp (bz @bu λd L ⟨H1,G,J⟩=> ?_)]
 cases d with
 |true=>exact z pins L σ H1 Q G J
 |false=>exact F pins L σ H1 Q G J
end
def aD (K:Fg)(H:Hp)(a:Addr)(xs:List V):Prop:=
 Rd H a (.lst xs)\/
  ∃(o:Obj) (its:Array Value) (n:Nat),K.lookup a=some o/\o.cls= .type "list"/\o.dict=none/\o.data= .seq its n/\its.size<=sizeLine/\aO xs its.toList
def aK (K:Fg)(H:Hp)(a:Addr)(xs:List V):Prop:=
 Rd H a (.tup xs)\/
  ∃(o:Obj) (its:Array Value) (n:Nat),K.lookup a=some o/\o.cls= .type "tuple"/\o.data= .seq its n/\its.size<=sizeLine/\aO xs its.toList
noncomputable def UU:Value->Option V
 | .none=>some .non
 | .bool b=>some (.bl b)
 | .int i _=>some (.int i)
 | .str x _=>some (.str x)
 | .bytes b _=>some (.byt b)
 | .float b _=>some (.flt b)
 | .ref a=>some (.ref a)
 | .type n=>some (.ty n)
 |_=>none
theorem aL.abs {x:V}{u:Value}(r:aL x u):UU u=some x:=by
 cases x with
 |non=>cases r;rfl
 |bl _=>cases r;rfl
 |int _=>obtain ⟨t,rfl⟩:=r;rfl
 |str _=>obtain ⟨t,rfl⟩:=r;rfl
 |byt _=>obtain ⟨t,rfl⟩:=r;rfl
 |flt _=>obtain ⟨t,rfl⟩:=r;rfl
 |ref _=>cases r;rfl
 |ty _=>cases r;rfl
theorem aL.inj {x y:V}{u:Value}(r:aL x u)(q:aL y u):x=y:=Option.some.inj (r.abs.symm.trans q.abs)
theorem aO.inj:∀ {xs ys:List V} {us:List Value},aO xs us->aO ys us->xs=ys
 |_,_,_,.nil,.nil=>rfl
 |_,_,_,.cons r t,.cons r' t'=>by rw [r.inj r',aO.inj t t']
section
variable {X:Cx}{pins:List (Addr×Obj)}{σ:St}{H:Hp}{s:Shared}{a:Addr}{xs ys:List V}
theorem aD.of {K:Fg}(h:H a=some (.lst xs)):aD K H a xs:= .inl (.inl h)
theorem aK.of {K:Fg}(h:H a=some (.tup xs)):aK K H a xs:= .inl (.inl h)
theorem ay.list (I:ay X pins σ H s)(h:aD X.K H a xs):∃its:List Value,aO xs its/\PlainL s.heap a its.toArray/\xs.length<=sizeLine:=by
 rcases h with h|⟨o,its,n,S,J,G,hs,j,r⟩
 ·obtain ⟨z,its,n,r,e⟩:=h.ok I.hok;exact ⟨its,r,⟨_,n,e,rfl,rfl,rfl⟩,z⟩
 ·rwa[⟨its.toList,r,⟨o,n,I.kIn a o S,J,G,by simpa using hs⟩,?_⟩];have e:=r.length;simp only [Array.length_toList] at e;lia
theorem ay.tuple (I:ay X pins σ H s)(h:aK X.K H a xs):∃its:List Value,aO xs its/\IsTup s.heap a its.toArray/\xs.length<=sizeLine:=by
 rcases h with h|⟨o,its,n,S,J,hs,j,r⟩
 ·obtain ⟨z,its,r,p⟩:=h.ok I.hok;exact ⟨its,r,p,z⟩
 ·rwa[⟨its.toList,r,⟨o,I.kIn a o S,J,n,by simpa using hs⟩,?_⟩];have e:=r.length;simp only [Array.length_toList] at e;lia
theorem ay.list_inj (I:ay X pins σ H s)(h:aD X.K H a xs)(h':aD X.K H a ys):xs=ys:=by
 obtain ⟨its,r,⟨o,n,e,_,_,d⟩,_⟩:=I.list h;obtain ⟨j,R,⟨o',G,z,_,_,F⟩,_⟩:=I.list h';rw [e] at z;cases z;rw [d] at F;injection F with d1 _
 have:its=j:=by simpa using congrArg Array.toList d1
 subst this;exact r.inj R
theorem ay.tuple_inj (I:ay X pins σ H s)(h:aK X.K H a xs)(h':aK X.K H a ys):xs=ys:=by
 obtain ⟨its,r,⟨o,e,_,n,d⟩,_⟩:=I.tuple h;obtain ⟨j,R,⟨o',z,_,G,F⟩,_⟩:=I.tuple h';rw [e] at z;cases z;rw [d] at F;injection F with d1 _
 have:its=j:=by simpa using congrArg Array.toList d1
 subst this;exact r.inj R
end
abbrev Cx.wish (X:Cx)(E:Value->Shared->Prop):Cx:= {X with xe:=E}
abbrev Cx.nox (X:Cx):Cx:=X.wish λ_ _=>False
theorem Cx.Ok.wish {X:Cx}(W:X.Ok)(E:Value->Shared->Prop):(X.wish E).Ok:=
 ⟨W.mod,W.kind,W.glob,W.blt,W.above,W.inj,W.has,W.cab,W.hd,W.frames,W.stk,W.exf,W.bs,W.bsz,W.noex,W.exfs,W.funs,W.frf⟩
theorem Cx.Ok.unwish {X:Cx}{E:Value->Shared->Prop}(W:(X.wish E).Ok):X.Ok:=
 ⟨W.mod,W.kind,W.glob,W.blt,W.above,W.inj,W.has,W.cab,W.hd,W.frames,W.stk,W.exf,W.bs,W.bsz,W.noex,W.exfs,W.funs,W.frf⟩
section
variable {X:Cx}{pins:List (Addr×Obj)}{σ:St}{H:Hp}{s:Shared}{E:Value->Shared->Prop}
theorem ay.wish (I:ay X pins σ H s)(E:Value->Shared->Prop):ay @gZ pins σ H s:=⟨I.ok.wish E,I.os,I.bare,I.base,I.loc,I.cell,I.free,I.freeC,I.pin,I.hok,I.len⟩
theorem ay.unwish (I:ay @gZ pins σ H s):ay X pins σ H s:=⟨I.ok.unwish,I.os,I.bare,I.base,I.loc,I.cell,I.free,I.freeC,I.pin,I.hok,I.len⟩
theorem SP.unwish {D:lQ}{f:Flow}{s':Shared}(h:SP @gZ pins D f s'):SP X pins D f s':=by
 cases f with
 |next=>obtain ⟨j,H',I,q⟩:=h;exact ⟨j,H',I.unwish,q⟩
 |brk=>obtain ⟨j,H',I,q⟩:=h;exact ⟨j,H',I.unwish,q⟩
 |cont=>obtain ⟨j,H',I,q⟩:=h;exact ⟨j,H',I.unwish,q⟩
 |ret u=>obtain ⟨v,j,H',I,r,q⟩:=h;exact ⟨v,j,H',I.unwish,r,q⟩
theorem uG.nox {st:List Stmt}{t:TS}(h:uG X.nox st t):uG X st t:=λpins s σ H D I j=>
 wpAny_mono (h pins s σ H D (I.wish _) j) (λ_ _ q=>q.unwish) λ_ _ z=>False.elim z
end
section
variable {X:Cx}{st:Stmt}{cq:List Stmt}{t u:TS}{e:Expr}{te:TE}{pos:Pos}
def Rt:TS:=λD σ H=>D.nx σ H
def Ui (t u:TS):TS:=λD σ H=>t {D with nx:=u D} σ H
theorem av:uG X [] Rt:=λ_ _ σ H _ I h=>wpAny_execs_nil ⟨σ,H,I,h⟩
theorem aa (h1:PS X st t)(h2:uG X cq u):uG X (st::cq) (Ui t u):=by
 intro pins s σ H D I h;rwa[wpAny_execs_cons (bz (h1 pins s σ H {D with nx:=u D} I h) λf L q=> ?_)]
 cases f with
 |next=>
  obtain ⟨j,H',G,q⟩:=q;exact h2 pins L j H' D G q
 |ret v=>exact q
 |brk=>exact q
 |cont=>exact q
theorem ac (h1:PS X st t):uG X [st] t:=by
 intro pins s σ H D I h;rwa[wpAny_execs_cons (bz (h1 pins s σ H D I h) λf L q=> ?_)]
 cases f with
 |next=>exact wpAny_execs_nil q
 |ret v=>exact q
 |brk=>exact q
 |cont=>exact q
theorem ay.quiet {pins:List (Addr×Obj)}{σ:St}{H:Hp}{s:Shared}(I:ay X pins σ H s):interactive X.env=false:=by simp [interactive,I.ok.kind]
def Rx (te:TE):TS:=λD σ H=>te σ H λ_ H1=>D.nx σ H1
theorem aS (S:PE X e te)(hs:swapsWith e none pos.line X.env=pure false:=by rfl):PS X (.Expr e pos) (Rx te):=by
 intro pins s σ H D I h;exact wpAny_Expr_any (bz @bN λv L ⟨x,H1,G,F,J⟩=>⟨σ,H1,G,J⟩) I.quiet hs
def Uj (te:TE):TS:=λD σ H=>te σ H D.rt
theorem am (S:PE X e te):PS X (.Return (some e) pos) (Uj te):=by
 intro pins s σ H D I h;exact wpAny_Return_some (bz @bN λv L ⟨x,H1,G,F,J⟩=>⟨x,σ,H1,G,F,J⟩)
def Rq:TS:=λD _ H=>D.rt .non H
theorem KN:PS X (.Return none pos) Rq:=λ_ _ σ H _ I h=>wpAny_Return_none ⟨.non,σ,H,I,rfl,h⟩
def Uo (c:TT)(t u:TS):TS:=λD σ H=>c σ H λb H1=>if b=true then t D σ H1 else u D σ H1
theorem RP {c:Expr}{a b:List Stmt}{tc:TT}(j:PT X c tc)(z:uG X a t)(F:uG X b u):PS X (.If c a b pos) (Uo tc t u):=by
 intro pins s σ H D I h;rwa[wpAny_If (bz @bu λd L ⟨H1,G,J⟩=> ?_)]
 cases d with
 |true=>exact z pins L σ H1 D G J
 |false=>exact F pins L σ H1 D G J
end
abbrev TG:=V->St->Hp->(St->Hp->Prop)->Prop
abbrev Di:=List V->St->Hp->(St->Hp->Prop)->Prop
def PG (X:Cx)(target:Expr)(t:TG):Prop:=
 ∀(pins:List (Addr×Obj)) (s:Shared) (σ:St) (H:Hp) (v:V) (u:Value) (Q:St->Hp->Prop),ay X pins σ H s->aL v u->t v σ H Q->
  wpAny @d X.A (assign target X.env u) (λ_ s'=>∃σ' H',ay X pins σ' H' s'/\Q σ' H') X.xe s
def E6 (X:Cx)(ts:List Expr)(t:Di):Prop:=
 ∀(pins:List (Addr×Obj)) (s:Shared) (σ:St) (H:Hp) (vs:List V) (us:List Value) (Q:St->Hp->Prop),ay X pins σ H s->aO vs us->t vs σ H Q->
  wpAny @d X.A (assignInOrder ((assignEach ts X.env).map (·.2)) us) (λ_ s'=>∃σ' H',ay X pins σ' H' s'/\Q σ' H') X.xe s
abbrev Qk:=V->V->V->Hp->(Hp->Prop)->Prop
def JC (X:Cx)(t:Qk):Prop:=
 ∀(pins:List (Addr×Obj)) (s:Shared) (σ:St) (H:Hp) (o i v:V) (ov iv u:Value) (Q:Hp->Prop),ay X pins σ H s->aL o ov->aL i iv->aL v u->t o i v H Q->
  wpAny @d X.A (setItem ov iv u) (λ_ s'=>∃H',ay X pins σ H' s'/\Q H') X.xe s
section
variable {X:Cx}{pos:Pos}
def qd (i:Nat):TG:=λv σ H Q=>Q @fY H
theorem mz {i:Nat}{x:Str}(j:X.N.Nodup)(hi:X.N[i]? =some x)(z:Nn X.env.scope x)(F:X.fn x=true\/X.env.scope.names.lookup x=some .local:=by first|exact .inl rfl|exact .inr rfl|assumption):PG X (.Name x pos) (qd i):=by
 intro pins s σ H v u Q I r h;exact wpAny_assign_Name (rh I j hi z r (λs' G=>⟨_,H,G,h⟩) F)
def UO:Di:=λvs σ H Q=>vs=[]/\Q σ H
def SB (t:TG)(u:Di):Di:=λvs σ H Q=>∃v r,vs=v::r/\t v σ H λσ' H'=>u r σ' H' Q
theorem KQ:E6 X [] UO:=by
 intro pins s σ H L j Q I r h;obtain ⟨e,h⟩:=h;subst e;cases r;exact assignInOrder_nil ⟨σ,H,I,h⟩
theorem G2 {e:Expr}{es:List Expr}{t:TG}{u:Di}(h1:PG X e t)(h2:E6 X es u)
(hs:(assignEach (e::es) X.env).map (·.2)=assign e X.env::(assignEach es X.env).map (·.2):=by rfl):E6 X (e::es) (SB t u):=by
 intro pins s σ H F z Q I r h;obtain ⟨v,O,e1,h⟩:=h;subst e1
 cases r with
 |cons r rr=>
  rw [hs];rwa[assignInOrder_cons (bz (h1 pins s σ H _ _ _ I r h) λ_ L ⟨j,H1,G,J⟩=> ?_)];exact h2 pins L j H1 _ _ Q G rr J
def SA (K:Fg)(n:Nat)(t:Di):TG:=λv σ H Q=>∃a xs,v= .ref a/\aK K H a xs/\xs.length=n/\t xs σ H Q
theorem OP {es:List Expr}{k:Nat}{t:Di}{n:Nat}(R:X.calm=true)(h:E6 X es t)
(J:(assignEach es X.env).length=n:=by rfl)(j:(assignEach es X.env).findIdx? (·.1)=none:=by rfl):PG X (.Tuple es k pos) (SA X.K n t):=by
 intro pins s σ H v u Q I r z;obtain ⟨a,xs,e1,G,W,z⟩:=z;subst e1;cases r;obtain ⟨its,F,O,U⟩:=I.tuple G;rwa[assign_Tuple_tuple @fG O (by simp [J,<-W,F.length]) j λh' L=> ?_];have S:ay X pins σ H {s with heap:=h'}:=I.kept (t':=s.toks) λb o e=>L b o @fc e;exact h pins _ σ H xs _ Q S (by simpa using F) z
def UN (to ti:TE)(t:Qk):TG:=λv σ H Q=>to σ H λo H1=>ti σ H1 λi H2=>t o i v H2 λH3=>Q σ H3
theorem lr {o i:Expr}{to j:TE}{t:Qk}(J:PE X o to)(hi:PE X i j)(hs:JC X t)
(W:∀v,assign (.Subscript o i pos) X.env v=(do
   let ov<-holding [v] @er
   let iv<-holding [v,ov] (eval i X.env)
   standAt pos
   holding [v,ov,iv] (setItem ov iv v)
   release [v,ov,iv] []):=by intro _;rfl):PG X (.Subscript o i pos) (UN to j t):=by
 intro pins s σ H v u Q I r h;rw [W];rwa[wpAny_bind (wpAny_holding (bz (J pins s σ H _ I h) λov s1 ⟨x,H1,Y,L,S⟩=> ?_))];rwa[wpAny_bind (wpAny_holding (bz (hi pins s1 σ H1 _ Y S) λiv Z ⟨y,H2,O,U,R⟩=> ?_))];rwa[wpAny_bind (wpAny_standAt (wpAny_bind (wpAny_holding (bz (hs pins Z σ H2 x y v ov iv u _ O L U r R) λ_ s3 ⟨F,z,G⟩=> ?_))))];exact wpAny_release ⟨σ,F,z,G⟩
def FV (te:TE)(g:TG):TS:=λD σ H=>te σ H λx H1=>g x σ H1 D.nx
theorem ij {tg e:Expr}{te:TE}{g:TG}(S:PE X e te)(j:PG X tg g)(hs:swapsWithSole [tg] e pos.line X.env=pure false:=by rfl)(z:swappedStores [tg] e X.env=pure none:=by rfl)
(h1:(assignEach [tg] X.env).map (·.2)=[assign tg X.env]:=by rfl):PS X (.Assign [tg] e pos) (FV te g):=by
 intro pins s σ H D I h;rwa[wpAny_Assign_stores (bz @bN λv L ⟨x,H1,G,F,J⟩=> ?_) hs z];rw [h1];exact bz (j pins L σ H1 x v _ G F J) λ_ R q=>q
theorem aZ {i:Nat}{x:Str}{e:Expr}{te:TE}{pos':Pos}(L:X.N.Nodup)(hi:X.N[i]? =some x)(z:Nn X.env.scope x)(S:PE X e te)(hs:swapsWith e (some (.Name x pos')) pos.line X.env=pure false:=by rfl)(j:X.fn x=true\/X.env.scope.names.lookup x=some .local:=by first|exact .inl rfl|exact .inr rfl|assumption):
 PS X (.Assign [.Name x pos'] e pos) (FV te (qd i)):=by
 intro pins s σ H D I h;rwa[wpAny_Assign_Name (bz @bN λv U ⟨y,H1,G,F,J⟩=> ?_) hs];exact rh G L hi z F (λR O=>⟨_,H1,O,J⟩) j
end
structure It where
 go:Nat->Hp->Prop
 yld:Nat->Hp->V->Hp->Prop
 stop:Nat->Hp->Prop
def jL (X:Cx)(pins:List (Addr×Obj))(H:Hp)(b:Addr):Prop:=
 H b=none/\b≠X.env.locals/\b∉X.fs/\(b∈X.ex\/X.s₀.heap.objs.size<=b)/\(∀x c,X.env.cells.lookup x=some c->c≠b)/\∀p∈X.pn++pins,p.1≠b
theorem ay.fpOk {X:Cx}{pins:List (Addr×Obj)}{σ:St}{H H':Hp}{s:Shared}{b:Addr}(I:ay X pins σ H s)(j:s.heap.objs.size<=b)(F:H' b=none):jL X pins H' b:=by
 rwa[⟨F,Nat.ne_of_gt (Nat.lt_of_lt_of_le I.lt j),I.nofs j,.inr (Nat.le_trans I.sz j),λx c e z=> ?_,λp G z=> ?_⟩]
 ·obtain ⟨v,q⟩:=I.cell x c e;exact absurd (Nat.lt_of_lt_of_le q.lt (by rw [z];exact j)) @bm
 ·exact absurd (Nat.lt_of_lt_of_le (Heap.lt_size (I.pin p G).1) (by rw [z];exact j)) @bm
structure Ad (P:Program)(w:World)(K:Fg)(tg:Expr)(J:It)(fp:List Addr)(it:Addr)(tn:Nat->Heap->Prop):Prop where
 mem:it∈fp
 obj:∀i h,tn i h->∀b∈fp,∃o,h.get? b=some o/\∀v,o.data≠ .cell v
 keep:∀i h h',tn i h->(∀b∈fp,∀o,h.get? b=some o->h'.get? b=some o)->tn i h'
 item:∀(X:Cx),X.prog=P->X.w=w->X.K=K->X.calm=true->∀(i:Nat) (pins:List (Addr×Obj)) (s:Shared) (σ:St) (H:Hp) (E:Value->Shared->Prop),ay X pins σ H s->(∀b∈fp,jL X pins H b)->tn i s.heap->J.go i H->
  wpAny @P X.A @cn (λr s1=>∃u,r=some u/\
   wpAny @P X.A @cq (λ_ s2=>∃x H',ay X pins σ H' s2/\aL x u/\J.yld i H x H'/\tn (i+1) s2.heap/\∀b∈fp,H' b=none) E s1) E s
 done:∀(X:Cx),X.prog=P->X.w=w->X.K=K->X.calm=true->∀(i:Nat) (pins:List (Addr×Obj)) (s:Shared) (σ:St) (H:Hp) (E:Value->Shared->Prop),ay X pins σ H s->(∀b∈fp,jL X pins H b)->tn i s.heap->J.stop i H->
  wpAny @P X.A @cn (λr s1=>r=none/\ay X pins σ H s1) E s
 self:∀(A:Around) (i:Nat) (s:Shared) (Q:Value->Shared->Prop) (E:Value->Shared->Prop),tn i s.heap->Q (.ref it) s->wpAny @P A (pyIter (.ref it)) Q E s
abbrev TI:=St->Hp->(It->Hp->Prop)->Prop
def UW (X:Cx)(pins:List (Addr×Obj))(σ:St)(tg:Expr)(R:It->Hp->Prop)(itv:Value)(s2:Shared):Prop:=
 ∃(it:Addr) (fp:List Addr) (tn:Nat->Heap->Prop) (J:It) (H':Hp),itv= .ref it/\ay X pins σ H' s2/\Ad X.prog X.w X.K tg J fp it tn/\tn 0 s2.heap/\(∀b∈fp,jL X pins H' b)/\R J H'
def PI (X:Cx)(tg iter:Expr)(wi:TI):Prop:=
 ∀(pins:List (Addr×Obj)) (s:Shared) (σ:St) (H:Hp) (R:It->Hp->Prop),ay X pins σ H s->wi σ H R->
  wpAny @d X.A @fd (λv s1=>wpAny @d X.A (pyIter v) @ey X.xe s1) X.xe s
theorem zm {M:Model}{A:Around}{E:Value->Shared->Prop}{s:Shared}{tg:Expr}{it:Addr}{u:Value}{o:Obj}{n:String}{vs:Array Value}{Q:Unit->Shared->Prop}(j:s.heap.get? it=some o)(J:o.cls= .type n)(G:o.data= .fields vs)
(F:["enumerate","zip","dict_itemiterator","dict_reverseitemiterator","odict_iterator","itertools.zip_longest","itertools.pairwise"].contains n=false)(z:Q () s):wpAny M A @cq Q E s:=by
 unfold letOwnedTupleGo
 cases tg<;>first
  |exact wpAny_pure z
  |(cases u<;>first
     |exact wpAny_pure z
     |(refine wpAny_bind (wpAny_load j ?_)
       rw [J,G];show wpAny M A (if (["enumerate","zip","dict_itemiterator","dict_reverseitemiterator","odict_iterator","itertools.zip_longest","itertools.pairwise"].contains n&&vs[0]? ==some (rawInt _))=true then _ else _) Q E s;rw [if_neg (by intro h;rw [F,Bool.false_and] at h;cases h)]
       exact wpAny_pure z))
noncomputable def JK (K:Fg)(a:Addr):It:=
 ⟨λi H=>∃xs x,aD K H a xs/\xs[i]? =some x,λi H x H'=>H'=H/\∀xs,aD K H a xs->xs[i]? =some x,λi H=>∃xs,aD K H a xs/\xs.length<=i⟩
noncomputable def MG (K:Fg)(a:Addr):It:=
 ⟨λi H=>∃xs x,aK K H a xs/\xs[i]? =some x,λi H x H'=>H'=H/\∀xs,aK K H a xs->xs[i]? =some x,λi H=>∃xs,aK K H a xs/\xs.length<=i⟩
noncomputable def MI (lo:Int)(n:Nat):It:=⟨λi _=>i<n,λi H x H'=>H'=H/\x= .int (lo+i),λi _=>n<=i⟩
theorem Dr {P:Program}{w:World}{K:Fg}{tg:Expr}(a it:Addr):Ad P w K tg @hj [it] it (λi h=>h.IsListIter it a i) where
 mem:=by simp
 obj:=λi h st b j=>by
  have e:b=it:=by simpa using j
  subst e;obtain ⟨o,e,c,d⟩:=st;exact ⟨o,e,λv z=>by rw [d] at z;cases z⟩
 keep:=λi h h' st k=>st.at λo e=>k it @e o e
 item:=by
  intro X L U S hc i pins s σ H E I J st hg;subst L U S;obtain ⟨xs,x,G,Z⟩:=hg;obtain ⟨its,Y,p,hz⟩:=I.list G;obtain ⟨u,hu,ru⟩:=Y.get Z;obtain ⟨R,O,f2,f3,f4,W⟩:=J it @e;rwa[wpAny_pyNext_list_item st p.isList (x:=u) (by simpa using hu) λh' F sb=> ?_];have I1:ay X pins σ H {s with heap:=h'}:=I.turned (t':=s.toks) (λb o j e=>(sb.2 b j).trans e) R O f3 f4 W;obtain ⟨o,e,c,d⟩:=id F;exact ⟨u,rfl,zm (s:= {s with heap:=h'}) e c d @c ⟨x,H,I1,ru,⟨rfl,λys hy=>by rw [I.list_inj hy G];exact Z⟩,F,λb j=>(J b j).1⟩⟩
 done:=by
  intro X L U S hc i pins s σ H E I J st hg;subst L U S;obtain ⟨xs,G,Z⟩:=hg;obtain ⟨its,Y,p,hz⟩:=I.list G;obtain ⟨R,O,f2,f3,f4,W⟩:=J it @e;have hl:=Y.length;exact wpAny_pyNext_list_end @bO st p.isList (by simp;lia) λh' eb=>⟨rfl,I.turned (t':=s.toks) @ca R O f3 f4 W⟩
 self:=λ_ _ _ _ _ st h=>wpAny_pyIter_listiter st h
theorem Az {P:Program}{w:World}{K:Fg}{tg:Expr}(a it:Addr):Ad P w K tg @hk [it] it (λi h=>h.IsTupleIter it a i) where
 mem:=by simp
 obj:=λi h st b j=>by
  have e:b=it:=by simpa using j
  subst e;obtain ⟨o,e,c,d⟩:=st;exact ⟨o,e,λv z=>by rw [d] at z;cases z⟩
 keep:=λi h h' st k=>st.at λo e=>k it @e o e
 item:=by
  intro X L U S hc i pins s σ H E I J st hg;subst L U S;obtain ⟨xs,x,G,Z⟩:=hg;obtain ⟨its,Y,p,hz⟩:=I.tuple G;obtain ⟨u,hu,ru⟩:=Y.get Z;obtain ⟨R,O,f2,f3,f4,W⟩:=J it @e;rwa[wpAny_pyNext_tuple_item st (show s.heap.IsTuple a its.toArray from p) (x:=u) (by simpa using hu) λh' F sb=> ?_];have I1:ay X pins σ H {s with heap:=h'}:=I.turned (t':=s.toks) (λb o j e=>(sb.2 b j).trans e) R O f3 f4 W;obtain ⟨o,e,c,d⟩:=id F;exact ⟨u,rfl,zm (s:= {s with heap:=h'}) e c d @c ⟨x,H,I1,ru,⟨rfl,λys hy=>by rw [I.tuple_inj hy G];exact Z⟩,F,λb j=>(J b j).1⟩⟩
 done:=by
  intro X L U S hc i pins s σ H E I J st hg;subst L U S;obtain ⟨xs,G,Z⟩:=hg;obtain ⟨its,Y,p,hz⟩:=I.tuple G;obtain ⟨R,O,f2,f3,f4,W⟩:=J it @e;have hl:=Y.length;exact wpAny_pyNext_tuple_end @bO st (show s.heap.IsTuple a its.toArray from p) (by simp;lia) λh' eb=>⟨rfl,I.turned (t':=s.toks) @ca R O f3 f4 W⟩
 self:=λ_ _ _ _ _ st h=>wpAny_pyIter_tupleiter st h
theorem AA {P:Program}{w:World}{K:Fg}{tg:Expr}(it:Addr)(lo:Int)(n:Nat):Ad P w K tg @hf [it] it (λi h=>IsRangeIter h it (lo+(i:Nat)*1) ((n:Int) - (i:Nat)) 1) where
 mem:=by simp
 obj:=λi h st b j=>by
  have e:b=it:=by simpa using j
  subst e
  exact ⟨_,st,λv z=>by
   have z':Data.fields _=Data.cell v:=z
   cases z'⟩
 keep:=λi h h' st k=>k it @e _ st
 item:=by
  intro X L J S Z i pins s σ H E I G st hg;subst L J S;obtain ⟨R,O,f2,f3,Y,U⟩:=G it @e;have W:=Walks.range (prog:=X.prog) (w:=X.w) (I.ok.hd Z) it lo 1 n;rwa[W.item i s _ _ hg st λv h' tk hv F kk=> ?_];obtain ⟨t,rfl⟩:=hv;have I1:ay X pins σ H {s with heap:=h',toks:=tk}:=I.turned (λb o j e=>kk b o (by simpa using j) e) R O f3 Y U;rwa[⟨_,rfl,zm (s:= {s with heap:=h',toks:=tk}) (n:="range_iterator") F rfl rfl @c ⟨.int (lo+i),H,I1,⟨t,?_⟩,⟨rfl,rfl⟩,F,λb j=>(G b j).1⟩⟩];rw [Int.mul_one]
 done:=by
  intro X L J S Z i pins s σ H E I G st hg;subst L J S;obtain ⟨R,O,f2,f3,Y,U⟩:=G it @e;exact wpAny_pyNext_range_end (I.ok.hd Z) st (by have:n<=i:=hg;lia) λh' eb=>⟨rfl,I.turned (t':=s.toks) @ca R O f3 Y U⟩
 self:=λ_ _ _ _ _ st h=>wpAny_pyIter_rangeiter st h
section
variable {X:Cx}{tg:Expr}
theorem GU {pins:List (Addr×Obj)}{σ:St}{H:Hp}{s:Shared}{R:It->Hp->Prop}{E:Value->Shared->Prop}{lo hi:Int}{t u v:Tok}{tk:Nat}(I:ay X pins σ H s)(h1: -(2^62)<=lo)(h2:lo<2^62)(F: -(2^62)<=hi)(j:hi<2^62)
(q:R (MI lo (hi - lo).toNat) H):wpAny @d X.A (pyIter (.ref s.heap.objs.size)) @ey E {s with heap:=s.heap.push {cls:= .type "range",data:= .fields #[.int lo t,.int hi u,.int 1 v]},toks:=tk}:=by
 rwa[wpAny_pyIter_range (IsRange.new ..) (small_one h1 h2 F j) ?_];have G:ay X pins σ H {s with heap:=s.heap.push {cls:= .type "range",data:= .fields #[.int lo t,.int hi u,.int 1 v]},toks:=tk}:=I.kept λb o e=>Heap.get?_push_of_some _ e
 refine ⟨(s.heap.push {cls:= .type "range",data:= .fields #[.int lo t,.int hi u,.int 1 v]}).objs.size,[(s.heap.push {cls:= .type "range",data:= .fields #[.int lo t,.int hi u,.int 1 v]}).objs.size],_,_,H,rfl,
  G.kept (t':=tk) λb o e=>Heap.get?_push_of_some _ e,AA _ lo (hi - lo).toNat,?_,λb z=> ?_,q⟩
 ·have e1:lo+((0:Nat):Int)*1=lo:=by simp
  have e2:(((hi - lo).toNat:Nat):Int) - ((0:Nat):Int)=Builtin.Range.rangeSize lo hi 1:=by rw [rangeSize_one];split<;>lia
  show IsRangeIter _ _ (lo+((0:Nat):Int)*1) ((((hi - lo).toNat:Nat):Int) - ((0:Nat):Int)) 1;rw [e1,e2];exact Heap.get?_push_size _ rfl
 ·have e:b=(s.heap.push {cls:= .type "range",data:= .fields #[.int lo t,.int hi u,.int 1 v]}).objs.size:=by simpa using z
  subst e;exact G.fpOk @f @cc
def Up (wi:TI)(g:TG)(tb:TS):TS:=λD σ H=>wi σ H λJ H1=>∃W:Nat->Nat->St->Hp->Prop,(∃m,W 0 m σ H1)/\∀i m σ H,W i m σ H->
 (J.stop i H/\D.nx σ H)\/(J.go i H/\∃N:St->Hp->Prop,(∀σ' H',N σ' H'->∃m',m'<m/\W (i+1) m' σ' H')/\∀x H',J.yld i H x H'->g x σ H' λσ2 H2=>tb {D with nx:=N,ct:=N,bk:=D.nx} σ2 H2)
noncomputable def sk (fp:List Addr)(h:Heap):List (Addr×Obj):=fp.filterMap λb=>(h.get? b).map λo=>(b,o)
theorem io {fp:List Addr}{h:Heap}{b:Addr}{o:Obj}(z:b∈fp)(e:h.get? b=some o):(b,o)∈sk fp h:=mem_filterMap.mpr ⟨b,z,by rw [e];rfl⟩
theorem Eh {fp:List Addr}{h:Heap}{p:Addr×Obj}(G:p∈sk fp h):p.1∈fp/\h.get? p.1=some p.2:=by
 obtain ⟨b,z,e⟩:=mem_filterMap.mp G
 cases q:h.get? b with
 |none=>rw [q] at e;cases e
 |some o=>
  rw [q] at e;have j:(b,o)=p:=Option.some.inj e;subst j;exact ⟨z,q⟩
theorem ay.pinned {pins:List (Addr×Obj)}{σ:St}{H:Hp}{s:Shared}{fp:List Addr}(I:ay X pins σ H s)(G:∀b∈fp,jL X pins H b)(L:∀b∈fp,∃o,s.heap.get? b=some o/\∀v,o.data≠ .cell v):ay X (pins++sk fp s.heap) σ H s:=
 I.pins_of λp J=>(mem_append.mp J).elim (λz=>I.pin p (mem_append_right _ z)) λz=>by
  obtain ⟨F,e⟩:=Eh z;obtain ⟨S,O,R,_⟩:=G p.1 F;obtain ⟨o,j,d⟩:=L p.1 F;rw [e] at j;cases j;exact ⟨e,S,O,R,d⟩
theorem ay.unpinned {pins pl:List (Addr×Obj)}{σ:St}{H:Hp}{s:Shared}(I:ay X (pins++pl) σ H s):ay X pins σ H s:=I.pins_of λp G=>I.pin p (mem_append_right _ (mem_append_left _ G))
theorem ON {iter:Expr}{R:List Stmt}{wi:TI}{g:TG}{tb:TS}{pos:Pos}(Y:PassesOwn @d X.A X.env X.xe)(hc:X.calm=true)(hi:PI X tg iter wi)(hg:PG X tg g)(G:uG X R tb)
(hs:∀x,foldedSetIterable iter X.env x=pure x:=by intro _;rfl):PS X (.For tg iter R [] pos) (Up wi g tb):=by
 intro pins s σ H D I h;rwa[wpAny_For (bz @dX λv s1 h1=>bz h1 λai s2 h2=> ?_) hs];obtain ⟨it,fp,tn,J,H2,e,I2,T,ag,f2,W,⟨m0,w0⟩,ac⟩:=h2;subst e;have O:∀ {H':Hp},(∀b∈fp,H' b=none)->∀b∈fp,jL X pins H' b:=λhn b G=>⟨hn b G,(f2 b G).2⟩;rwa[codeAny_forLoop_any (λn s'=>∃i Z H',ay X pins Z H' s'/\tn i s'.heap/\(∀b∈fp,H' b=none)/\W i n Z H') ?_ m0 ⟨0,σ,H2,I2,ag,λb G=>(f2 b G).1,w0⟩];rintro n s3 ⟨i,σ3,H3,I3,aa,af,w3⟩
 rcases ac i n σ3 H3 w3 with ⟨ad,qn⟩|⟨go,N,hN,ae⟩
 ·rwa[wpAny_passesOwn Y (bz (T.done X rfl rfl rfl hc i pins s3 σ3 H3 X.xe I3 (O af) aa ad) λr s4 ⟨hr,I4⟩=> ?_)];subst hr;exact wpAny_execs_nil ⟨σ3,H3,I4,qn⟩
 ·rwa[wpAny_passesOwn Y (bz (T.item X rfl rfl rfl hc i pins s3 σ3 H3 X.xe I3 (O af) aa go) λr s4 ⟨u,hr,h4⟩=> ?_)];subst hr;rwa[wpAny_passesOwn Y (bz h4 λ_ s5 ⟨x,H5,I5,r5,y5,U,ah⟩=> ?_)];have I5':=I5.pinned (O ah) (T.obj _ _ U);rwa[wpAny_passesOwn Y (bz (hg _ s5 σ3 H5 x u _ I5' r5 (ae x H5 y5)) λ_ s6 ⟨σ6,H6,I6,q6⟩=> ?_)];rwa[wpAny_passesOwn Y (bz (G _ s6 σ6 H6 _ I6 q6) λf s7 S=> ?_)]
  have z:∀ {F:St} {j:Hp},ay X (pins++sk fp s5.heap) F j s7->N F j->∃m,m<n/\∃i Z H',ay X pins Z H' s7/\tn i s7.heap/\(∀b∈fp,H' b=none)/\W i m Z H':=λ{F j} L n7=>by
   obtain ⟨m',hm,w7⟩:=hN F j n7;rwa[⟨m',hm,i+1,F,j,L.unpinned,T.keep _ _ _ U λb G o e=>(L.pin (b,o) (mem_append_right _ (mem_append_right _ (io G e)))).1,λb G=> ?_,w7⟩];obtain ⟨o,e,d⟩:=T.obj _ _ U b G;exact (L.pin (b,o) (mem_append_right _ (mem_append_right _ (io G e)))).2.1
  cases f with
  |next=>obtain ⟨F,j,L,n7⟩:=S;exact z L n7
  |cont=>obtain ⟨F,j,L,n7⟩:=S;exact z L n7
  |brk=>obtain ⟨F,j,L,S⟩:=S;exact ⟨F,j,L.unpinned,S⟩
  |ret v=>obtain ⟨x7,F,j,L,r7,S⟩:=S;exact ⟨x7,F,j,L.unpinned,r7,S⟩
end
theorem IT {K:Fg}{a:Addr}{xs:List V}{g:TG}{tb:TS}{D:lQ}{σ:St}{H:Hp}(j:Nat->St->Hp->Prop)(I:j 0 σ H)(F:∀i σ H,i<=xs.length->j i σ H->aD K H a xs)
(hs:∀i x σ H,xs[i]? =some x->j i σ H->g x σ H λσ2 H2=>tb {D with nx:=j (i+1),ct:=j (i+1),bk:=D.nx} σ2 H2)(G:∀σ H,j xs.length σ H->D.nx σ H):
 ∃W:Nat->Nat->St->Hp->Prop,(∃m,W 0 m σ H)/\∀i m σ H,W i m σ H->
  ((JK K a).stop i H/\D.nx σ H)\/((JK K a).go i H/\∃N:St->Hp->Prop,(∀σ' H',N σ' H'->∃m',m'<m/\W (i+1) m' σ' H')/\∀x H',(JK K a).yld i H x H'->g x σ H' λσ2 H2=>tb {D with nx:=N,ct:=N,bk:=D.nx} σ2 H2):=by
 rwa[⟨λi m σ H=>m=xs.length - i/\i<=xs.length/\j i σ H,⟨xs.length,by simp,Nat.zero_le _,I⟩,?_⟩];rintro i m σ H ⟨rfl,hi,p⟩;have q:=F i σ H hi p;by_cases z:i<xs.length
 ·rwa[.inr ⟨⟨xs,xs[i],q,by simp [z]⟩,j (i+1),λσ' H' J=>⟨xs.length - (i+1),by lia,rfl,z,J⟩,λx H' y=> ?_⟩];obtain ⟨e,y⟩:=y;subst e;exact hs i x σ _ (y xs q) p
 ·have e:i=xs.length:=by lia
  subst e;exact .inl ⟨⟨xs,q,Nat.le_refl _⟩,G σ H p⟩
theorem LW {K:Fg}{a:Addr}{xs:List V}{g:TG}{tb:TS}{D:lQ}{σ:St}{H:Hp}(j:Nat->St->Hp->Prop)(I:j 0 σ H)(F:∀i σ H,i<=xs.length->j i σ H->aK K H a xs)
(hs:∀i x σ H,xs[i]? =some x->j i σ H->g x σ H λσ2 H2=>tb {D with nx:=j (i+1),ct:=j (i+1),bk:=D.nx} σ2 H2)(G:∀σ H,j xs.length σ H->D.nx σ H):
 ∃W:Nat->Nat->St->Hp->Prop,(∃m,W 0 m σ H)/\∀i m σ H,W i m σ H->
  ((MG K a).stop i H/\D.nx σ H)\/((MG K a).go i H/\∃N:St->Hp->Prop,(∀σ' H',N σ' H'->∃m',m'<m/\W (i+1) m' σ' H')/\∀x H',(MG K a).yld i H x H'->g x σ H' λσ2 H2=>tb {D with nx:=N,ct:=N,bk:=D.nx} σ2 H2):=by
 rwa[⟨λi m σ H=>m=xs.length - i/\i<=xs.length/\j i σ H,⟨xs.length,by simp,Nat.zero_le _,I⟩,?_⟩];rintro i m σ H ⟨rfl,hi,p⟩;have q:=F i σ H hi p;by_cases z:i<xs.length
 ·rwa[.inr ⟨⟨xs,xs[i],q,by simp [z]⟩,j (i+1),λσ' H' J=>⟨xs.length - (i+1),by lia,rfl,z,J⟩,λx H' y=> ?_⟩];obtain ⟨e,y⟩:=y;subst e;exact hs i x σ _ (y xs q) p
 ·have e:i=xs.length:=by lia
  subst e;exact .inl ⟨⟨xs,q,Nat.le_refl _⟩,G σ H p⟩
theorem EE {lo:Int}{n:Nat}{g:TG}{tb:TS}{D:lQ}{σ:St}{H:Hp}(j:Nat->St->Hp->Prop)(I:j 0 σ H)
(hs:∀i σ H,i<n->j i σ H->g (.int (lo+i)) σ H λσ2 H2=>tb {D with nx:=j (i+1),ct:=j (i+1),bk:=D.nx} σ2 H2)(G:∀σ H,j n σ H->D.nx σ H):
 ∃W:Nat->Nat->St->Hp->Prop,(∃m,W 0 m σ H)/\∀i m σ H,W i m σ H->
  ((MI lo n).stop i H/\D.nx σ H)\/((MI lo n).go i H/\∃N:St->Hp->Prop,(∀σ' H',N σ' H'->∃m',m'<m/\W (i+1) m' σ' H')/\∀x H',(MI lo n).yld i H x H'->g x σ H' λσ2 H2=>tb {D with nx:=N,ct:=N,bk:=D.nx} σ2 H2):=by
 rwa[⟨λi m σ H=>m=n - i/\i<=n/\j i σ H,⟨n,by simp,Nat.zero_le _,I⟩,?_⟩];rintro i m σ H ⟨rfl,hi,p⟩;by_cases z:i<n
 ·rwa[.inr ⟨z,j (i+1),λσ' H' J=>⟨n - (i+1),by lia,rfl,z,J⟩,λx H' y=> ?_⟩];obtain ⟨e,y⟩:=y;subst e y;exact hs i σ _ z p
 ·have e:i=n:=by lia
  subst e;exact .inl ⟨Nat.le_refl _,G σ H p⟩
abbrev R2:=V->V->Hp->VK->Prop
def dz (X:Cx)(f:Value->Value->Sem Value)(r:R2):Prop:=
 ∀(pins:List (Addr×Obj)) (s:Shared) (σ:St) (H:Hp) (x y:V) (v u:Value) (Q:VK),ay X pins σ H s->aL x v->aL y u->r x y H Q->
  wpAny @d X.A (f v u) @u X.xe s
def Qu (X:Cx)(f:Value->Sem Value)(r:V->Hp->VK->Prop):Prop:=
 ∀(pins:List (Addr×Obj)) (s:Shared) (σ:St) (H:Hp) (x:V) (v:Value) (Q:VK),ay X pins σ H s->aL x v->r x H Q->
  wpAny @d X.A (f v) @u X.xe s
def bi (X:Cx)(f:Value)(r:List V->Hp->VK->Prop):Prop:=
 ∀(pins:List (Addr×Obj)) (s:Shared) (σ:St) (H:Hp) (xs:List V) (us:List Value) (Q:VK),ay X pins σ H s->aO xs us->r xs H Q->
  wpAny @d X.A (call f us) @u X.xe s
def UV (X:Cx)(r:V->Hp->(Bool->Hp->Prop)->Prop):Prop:=
 ∀(pins:List (Addr×Obj)) (s:Shared) (σ:St) (H:Hp) (x:V) (v:Value) (Q:Bool->Hp->Prop),ay X pins σ H s->aL x v->r x H Q->
  wpAny @d X.A (truthy v) @dV X.xe s
def Rr (r:R2)(ta tb:TE):TE:=λσ H Q=>ta σ H λx H1=>tb σ H1 λy H2=>r x y H2 Q
def Vb (r:V->Hp->VK->Prop)(ta:TE):TE:=λσ H Q=>ta σ H λx H1=>r x H1 Q
def rI (C:Int->Int->Prop)(g:Int->Int->V):R2:=λx y H Q=>∃i j,x= .int i/\y= .int j/\C i j/\Q @cV H
def GW (g:Int->Int->V):R2:=λx y H Q=>∃i j,x= .int i/\y= .int j/\Q @cV H
def rU (g:Int->V):V->Hp->VK->Prop:=λx H Q=>∃i,x= .int i/\Q (g i) H
section
variable {X:Cx}{a b c:Expr}{ta tb tc:TE}{pos:Pos}
theorem Qg (L:PE X a ta)(z:PE X b tb){pins:List (Addr×Obj)}{s:Shared}{σ:St}{H:Hp}{R:V->V->Hp->Prop}(I:ay X pins σ H s)
(h:ta σ H λx H1=>tb σ H1 λy H2=>R x y H2){Q:Value->Shared->Prop}{f:Value->Value->Sem Value}
(G:∀v u s2 x y H2,ay X pins σ H2 s2->aL x v->aL y u->R x y H2->wpAny @d X.A (f v u) Q X.xe s2):
 wpAny @d X.A (eval a X.env) (λv s₁=>wpAny @d X.A (eval b X.env) (λu s₂=>wpAny @d X.A (f v u) Q X.xe s₂) X.xe s₁) X.xe s:=by
 rwa[bz @bP λv W ⟨x,H1,S,F,J⟩=> ?_];rwa[bz (z pins W σ H1 _ S J) λu s2 ⟨y,H2,O,U,j⟩=> ?_];exact G v u s2 x y H2 O F U j
theorem d3 {j:Operator}{r:R2}(J:dz X (binaryOp j) r)(G:PE X a ta)(F:PE X b tb):PE X (.BinOp a j b pos) @fm:=by
 intro pins s σ H Q I h;exact wpAny_BinOp (Qg G F I h λv u R x y H2 O z L q=>J pins R σ H2 x y v u Q O z L q)
theorem G6 {j:UnaryOp}{r:V->Hp->VK->Prop}(F:Qu X (unaryOp j) r)(z:PE X a ta):PE X (.UnaryOp j a pos) (Vb r ta):=by
 intro pins s σ H Q I h;exact UnaryOp_ (bz (z pins s σ H _ I h) λv O ⟨x,H1,L,G,J⟩=>F pins O σ H1 x v Q L G J)
theorem RZ {f:Value->Value->Sem Value}{C:Int->Int->Prop}{g:Int->Int->Int}
(z:∀(i j:Int) (t u:Tok) (s:Shared) (Q:Value->Shared->Prop) (E:Value->Shared->Prop),C i j->Q (.int @cV s.toks) {s with toks:=s.toks+1}->wpAny @d X.A @dj Q E s):
 dz X f (rI C λi j=> .int @cV):=by
 intro pins s σ H x y v u Q I F L h;obtain ⟨i,j,rfl,rfl,J,q⟩:=h;obtain ⟨t,rfl⟩:=F;obtain ⟨G,rfl⟩:=L;exact z i j t G s _ _ J ⟨.int @cV,H,I.tok _,⟨_,rfl⟩,q⟩
theorem K2 {f:Value->Value->Sem Value}{g:Int->Int->Int}
(z:∀(i j:Int) (t u:Tok) (s:Shared) (Q:Value->Shared->Prop) (E:Value->Shared->Prop),Q (.int @cV s.toks) {s with toks:=s.toks+1}->wpAny @d X.A @dj Q E s):
 dz X f (GW λi j=> .int @cV):=by
 intro pins s σ H x y v u Q I F L h;obtain ⟨i,j,rfl,rfl,q⟩:=h;obtain ⟨t,rfl⟩:=F;obtain ⟨G,rfl⟩:=L;exact z i j t G s _ _ ⟨.int @cV,H,I.tok _,⟨_,rfl⟩,q⟩
theorem K3 {f:Value->Value->Sem Value}{g:Int->Int->Bool}
(z:∀(i j:Int) (t u:Tok) (s:Shared) (Q:Value->Shared->Prop) (E:Value->Shared->Prop),Q (.bool @cV) s->wpAny @d X.A @dj Q E s):
 dz X f (GW λi j=> .bl @cV):=by
 intro pins s σ H x y v u Q I F L h;obtain ⟨i,j,rfl,rfl,q⟩:=h;obtain ⟨t,rfl⟩:=F;obtain ⟨G,rfl⟩:=L;exact z i j t G s _ _ ⟨.bl @cV,H,I,rfl,q⟩
def E7 (i j:Int):Prop:=0<j/\j<1073741824
def Ch (i j:Int):Prop:=0<=j/\j<=1000000/\i.natAbs<2^64
def uF (i j:Int):Prop:=(-(2^64)<i/\i<2^64)\/(-(2^64)<j/\j<2^64)
theorem uF.ok {i j:Int}(h:uF i j):IntMulOk i j:=by
 rcases h with ⟨h1,h2⟩|⟨h1,h2⟩
 ·exact .of_left (intBits_le_64 h1 h2)
 ·exact .of_right (intBits_le_64 h1 h2)
theorem O4:dz X @bB (GW λi j=> .int (i+j)):=K2 λ_ _ _ _ _ _ _ q=>add_int q
theorem OW:dz X (binaryOp .Sub) (GW λi j=> .int (i - j)):=K2 λ_ _ _ _ _ _ _ q=>sub_int q
theorem OZ:dz X @fv (rI uF λi j=> .int (i*j)):=RZ λ_ _ _ _ _ _ _ J q=>mul_int q J.ok
theorem KZ:dz X (binaryOp .FloorDiv) (rI E7 λi j=> .int (i / j)):=RZ λi j _ _ _ _ _ J q=>by
 have h1:(0:Int)<j:=J.1;have h2:j<1073741824:=J.2;exact floordiv_int @b (by rw [Int.fdiv_eq_ediv_of_nonneg i @b];exact q) (.inl (PyProof.noPylong_small @b))
theorem O0:dz X (binaryOp .Mod) (rI (λ_ j=>0<j) λi j=> .int (i% j)):=RZ λi j _ _ _ _ _ J q=>by
 have h1:(0:Int)<j:=J;exact mod_int' @b (by rw [Int.fmod_eq_emod_of_nonneg i @b];exact q)
theorem OY:dz X (binaryOp .Pow) (rI Ch λi j=> .int (i^j.toNat)):=RZ λ_ _ _ _ _ _ _ J q=>pow_int_small J.1 J.2.1 J.2.2 q
theorem OX:dz X (binaryOp .LShift) (rI Ch λi j=> .int (i*2^j.toNat)):=RZ λ_ _ _ _ _ _ _ J q=>lshift_int_small J.1 J.2.1 J.2.2 q
theorem O3:dz X (binaryOp .BitAnd) (GW λi j=> .int (Builtin.bitAnd i j)):=K2 λ_ _ _ _ _ _ _ q=>and_int q
theorem RS:dz X (binaryOp .BitOr) (GW λi j=> .int (Builtin.bitOr i j)):=K2 λ_ _ _ _ _ _ _ q=>or_int q
theorem Va {f:Value->Sem Value}{g:Int->Int}
(z:∀(i:Int) (t:Tok) (s:Shared) (Q:Value->Shared->Prop) (E:Value->Shared->Prop),Q (.int (g i) s.toks) {s with toks:=s.toks+1}->wpAny @d X.A (f (.int i t)) Q E s):
 Qu X f (rU λi=> .int (g i)):=by
 intro pins s σ H x v Q I j h;obtain ⟨i,rfl,q⟩:=h;obtain ⟨t,rfl⟩:=j;exact z i t s _ _ ⟨.int (g i),H,I.tok _,⟨_,rfl⟩,q⟩
theorem NW:Qu X (unaryOp .USub) (rU λi=> .int (-i)):=Va λ_ _ _ _ _ q=>neg_int q
end
noncomputable def Ou:V->V->Bool
 | .non,.non=>true| .non,.int _=>true| .int _,.non=>true| .non,.bl _=>true| .bl _,.non=>true| .non,.str _=>true| .str _,.non=>true
 | .int _,.int _=>true| .bl _,.bl _=>true| .str _,.str _=>true| .byt _,.byt _=>true
 | .int _,.str _=>true| .str _,.int _=>true| .bl _,.str _=>true| .str _,.bl _=>true
 |_,_=>false
def Vh:R2:=λx y H Q=>Ou x y=true/\Q (.bl (decide (x=y))) H
def Vg:R2:=λx y H Q=>Ou x y=true/\Q (.bl (!decide (x=y))) H
theorem C2 {i j:Int}:decide (V.int i=V.int j)=(i==j):=by
 rw [Bool.eq_iff_iff];simp
theorem Jh {i j:Bool}:decide (V.bl i=V.bl j)=(i==j):=by
 rw [Bool.eq_iff_iff];simp
theorem C1 {i j:Str}:decide (V.str i=V.str j)=(i==j):=by
 rw [Bool.eq_iff_iff];simp
theorem C3 {i j:Array UInt8}:decide (V.byt i=V.byt j)=(i.toList==j.toList):=by
 rw [Bool.eq_iff_iff];cases i;cases j;simp
section
variable {X:Cx}{a b c:Expr}{ta tb tc:TE}{pos:Pos}
theorem bb {pins:List (Addr×Obj)}{σ:St}{H:Hp}{s:Shared}{Q:VK}{k j:Bool}(I:ay X pins σ H s)(q:Q (.bl k) H)(e:k=j):EP X pins σ Q (.bool j) s:=by
 subst e;exact ⟨.bl k,H,I,rfl,q⟩
theorem RY:dz X (compareOp .Eq) Vh:=by
 intro pins s σ H x y v u Q I F L h;obtain ⟨hs,q⟩:=h
 cases x with
 |non=>
  cases F
  cases y with
  |non=>cases L;exact PySem.EqNone.eq_none_none @B
  |bl j=>cases L;exact PySem.EqNone.eq_none_bool @B
  |int j=>obtain ⟨z,rfl⟩:=L;exact PySem.EqNone.eq_none_int @B
  |str j=>obtain ⟨z,rfl⟩:=L;exact PySem.EqNone.eq_none_str @B
  |_=>exact absurd (show false=true from hs) Bool.false_ne_true
 |bl i=>
  cases F
  cases y with
  |non=>cases L;exact PySem.EqNone.eq_bool_none @B
  |bl j=>cases L;exact eq_bool (bb I q Jh)
  |str j=>obtain ⟨z,rfl⟩:=L;exact PySem.EqMixed.eq_bool_str @B
  |_=>exact absurd (show false=true from hs) Bool.false_ne_true
 |int i=>
  obtain ⟨t,rfl⟩:=F
  cases y with
  |non=>cases L;exact PySem.EqNone.eq_int_none @B
  |int j=>obtain ⟨z,rfl⟩:=L;exact eq_int (bb I q C2)
  |str j=>obtain ⟨z,rfl⟩:=L;exact PySem.EqMixed.eq_int_str @B
  |_=>exact absurd (show false=true from hs) Bool.false_ne_true
 |str i=>
  obtain ⟨t,rfl⟩:=F
  cases y with
  |non=>cases L;exact PySem.EqNone.eq_str_none @B
  |bl j=>cases L;exact PySem.EqMixed.eq_str_bool @B
  |int j=>obtain ⟨z,rfl⟩:=L;exact PySem.EqMixed.eq_str_int @B
  |str j=>obtain ⟨z,rfl⟩:=L;exact eq_str (bb I q C1)
  |_=>exact absurd (show false=true from hs) Bool.false_ne_true
 |byt i=>
  obtain ⟨t,rfl⟩:=F
  cases y with
  |byt j=>obtain ⟨z,rfl⟩:=L;exact W.eq_bytes (bb I q C3)
  |_=>exact absurd (show false=true from hs) Bool.false_ne_true
 |_=>cases y<;>exact absurd (show false=true from hs) Bool.false_ne_true
theorem RT:dz X (compareOp .NotEq) Vg:=by
 intro pins s σ H x y v u Q I F L h;obtain ⟨hs,q⟩:=h
 cases x with
 |non=>
  cases F
  cases y with
  |non=>cases L;exact PySem.EqNone.ne_none_none @B
  |bl j=>cases L;exact PySem.EqNone.ne_none_bool @B
  |int j=>obtain ⟨z,rfl⟩:=L;exact PySem.EqNone.ne_none_int @B
  |str j=>obtain ⟨z,rfl⟩:=L;exact PySem.EqNone.ne_none_str @B
  |_=>exact absurd (show false=true from hs) Bool.false_ne_true
 |bl i=>
  cases F
  cases y with
  |non=>cases L;exact PySem.EqNone.ne_bool_none @B
  |bl j=>cases L;exact ne_bool (bb I q (congrArg not Jh))
  |str j=>obtain ⟨z,rfl⟩:=L;exact PySem.EqMixed.ne_bool_str @B
  |_=>exact absurd (show false=true from hs) Bool.false_ne_true
 |int i=>
  obtain ⟨t,rfl⟩:=F
  cases y with
  |non=>cases L;exact PySem.EqNone.ne_int_none @B
  |int j=>obtain ⟨z,rfl⟩:=L;exact ne_int (bb I q (congrArg not C2))
  |str j=>obtain ⟨z,rfl⟩:=L;exact PySem.EqMixed.ne_int_str @B
  |_=>exact absurd (show false=true from hs) Bool.false_ne_true
 |str i=>
  obtain ⟨t,rfl⟩:=F
  cases y with
  |non=>cases L;exact PySem.EqNone.ne_str_none @B
  |bl j=>cases L;exact PySem.EqMixed.ne_str_bool @B
  |int j=>obtain ⟨z,rfl⟩:=L;exact PySem.EqMixed.ne_str_int @B
  |str j=>obtain ⟨z,rfl⟩:=L;exact ne_str (bb I q (congrArg not C1))
  |_=>exact absurd (show false=true from hs) Bool.false_ne_true
 |byt i=>
  obtain ⟨t,rfl⟩:=F
  cases y with
  |byt j=>obtain ⟨z,rfl⟩:=L;exact W.ne_bytes (bb I q (congrArg not C3))
  |_=>exact absurd (show false=true from hs) Bool.false_ne_true
 |_=>cases y<;>exact absurd (show false=true from hs) Bool.false_ne_true
theorem RU:dz X (compareOp .Lt) (GW λi j=> .bl (decide (i<j))):=K3 λ_ _ _ _ _ _ _ q=>lt_int q
theorem RV:dz X (compareOp .LtE) (GW λi j=> .bl (decide (i<=j))):=K3 λ_ _ _ _ _ _ _ q=>le_int q
theorem RW:dz X (compareOp .Gt) (GW λi j=> .bl (decide (j<i))):=K3 λ_ _ _ _ _ _ _ q=>gt_int q
theorem RX:dz X (compareOp .GtE) (GW λi j=> .bl (decide (j<=i))):=K3 λ_ _ _ _ _ _ _ q=>ge_int q
theorem D3:dz X @ec (λx y H Q=>∃i j,x= .str i/\y= .str j/\Q (.bl (!(Builtin.Str.occurrences j i 0 j.length 1).isEmpty)) H):=by
 intro pins s σ H x y v u Q I z L h;obtain ⟨i,j,rfl,rfl,q⟩:=h;obtain ⟨t,rfl⟩:=z;obtain ⟨F,rfl⟩:=L;exact in_str (bb I q rfl)
theorem O1:dz X (compareOp .Is) (λx y H Q=>y= .non/\Q (.bl (decide (x= .non))) H):=by
 intro pins s σ H x y v u Q I z L h;obtain ⟨rfl,q⟩:=h;cases L;rwa[is_none_gen (bb I q ?_)]
 cases x<;>first
  |(cases z;rfl)
  |(obtain ⟨t,rfl⟩:=z;rfl)
theorem w4:dz X @dq (λx y H Q=>∃i j,x= .str i/\y= .str j/\Q (.bl (!(!(Builtin.Str.occurrences j i 0 j.length 1).isEmpty))) H):=by
 intro pins s σ H x y v u Q I z L h;obtain ⟨i,j,rfl,rfl,q⟩:=h;obtain ⟨t,rfl⟩:=z;obtain ⟨F,rfl⟩:=L;exact notIn_str (bb I q rfl)
theorem dz.or {f:Value->Value->Sem Value}{r R:R2}(h:dz X f r)(h':dz X f R):dz X f (λx y H Q=>r x y H Q\/R x y H Q):=by
 intro pins s σ H x y v u Q I z L q
 rcases q with q|q
 ·exact h pins s σ H x y v u Q I z L q
 ·exact h' pins s σ H x y v u Q I z L q
theorem b4 (b:Expr){j:CmpOp}(h:j≠ .In:=by decide)(h2:j≠ .NotIn:=by decide):behindInMarks j b=false:=by
 have e1:(j==CmpOp.In)=false:=by cases j<;>first|rfl|exact absurd rfl h
 have e2:(j==CmpOp.NotIn)=false:=by cases j<;>first|rfl|exact absurd rfl h2
 cases b<;>simp [behindInMarks,e1,e2]
theorem d4 {j:CmpOp}{r:R2}(J:dz X @eN r)(L:PE X a ta)(F:PE X b tb)(G:behindInMarks j b=false):PE X (.Compare a [j] [b] pos) @fm:=by
 intro pins s σ H Q I h;exact wpAny_Compare1 (Qg L F I h λv u S x y H2 O z R q=>J pins S σ H2 x y v u Q O z R q) G
def SX (K:Fg)(x:V)(H:Hp)(k:Bool):Prop:=
 match x with
 | .non=>k=false
 | .bl b=>k=b
 | .int i=>k=(i != 0)
 | .str y=>y.length<=sizeLine/\k=((y.length:Int) != 0)
 | .byt y=>y.size<=sizeLine/\k=((y.size:Int) != 0)
 | .ref p=>(∃xs,aD K H p xs/\k= !xs.isEmpty)\/(∃xs,aK K H p xs/\k= !xs.isEmpty)\/∃kvs,H p=some (.dK kvs)/\k= !kvs.isEmpty
 |_=>False
theorem BO {κ:Type}{kvs:List (κ×V)}{vs:List (κ×Value)}(r:KV kvs vs):(!vs.isEmpty)= !kvs.isEmpty:=by
 cases r<;>rfl
theorem tE {xs:List V}{its:List Value}(r:aO xs its):(!its.toArray.isEmpty)= !xs.isEmpty:=by
 cases r<;>simp
theorem lv:(sizeLine:Nat)<2^63:=by rw [sizeLine_eq];decide
theorem i6:UV X (λx H Q=>∃k,SX X.K x H k/\Q k H):=by
 intro pins s σ H x v Q I G h;obtain ⟨k,e,q⟩:=h;have U:=lv;have hs:sizeLine=16777216:=sizeLine_eq
 cases x with
 |non=>
  cases G;have j:k=false:=e;subst j;exact truthy_none ⟨H,I,q⟩
 |bl b=>
  cases G;have j:k=b:=e;subst j;exact wpAny_truthy_bool ⟨H,I,q⟩
 |int i=>
  obtain ⟨t,rfl⟩:=G;have j:k=(i != 0):=e;subst j;exact PySem.P.truthy_int ⟨H,I,q⟩
 |str y=>
  obtain ⟨t,rfl⟩:=G;obtain ⟨S,j⟩:y.length<=sizeLine/\k=((y.length:Int) != 0):=e;subst j;exact PySem.P.truthy_str @b ⟨H,I.tok _,q⟩
 |byt y=>
  obtain ⟨t,rfl⟩:=G;obtain ⟨S,j⟩:y.size<=sizeLine/\k=((y.size:Int) != 0):=e;subst j;exact W.truthy_bytes @b ⟨H,I.tok _,q⟩
 |ref p=>
  cases G;have j:(∃xs,aD X.K H p xs/\k= !xs.isEmpty)\/(∃xs,aK X.K H p xs/\k= !xs.isEmpty)\/∃z,H p=some (.dK z)/\k= !z.isEmpty:=e
  rcases j with ⟨xs,J,j⟩|⟨xs,J,j⟩|⟨z,J,j⟩
  ·subst j;obtain ⟨its,r,pl,O⟩:=I.list J;have F:=r.length;exact wpAny_truthy_list pl.isList (by simp only [size_toArray];lia) ⟨H,I.tok _,by rw [tE r];exact q⟩
  ·subst j;obtain ⟨its,r,pl,O⟩:=I.tuple J;have F:=r.length;exact truthy_tuple pl (by simp only [size_toArray];lia) ⟨H,I.tok _,by rw [tE r];exact q⟩
  ·subst j;obtain ⟨O,R,L,r,m⟩:z.length<=sizeLine/\(p==sysModules)=false/\∃L,KV z L/\s.heap.DictOf @fH p L:=I.hok p _ J;have F:z.length=L.length:=Paired.length r;exact wpAny_truthy_dict R m @b ⟨H,I.tok _,by rw [BO r];exact q⟩
 |_=>exact (show False from e).elim
theorem Br:dz X @bB (λx y H Q=>∃i j,x= .str i/\y= .str j/\i.length+j.length<=sizeLine/\Q (.str (i++j)) H):=by
 intro pins s σ H x y v u Q I z L h;obtain ⟨i,j,rfl,rfl,G,q⟩:=h;obtain ⟨t,rfl⟩:=z;obtain ⟨F,rfl⟩:=L;exact add_str (λF tk=>⟨.str (i++j),H,I.tok _,⟨_,rfl⟩,q⟩) G
theorem fW {x:V}{us:List Value}(r:aO [x] us):∃u,us=[u]/\aL x u:=by
 cases r with
 |cons r1 r2=>cases r2;exact ⟨_,rfl,r1⟩
theorem MQ {x y:V}{us:List Value}(r:aO [x,y] us):∃u w',us=[u,w']/\aL x u/\aL y w':=by
 cases r with
 |cons r1 r2=>
  cases r2 with
  |cons r3 r4=>cases r4;exact ⟨_,_,rfl,r1,r3⟩
theorem EU:bi X (.type "int") (λxs H Q=>(∃i,xs=[.int i]/\Q (.int i) H)\/∃k,xs=[.bl k]/\Q (.int (if k then 1 else 0)) H):=by
 intro pins s σ H xs j Q I r h
 rcases h with ⟨i,rfl,q⟩|⟨k,rfl,q⟩
 ·obtain ⟨u,rfl,t,rfl⟩:=fW r;exact call_int_int ⟨.int i,H,I,⟨_,rfl⟩,q⟩
 ·obtain ⟨u,rfl,F⟩:=fW r;cases F;exact call_int_bool ⟨.int (if k then 1 else 0),H,I.tok _,⟨_,rfl⟩,q⟩
theorem xF:bi X (.type "str") (λxs H Q=>∃i,xs=[.int i]/\i.natAbs.log2<1920/\Q (.str @gu) H):=by
 intro pins s σ H xs z Q I r h;obtain ⟨i,rfl,j,q⟩:=h;obtain ⟨u,rfl,t,rfl⟩:=fW r;exact PySem.P.str_of_int j ⟨.str _,H,I.tok _,⟨_,rfl⟩,q⟩
end
structure Cc (h:Heap)(x dx C:Addr)(mA:Str->Option Value):Prop where
 obj:h.get? x=some @dW
 ns:h.Ns1 dx mA
 ne:dx≠x
theorem vp {h:Heap}{dx:Addr}{mA:Str->Option Value}(n:h.Ns1 dx mA):∃od,h.get? dx=some od/\∀name,W.lookIn name od=some (mA name):=by
 obtain ⟨o,es,O,J,I,S,_,F⟩:=n;rwa[⟨o,J,λname=> ?_⟩];have e:=F name;unfold nsFind findBy at e;rw [<-Array.find?_toList] at e;unfold W.lookIn;rw [I];dsimp only;split
 ·rename_i y q;rw [q] at e;exact congrArg some e
 ·rename_i q;rw [q] at e
  have a:es.toList.any (·.refKey)=false:=by
   rw [any_eq_false];intro y L;obtain ⟨z,t,j⟩:=S y (Array.mem_toList_iff.mp L);simp [DictEntry.refKey,j]
  have G: ¬es.toList.any (·.refKey)=true:=by rw [a];exact Bool.false_ne_true
  rw [if_neg G];exact congrArg some e
theorem Cc.look {h:Heap}{x dx C:Addr}{mA:Str->Option Value}(I:Cc h x dx C mA):∃od,PySem.W.InstAt h x @dW C (some od)/\∀name,W.lookIn name od=some (mA name):=
 let ⟨od,ho,hl⟩:=vp I.ns
 ⟨od,⟨I.obj,rfl,rfl,ho⟩,hl⟩
section
variable {prog:Program}{w:World}{A:Around}{E:Value->Shared->Prop}{s:Shared}{K:Fg}{x dx C f:Addr}{mA:Str->Option Value}{name:Str}{v:Value}
theorem LP {j:Bool}{Q:Value->Shared->Prop}(X:K.In s.heap)(I:Cc s.heap x dx C mA)(S:W.plainGet K C name=true)(F:W.hasDictIn K C=true)
(L:W.findIn K (.ref C) name=some none)(U:mA name=some v)(z:W.handedIn v=true)(h:Q v {s with toks:=s.toks+1}):
 wpAny @l A (getAttr (.ref x) name j) Q E s:=by
 obtain ⟨O,J,G⟩:=I.look;exact W.get_value X J (W.plainGet_of S).1 (W.findObj_own F L rfl (by rw [G,U])) z h
theorem IK {pl:Sem Bool}{Q:Value×List Value->Shared->Prop}(X:K.In s.heap)(I:Cc s.heap x dx C mA)(S:W.plainGet K C name=true)
(F:W.findIn K (.ref C) name=some @J)(O:W.isFn K (.ref f)=true)(U:mA name=none)(h:Q (.ref f,[.ref x]) s):
 wpAny @l A (getMethod (.ref x) name pl) Q E s:=by
 obtain ⟨G,J,j⟩:=I.look;exact W.method_fn X J (W.plainGet_of S).1 (W.plainGet_of S).2 F (beq_iff_eq.mp O) (by show (W.lookIn name G).map (·.isSome)=some false;rw [j,U];rfl) h
theorem Kr {ns:List Str}{Q:Unit->Shared->Prop}(X:K.In s.heap)(I:Cc s.heap x dx C mA)
(hs:W.findIn K (.ref C) "__setattr__"=some (some (.builtin "object.__setattr__")))(U:W.plainOver K C=true)(Z:W.takerIn K C name=some none)(S:W.hasDictIn K C=true)
(hw:PySem.Within mA ns)(hsz:ns.length<=sizeLine)
(h:∀h',Cc h' x dx C (λy=>if y=name then some v else mA y)->Heap.SameBut dx s.heap h'->Q () {s with heap:=h',toks:=s.toks+2}):
 wpAny @l A (setAttr (.ref x) name v) Q E s:=by
 obtain ⟨od,J,hl⟩:=I.look;rwa[W.set_plain X J hs (W.osa_open (s:= {s with toks:=s.toks+1}) (r:=none) X J U Z λb=> ?_)];obtain ⟨cd,hc,L⟩:=W.any_some S;have Y:s.heap.get? x=some ⟨.ref C,some dx,.plain,#[]⟩:=I.obj;rwa[wpAny_bind (wpAny_pure (wpAny_bind (wpAny_bind (wpAny_loadPart Y (wpAny_bind (PySem.W.Looks.here (s:= {s with toks:=s.toks+1}) (W.looks_clsIn X hc) ?_))))))];rw [L];rwa[wpAny_pure (a:=some dx) (wpAny_bind (wpAny_pure @cW))];rwa[wpAny_nsSet1 (s:= {s with toks:=s.toks+1}) I.ns λh' j z=> ?_];obtain ⟨oD,R,aa,O,G,F⟩:=j.count (PySem.Within.cons name v hw);rwa[wpAny_bind (wpAny_lookBehind O (by rw [G];exact pastItsLine_dict (Nat.le_trans F (by rw [length_cons];lia))) ?_)];exact wpAny_pure (h _ ⟨(z.2 _ (Ne.symm I.ne)).trans I.obj,j,I.ne⟩ z)
theorem Im {R:Result->Shared->Prop}{vs:List Value}{z:List (Str×Value)}(X:K.In s.heap)(F:W.makesIn K C=true)
(hi:W.findIn K (.ref C) "__init__"=some @J)(G:W.typeIn K (.ref f)=some (.type "function"))
(h:codeAny @l (A.under (.builtin "type.__call__" ⟨.ref C::vs,z⟩)) (.call (.ref f) ⟨.ref (s.heap.objs.size+1)::vs,z⟩) (PySem.W.InitBack (s.heap.objs.size+1) R)
   {s with heap:=(s.heap.push W.emptyDict).push @t}):
 codeAny @l A (.call (.ref C) ⟨vs,z⟩) R s:=by
 obtain ⟨I,g,d,t,os⟩:=s;exact W.make_core (W.makes_of X F) (W.looks_findIn X hi) (λj=>W.bind_fn X j G) (.inl rfl) h
theorem Em {R:Result->Shared->Prop}(X:K.In s.heap)(F:W.makesIn K C=true)
(hi:W.findIn K (.ref C) "__init__"=some (some (.builtin "object.__init__")))
(z:∀self,PySem.W.Looks @l s.heap (bindSpecial (.builtin "object.__init__") self) (.builtin "object.__init__",[self]))
(h:codeAny @l (A.under (.builtin "type.__call__" ⟨[.ref C],[]⟩)) (.call (.builtin "object.__init__") ⟨[.ref (s.heap.objs.size+1)],[]⟩) (PySem.W.InitBack (s.heap.objs.size+1) R)
   {s with heap:=(s.heap.push W.emptyDict).push @t}):
 codeAny @l A (.call (.ref C) ⟨[],[]⟩) R s:=by
 obtain ⟨j,g,d,t,os⟩:=s;exact W.make_core (W.makes_of X F) (W.looks_findIn X hi) z (.inr ⟨rfl,rfl⟩) h
end
noncomputable def putF (f:Str)(v:V):List (Str×V)->List (Str×V)
 |[]=>[(f,v)]
 |(g,x)::r=>if g=f then (g,v)::r else (g,x)::putF f v r
theorem pT (f g:Str)(v:V):∀fs:List (Str×V),(putF f v fs).lookup g=if g=f then some v else fs.lookup g
 |[]=>by
  show List.lookup g [(f,v)]=_;by_cases h:g=f
  ·have z:(g==f)=true:=beq_iff_eq.mpr h;simp only [List.lookup,z,if_pos h]
  ·have z:(g==f)=false:=beq_eq_false_iff_ne.mpr h;simp only [List.lookup,z,if_neg h]
 |(k,x)::r=>by
  have j:=pT f g v r;rw [show putF f v ((k,x)::r)=(if k=f then (k,v)::r else (k,x)::putF f v r) from rfl];by_cases S:k=f
  ·rw [if_pos S];by_cases h:g=k
   ·have z:(g==k)=true:=beq_iff_eq.mpr h;simp only [List.lookup,z,if_pos (h.trans S)]
   ·have z:(g==k)=false:=beq_eq_false_iff_ne.mpr h;simp only [List.lookup,z,if_neg (λe:g=f=>h (e.trans S.symm))]
  ·rw [if_neg S];by_cases h:g=k
   ·have z:(g==k)=true:=beq_iff_eq.mpr h;simp only [List.lookup,z,if_neg (λe:g=f=>S (h.symm.trans e))]
   ·have z:(g==k)=false:=beq_eq_false_iff_ne.mpr h;simp only [List.lookup,z];exact j
theorem oV (f:Str)(v:V):∀fs:List (Str×V),f∈(putF f v fs).map (·.1)/\∀g,g∈fs.map (·.1)->g∈(putF f v fs).map (·.1)
 |[]=>⟨by simp [putF],λg h=>by simp at h⟩
 |(k,x)::r=>by
  obtain ⟨j,z⟩:=oV f v r;rw [show putF f v ((k,x)::r)=(if k=f then (k,v)::r else (k,x)::putF f v r) from rfl];by_cases S:k=f
  ·rw [if_pos S];subst S;exact ⟨by simp,λg h=>by simpa using h⟩
  ·rw [if_neg S];rwa[⟨?_,λg h=> ?_⟩]
   ·rw [map_cons];exact mem_cons_of_mem _ j
   ·rw [map_cons] at h ⊢
    rcases mem_cons.mp h with e|e
    ·exact mem_cons.mpr (.inl e)
    ·exact mem_cons_of_mem _ (z g e)
theorem pV (f:Str)(v:V):∀fs:List (Str×V),(putF f v fs).length<=fs.length+1
 |[]=>by simp [putF]
 |(k,x)::r=>by
  have j:=pV f v r;rw [show putF f v ((k,x)::r)=(if k=f then (k,v)::r else (k,x)::putF f v r) from rfl];by_cases S:k=f
  ·rw [if_pos S,length_cons,length_cons];lia
  ·rw [if_neg S,length_cons,length_cons];lia
theorem iT.some_of {v:V}{o:Option Value}(r:iT @bG o):∃u,o=some u/\aL v u:=by
 cases o with
 |none=>exact (show False from r).elim
 |some u=>exact ⟨u,rfl,r⟩
theorem iT.none_of {o:Option Value}(r:iT none o):o=none:=by
 cases o with
 |none=>rfl
 |some u=>exact (show False from r).elim
theorem vw {v:V}{u:Value}(r:aL v u):W.handedIn u=true:=by
 cases v with
 |non=>cases (show u=Value.none from r);rfl
 |bl b=>cases (show u=Value.bool b from r);rfl
 |int i=>obtain ⟨t,e⟩:=(show ∃t,u=Value.int i t from r);cases e;rfl
 |str x=>obtain ⟨t,e⟩:=(show ∃t,u=Value.str x t from r);cases e;rfl
 |byt b=>obtain ⟨t,e⟩:=(show ∃t,u=Value.bytes b t from r);cases e;rfl
 |flt b=>obtain ⟨t,e⟩:=(show ∃t,u=Value.float b t from r);cases e;rfl
 |ref a=>cases (show u=Value.ref a from r);rfl
 |ty n=>cases (show u=Value.type n from r);rfl
section
variable {P:Program}{w:World}{H H':Hp}{h h':Heap}{a C dx:Addr}{fs fs':List (Str×V)}
theorem qM (af:gi P w H h)(e:H a=some (.ins C dx fs)):∃mA,Cc h a dx C mA/\(∀f,iT @gh (mA f))/\PySem.Within mA (fs.map (·.1))/\fs.length<=1000/\H dx=some (.own a):=by
 obtain ⟨d,z,I,j,mA,n,r,q⟩:=(show bh P w H h a (.ins C dx fs) from af a _ e);exact ⟨mA,⟨j,n,I⟩,r,q,z,d⟩
end
structure vQ (K:Fg)(C:Addr):Prop where
 pg:W.plainGet K C Str.empty=true
 hd:W.hasDictIn K C=true
 po:W.plainOver K C=true
 sa:W.findIn K (.ref C) "__setattr__"=some (some (.builtin "object.__setattr__"))
theorem vQ.get {K:Fg}{C:Addr}(c:vQ K C)(f:Str):W.plainGet K C f=true:=c.pg
def aT (K:Fg)(C:Addr)(f:Str):Prop:=W.findIn K (.ref C) f=some none
theorem aT.taker {K:Fg}{C:Addr}{f:Str}(n:aT K C f):W.takerIn K C f=some none:=by
 unfold W.takerIn;rw [show W.findIn K (.ref C) f=some none from n];rfl
structure Con (K:Fg)(C:Addr)(f:Str)(v:V)(u:Value):Prop where
 at_:W.findIn K (.ref C) f=some @ei
 rel:aL v u
 get:W.specialIn K u "__get__"=some none
 cp:W.copiedNames.contains f=false
structure JE (K:Fg)(C:Addr)(m:Str)(f:Addr):Prop where
 at_:W.findIn K (.ref C) m=some @J
 fn:W.isFn K (.ref f)=true
 kp:W.keepIn K (.ref f)=true
section
variable {X:Cx}{pins:List (Addr×Obj)}{σ:St}{H:Hp}{s:Shared}{a C dx:Addr}{fs:List (Str×V)}{f:Str}{v:V}{A:Around}{E:Value->Shared->Prop}
theorem BP {b:Bool}{Q:Value->Shared->Prop}(I:ay X pins σ H s)(e:H a=some (.ins C dx fs))(c:vQ X.K C)(n:aT X.K C f)(l:fs.lookup f=some v)
(h:∀u s',ay X pins σ H s'->aL v u->Q u s'):wpAny @d A (getAttr (.ref a) f b) Q E s:=by
 obtain ⟨mA,O,r,_,_,_⟩:=qM I.hok e;obtain ⟨u,z,j⟩:=iT.some_of (v:=v) (o:=mA f) (by rw [<-l];exact r f);exact LP I.kIn O (c.get f) c.hd n z (vw j) (h u _ @fI j)
theorem tJ {m:Str}{g:Addr}{pl:Sem Bool}{Q:Value×List Value->Shared->Prop}(I:ay X pins σ H s)(e:H a=some (.ins C dx fs))(c:vQ X.K C)(k:JE X.K C m g)(l:fs.lookup m=none)
(h:Q (.ref g,[.ref a]) s):wpAny @d A (getMethod (.ref a) m pl) Q E s:=by
 obtain ⟨mA,O,r,_,_,_⟩:=qM I.hok e;have F:mA m=none:=iT.none_of (by rw [<-l];exact r m);exact IK I.kIn O (c.get m) k.at_ k.fn F h
theorem AW {y:V}{u:Value}{Q:Unit->Shared->Prop}(I:ay X pins σ H s)(e:H a=some (.ins C dx fs))(c:vQ X.K C)(n:aT X.K C f)(W:fs.length<1000)(R:aL y u)
(h:∀s',ay X pins σ @cb s'->Q () s'):wpAny @d A (setAttr (.ref a) f u) Q E s:=by
 obtain ⟨mA,O,r,wi,_,J⟩:=qM I.hok e
 have F:(fs.map (·.1)).length<=sizeLine:=by rw [length_map,sizeLine_eq];lia
 rwa[Kr I.kIn O c.sa c.po n.taker c.hd wi F λh' j L=>h _ ?_];have U:∃o,h'.get? dx=some o:=let ⟨o,_,_,e',_⟩:=j.ns;⟨o,e'⟩;rwa[I.write (x:=a) (e:=dx) (by rw [e];exact True.intro) (.inr J) (λb q G z=>(L.2 b G).trans z) U ?_];rwa[⟨by rw [ag O.ne];exact J,?_,O.ne,j.obj,_,j.ns,λg=> ?_,λg S=> ?_⟩]
 ·have:=pV f y fs;lia
 ·show iT ((putF f y fs).lookup g) (if g=f then some u else mA g);rw [pT];by_cases q:g=f
  ·rw [if_pos q,if_pos q];exact R
  ·rw [if_neg q,if_neg q];exact r g
 ·by_cases q:g=f
  ·rw [q];exact (oV f y fs).1
  ·rwa[(oV f y fs).2 g (wi g λz=>S ?_)];show (if g=f then some u else mA g)=none;rw [if_neg q];exact z
theorem ay.made (I:ay X pins σ H s):ay X pins σ (upd (upd H s.heap.objs.size (.own (s.heap.objs.size+1))) (s.heap.objs.size+1) (.ins C s.heap.objs.size []))
 {s with heap:=(s.heap.push W.emptyDict).push @t}:=by
 have e1:(s.heap.push W.emptyDict).get? s.heap.objs.size=some W.emptyDict:=Heap.get?_push_size s.heap rfl
 have e2:((s.heap.push W.emptyDict).push @t).get? (s.heap.objs.size+1)=some @t:=by
  have:=Heap.get?_push_size @fe (o:=W.instObj C s.heap.objs.size) rfl;rwa [Heap.size_push] at this
 have z:(s.heap.push W.emptyDict).Ns s.heap.objs.size (λ_=>none):=⟨W.emptyDict,#[],_,e1,rfl,(λe S=>absurd S @e),λ_=>rfl⟩;have G:=I.laid (a:=s.heap.objs.size) (o:= .own (s.heap.objs.size+1)) (h':=s.heap.push W.emptyDict) (t':=s.toks) (λb u q=>Heap.get?_push_of_some _ q) @f ⟨_,e1⟩;rwa[G.laid (a:=s.heap.objs.size+1) (o:= .ins C s.heap.objs.size []) (t':=s.toks) (λb u q=>Heap.get?_push_of_some _ q) (Nat.le_of_eq (Heap.size_push _ _)) ?_];have j:s.heap.objs.size≠s.heap.objs.size+1:=Nat.ne_of_lt @cJ;rwa[⟨by rw [ag j,af],Nat.zero_le _,j,e2,λ_=>none,(Heap.Ns1.of_empty z).at λo q=>Heap.get?_push_of_some _ q,λ_=>True.intro,λy F=>absurd rfl F⟩]
theorem Dc {prog:Program}{w:World}{env:Env}{e:Expr}{f:Str}{pos:Pos}{s:Shared}{Q:Value->Shared->Prop}(z:attributeBase e f env (eval e env)=eval e env)
(h:wpAny @l A (eval e env) (λo s₁=>wpAny @l A (getAttr o f true) Q E s₁) E s):wpAny @l A (eval (.Attribute e f pos) env) Q E s:=
 Attribute_any_ h (by rw [arm_eval_Attribute,z])
end
section
variable {X:Cx}{pins:List (Addr×Obj)}{σ:St}{H:Hp}{s:Shared}{A:Around}{E:Value->Shared->Prop}{Q:Value->Shared->Prop}{c:Value}{b:Bool}
inductive j4 (K:Fg)(H:Hp):V->Value->Prop where
 |non:j4 K H .non (.type "NoneType")
 |bl (x:Bool):j4 K H (.bl x) (.type "bool")
 |int (i:Int):j4 K H (.int i) (.type "int")
 |str (x:Str):j4 K H (.str x) (.type "str")
 |flt (x:UInt64):j4 K H (.flt x) (.type "float")
 |lst {a:Addr} {xs:List V} (e:H a=some (.lst xs)):j4 K H (.ref a) (.type "list")
 |frz {a:Addr} {o:Obj} {xs:List V} (e:H a=some (.frz o (.lst xs))):j4 K H (.ref a) (.type "list")
 |tup {a:Addr} {xs:List V} (e:H a=some (.tup xs)):j4 K H (.ref a) (.type "tuple")
 |dK {a:Addr} {kvs:List (cr×V)} (e:H a=some (.dK kvs)):j4 K H (.ref a) (.type "dict")
 |dT {a:Addr} {kvs:List (List cr×V)} (e:H a=some (.dT kvs)):j4 K H (.ref a) (.type "dict")
 |ins {a C dx:Addr} {fs:List (Str×V)} (e:H a=some (.ins C dx fs)) (cl:vQ K C) (ha:W.findIn K (.ref C) "__class__"=some (some (.builtin "object.__class__")))
   (hn:W.specialIn K (.builtin "object.__class__") "__get__"=some (some (.builtin "getset_descriptor.__get__"))) (htk:W.takesIn K (.builtin "object.__class__")=some true)
   (hm:W.mroIn K C (.type "object")=some true):j4 K H (.ref a) (.ref C)
theorem Ez {x:V}{u t:Value}(I:ay X pins σ H s)(j:aL x u)(ty:j4 X.K H x t)(e:W.kitOne X.K t c=some b)(h:∀tk,Q (.bool b) {s with toks:=tk}):
 wpAny @d A (call (.builtin "isinstance") [u,c]) Q E s:=by
 cases ty with
 |non=>cases (show u=Value.none from j);exact W.kia_one W.kitx_none I.kIn True.intro e (λz=>nomatch z) h
 |bl y=>cases (show u=Value.bool y from j);exact W.kia_one W.kitx_bool I.kIn True.intro e (λz=>nomatch z) h
 |int i=>obtain ⟨t,q⟩:=(show ∃t,u=Value.int i t from j);cases q;exact W.kia_one W.kitx_int I.kIn True.intro e (λz=>nomatch z) h
 |str y=>obtain ⟨t,q⟩:=(show ∃t,u=Value.str y t from j);cases q;exact W.kia_one W.kitx_str I.kIn True.intro e (λz=>nomatch z) h
 |flt y=>obtain ⟨t,q⟩:=(show ∃t,u=Value.float y t from j);cases q;exact W.kia_one W.kitx_float I.kIn True.intro e (λz=>nomatch z) h
 | @lst a xs ea=>
   cases (show u=Value.ref a from j);obtain ⟨_,_,n,_,h1⟩:=(show bh X.prog X.w H s.heap a (.lst xs) from I.hok a _ ea);exact W.kia_one W.kitx_list I.kIn ⟨_,h1,rfl⟩ e (λz=>nomatch z) h
 | @frz a ob xs ea=>
   cases (show u=Value.ref a from j);obtain ⟨_,_,_,n,_,h1⟩:=(show bh X.prog X.w H s.heap a (.frz ob (.lst xs)) from I.hok a _ ea);exact W.kia_one W.kitx_list I.kIn ⟨_,h1,rfl⟩ e (λz=>nomatch z) h
 | @tup a xs ea=>
   cases (show u=Value.ref a from j);obtain ⟨_,_,_,p⟩:=(show bh X.prog X.w H s.heap a (.tup xs) from I.hok a _ ea);obtain ⟨o,h1,h2,_⟩:=p;exact W.kia_one W.kitx_tuple I.kIn ⟨o,h1,h2⟩ e (λz=>nomatch z) h
 | @dK a kvs ea=>
   cases (show u=Value.ref a from j);obtain ⟨_,_,L,_,p⟩:=(show bh X.prog X.w H s.heap a (.dK kvs) from I.hok a _ ea);obtain ⟨o,es,F,h1,h2,_⟩:=p;exact W.kia_one W.kitx_dict I.kIn ⟨o,h1,h2.1⟩ e (λz=>nomatch z) h
 | @dT a kvs ea=>
   cases (show u=Value.ref a from j);obtain ⟨_,_,xs,_,o,es,F,h1,h2,_⟩:=(show bh X.prog X.w H s.heap a (.dT kvs) from I.hok a _ ea);exact W.kia_one W.kitx_dict I.kIn ⟨o,h1,h2.1⟩ e (λz=>nomatch z) h
 | @ins a C dx fs ea cl ha hn htk hm=>
   cases (show u=Value.ref a from j);obtain ⟨mA,O,_⟩:=qM I.hok ea;obtain ⟨G,J,_⟩:=O.look;exact W.kia_one (W.kitx_own (cl.get _) cl.hd ha hn htk hm) I.kIn J e (λz=>nomatch z) h
end
structure bY (k:Nat)(A:Around):Prop where
 hd:A.handled=none
 dp:A.depth+3*k+5<recursionLimit
 un:A.units+16*k+200<cLine
theorem bY.mono {j k:Nat}{A:Around}(r:bY k A)(h:j<=k):bY j A:=⟨r.hd,by have:=r.dp;lia,by have:=r.un;lia⟩
theorem bY.deeper {k:Nat}{A:Around}(r:bY (k+1) A)(env:Env):bY k (A.deeper env):=
 ⟨r.hd,by have:=r.dp;show A.depth+1+3*k+5<_;lia,by have:=r.un;show A.units+3+16*k+200<_;lia⟩
theorem BH {A:Around}{C:Addr}{us:List Value}{z:List (Str×Value)}:(A.under (.builtin "type.__call__" ⟨.ref C::us,z⟩)).depth=A.depth+1:=by
 first|rfl|simp [Around.under,Code.weight,Code.isCreation,Code.isGuard,Code.isCaller,Code.frames,Code.isFrame,guardIds]
theorem BG {A:Around}{C:Addr}{us:List Value}{z:List (Str×Value)}:(A.under (.builtin "type.__call__" ⟨.ref C::us,z⟩)).units=A.units+1:=by
 first|rfl|simp [Around.under,Code.cUnits,Code.frames,Code.isFrame]
theorem bY.make {k:Nat}{A:Around}(r:bY (k+1) A)(C:Addr)(us:List Value)(z:List (Str×Value)):bY k (A.under (.builtin "type.__call__" ⟨.ref C::us,z⟩)):=
 ⟨r.hd,by have:=r.dp;rw [BH];lia,by have:=r.un;rw [BG];lia⟩
theorem bY.depth {k:Nat}{A:Around}(r:bY k A):A.depth<recursionLimit:=by have:=r.dp;lia
theorem bY.units {k:Nat}{A:Around}(r:bY k A):A.units+64<cLine:=by have:=r.un;lia
def N4:TA:=λ_ H Q=>Q [] H
def MU (ta:TE)(tr:TA):TA:=λσ H Q=>ta σ H λx H1=>tr σ H1 λxs H2=>Q (x::xs) H2
section
variable {X:Cx}{e:Expr}{es:List Expr}{te:TE}{t:TA}{pos:Pos}
theorem aj:PA X [] N4:=λ_ _ _ _ H Q I h=>Calls.spliced_nil ⟨[],H,I,.nil,h⟩
theorem KY (z:PE X e te)(U:PA X es t)(hs:starEach (e::es) X.env=(false,eval e X.env)::starEach es X.env:=by rfl):PA X (e::es) (MU te t):=by
 intro pos pins s σ H Q I h;rw [hs];show wpAny _ _ (spliced ((false,eval e X.env)::backTo pos @w)) _ _ s;rwa[Calls.spliced_cons (bz (z pins s σ H _ I h) λu L ⟨x,H1,G,F,J⟩=> ?_)];exact bz (U pos pins L σ H1 _ G J) λS W ⟨xs,H2,O,j,R⟩=>⟨x::xs,H2,O,.cons F j,R⟩
def Uh (t:TA):TE:=λσ H Q=>t σ H λxs H1=>xs.length<=sizeLine/\∀p,H1 p=none->Q (.ref p) (upd H1 p (.tup xs))
def Ul (t:TA):TE:=λσ H Q=>t σ H λxs H1=>xs.length<=sizeLine/\∀p,H1 p=none->Q (.ref p) (upd H1 p (.lst xs))
theorem OQ {J}(h:PA X es t):PE X (.Tuple es J pos) (Uh t):=by
 intro pins s σ H Q I j;rwa[wpAny_Tuple_spliced (bz (h pos pins s σ H _ I j) λF L ⟨xs,H1,G,r,z,q⟩=>⟨by rw [<-r.length];exact z,?_⟩)];have O:H1 L.heap.objs.size=none:=G.hok.fresh @f;rwa[⟨.ref L.heap.objs.size,upd H1 L.heap.objs.size (.tup xs),G.laid (t':=L.toks) (λb u e=>Heap.get?_push_of_some _ e) @f ?_,rfl,q _ O⟩];exact ⟨z,F,r,⟨_,Heap.get?_push_size _ rfl,rfl,_,rfl⟩⟩
theorem OR (h:PA X es t):PE X (.List es pos) (Ul t):=by
 intro pins s σ H Q I j;rwa[wpAny_List_spliced (bz (h pos pins s σ H _ I j) λF L ⟨xs,H1,G,r,z,q⟩=>⟨by rw [<-r.length];exact z,?_⟩)];have J:H1 L.heap.objs.size=none:=G.hok.fresh @f;rwa[⟨.ref L.heap.objs.size,upd H1 L.heap.objs.size (.lst xs),G.laid (t':=L.toks) (λb u e=>Heap.get?_push_of_some _ e) @f ?_,rfl,q _ J⟩];exact ⟨z,F,0,r,Heap.get?_push_size _ rfl⟩
end
abbrev Sp:=List V->Hp->VK->XK->Prop
abbrev nz:=List Env->Hp->Shared->XK->Value->Shared->Prop
structure lP (P:Program)(w:World)(K:Fg)(mg:Str->Option Value)(base:Heap)(A:Around)(outer:List Env)(s:Shared)(H:Hp):Prop where
 frames:A.frames=some outer
 mod:Mod K mg base
 bs:∀b o,base.get? b=some o->s.heap.get? b=some o/\H b=none
 bsz:base.objs.size<=s.heap.objs.size
 funs:s.heap.FunFrames base outer
 frf:∀b∈xx outer,H b=none
 hok:gi P w H s.heap
 bare:AllBare s.gens
def CE (outer:List Env)(P:Program)(w:World)(H:Hp)(s:Shared)(Q:VK)(u:Value)(s':Shared):Prop:=
 ∃v H',s'.os=s.os/\AllBare s'.gens/\Un (xx outer) [] H H' s.heap s'.heap/\gi P w H' s'.heap/\aL v u/\Q v H'
def CR (CX:nz)(outer:List Env)(P:Program)(w:World)(H:Hp)(s:Shared)(Q:VK)(E:XK)(r:Result)(s':Shared):Prop:=
 match r with
 | .ok (.ret u)=>CE outer P w H s Q u s'
 | .ok _=>False
 | .error e=>CX outer H s E e s'
structure ax (P:Program)(w:World)(K:Fg)(mg:Str->Option Value)(base:Heap)(CX:nz)(k:Nat)(f:Addr)(fd:FuncData)(ps:List Str)(sp:Sp):Prop where
 len:∀vs H Q E,sp vs H Q E->vs.length=ps.length
 run:∀(A:Around) (outer:List Env) (s:Shared) (H:Hp) (args:Args) (us:List Value) (vs:List V) (Q:VK) (E:XK),bY k A->lP P w K mg base A outer s H->BindsTo s fd args @ce->aO vs us->sp vs H Q E->
  codeAny @P A (.call (.ref f) args) (CR CX outer P w H s Q E) s
theorem ax.mono {P:Program}{w:World}{K:Fg}{mg:Str->Option Value}{base:Heap}{CX:nz}{j k:Nat}{f:Addr}{fd:FuncData}{ps:List Str}{sp:Sp}(F:ax P w K mg base CX j f fd ps sp)(h:j<=k):
 ax P w K mg base CX k f fd ps sp:=⟨F.len,λA outer s H z G L Q E U=>F.run A outer s H z G L Q E (U.mono h)⟩
theorem ax.imp {P:Program}{w:World}{K:Fg}{mg:Str->Option Value}{base:Heap}{CX:nz}{k:Nat}{f:Addr}{fd:FuncData}{ps:List Str}{sp j:Sp}(F:ax P w K mg base CX k f fd ps sp)
(h:∀vs H Q E,j vs H Q E->sp vs H Q E):ax P w K mg base CX k f fd ps j:=
 ⟨λvs H Q E q=>F.len vs H Q E (h _ _ _ _ q),λA outer s H z G vs Q E I S J U hs=>F.run A outer s H z G vs Q E I S J U (h _ _ _ _ hs)⟩
theorem lP.make {P:Program}{w:World}{K:Fg}{mg:Str->Option Value}{base:Heap}{A:Around}{outer:List Env}{s:Shared}{H:Hp}(e:lP P w K mg base A outer s H)(C:Addr)(us:List Value)(z:List (Str×Value)):
 lP P w K mg base (A.under (.builtin "type.__call__" ⟨.ref C::us,z⟩)) outer s H:=⟨by first|exact e.frames|(simpa [Around.under,Code.envs,Code.isFrame,pushEnvs] using e.frames),e.mod,e.bs,e.bsz,e.funs,e.frf,e.hok,e.bare⟩
section
variable {X:Cx}{pins:List (Addr×Obj)}{σ:St}{H:Hp}{s s':Shared}
theorem ay.env0 (I:ay X pins σ H s):lP X.prog X.w X.K X.mg X.base X.A X.stack s H:=
 ⟨I.ok.frames,I.ok.mod,I.bs,Nat.le_trans I.ok.bsz I.sz,I.stack,I.stkFree,I.hok,I.bare⟩
theorem ay.after {Q:VK}{u:Value}(I:ay X pins σ H s)(h:CE X.stack X.prog X.w H s Q u s'):EP X pins σ Q u s':=by
 obtain ⟨v,H',os,j,G,af,r,q⟩:=h;obtain ⟨J,g,d,t,F⟩:=s';obtain rfl:F=s.os:=os;exact ⟨v,H',I.call (h':=J) (g':=g) (d':=d) (t':=t) (ch:=[]) G af j (λb z=>absurd z @e),r,q⟩
end
def vg (sp:Sp)(dvs:List V)(E:XK)(t:TA):TE:=λσ H Q=>t σ H λvs H1=>sp (vs++dvs) H1 Q E
def Rv (C:Addr)(sp:Sp)(dvs:List V)(E:XK)(t:TA):TE:=λσ H Q=>t σ H λvs H1=>∀x dx,H1 x=none->H1 dx=none->dx≠x->
 sp (.ref x::(vs++dvs)) (upd (upd H1 dx (.own x)) x (.ins C dx [])) (λv H2=>v= .non/\Q (.ref x) H2) E
def fv (K:Fg)(fd:FuncData)(ps:List Str)(ds:List Value):Prop:=
 ∀(s:Shared) (us:List Value),K.In s.heap->(us++ds).length=ps.length->BindsTo s fd ⟨us,[]⟩ (ps.zip (us++ds))
theorem fv.all {K:Fg}{fd:FuncData}{ps:List Str}(h:∀us:List Value,us.length=ps.length->bindArgs fd ⟨us,[]⟩=pure @ce):fv K fd ps []:=λs us _ W=>by
 rw [append_nil] at W ⊢;exact .of_eq (h us W)
def gw (CX:nz)(X:Cx)(E:XK):Prop:=∀(pins:List (Addr×Obj)) (σ:St) (H:Hp) (s:Shared) (e:Value) (s':Shared),ay X pins σ H s->CX X.stack H s E e s'->X.xe e s'
section
variable {X:Cx}{CX:nz}{k:Nat}{f C:Addr}{fd:FuncData}{ps:List Str}{sp:Sp}{dvs:List V}{ds:List Value}{E:XK}{x m:Str}{p pos apos:Pos}{e o:Expr}{es:List Expr}{ta:TE}{t:TA}
theorem Bi {pins:List (Addr×Obj)}{σ:St}{H:Hp}{s:Shared}{Q:VK}{us:List Value}{vs:List V}(F:ax X.prog X.w X.K X.mg X.base CX k f fd ps sp)(J:bY k X.A)(z:fv X.K fd ps ds)(L:aO dvs ds)(j:gw CX X E)
(I:ay X pins σ H s)(r:aO vs us)(h:sp (vs++dvs) H Q E):wpAny @d X.A (call (.ref f) us) @u X.xe s:=by
 have U:aO (vs++dvs) (us++ds):=r.append L
 have W:(us++ds).length=ps.length:=by rw [<-U.length];exact F.len _ _ _ _ h
 rwa[wpAny_call (codeAny_mono (F.run X.A X.stack s H ⟨us,[]⟩ (us++ds) (vs++dvs) Q E J I.env0 (z s us I.kIn W) U h) λr s' G=> ?_)]
 cases r with
 |error e=>exact j pins σ H s e s' I G
 |ok fl=>
  cases fl with
  |ret u=>exact I.after G
  |next=>exact False.elim G
  |brk=>exact False.elim G
  |cont=>exact False.elim G
theorem CB (F:ax X.prog X.w X.K X.mg X.base CX k f fd ps sp)(U:bY k X.A)(S:Gl X x)(Y:X.mg x=some (.ref f))(J:W.keepIn X.K (.ref f)=true)(O:fv X.K fd ps ds)(hd:aO dvs ds)(L:gw CX X E)
(Z:PA X (e::es) t)(z:(x==("__debug__":Str))=false:=by decide)(R:starEach (e::es) X.env=(false,eval e X.env)::starEach es X.env:=by rfl)(j:(backTo pos @w).any (·.1)=false:=by rfl):
 PE X (.Call (.Name x p) (e::es) [] pos) (vg sp dvs E t):=by
 intro pins s σ H Q I h;rwa[wpAny_Call_Name_kw (eR I S Y ?_ z)];rwa[W.callWith_K (h₀:=X.base) I.ok.mod.kin J (bz (Z pos pins s σ H _ I h) λus s1 ⟨vs,H1,G,r,q⟩=>⟨G.kIn,?_⟩) R j];exact Bi F U O hd L G r q
structure Mk (K:Fg)(C f:Addr):Prop where
 makes:W.makesIn K C=true
 init:W.findIn K (.ref C) "__init__"=some @J
 fn:W.isFn K (.ref f)=true
 kp:W.keepIn K (.ref C)=true
theorem GP {pins:List (Addr×Obj)}{σ:St}{H:Hp}{s:Shared}{Q:VK}{us:List Value}{vs:List V}(M:Mk X.K C f)(F:ax X.prog X.w X.K X.mg X.base CX k f fd ps sp)(S:bY (k+1) X.A)(W:fv X.K fd ps ds)(Z:aO dvs ds)
(R:gw CX X E)(I:ay X pins σ H s)(r:aO vs us)
(h:∀x dx,H x=none->H dx=none->dx≠x->sp (.ref x::(vs++dvs)) (upd (upd H dx (.own x)) x (.ins C dx [])) (λv H2=>v= .non/\Q (.ref x) H2) E):
 wpAny @d X.A (call (.ref C) us) @u X.xe s:=by
 have G:=h (s.heap.objs.size+1) s.heap.objs.size @ff @bt (Nat.ne_of_lt @cJ);have O:=ay.made (C:=C) I;have U:aO (V.ref (s.heap.objs.size+1)::(vs++dvs)) (Value.ref (s.heap.objs.size+1)::(us++ds)):= .cons rfl (r.append Z)
 have Y:(Value.ref (s.heap.objs.size+1)::us++ds).length=ps.length:=by
  have e:=U.length;rw [F.len _ _ _ _ G] at e;exact e.symm
 refine wpAny_call (Im (f:=f) I.kIn M.makes M.init (beq_iff_eq.mp M.fn) (codeAny_mono (F.run _ X.stack _ _ ⟨Value.ref (s.heap.objs.size+1)::us,[]⟩ (Value.ref (s.heap.objs.size+1)::(us++ds)) _ _ E (S.make C us [])
  (O.env0.make C us []) (W _ (Value.ref (s.heap.objs.size+1)::us) O.kIn Y) U G) λr s' j=> ?_))
 cases r with
 |error e=>exact R pins σ _ _ e s' O j
 |ok fl=>
  cases fl with
  |ret u=>
   obtain ⟨v,H',z,J,ev,L⟩:=O.after j;subst ev;exact ⟨J,⟨V.ref (s.heap.objs.size+1),H',z,rfl,L⟩⟩
  |next=>exact False.elim j
  |brk=>exact False.elim j
  |cont=>exact False.elim j
theorem KU (M:Mk X.K C f)(F:ax X.prog X.w X.K X.mg X.base CX k f fd ps sp)(U:bY (k+1) X.A)(S:Gl X x)(R:X.mg x=some (.ref C))(L:fv X.K fd ps ds)(Z:aO dvs ds)(J:gw CX X E)
(Y:PA X (e::es) t)(z:(x==("__debug__":Str))=false:=by decide)(O:starEach (e::es) X.env=(false,eval e X.env)::starEach es X.env:=by rfl)(j:(backTo pos @w).any (·.1)=false:=by rfl):
 PE X (.Call (.Name x p) (e::es) [] pos) (Rv C sp dvs E t):=by
 intro pins s σ H Q I h;rwa[wpAny_Call_Name_kw (eR I S R ?_ z)];rwa[W.callWith_K (h₀:=X.base) I.ok.mod.kin M.kp (bz @dv λus s1 ⟨vs,H1,G,r,q⟩=>⟨G.kIn,?_⟩) O j];exact GP M F U L Z J G r q
end
section
variable {X:Cx}{CX:nz}{k:Nat}{f C:Addr}{fd:FuncData}{ps ks:List Str}{sp:Sp}{E:XK}{x m:Str}{p pos apos kpos:Pos}{e o:Expr}{es:List Expr}{kws:List Keyword}{te ta:TE}{t tk:TA}{nm:Option Str}
structure KBinds (K:Fg)(fd:FuncData)(ps ks:List Str)(g:List Value->List Value->List Value)(gV:List V->List V->List V):Prop where
 to:∀(s:Shared) (us ws:List Value),K.In s.heap->(g us ws).length=ps.length->BindsTo s fd ⟨us,ks.zip ws⟩ (ps.zip (g us ws))
 rel:∀ {vs:List V} {us:List Value} {zs:List V} {ws:List Value},aO vs us->aO zs ws->aO (gV vs zs) (g us ws)
variable {g:List Value->List Value->List Value}{gV:List V->List V->List V}
end
structure ai (N P:List Str)(sc:Scope):Prop where
 kind:sc.kind= .function
 co:sc.isCoroutine=false
 gen:sc.isGenerator=false
 nd:N.Nodup
 pre:N.take P.length=P
 par:∀x∈P,sc.names.lookup x=some .local\/sc.names.lookup x=some .cell
 nofree:∀y∈sc.names,y.2≠ .free
theorem vJ {j:Str->Option NameKind}{x:Str}:∀ {binds:List (Str×Value)} {m:Str->Option Value},(∀v,(x,v)∉binds)->bindL j binds m x=m x
 |[],_,_=>rfl
 |(n,v)::r,m,h=>by
  unfold bindL;rw [vJ λw z=>h w (mem_cons_of_mem _ z)];split
  ·have:x≠n:=by rintro rfl;exact h v mem_cons_self
   simp [this]
  ·rfl
theorem vL {j:Str->Option NameKind}{x:Str}:∀ {binds:List (Str×Value)} {m:Str->Option Value},(∀v,(x,v)∉binds)->bindC j binds m x=m x
 |[],_,_=>rfl
 |(n,v)::r,m,h=>by
  unfold bindC;rw [vL λw z=>h w (mem_cons_of_mem _ z)];split
  ·rfl
  ·have:x≠n:=by rintro rfl;exact h v mem_cons_self
   simp [this]
theorem vK {j:Str->Option NameKind}{x:Str}{v:Value}:∀ {P:List Str} {vs:List Value} {i:Nat} {m:Str->Option Value},P.Nodup->P[i]? =some x->vs[i]? =some v->j x=some .local->
 bindL j (P.zip vs) m x=some v
 |[],_,_,_,_,h,_,_=>by simp at h
 |_::_,[],_,_,_,_,h,_=>by simp at h
 |p::P,w::vs,0,m,nd,h1,h2,hk=>by
  simp at h1 h2;subst h1;subst h2;show bindL j ((p,w)::P.zip vs) m p=_;unfold bindL;rw [vJ λv U=>(nodup_cons.mp nd).1 (of_mem_zip U).1,if_pos hk];simp
 |p::P,w::vs,i+1,m,nd,h1,h2,hk=>by
  show bindL j ((p,w)::P.zip vs) m x=_;unfold bindL;exact vK (i:=i) (nodup_cons.mp nd).2 (by simpa using h1) (by simpa using h2) hk
theorem vM {j:Str->Option NameKind}{x:Str}{v:Value}:∀ {P:List Str} {vs:List Value} {i:Nat} {m:Str->Option Value},P.Nodup->P[i]? =some x->vs[i]? =some v->j x≠some .local->
 bindC j (P.zip vs) m x=some v
 |[],_,_,_,_,h,_,_=>by simp at h
 |_::_,[],_,_,_,_,h,_=>by simp at h
 |p::P,w::vs,0,m,nd,h1,h2,hk=>by
  simp at h1 h2;subst h1;subst h2;show bindC j ((p,w)::P.zip vs) m p=_;unfold bindC;rw [vL λv U=>(nodup_cons.mp nd).1 (of_mem_zip U).1,if_neg hk];simp
 |p::P,w::vs,i+1,m,nd,h1,h2,hk=>by
  show bindC j ((p,w)::P.zip vs) m x=_;unfold bindC;exact vM (i:=i) (nodup_cons.mp nd).2 (by simpa using h1) (by simpa using h2) hk
noncomputable def start (N:List Str)(vs:List V):St:=vs.map some++List.replicate (N.length - vs.length) none
noncomputable def iR (CX:nz)(P:Program)(w:World)(K:Fg)(mg:Str->Option Value)(base:Heap)(N:List Str)(qual:Str)(scope:Scope)(f:Addr)(cd:Value)(A:Around)(outer:List Env)(s:Shared)(H:Hp)(E:XK):Cx where
 prog:=P
 w:=w
 K:=K
 mg:=mg
 base:=base
 A:=A.deeper @L
 N:=N
 s₀:=s
 H₀:=H
 env:=envOfC qual scope s.heap.objs.size f cd
 outer:=outer
 stack:=envOfC qual scope s.heap.objs.size f cd::outer
 ex:=[]
 calm:=true
 fn:=λ_=>true
 pn:=[]
 xe:=λe s'=>wpAny @P (A.deeper @L) (leaving @L e) (λ_ s''=>CX outer H s E e s'') (λe' s''=>CX outer H s E e' s'') s'
theorem zN {j:Scope}{n:Nat}{x:Str}(h:j.names.lookup x=some .cell):∃c,(cellsFrom n j.names []).lookup x=some c:=by
 have q:=W.cellsFrom_some j.names n [] (.inl h);exact Option.isSome_iff_exists.mp q
theorem oW {CX:nz}{P:Program}{w:World}{K:Fg}{mg:Str->Option Value}{base:Heap}{N ps:List Str}{qual:Str}{scope:Scope}{f:Addr}{cd:Value}{A:Around}{outer:List Env}{s R:Shared}{H:Hp}{E:XK}{us:List Value}{vs:List V}
(S:ai N ps scope)(Z:A.handled=none)(j:lP P w K mg base A outer s H)(hl:vs.length=ps.length)(r:aO vs us)
(x:InCallC s s.heap.objs.size (bindL (envOfC qual scope s.heap.objs.size f cd).kindOf @ce λ_=>none) (cellsFrom (s.heap.objs.size+1) scope.names []) (bindC (envOfC qual scope s.heap.objs.size f cd).kindOf @ce λ_=>none) R):
 ay (iR CX P w K mg base N qual scope f cd A outer s H E) [] @bF H R:=by
 have W:ps.length<=N.length:=by have:=congrArg List.length S.pre;rw [length_take] at this;lia
 obtain ⟨h1,tk,rfl,L⟩:=x.done;have F:∀b:Addr,b∉(iR CX P w K mg base N qual scope f cd A outer s H E).ex:=λb z=>absurd (show b∈([]:List Addr) from z) @e
 refine ⟨⟨j.mod,S.kind,rfl,rfl,Nat.le_refl _,λy z c h1 h2=> ?_,λy G=> ?_,λy c _ h=> ?_,λ_=>Z,Around.frames_deeper j.frames,.inr ⟨rfl,rfl⟩,λb z=>absurd z (F b),j.bs,j.bsz,λb _ _=>F b,λb z=>absurd z (F b),j.funs,j.frf⟩,
  rfl,j.bare,Un.kept L,⟨_,x.toInCall.ns,λi y v h1 h2 h3=> ?_⟩,λy c h=>⟨_,x.cell y c h⟩,j.hok.fresh @f,λy c h=> ?_,λp I=>absurd (show p∈([]:List (Addr×Obj)) from I) @e,j.hok.kept L,?_⟩
 ·exact name_of_addr x.apart (PySem.mem_of_lookup h1) (PySem.mem_of_lookup h2)
 ·have G:scope.names.lookup y=some .cell\/scope.names.lookup y=some .free:=G
  rcases G with G|G
  ·exact zN G
  ·exact absurd rfl (S.nofree _ (PySem.mem_of_lookup G))
 ·exact Nat.le_of_lt (x.above y c @dL)
 ·have hi:i<vs.length:=by
   unfold start at h2;by_cases hi:i<vs.length
   ·exact hi
   ·rw [getElem?_append_right (by simpa using hi)] at h2;rw [getElem?_replicate] at h2;split at h2<;>cases h2
  have Y:vs[i]? =some v:=by
   unfold start at h2;rw [getElem?_append_left (by simpa using hi),getElem?_map] at h2
   cases e:vs[i]? with
   |none=>rw [e] at h2;cases h2
   |some a=>rw [e] at h2;cases h2;rfl
  obtain ⟨u,O,U⟩:=r.get Y
  have I:ps[i]? =some y:=by
   rw [<-S.pre,getElem?_take_of_lt @b];exact h1
  have J:ps.Nodup:=by rw [<-S.pre];exact S.nd.sublist (take_sublist _ _)
  rwa[⟨u,U,?_⟩]
  rcases S.par y (mem_of_getElem? I) with k|k
  ·exact .inl ⟨k,vK J I O k⟩
  ·obtain ⟨c,e⟩:=zN (n:=s.heap.objs.size+1) k;rwa[.inr ⟨.inl k,c,e,?_⟩];have q:=x.cell y c e;rw [vM J I O (by show scope.names.lookup y≠_;rw [k];decide)] at q;exact q
 ·exact j.hok.fresh (Nat.le_of_lt (x.above y c @dL))
 ·unfold start;show _=N.length;rw [length_append,length_map,length_replicate];lia
theorem M8 {CX:nz}{P:Program}{w:World}{K:Fg}{mg:Str->Option Value}{base:Heap}{k:Nat}{f:Addr}{name qual:Str}{z:Arguments}{R:List Stmt}{scope:Scope}{dV kV Y pm j ct oc:Value}{an od:Option Addr}
{ac:Array @T}{N ps:List Str}{sp:Sp}(lk:K.lookup f=some ⟨oc,od,.func (W.fnOf name qual z R scope dV kV Y pm an j ct),ac⟩)(aa:W.codeIn K j qual=true)(S:ai N ps scope)
(O:∀vs H Q E,sp vs H Q E->vs.length=ps.length)
(F:∀(A:Around) (outer:List Env) (s:Shared) (H:Hp) (vs:List V) (Q:VK) (E:XK),bY k (A.deeper (envOfC qual scope s.heap.objs.size f j))->sp vs H Q E->
   ∃t,uG @bn R t/\t {nx:=λ_ H'=>Q .non H',rt:=Q} @bF H):
 ax P w K mg base CX (k+1) f (W.fnOf name qual z R scope dV kV Y pm an j ct) ps sp:=by
 rwa[⟨O,λA outer s H ae us vs Q E hr Z hb r L=> ?_⟩];have hl:=O _ _ _ _ L;have KX:K.In s.heap:=Z.mod.kin.keeps λb o e=>(Z.bs b o e).1;have ad:s.heap.NoLimit:=Z.mod.nolimit.keeps λb o e=>(Z.bs b o e).1
 have G:∀y∈ps.zip us,scope.names.lookup y.1=some .local\/(scope.names.lookup y.1=some .cell/\((cellsFrom (s.heap.objs.size+1) scope.names []).lookup y.1).isSome=true):=λ⟨n,v⟩ hy=>by
  rcases S.par n (of_mem_zip hy).1 with q|q
  ·exact .inl q
  ·exact .inr ⟨q,W.cellsFrom_some _ _ _ (.inl q)⟩
 rwa[codeAny_call_function hr.depth @gM rfl S.co S.gen rfl (W.codeRec_of KX aa) @fJ];rwa[wpAny_newFunctionEnv_cells S.kind G λenv he s1 x=> ?_];subst he;rwa[⟨ad.keeps x.toInCall.keep,codeAny_func ?_⟩];obtain ⟨t,ht,hq⟩:=F A outer s H vs Q E @gj L;have I:ay @bn [] @bF H s1:=oW S hr.hd Z hl r x;rwa[wpAny_mono (ht [] s1 @bF H _ I hq) @es λe s' hs=>hs]
 have U:∀ {σ':St} {H':Hp} {v:V} {u:Value},ay @bn [] σ' H' s'->aL v u->Q v H'->CE outer P w H s Q u s':=
  λ{σ' H' v u} J rv q=>⟨v,H',J.os,J.bare,J.base,J.hok,rv,q⟩
 cases fl with
 |ret u=>
  obtain ⟨v,σ',H',J,rv,q⟩:=hs;exact U J rv q
 |next=>
  obtain ⟨σ',H',J,q⟩:=hs;exact U (v:=V.non) (u:=Value.none) J rfl q
 |brk=>
  obtain ⟨_,_,_,q⟩:=hs;exact False.elim q
 |cont=>
  obtain ⟨_,_,_,q⟩:=hs;exact False.elim q
section
variable {X:Cx}{x:Str}{p pos:Pos}{e:Expr}{es:List Expr}{t:TA}{id T:String}{r:List V->Hp->VK->Prop}
def Tg (r:List V->Hp->VK->Prop)(t:TA):TE:=λσ H Q=>t σ H λvs H1=>r vs H1 Q
theorem Ha (R:bi X (.builtin id) r)(S:Gl X x)(W:X.mg x=none)(U:bootBuiltins x=some (.builtin id))(Y:PA X (e::es) t)(J:x≠"__name__":=by decide)(z:(x==("__debug__":Str))=false:=by decide)
(O:starEach (e::es) X.env=(false,eval e X.env)::starEach es X.env:=by rfl)(j:(backTo pos @w).any (·.1)=false:=by rfl):PE X (.Call (.Name x p) (e::es) [] pos) (Tg r t):=by
 intro pins s σ H Q I h;rwa[wpAny_Call_Name_kw (ly I S W U ?_ J z)];exact PyProof.Rows.callWith_builtin1 (bz @dv λG s1 ⟨vs,H1,Z,F,L⟩=>R pins s1 σ H1 vs G Q Z F L) O j
theorem D2 (R:bi X (.type T) r)(S:Gl X x)(W:X.mg x=none)(U:bootBuiltins x=some (.type T))(Y:PA X (e::es) t)(J:x≠"__name__":=by decide)(z:(x==("__debug__":Str))=false:=by decide)
(O:starEach (e::es) X.env=(false,eval e X.env)::starEach es X.env:=by rfl)(j:(backTo pos @w).any (·.1)=false:=by rfl):PE X (.Call (.Name x p) (e::es) [] pos) (Tg r t):=by
 intro pins s σ H Q I h;rwa[wpAny_Call_Name_kw (ly I S W U ?_ J z)];exact PyProof.Rows.callWith_type1 (bz @dv λG s1 ⟨vs,H1,Z,F,L⟩=>R pins s1 σ H1 vs G Q Z F L) O j
end
end L2
namespace HT
open PySem PyProof.Rows
section
variable {prog:Program}{w:World}{A:Around}{E:Value->Shared->Prop}{s:Shared}
theorem cat_tup {t b:Addr}{vs ws:List Value}{Q:Value->Shared->Prop}(ht:IsTup s.heap t vs.toArray)(hb:IsTup s.heap b ws.toArray)(U:vs≠[])
(h1:ws=[]->Q (.ref t) s)(h2:ws≠[]->Q (.ref s.heap.objs.size) {s with heap:=s.heap.push {cls:= .type "tuple",data:= .seq (vs++ws).toArray}})
(hsz:vs.length+ws.length<=sizeLine):wpAny @l A (binaryOp .Add (.ref t) (.ref b)) Q E s:=by
 obtain ⟨⟨cls,dd,data,sl⟩,L,W,n,S⟩:=id ht;obtain ⟨⟨Z,z,R,G⟩,j,J,Y,I⟩:=id hb;simp only at W S J I;subst W S J I
 have e:vs.toArray++ws.toArray=(vs++ws).toArray:=by simp
 by_cases O:ws=[]
 ·exact concat_meets ⟨_,L,rfl⟩ ⟨_,j,rfl⟩ noFill_tuple_add seq_tuple_add PySem.F.slot_tuple_add PySem.F.entry_tuple_add @cC
   (tuple_addW1 t b vs.toArray ws.toArray n Y dd z sl G (by simpa using U) (by simp [O])) ⟨L,j,h1 O⟩
 ·refine concat_meets ⟨_,L,rfl⟩ ⟨_,j,rfl⟩ noFill_tuple_add seq_tuple_add PySem.F.slot_tuple_add PySem.F.entry_tuple_add @cC
   (tuple_addW2 t b vs.toArray ws.toArray n Y dd z sl G (by simpa using U) (by simpa using O) (by rw [size_toArray,size_toArray];exact hsz)) ⟨L,j,?_⟩
  rw [e];exact h2 O
noncomputable def sIx (n d:Nat):Option Int->Nat
 |none=>d
 |some v=>if v<0 then (v+(n:Int)).toNat else min v.toNat n
theorem sIx_none (n d:Nat):sIx n d none=d:=rfl
theorem sIx_nat (n d k:Nat):sIx n d (some (k:Int))=min k n:=by
 show (if (k:Int)<0 then ((k:Int)+(n:Int)).toNat else min (k:Int).toNat n)=min k n;rw [if_neg @b,Int.toNat_natCast]
theorem OA (n d:Nat)(G:d<=n)(o:Option Int):sIx n d o<=n:=by
 cases o with
 |none=>exact G
 |some v=>
  show (if v<0 then (v+(n:Int)).toNat else min v.toNat n)<=n;by_cases U:v<0
  ·rw [if_pos U];lia
  ·rw [if_neg U];exact Nat.min_le_right _ _
theorem C4 (v:Int)(n d:Nat):(if v<0 then max (v+(n:Int)) 0 else min v (n:Int))=((sIx n d @bG:Nat):Int):=by
 show (if v<0 then max (v+(n:Int)) 0 else min v (n:Int))=(((if v<0 then (v+(n:Int)).toNat else min v.toNat n):Nat):Int);by_cases U:v<0
 ·simp only [if_pos U];lia
 ·simp only [if_neg U];lia
theorem B9 (lo hi:Option Int)(n:Nat):Builtin.Slice.sliceAdjust lo hi 1 (n:Int)=(((sIx n 0 lo:Nat):Int),((sIx n n hi:Nat):Int)):=by
 have h1: ¬((1:Int)<0):=by lia
 unfold Builtin.Slice.sliceAdjust;simp only [h1,if_false];rwa[Prod.ext ?_ ?_]
 ·cases lo with
  |none=>rfl
  |some v=>exact C4 v n 0
 ·cases hi with
  |none=>rfl
  |some v=>exact C4 v n n
theorem Bm (i j:Nat):Builtin.Slice.slicePlaces (i:Int) (j:Int) 1=j - i:=by
 unfold Builtin.Slice.slicePlaces
 have h1:(1:Int)>0:=by lia
 simp only [h1,if_true,Int.ediv_one];split<;>lia
theorem rB {v:Value}{o:Option Int}{Q:Option Int->Shared->Prop}(p:IsPart v o)(h:Q o s):wpAny @l A (Builtin.Slice.slicePartIndex v) Q E s:=by
 cases p with
 |none=>exact slicePart_none h
 |int i t=>exact slicePart_int h
theorem om {sl:Addr}{F G:Value}{lo hi:Option Int}{n:Nat}{Q:Int×Int×Nat->Shared->Prop}(hs:s.heap.IsSliceOf sl F G .none)(pl:IsPart F lo)(J:IsPart G hi)
(h:Q (((sIx n 0 lo:Nat):Int),1,sIx n n hi - sIx n 0 lo) s):wpAny @l A (Builtin.Slice.sliceApplied (.ref sl) (pure (n:Int))) Q E s:=by
 obtain ⟨os,z,I,j⟩:=id hs;unfold Builtin.Slice.sliceApplied Builtin.Slice.sliceFields;rwa[wpAny_bind (wpAny_bind (wpAny_field z j (x:=F) rfl (wpAny_bind (wpAny_field z j (x:=G) rfl (wpAny_bind (wpAny_field z j (x:= .none) rfl @cr))))))];rwa[wpAny_bind (slicePart_none ?_)];show wpAny _ _ (if ((1:Int)==0)=true then _ else _) _ _ s;rw [if_neg @c];rwa[wpAny_bind (rB pl (wpAny_bind (rB J (wpAny_bind @cr))))];show wpAny _ _ (match Builtin.Slice.sliceAdjust lo hi 1 (n:Int) with|(lo,hi)=>pure (lo,(1:Int),Builtin.Slice.slicePlaces lo hi 1)) _ _ s;rw [B9 lo hi n];show wpAny _ _ (pure (((sIx n 0 lo:Nat):Int),(1:Int),Builtin.Slice.slicePlaces ((sIx n 0 lo:Nat):Int) ((sIx n n hi:Nat):Int) 1)) _ _ s;rw [Bm];exact wpAny_pure h
theorem G1 (xs:Array Value)(i k:Nat):((List.range k).filterMap λ(m:Nat)=>xs[((i:Int)+(m:Int)*1).toNat]?).toArray=((xs.toList.drop i).take k).toArray:=by
 have e:(λ(m:Nat)=>xs[((i:Int)+(m:Int)*1).toNat]?)=λm=>xs[i+m]? :=by
  funext m
  have:((i:Int)+(m:Int)*1).toNat=i+m:=by lia
  rw [this]
 rw [e];have:=pick_run xs i k;rw [filterMap_map] at this;have e2:((λx=>xs[x]?)∘λx=>i+x)=λm=>xs[i+m]? :=rfl;rw [e2] at this;rw [this]
theorem getItem_tuple_cut {t sl:Addr}{j:Array Value}{R L:Value}{lo hi:Option Int}{Q:Value->Shared->Prop}(O:IsTup s.heap t j)(hs:s.heap.IsSliceOf sl R L .none)(pl:IsPart R lo)(W:IsPart L hi)
(U: ¬(sIx j.size 0 lo=0/\sIx j.size j.size hi=j.size))
(h:Q (.ref s.heap.objs.size) {s with heap:=s.heap.push {cls:= .type "tuple",data:= .seq ((j.toList.drop @fg).take (sIx j.size j.size hi - sIx j.size 0 lo)).toArray}})
(hsz:j.size<=sizeLine):wpAny @l A (getItem (.ref t) (.ref sl)) Q E s:=by
 have z:sizeOk (.seq ((j.toList.drop @fg).take (sIx j.size j.size hi - sIx j.size 0 lo)).toArray):=by
  show ((j.toList.drop @fg).take (sIx j.size j.size hi - sIx j.size 0 lo)).toArray.size<=sizeLine;rw [size_toArray,length_take,length_drop,Array.length_toList];lia
 have Y:sIx j.size j.size hi<=j.size:=OA _ _ @f hi;obtain ⟨os,G,I,S⟩:=id hs;have F:s.TypeIs (.ref sl) "slice":=⟨os,G,I⟩;unfold getItem
 try with_reducible refine wpAny_holding ?_
 first|refine wpAny_bind @cr|skip
 rwa[wpAny_bind (wpAny_sequenceKey O.typeIs @c ?_)]
 refine wpAny_bind (wpAny_callSpecial?_slot (name:=s!"__getitem__") O.typeIs PyProof.Rows.slot_tuple_getitem
  (wpAny_call_entry PyProof.Rows.slot_tuple_getitem O.typeIs entry_tuple_getitem ?_ (args_tuple_getitem _ _)))
 show wpAny _ _ (Builtin.Tuple.tupleItemsOf (.ref t)>>=_) _ _ s;rwa[wpAny_bind (tupleItemsOf_ O ?_)];rwa[wpAny_bind (wpAny_typeOf F ?_)];rw [if_pos @c];rwa[wpAny_bind (om hs pl W ?_)]
 have J: ¬((((sIx j.size 0 lo:Nat):Int)==0&&(1:Int)==1&&(sIx j.size j.size hi - sIx j.size 0 lo)==j.size)=true):=by
  intro q;rw [Bool.and_eq_true,Bool.and_eq_true] at q;have q1:((sIx j.size 0 lo:Nat):Int)=0:=eq_of_beq q.1.1;have Z:sIx j.size j.size hi - sIx j.size 0 lo=j.size:=eq_of_beq q.2;exact U ⟨by lia,by lia⟩
 show wpAny _ _ (if (((sIx j.size 0 lo:Nat):Int)==0&&(1:Int)==1&&(sIx j.size j.size hi - sIx j.size 0 lo)==j.size)=true then _ else _) _ _ s;rw [if_neg J,G1]
 first
  |exact wpAny_bind (m:=Builtin.Tuple.tupleExact _) (wpAny_newObj_type @bi z)
  |exact wpAny_bind (m:=Builtin.Tuple.tupleExact _) (wpAny_newObj_type (wpAny_bind (wpAny_pure @bi)) z)
  |exact wpAny_bind (wpAny_bind (m:=Builtin.Tuple.tupleExact _) (wpAny_newObj_type (wpAny_pure @bi) z))
  |exact wpAny_bind (wpAny_bind (m:=Builtin.Tuple.tupleExact _) (wpAny_newObj_type @bi z))
end
end HT
namespace L2
open PySem PySem.Spec PyProof.Rows
abbrev TO:=St->Hp->(Option Int->Hp->Prop)->Prop
def PO (X:Cx)(e:Option Expr)(t:TO):Prop:=
 ∀(pins:List (Addr×Obj)) (s:Shared) (σ:St) (H:Hp) (Q:Option Int->Hp->Prop),ay X pins σ H s->t σ H Q->
  wpAny @d X.A (evalPart e X.env) (λu s'=>∃o H',ay X pins σ H' s'/\IsPart u o/\Q o H') X.xe s
def Kg:TO:=λ_ H Q=>Q none H
section
variable {X:Cx}{e:Expr}{te:TE}{lo hi:Option Expr}{tl th:TO}{pos p2:Pos}
theorem KP:PO X none Kg:=by
 intro pins s σ H Q I h;rw [evalPart_none];exact wpAny_pure ⟨none,H,I,.none,h⟩
def Ql (X:Cx)(r:V->Option Int->Option Int->Hp->VK->Prop):Prop:=
 ∀(pins:List (Addr×Obj)) (s:Shared) (σ:St) (H:Hp) (x:V) (v vl vu:Value) (lo hi:Option Int) (sl:Addr) (Q:VK),ay X pins σ H s->aL x v->s.heap.IsSliceOf sl vl vu .none->IsPart vl lo->IsPart vu hi->r x lo hi H Q->
  ∃T id,typeLookup (.type T) "__getitem__"=pure (some (.builtin id))/\s.TypeIs v T/\wpAny @d X.A (getItem v (.ref sl)) @u X.xe s
def Vc (r:V->Option Int->Option Int->Hp->VK->Prop)(te:TE)(tl th:TO):TE:=λσ H Q=>te σ H λx H1=>tl σ H1 λl H2=>th σ H2 λu H3=>r x l u H3 Q
theorem G7 {r:V->Option Int->Option Int->Hp->VK->Prop}(U:Ql X r)(W:PE X e te)(Z:PO X lo tl)(R:PO X hi th):PE X (.Subscript e (.Slice lo hi none p2) pos) (Vc r te tl th):=by
 intro pins s σ H Q I h;rwa[Subscript_ (bz (W pins s σ H _ I h) λv s1 ⟨x,H1,z,r1,q1⟩=> ?_)];rwa[wpAny_Slice (bz (Z pins s1 σ H1 _ z q1) λF s2 ⟨l,H2,L,pl,q2⟩=>bz (R pins s2 σ H2 _ L q2) λG O ⟨u,j,I3,pu,J⟩=> ?_)];rw [evalPart_none];rwa[wpAny_pure ?_];have I4:ay X pins σ j {O with heap:=O.heap.push {cls:= .type "slice",data:= .fields #[F,G,.none]}}:=I3.kept (t':=O.toks) λb ob q=>Heap.get?_push_of_some _ q;obtain ⟨T,id,Y,S,hg⟩:=U pins {O with heap:=O.heap.push {cls:= .type "slice",data:= .fields #[F,G,.none]}} σ j x v F G l u O.heap.objs.size Q I4 r1 (Heap.IsSliceOf.new ..) pl pu J;show wpAny @d X.A (subscriptTail e (.Slice lo hi none p2) v (.ref O.heap.objs.size)) @u X.xe {O with heap:=O.heap.push {cls:= .type "slice",data:= .fields #[F,G,.none]}};exact tail_any (ops:=[.ref O.heap.objs.size,v]) S Y hg @Y
noncomputable def qE (xs:List V)(lo hi:Option Int):List V:=(xs.drop @dM).take (HT.sIx xs.length xs.length hi - HT.sIx xs.length 0 lo)
theorem qg (xs:List V)(lo hi:Option Int):(qE xs lo hi).length<=xs.length:=by
 unfold qE;rw [length_take,length_drop];lia
def Uy (K:Fg):V->Option Int->Option Int->Hp->VK->Prop:=λx lo hi H Q=>∃a xs,x= .ref a/\aK K H a xs/\
 ¬(HT.sIx xs.length 0 lo=0/\HT.sIx xs.length xs.length hi=xs.length)/\∀p,H p=none->Q (.ref p) (upd H p (.tup @bW))
theorem Oo:Ql X (Uy X.K):=by
 intro pins s σ H x v U S lo hi sl Q I z hs pl L h;obtain ⟨a,xs,rfl,G,J,q⟩:=h;cases z;obtain ⟨its,r,O,j⟩:=I.tuple G
 have F:its.toArray.size=xs.length:=by rw [size_toArray];exact r.length.symm
 rwa[⟨"tuple",_,PyProof.Rows.slot_tuple_getitem.lookup,O.typeIs,?_⟩];rwa[HT.getItem_tuple_cut O hs pl L (by rw [F];exact J) ?_ (by rw [F];exact j)];rw [F];rwa[⟨.ref s.heap.objs.size,_,I.laid (t':=s.toks) (o:= .tup @bW) (λb R q=>Heap.get?_push_of_some _ q) @f ?_,rfl,q _ @bt⟩];exact ⟨Nat.le_trans (qg xs lo hi) j,_,(r.drop @dM).take (HT.sIx xs.length xs.length hi - HT.sIx xs.length 0 lo),IsTup.new _ _⟩
def RJ (K:Fg):R2:=λx y H Q=>∃a b xs ys,x= .ref a/\y= .ref b/\aK K H a xs/\aK K H b ys/\xs≠[]/\xs.length+ys.length<=sizeLine/\
 (ys=[]->Q (.ref a) H)/\(ys≠[]->∀p,H p=none->Q (.ref p) (upd H p (.tup (xs++ys))))
theorem aO.nil_iff {xs:List V}{us:List Value}(r:aO xs us):us=[]↔xs=[]:=by
 cases r with
 |nil=>simp
 |cons _ _=>simp
theorem K0:dz X @bB (RJ X.K):=by
 intro pins s σ H x y v u Q I J Z h;obtain ⟨a,b,xs,ys,rfl,rfl,Y,O,L,j,S,R⟩:=h;cases J;cases Z;obtain ⟨its,F,W,_⟩:=I.tuple Y;obtain ⟨G,U,p2,_⟩:=I.tuple O;rwa[HT.cat_tup W p2 (λz=>L (F.nil_iff.mp z)) (λz=>⟨.ref a,H,I,rfl,S (U.nil_iff.mp z)⟩) @k (by rw [<-F.length,<-U.length];exact j)];rwa[⟨.ref s.heap.objs.size,_,I.laid (t':=s.toks) (o:= .tup (xs++ys)) (λb ob q=>Heap.get?_push_of_some _ q) @f ?_,rfl,R (λw=>z (U.nil_iff.mpr w)) _ @bt⟩];exact ⟨by rw [length_append];exact j,_,F.append U,IsTup.new _ _⟩
end
noncomputable def An (n:Nat)(i:Int):Option Nat:=if 0<=i then (if i<n then some i.toNat else none) else if -(n:Int)<=i then some (i+n).toNat else none
noncomputable def uy {α:Type}(xs:List α)(i:Int):Option α:=(An xs.length i).bind λj=>xs[j]?
theorem CM {n:Nat}{i:Int}{j:Nat}(h:An n i=some j):seqIndex? i n=some j/\j<n/\ -(n:Int)<=i/\i<n:=by
 unfold An at h;by_cases I:0<=i
 ·rw [if_pos I] at h;by_cases h1:i<n
  ·rw [if_pos h1] at h;have e:i.toNat=j:=Option.some.inj h;exact ⟨by rw [seqIndex_of I h1,e],by lia,by lia,h1⟩
  ·rw [if_neg h1] at h;cases h
 ·rw [if_neg I] at h;by_cases h1: -(n:Int)<=i
  ·rw [if_pos h1] at h;have e:(i+n).toNat=j:=Option.some.inj h;exact ⟨by rw [seqIndex_neg @b h1,e],by lia,h1,by lia⟩
  ·rw [if_neg h1] at h;cases h
theorem xM {α:Type}{xs:List α}{i:Int}{v:α}(h:uy xs i=some v):∃j,seqIndex? i xs.length=some j/\xs[j]? =some v/\j<xs.length/\ -(xs.length:Int)<=i/\i<xs.length:=by
 unfold uy at h
 cases e:An xs.length i with
 |none=>rw [e] at h;cases h
 |some j=>
  rw [e] at h;obtain ⟨h1,h2,G,z⟩:=CM e;exact ⟨j,h1,h,h2,G,z⟩
theorem bx {α:Type}{xs:List α}{j:Nat}{v:α}(h:xs[j]? =some v):uy xs (j:Int)=some v:=by
 have R:j<xs.length:=(List.getElem?_eq_some_iff.mp h).1
 have e:An xs.length (j:Int)=some j:=by
  unfold An;rw [if_pos @b,if_pos @b];simp
 unfold uy;rw [e];exact h
def MD (b:Expr):Prop:=∀o i,subscripted b false o i=operate [o,i] (getItem o i)
def E9 (X:Cx)(r:R2):Prop:=
 ∀(value slice:Expr) (pins:List (Addr×Obj)) (s:Shared) (σ:St) (H:Hp) (x y:V) (v u:Value) (Q:VK),ay X pins σ H s->aL x v->aL y u->r x y H Q->
  subscripted slice false v u=operate [v,u] (getItem v u)->wpAny @d X.A (subscriptTail value slice v u) @u X.xe s
def Ao (X:Cx)(id:String)(r:V->List V->Hp->VK->Prop):Prop:=
 ∀(pins:List (Addr×Obj)) (s:Shared) (σ:St) (H:Hp) (x:V) (xs:List V) (v:Value) (us:List Value) (Q:VK),ay X pins σ H s->aL x v->aO xs us->r x xs H Q->
  wpAny @d X.A (call (.builtin id) (v::us)) @u X.xe s
section
variable {X:Cx}{a b:Expr}{ta tb:TE}{pos:Pos}
theorem pQ {r:R2}(U:E9 X r)(F:PE X a ta)(j:PE X b tb)(hs:MD b):PE X (.Subscript a b pos) @fm:=by
 intro pins s σ H Q I h;exact Subscript_ (Qg F j I h λv u R x y H2 O z L q=>U a b pins R σ H2 x y v u Q O z L q (hs _ _))
def UC (K:Fg):R2:=λx y H Q=>∃p xs i v,x= .ref p/\y= .int i/\aD K H p xs/\uy xs i=some v/\Q v H
def UA (K:Fg):R2:=λx y H Q=>∃p xs i v,x= .ref p/\y= .int i/\aK K H p xs/\uy xs i=some v/\Q v H
def UB:R2:=λx y H Q=>∃z i c,x= .str z/\y= .int i/\z.length<=sizeLine/\uy z.cps.toList i=some c/\Q (.str ⟨#[c]⟩) H
theorem LJ:E9 X (UC X.K):=by
 intro value J pins s σ H x y v u Q I U ry h hs;obtain ⟨p,xs,i,z,rfl,rfl,S,Z,q⟩:=h;cases U;obtain ⟨t,rfl⟩:=ry;obtain ⟨its,r,pl,hz⟩:=I.list S;obtain ⟨j,h1,h2,h3,h4,W⟩:=xM Z;obtain ⟨w,O,G⟩:=r.get h2;have Y:=r.length;have hn:=lv;have F:EP X pins σ Q w s:=⟨z,H,I,G,q⟩;by_cases L:0<=i
 ·have R:i.toNat=j:=by
   rw [seqIndex_of L W] at h1;exact Option.some.inj h1
  exact item_listR pl.isList L @b (by rw [R];simpa using O) F hs
 ·have R:(i+(its.toArray.size:Int)).toNat=j:=by
   rw [seqIndex_neg @b h4] at h1;rw [size_toArray,<-Y];exact Option.some.inj h1
  exact subscriptTail_builtinR (x:=w) pl.isList.typeIs slot_list_getitem.lookup
   (wpAny_getItem_list_neg (Q:=λr s'=>r=w/\EP X pins σ Q r s') pl.isList @b (by rw [size_toArray]<;>lia) @b (by rw [R];simpa using O) ⟨rfl,F⟩) hs
theorem PU:E9 X (UA X.K):=by
 intro value J pins s σ H x y v u Q I O U h hs;obtain ⟨p,xs,i,z,rfl,rfl,L,S,q⟩:=h;cases O;obtain ⟨t,rfl⟩:=U;obtain ⟨its,r,pl,hz⟩:=I.tuple L;obtain ⟨j,h1,h2,Y,h4,h5⟩:=xM S;obtain ⟨w,R,G⟩:=r.get h2;have W:=r.length;have Z:=lv;have F:EP X pins σ Q w s:=⟨z,H,I,G,q⟩
 exact subscriptTail_builtinR (x:=w) pl.typeIs slot_tuple_getitem.lookup
  (getItem_tuple (j:=j) (Q:=λr s'=>r=w/\EP X pins σ Q r s') pl @b @b (by rw [size_toArray,<-W];exact h1) (by simpa using R) ⟨rfl,F⟩) hs
theorem PV:E9 X UB:=by
 intro value J pins s σ H x y v u Q I F O h hs;obtain ⟨z,i,c,rfl,rfl,Z,S,q⟩:=h;obtain ⟨t,rfl⟩:=F;obtain ⟨U,rfl⟩:=O;obtain ⟨j,h1,h2,R,L,W⟩:=xM S
 have G:z.cps.toList.length=z.length:=by simp [Str.length]
 rw [G] at h1 L W;have Y:=lv
 exact tail_any @eO slot_str_getitem.lookup (getItem_str (c:=c) (by
  have e1:decide (i< -(2^63:Int))=false:=decide_eq_false @b;have e2:decide (i≥2^63)=false:=decide_eq_false @b
  rw [e1,e2,Bool.or_false]) (by rw [h1];simpa using h2) ⟨.str ⟨#[c]⟩,H,I.tok _,⟨_,rfl⟩,q⟩) hs
theorem BF (its:List Value)(n j:Nat)(u:Value):Obj.mapSeq (·.setIfInBounds j u) {cls:= .type "list",data:= .seq its.toArray n}= {cls:= .type "list",data:= .seq (its.set j u).toArray n}:=by
 simp [Obj.mapSeq]
theorem ay.lst {pins:List (Addr×Obj)}{σ:St}{H:Hp}{s:Shared}{p:Addr}{xs:List V}(I:ay X pins σ H s)(h:H p=some (.lst xs)):
 ∃(its:List Value) (n:Nat),aO xs its/\s.heap.get? p=some {cls:= .type "list",data:= .seq its.toArray n}/\xs.length<=sizeLine:=by
 obtain ⟨z,its,n,r,e⟩:=I.hok p _ h;exact ⟨its,n,r,e,z⟩
theorem ay.lstUpd {pins:List (Addr×Obj)}{σ:St}{H:Hp}{s:Shared}{p:Addr}{xs ys:List V}{its its':List Value}{n G:Nat}{f:Obj->Obj}(I:ay X pins σ H s)(h:H p=some (.lst xs))
(J:s.heap.get? p=some {cls:= .type "list",data:= .seq its.toArray n})(F:f {cls:= .type "list",data:= .seq its.toArray n}= {cls:= .type "list",data:= .seq its'.toArray G})(r:aO ys its')(j:ys.length<=sizeLine)(t:Nat):
 ay X pins σ @O {s with heap:=s.heap.update p f,toks:=t}:=by
 have e:(s.heap.update p f).get? p=some {cls:= .type "list",data:= .seq its'.toArray G}:=by
  rw [Heap.get?_update_self f J (by rw [F]<;>rfl),F]
 rwa[I.write (x:=p) (e:=p) (by rw [h];trivial) (.inl rfl) (λb u z q=>(Heap.get?_update_other _ _ (Ne.symm z)).trans q) ⟨_,e⟩ ?_];exact ⟨j,its',G,r,e⟩
def RF:V->V->V->Hp->(Hp->Prop)->Prop:=λo i v H Q=>∃p xs k j,o= .ref p/\i= .int k/\H p=some (.lst xs)/\An xs.length k=some j/\Q @bH
theorem Gk:JC X RF:=by
 intro pins s σ H o i v ov iv u Q I ro ri Z h;obtain ⟨p,xs,k,j,rfl,rfl,G,U,q⟩:=h;cases ro;obtain ⟨t,rfl⟩:=ri;obtain ⟨its,n,r,J,Y⟩:=I.lst G;obtain ⟨h1,h2,O,L⟩:=CM U;have z:=r.length;have hn:=lv
 have R:ay X pins σ @bH {s with heap:=s.heap.update p (Obj.mapSeq (·.setIfInBounds j u))}:=
  I.lstUpd G J (BF its n j u) (r.set Z j) (by rw [length_set];exact Y) s.toks
 by_cases F:0<=k
 ·have S:k.toNat=j:=by
   rw [seqIndex_of F L] at h1;exact Option.some.inj h1
  exact W.ki_setAt J F @b (by rw [size_toArray,<-z];exact L) (by rw [S];exact ⟨_,R,q⟩)
 ·have S:(k+(its.toArray.size:Int)).toNat=j:=by
   rw [seqIndex_neg @b O] at h1;rw [size_toArray,<-z];exact Option.some.inj h1
  exact W.ki_setBack J @b (by rw [size_toArray,<-z];exact O) @b (by rw [S];exact ⟨_,R,q⟩)
theorem wn (lo hi:Option Int)(n:Nat):(sliceBounds lo hi none n).1=((HT.sIx n 0 lo:Nat):Int)/\(sliceBounds lo hi none n).2.1=((HT.sIx n n hi:Nat):Int)/\(sliceBounds lo hi none n).2.2=1:=by
 rwa[⟨?_,?_,rfl⟩]
 ·cases lo with
  |none=>simp [sliceBounds,HT.sIx]
  |some i=>
   simp only [sliceBounds,HT.sIx,Option.getD_none,show (1:Int)>0 by decide,if_true];by_cases h:i<0
   ·simp only [h,if_true]<;>lia
   ·simp only [h,if_false]<;>lia
 ·cases hi with
  |none=>simp [sliceBounds,HT.sIx]
  |some i=>
   simp only [sliceBounds,HT.sIx,Option.getD_none,show (1:Int)>0 by decide,if_true];by_cases h:i<0
   ·simp only [h,if_true]<;>lia
   ·simp only [h,if_false]<;>lia
theorem uQ (its:List Value)(lo hi:Option Int):slicePick its.toArray lo hi none=((its.drop (HT.sIx its.length 0 lo)).take (HT.sIx its.length its.length hi - HT.sIx its.length 0 lo)).toArray:=by
 obtain ⟨h1,h2,G⟩:=wn lo hi its.toArray.size;unfold slicePick;rw [h1,h2,G];simp only [sliceRange_one,pick_run,size_toArray]<;>rfl
def Uz (K:Fg):V->Option Int->Option Int->Hp->VK->Prop:=λx lo hi H Q=>∃a xs,x= .ref a/\aD K H a xs/\∀p,H p=none->Q (.ref p) (upd H p (.lst @bW))
theorem Kp:Ql X (Uz X.K):=by
 intro pins s σ H x v S R lo hi sl Q I z hs pl J h;obtain ⟨a,xs,rfl,j,q⟩:=h;cases z;obtain ⟨its,r,O,G⟩:=I.list j;have F:=r.length;rwa[⟨"list",_,slot_list_getitem.lookup,O.isList.typeIs,?_⟩];rwa[wpAny_getItem_list_slice O.isList hs pl J .none @e ?_ (by rw [size_toArray]<;>lia)];rw [uQ,<-F];rwa[⟨.ref s.heap.objs.size,_,I.laid (t':=s.toks) (o:= .lst @bW) (λb L q=>Heap.get?_push_of_some _ q) @f ?_,rfl,q _ @bt⟩];exact ⟨Nat.le_trans (qg xs lo hi) G,_,0,(r.drop @dM).take (HT.sIx xs.length xs.length hi - HT.sIx xs.length 0 lo),Heap.get?_push_size _ rfl⟩
noncomputable def c4:V->Bool
 | .non=>true
 | .bl _=>true
 | .int _=>true
 | .str _=>true
 |_=>false
noncomputable def L9:V->V->Bool
 | .non,.non=>true
 | .bl a,.bl b=>a==b
 | .bl a,.int b=>(if a then 1 else 0)==b
 | .int a,.bl b=>a==(if b then 1 else 0)
 | .int a,.int b=>a==b
 | .str a,.str b=>a==b
 |_,_=>false
theorem IY {A:Around}{s:Shared}{y x:V}{u v:Value}(L:aL y u)(z:aL x v)(G:c4 y=true)(F:c4 x=true):SeqAt.EqAt A s u v (L9 y x):=by
 cases y with
 |non=>
  cases L
  cases x with
  |non=>cases z;exact SeqAt.EqAt.same _
  |bl b=>cases z;exact SeqAt.EqAt.none_bool b
  |int b=>obtain ⟨t,rfl⟩:=z;exact SeqAt.EqAt.none_int b t
  |str b=>obtain ⟨t,rfl⟩:=z;exact SeqAt.EqAt.none_str b t
  |_=>exact absurd (show false=true from F) Bool.false_ne_true
 |bl a=>
  cases L
  cases x with
  |non=>cases z;exact SeqAt.EqAt.bool_none a
  |bl b=>cases z;exact SeqAt.EqAt.bool_bool a b
  |int b=>obtain ⟨t,rfl⟩:=z;exact SeqAt.EqAt.bool_int a b t
  |str b=>obtain ⟨t,rfl⟩:=z;exact SeqAt.EqAt.bool_str a b t
  |_=>exact absurd (show false=true from F) Bool.false_ne_true
 |int a=>
  obtain ⟨j,rfl⟩:=L
  cases x with
  |non=>cases z;exact SeqAt.EqAt.int_none a j
  |bl b=>cases z;exact SeqAt.EqAt.int_bool a j b
  |int b=>obtain ⟨t,rfl⟩:=z;exact SeqAt.EqAt.int_int a j b t
  |str b=>obtain ⟨t,rfl⟩:=z;exact SeqAt.EqAt.int_str a j b t
  |_=>exact absurd (show false=true from F) Bool.false_ne_true
 |str a=>
  obtain ⟨j,rfl⟩:=L
  cases x with
  |non=>cases z;exact SeqAt.EqAt.str_none a j
  |bl b=>cases z;exact SeqAt.EqAt.str_bool a j b
  |int b=>obtain ⟨t,rfl⟩:=z;exact SeqAt.EqAt.str_int a j b t
  |str b=>obtain ⟨t,rfl⟩:=z;exact SeqAt.EqAt.str_str a j b t
  |_=>exact absurd (show false=true from F) Bool.false_ne_true
 |_=>exact absurd (show false=true from G) Bool.false_ne_true
noncomputable def B0 (x:V)(u:Value):Bool:=match u with
 | .none=>L9 .non x
 | .bool b=>L9 (.bl b) x
 | .int i _=>L9 (.int i) x
 | .str z _=>L9 (.str z) x
 |_=>false
theorem IW {x y:V}{u:Value}(r:aL y u)(f:c4 y=true):B0 x u=L9 y x:=by
 cases y with
 |non=>cases r;rfl
 |bl b=>cases r;rfl
 |int i=>obtain ⟨t,rfl⟩:=r;rfl
 |str z=>obtain ⟨t,rfl⟩:=r;rfl
 |_=>exact absurd (show false=true from f) Bool.false_ne_true
theorem m7 {x:V}:∀ {xs:List V} {us:List Value},aO xs us->xs.all c4=true->us.any (B0 x)=xs.any λy=>L9 y x
 |_,_,.nil,_=>rfl
 |y::xs,u::us,.cons r t,f=>by
  rw [all_cons,Bool.and_eq_true] at f;rw [any_cons,any_cons,IW r f.1,m7 t f.2]
theorem jr {A:Around}{s:Shared}{x:V}{v:Value}(j:aL x v)(F:c4 x=true):∀ {xs:List V} {us:List Value},aO xs us->xs.all c4=true->∀u∈us,SeqAt.EqAt A s u v (B0 x u)
 |_,_,.nil,_=>λu z=>by cases z
 |y::xs,u::us,.cons r t,f=>λG z=>by
  rw [all_cons,Bool.and_eq_true] at f
  rcases mem_cons.mp z with rfl|z
  ·rw [IW r f.1];exact IY r j f.1 F
  ·exact jr j F t f.2 G z
noncomputable def xi (x:V)(xs:List V):Bool:=xs.any λy=>L9 y x
def Tj (K:Fg)(neg:Bool):R2:=λx y H Q=>∃p xs,y= .ref p/\(aD K H p xs\/aK K H p xs)/\c4 x=true/\xs.all c4=true/\Q (.bl (if neg then !xi x xs else xi x xs)) H
theorem D4:dz X @ec (Tj X.K false):=by
 intro pins s σ H x y v u Q I j L h;obtain ⟨p,xs,rfl,G,F,fs,q⟩:=h;cases L
 rcases G with G|G
 ·obtain ⟨its,r,pl,J⟩:=I.list G;rwa[SeqAt.in_listAt (B0 x) pl.isList (λw z=>jr j F r fs w (by simpa using z)) ⟨.bl _,H,I,rfl,?_⟩];rw [show its.toArray.any (B0 x)=its.any (B0 x) by simp,m7 r fs];exact q
 ·obtain ⟨its,r,pl,J⟩:=I.tuple G;rwa[SeqAt.in_tupleAt (B0 x) pl (λw z=>jr j F r fs w (by simpa using z)) ⟨.bl _,H,I,rfl,?_⟩];rw [show its.toArray.any (B0 x)=its.any (B0 x) by simp,m7 r fs];exact q
theorem w5:dz X @dq (Tj X.K true):=by
 intro pins s σ H x y v u Q I j L h;obtain ⟨p,xs,rfl,G,F,fs,q⟩:=h;cases L
 rcases G with G|G
 ·obtain ⟨its,r,pl,J⟩:=I.list G;rwa[SeqAt.notIn_listAt (B0 x) pl.isList (λw z=>jr j F r fs w (by simpa using z)) ⟨.bl _,H,I,rfl,?_⟩];rw [show its.toArray.any (B0 x)=its.any (B0 x) by simp,m7 r fs];exact q
 ·obtain ⟨its,r,pl,J⟩:=I.tuple G;rwa[SeqAt.notIn_tupleAt (B0 x) pl (λw z=>jr j F r fs w (by simpa using z)) ⟨.bl _,H,I,rfl,?_⟩];rw [show its.toArray.any (B0 x)=its.any (B0 x) by simp,m7 r fs];exact q
theorem xI:bi X (.builtin "len") (λxs H Q=>∃p ys,xs=[.ref p]/\(aD X.K H p ys\/aK X.K H p ys)/\Q (.int ys.length) H):=by
 intro pins s σ H xs L Q I r h;obtain ⟨p,ys,rfl,G,q⟩:=h;obtain ⟨u,rfl,z⟩:=fW r;cases z;have J:=lv
 rcases G with G|G
 ·obtain ⟨its,R,pl,j⟩:=I.list G;have F:=R.length;exact Calls.call_len_list pl.isList (by simp only [size_toArray]<;>lia) ⟨.int ys.length,H,I.tok _,⟨s.toks+1,by rw [size_toArray,F]⟩,q⟩
 ·obtain ⟨its,R,pl,j⟩:=I.tuple G;have F:=R.length;exact len_tuple pl (by simp only [size_toArray]<;>lia) ⟨.int ys.length,H,I.tok _,⟨s.toks+1,by rw [size_toArray,F]⟩,q⟩
theorem xH:bi X (.builtin "len") (λxs H Q=>∃z,xs=[.str z]/\z.length<=sizeLine/\Q (.int z.length) H):=by
 intro pins s σ H xs j Q I r h;obtain ⟨z,rfl,F,q⟩:=h;obtain ⟨u,rfl,t,rfl⟩:=fW r;have G:=lv;exact len_str @b ⟨.int z.length,H,I.tok _,⟨_,rfl⟩,q⟩
theorem bi.or {f:Value}{r R:List V->Hp->VK->Prop}(h:bi X f r)(h':bi X f R):bi X f (λxs H Q=>r xs H Q\/R xs H Q):=by
 intro pins s σ H xs j Q I z q
 rcases q with q|q
 ·exact h pins s σ H xs j Q I z q
 ·exact h' pins s σ H xs j Q I z q
theorem xG:bi X (.type "list") (λxs H Q=>∃p ys,xs=[.ref p]/\(aD X.K H p ys\/aK X.K H p ys)/\∀l,H l=none->Q (.ref l) @cd):=by
 intro pins s σ H xs Y Q I r h;obtain ⟨p,ys,rfl,G,q⟩:=h;obtain ⟨u,rfl,W⟩:=fW r;cases W
 have L:∀(its:List Value),aO ys its->ys.length<=sizeLine->∀(h':Heap) (j:Nat),(∀b o',s.heap.get? b=some o'->h'.get? b=some o')->
  h'.get? s.heap.objs.size=some {cls:= .type "list",dict:=none,data:= .seq its.toArray j,slots:= #[]}->EP X pins σ Q (.ref s.heap.objs.size) {s with heap:=h'}:=λits R J h' j z e=>
  ⟨.ref s.heap.objs.size,_,I.laid (t':=s.toks) z @f (show bh X.prog X.w _ h' _ (.lst ys) from ⟨J,its,j,R,e⟩),rfl,q _ @bt⟩
 rcases G with G|G
 ·obtain ⟨its,R,pl,J⟩:=I.list G;have F:=R.length;obtain ⟨o,O,S,n,U⟩:=pl.isList;exact call_list_seq p (.inl rfl) O S U (λh' j z e=>L its R J h' j z e) (by simp only [size_toArray]<;>lia)
 ·obtain ⟨its,R,pl,J⟩:=I.tuple G;have F:=R.length;obtain ⟨o,O,S,n,U⟩:=pl;exact call_list_seq p (.inr rfl) O S U (λh' j z e=>L its R J h' j z e) (by simp only [size_toArray]<;>lia)
theorem u6:bi X (.type "tuple") (λxs H Q=>∃p ys,xs=[.ref p]/\((aD X.K H p ys/\∀l,H l=none->Q (.ref l) @cQ)\/(aK X.K H p ys/\Q (.ref p) H))):=by
 intro pins s σ H xs S Q I r h;obtain ⟨p,ys,rfl,h⟩:=h;obtain ⟨u,rfl,L⟩:=fW r;cases L
 rcases h with ⟨G,q⟩|⟨G,q⟩
 ·obtain ⟨its,R,pl,j⟩:=I.list G;have F:=R.length;rwa[call_tuple_list pl.isList (λh' J=> ?_) (by simp only [size_toArray]<;>lia)];have z:ay X pins σ H {s with heap:=h'}:=I.kept (t':=s.toks) J
  have O:ay X pins σ (upd H h'.objs.size (.tup ys)) {s with heap:=h'.push {cls:= .type "tuple",data:= .seq its.toArray}}:=
   z.laid (t':=s.toks) (λb o e=>Heap.get?_push_of_some _ e) @f (show bh X.prog X.w _ _ _ (.tup ys) from ⟨j,its,R,IsTup.new _ _⟩)
  exact ⟨.ref h'.objs.size,_,O,rfl,q _ (z.hok.fresh @f)⟩
 ·obtain ⟨its,R,pl,j⟩:=I.tuple G;exact call_tuple_same pl ⟨.ref p,H,I,rfl,q⟩
def Tb (K:Fg)(T:String)(x:V)(H:Hp):Prop:=match x with
 | .str _=>T="str"
 | .int _=>T="int"
 | .ref p=>(T="list"/\∃xs,aD K H p xs)\/(T="tuple"/\∃o,K.lookup p=some o/\o.cls= .type "tuple"/\o.dict=none)\/
    (T="dict"/\((∃kvs,H p=some (.dK kvs))\/∃kvs,H p=some (.dT kvs)))\/(T="set"/\∃S n,H p=some (.set S n))
 |_=>False
theorem FL {pins:List (Addr×Obj)}{σ:St}{H:Hp}{s:Shared}{T:String}{x:V}{v:Value}(I:ay X pins σ H s)(r:aL x v)(ty:Tb X.K T x H):
 s.TypeIs v T/\∀a,v= .ref a->∃ob,s.heap.get? a=some ob/\ob.dict=none:=by
 cases x with
 |str z=>
  obtain ⟨t,rfl⟩:=r;cases (show T="str" from ty);exact ⟨typeIs_str s z t,λ_ e=>nomatch e⟩
 |int i=>
  obtain ⟨t,rfl⟩:=r;cases (show T="int" from ty);exact ⟨typeIs_int s i t,λ_ e=>nomatch e⟩
 |ref p=>
  cases r
  rcases ty with ⟨rfl,xs,L⟩|⟨rfl,o,j,J,G⟩|⟨rfl,j⟩|⟨rfl,S,n,j⟩
  ·obtain ⟨its,_,pl,_⟩:=I.list L;rwa[⟨pl.isList.typeIs,λa e=> ?_⟩];cases e;obtain ⟨o,n,e,c,G,_⟩:=pl;exact ⟨o,e,G⟩
  ·rwa[⟨⟨o,I.kIn p o j,J⟩,λa e=> ?_⟩];cases e;exact ⟨o,I.kIn _ o j,G⟩
  ·have z:∃o,s.heap.get? p=some o/\o.ExactDict:=by
    rcases j with ⟨F,j⟩|⟨F,j⟩
    ·obtain ⟨_,_,_,_,o,_,_,e,ex,_⟩:=I.hok p _ j;exact ⟨o,e,ex⟩
    ·obtain ⟨_,_,_,_,o,_,_,e,ex,_⟩:=I.hok p _ j;exact ⟨o,e,ex⟩
   obtain ⟨o,e,ex⟩:=z;rwa[⟨⟨o,e,ex.1⟩,λa e2=> ?_⟩];cases e2;exact ⟨o,e,ex.2.1⟩
  ·obtain ⟨o,_,_,_,e,ex,_⟩:=I.hok p _ j;rwa[⟨⟨o,e,ex.1⟩,λa e2=> ?_⟩];cases e2;exact ⟨o,e,ex.2.1⟩
 |_=>exact False.elim ty
variable {o e:Expr}{es:List Expr}{to:TE}{t:TA}{name:Str}{apos cpos:Pos}{T id:String}{r:V->List V->Hp->VK->Prop}
end
def U4 (X:Cx)(id:String)(r:V->List V->Hp->VK->Prop):Prop:=
 ∀(pins:List (Addr×Obj)) (s:Shared) (σ:St) (H:Hp) (x:V) (xs:List V) (v:Value) (us:List Value) (Q:VK),ay X pins σ H s->aL x v->aO xs us->r x xs H Q->
  wpAny @d X.A (call (.builtin id) (v::us)) @u X.xe s
theorem aO.one:∀ {x:V} {us:List Value},aO [x] us->∃u,us=[u]/\aL x u
 |_,_,.cons r .nil=>⟨_,rfl,r⟩
section
variable {X:Cx}{pins:List (Addr×Obj)}{σ:St}{H:Hp}{s:Shared}{l b:Addr}{xs ys zs:List V}
theorem ay.lset {its its':List Value}{n:Nat}{f:Array Value->Array Value}{t':Nat}(I:ay X pins σ H s)(J:H l=some (.lst xs))
(e:s.heap.get? l=some {cls:= .type "list",data:= .seq its.toArray n})(F:f its.toArray=its'.toArray)(U:aO ys its')(j:ys.length<=sizeLine):
 ay X pins σ @cd {s with heap:=s.heap.update l (Obj.mapSeq f),toks:=t'}:=by
 have q:=PySem.IsL.update e f;rw [F] at q;rwa[I.write (x:=l) (e:=l) (by rw [J];exact trivial) (.inl rfl) (λL u G z=>(Heap.get?_update_other s.heap (Obj.mapSeq f) (Ne.symm G)).trans z) ⟨_,q⟩ ?_];exact ⟨j,its',_,U,q⟩
theorem ay.lnew {its:List Value}{t':Nat}(I:ay X pins σ H s)(U:aO ys its)(j:ys.length<=sizeLine):
 ay X pins σ (upd H s.heap.objs.size (.lst ys)) {s with heap:=s.heap.push {cls:= .type "list",data:= .seq its.toArray},toks:=t'}:=
 I.laid (λ_ _ q=>Heap.get?_push_of_some _ q) @f ⟨j,its,0,U,Heap.get?_push_size _ rfl⟩
theorem ay.fresh (I:ay X pins σ H s):H s.heap.objs.size=none:=I.hok.fresh @f
theorem ay.lstM (I:ay X pins σ H s)(J:H l=some (.lst xs)):xs.length<=sizeLine/\∃(its:List Value) (n:Nat),aO xs its/\xs.length=its.length/\s.heap.get? l=some {cls:= .type "list",data:= .seq its.toArray n}:=by
 obtain ⟨z,its,n,r,e⟩:=I.hok l _ J;exact ⟨z,its,n,r,r.length,e⟩
theorem sM {n:Nat}(h:n<=sizeLine):Builtin.List.listTooLong n=false:=by
 unfold Builtin.List.listTooLong;exact decide_eq_false @b
end
section
variable {X:Cx}
def KJ:V->List V->Hp->VK->Prop:=λx vs H Q=>∃l xs y,x= .ref l/\vs=[y]/\H l=some (.lst xs)/\xs.length<sizeLine/\Q .non (upd H l (.lst (xs++[y])))
theorem Ek:U4 X "list.append" KJ:=by
 intro pins s σ H x S v O Q I G j h;obtain ⟨l,xs,y,rfl,rfl,J,R,q⟩:=h;cases G;obtain ⟨u,rfl,L⟩:=j.one;obtain ⟨z,its,n,r,W,e⟩:=I.lstM J;rwa[call_meets F.slot_list_append ⟨_,e,rfl⟩ F.entry_list_append (F.args_list_append_2 _ _) (PySem.list_append l its.toArray n u (by rw [size_toArray];lia)) ⟨e,?_⟩];rwa[⟨.non,_,I.lset (its':=its++[u]) J e @e (r.append (.cons L .nil)) ?_,rfl,q⟩];rw [length_append,length_singleton];lia
def KI:V->List V->Hp->VK->Prop:=λx vs H Q=>∃l b xs zs,x= .ref l/\vs=[.ref b]/\H l=some (.lst xs)/\H b=some (.lst zs)/\xs.length+zs.length<=sizeLine/\Q .non (upd H l (.lst (xs++zs)))
theorem Ej:U4 X "list.extend" KI:=by
 intro pins s σ H x vs v us Q I O S h;obtain ⟨l,b,xs,zs,rfl,rfl,L,R,hz,q⟩:=h;cases O;obtain ⟨u,rfl,W⟩:=S.one;cases W;obtain ⟨z,its,n,r,hl,e⟩:=I.lstM L;obtain ⟨z2,G,Y,U,Z,e2⟩:=I.lstM R
 have J:its.toArray.size+G.toArray.size<=sizeLine:=by rw [size_toArray,size_toArray];lia
 have j: ¬(!its.toArray.isEmpty&&Builtin.List.listTooLong (its.toArray.size+G.toArray.size))=true:=by
  rw [sM J,Bool.and_false];exact Bool.false_ne_true
 refine call_meets F.slot_list_extend ⟨_,e,rfl⟩ F.entry_list_extend (F.args_list_extend_2 _ _)
  (AutoSeq1.list_extend_list_list_0 l its.toArray n b G.toArray Y j (by rw [size_toArray];lia) @b) ⟨e,e2,?_⟩
 rwa[⟨.non,_,I.lset (its':=its++G) L e @e (r.append U) ?_,rfl,q⟩];rw [length_append];lia
def UD:R2:=λx y H Q=>∃l b xs zs,x= .ref l/\y= .ref b/\H l=some (.lst xs)/\H b=some (.lst zs)/\xs.length+zs.length<=sizeLine/\∀p,H p=none->Q (.ref p) (upd H p (.lst (xs++zs)))
theorem O2:dz X @bB UD:=by
 intro pins s σ H x y v u Q I j L h;obtain ⟨l,b,xs,zs,rfl,rfl,J,R,O,q⟩:=h;cases j;cases L;obtain ⟨z,its,n,r,W,e⟩:=I.lstM J;obtain ⟨S,G,Y,U,Z,e2⟩:=I.lstM R;rwa[PySem.P.add_list e e2 ?_ (by rw [size_toArray,size_toArray];lia)]
 have F:its.toArray++G.toArray=(its++G).toArray:=by simp
 rw [F];exact ⟨.ref _,_,I.lnew (t':=s.toks) (r.append U) (by rw [length_append];lia),rfl,q _ I.fresh⟩
end
end L2
namespace Att
open PySem PySem.W PySem.Calls PyProof.Rows
theorem qD {P:Params}{h:Heap}:∀(ns:List Int) (vs:List Value),WellAll P h vs @eP->IntsAre vs ns:=by
 intro ns
 induction ns with
 |nil=>
  intro vs w;rw [map_nil] at w;cases w;exact .nil
 |cons n ns ih=>
  intro vs w;rw [map_cons] at w
  cases w with
  |cons a b=>
   cases a;exact .cons _ _ (ih _ b)
theorem DC {l:OpenLaw}{n:Nat}(S:l.most=some n){P:Params}{h:Heap}{z:List WData}{j:List Value}
(F:l.row.toRowW.claim.pre z=true)(J:WellAll P h j z):
 ∃a vs ns,j=[Value.ref a]/\z=[WData.list @eP]/\h.get? a=some {cls:= .type "list",data:= .seq vs.toArray}/\IntsAre vs ns/\ns.length<=n:=by
 have L:WShape.hasAll [] z [.list .int]=true:=(pre_splitW F).1;have O:l.pre.holds [] {args:=z}=true:=(pre_splitW F).2;obtain ⟨d,r,rfl,h1,h2⟩:=hasAllW_cons L;obtain rfl:=hasAllW_nil h2;obtain ⟨xs,rfl,R⟩:=hasW_list h1;obtain ⟨ns,rfl⟩:=items_int R
 have G:ns.length<=n:=by
  unfold OpenLaw.pre at O
  have I:(WTm.not (.lt (.lit (.int (n:Int))) (.len (.arg 0)))).holds [] {args:=[.list (ns.map .int)]}=true:=by
   have I:=(holds_andW O).1;rw [S] at I;exact I
  have W:=condW_of I (w_not (w_lt w_lit (w_len_list (w_arg rfl))));rw [length_map] at W;rwa[Nat.le_of_not_lt λq=> ?_]
  have q':(n:Int)<((ns.length:Nat):Int):=by lia
  first
   |(rw [decide_eq_true q'] at W;exact absurd W @c)
   |(simp at W;lia)
 cases J with
 |cons w1 w2=>
  cases w2
  cases w1 with
  |list ho hall=>exact ⟨_,_,ns,rfl,rfl,ho,qD ns _ hall,G⟩
theorem DZ (l:OpenLaw)(z:List WData):l.row.toRowW.claim.post z (.bool true) z=true:=
 postW_of (r:=l.row.toRowW) (X:=(true==true))
  (show WShape.has [] (.bool true) .bool=true by first|rfl|decide|simp [WShape.has,WShape.arms,WShape.armsAll])
  (show (WTm.eq .res (.lit (.bool true))).value [] {args:=z,res:=some (.bool true),after:=z}=some (.bool (true==true)) from w_eq_bool (w_res rfl) w_lit) rfl
end Att
namespace L2
open PySem PySem.Spec PyProof.Rows
theorem nK:∀ {vs:List Value} {ns:List Int},IntsAre vs ns->aO @U vs
 |_,_,.nil=> .nil
 |_,_,.cons n t h=> .cons ⟨t,rfl⟩ (nK h)
noncomputable def eV (s:Stmt):Arguments:=match s with
 | .FunctionDef _ a _ _ _ _ _ _ _ _=>a
 |_=> {posonlyargs:=[],args:=[],vararg:=none,kwonlyargs:=[],kw_defaults:=[],kwarg:=none,defaults:=[]}
noncomputable def cQ (s:Stmt):List Stmt:=match s with
 | .FunctionDef _ _ b _ _ _ _ _ _ _=>b
 |_=>[]
noncomputable def ae (s:Stmt):Scope:=match s with
 | .FunctionDef _ _ _ _ _ _ sc _ _ _=>sc
 |_=> {kind:= .function,names:=[],isGenerator:=false,isCoroutine:=false}
abbrev aY:nz:=λ_ _ _ _ _ _=>False
abbrev E0:XK:=λ_ _ _=>False
theorem fH {X:Cx}:gw aY X E0:=λ_ _ _ _ _ _ _ h=>h.elim
structure be (K:Fg)(x qual:Str)(st:Stmt)(f:Addr)(fd:FuncData):Prop where
 ex:∃(oc:Value) (od:Option Addr) (kV doc pm:Value) (an:Option Addr) (cdv ct:Value) (osl:Array @T),
  fd=W.fnOf x qual @fh @dN @cf .none kV doc pm an cdv ct/\K.lookup f=some ⟨oc,od,.func fd,osl⟩/\W.codeIn K cdv qual=true
 kp:W.keepIn K (.ref f)=true
section
variable {P:Program}{w:World}{K:Fg}{mg:Str->Option Value}{base:Heap}
theorem be.ok {x qual:Str}{st:Stmt}{f:Addr}{fd:FuncData}{N ps:List Str}{k:Nat}{sp:Sp}(F:be K x qual st f fd)(S:ai N ps @cf)(O:∀vs H Q E,sp vs H Q E->vs.length=ps.length)
(j:∀(cdv:Value) (A:Around) (outer:List Env) (s:Shared) (H:Hp) (vs:List V) (Q:VK) (E:XK),bY k @bg->sp vs H Q E->
   ∃t,uG (iR aY P w K mg base N qual @cf f cdv A outer s H E).nox @dN t/\t {nx:=λ_ H'=>Q .non H',rt:=Q} @bF H):ax P w K mg base aY (k+1) f fd ps sp:=by
 obtain ⟨R,J,W,Y,pm,Z,cdv,I,ac,rfl,G,z⟩:=F.ex;rwa[M8 G z S O λA outer s H vs Q E U L=> ?_];obtain ⟨t,h,q⟩:=j cdv A outer s H vs Q E U L;exact ⟨t,h.nox,q⟩
theorem be.binds {x qual:Str}{st:Stmt}{f:Addr}{fd:FuncData}{ps:List Str}(F:be K x qual st f fd)
(h:∀(kV doc pm:Value) (an:Option Addr) (cdv ct:Value) (us:List Value),us.length=ps.length->bindArgs (W.fnOf x qual @fh @dN @cf .none kV doc pm an cdv ct) ⟨us,[]⟩=pure @ce):fv K fd ps []:=by
 obtain ⟨R,z,kV,doc,pm,an,cdv,ct,ac,rfl,G,j⟩:=F.ex;exact .all (h kV doc pm an cdv ct)
theorem BX {x qual:Str}{st:Stmt}{f:Addr}{R:Value}{od Z:Option Addr}{ac:Array @T}{z Y F j I:Value}(l:K.lookup f=some ⟨R,od,.func (W.fnOf x qual @fh @dN @cf .none z Y F Z j I),ac⟩)
(c:W.codeIn K j qual=true)(k:W.keepIn K (.ref f)=true):be K x qual st f (W.fnOf x qual @fh @dN @cf .none z Y F Z j I):=⟨⟨R,od,z,Y,F,Z,j,I,ac,rfl,l,c⟩,k⟩
end
theorem tI {A:Around}{k:Nat}(U:bY k A):A.units+1<cLine:=Nat.lt_of_le_of_lt (Nat.add_le_add_left (by decide:1<=64) _) U.units
def aq (H H':Hp):Prop:=∀b o,H b=some o->H' b=some o
theorem aq.refl (H:Hp):aq H H:=λ_ _ h=>h
theorem aq.trans {H H1 H2:Hp}(a:aq H H1)(b:aq H1 H2):aq H H2:=λc o h=>b c o (a c o h)
theorem aq.free {H H':Hp}(e:aq H H'){l:Addr}(h:H' l=Option.none):H l=Option.none:=by
 cases q:H l with
 |none=>rfl
 |some o=>
  rw [e l o q] at h;cases h
theorem aq.seq {K:Fg}{H H':Hp}{a:Addr}{xs:List V}(e:aq H H')(h:aD K H a xs):aD K H' a xs:=by
 rcases h with (h|⟨o,h⟩)|h
 ·exact .inl (.inl (e _ _ h))
 ·exact .inl (.inr ⟨o,e _ _ h⟩)
 ·exact .inr h
noncomputable def fc (cells:List (Str×Addr)):List (Str×NameKind)->List (Str×Addr)->List (Str×Addr)
 |[],cs=>cs
 |(n,.free)::r,cs=>fc cells r (match cells.lookup n with|some a=>(n,a)::cs|none=>cs)
 |(_,_)::r,cs=>fc cells r cs
theorem pj {j:List (Str×Addr)}{n:Str}{r:List (Str×NameKind)}{cs:List (Str×Addr)}{a:Addr}(h:j.lookup n=some a):fc j ((n,.free)::r) cs=fc j r ((n,a)::cs):=by
 show fc j r (match j.lookup n with|some a=>(n,a)::cs|none=>cs)=_;rw [h]
theorem iw {j:List (Str×Addr)}{n:Str}{k:NameKind}{r:List (Str×NameKind)}{cs:List (Str×Addr)}(h:k≠ .free):fc j ((n,k)::r) cs=fc j r cs:=by
 cases k<;>first|rfl|exact absurd rfl h
theorem mW {j:List (Str×Addr)}:∀ {l:List (Str×NameKind)} {cs:List (Str×Addr)},(∀p∈cs,j.lookup p.1=some p.2)->∀p∈fc j l cs,j.lookup p.1=some p.2
 |[],_,h=>h
 |(n,k)::r,cs,h=>by
  by_cases S:k= .free
  ·subst S
   cases e:j.lookup n with
   |none=>
    have:fc j ((n,.free)::r) cs=fc j r cs:=by
     show fc j r (match j.lookup n with|some a=>(n,a)::cs|none=>cs)=_;rw [e]
    rw [this];exact mW h
   |some a=>
    rw [pj e];rwa[mW λp G=> ?_]
    rcases mem_cons.mp G with rfl|G
    ·exact e
    ·exact h p G
  ·rw [iw S];exact mW h
theorem iy {j:List (Str×Addr)}:∀ {l:List (Str×NameKind)} {cs:List (Str×Addr)} {p:Str×Addr},p∈cs->p∈fc j l cs
 |[],_,_,h=>h
 |(n,k)::r,cs,p,h=>by
  by_cases S:k= .free
  ·subst S;show p∈fc j r (match j.lookup n with|some a=>(n,a)::cs|none=>cs)
   cases e:j.lookup n with
   |none=>exact iy h
   |some a=>exact iy (mem_cons_of_mem _ h)
  ·rw [iw S];exact iy h
theorem uh {j:List (Str×Addr)}{x:Str}{c:Addr}(J:j.lookup x=some c):∀ {l:List (Str×NameKind)} {cs:List (Str×Addr)},(x,NameKind.free)∈l->(x,c)∈fc j l cs
 |(n,k)::r,cs,h=>by
  rcases mem_cons.mp h with e|h2
  ·cases e;rw [pj J];exact iy mem_cons_self
  ·by_cases S:k= .free
   ·subst S;show (x,c)∈fc j r (match j.lookup n with|some a=>(n,a)::cs|none=>cs);exact uh J h2
   ·rw [iw S];exact uh J h2
theorem j9 {α β:Type}[BEq α][LawfulBEq α]{x:α}{c:β}:∀ {l:List (α×β)},(x,c)∈l->∃d,l.lookup x=some d
 |(n,a)::r,h=>by
  cases e:x==n with
  |true=>exact ⟨a,by simp only [lookup_cons,e]⟩
  |false=>
   rcases mem_cons.mp h with q|q
   ·cases q;simp at e
   ·obtain ⟨d,G⟩:=j9 q;exact ⟨d,by simp only [lookup_cons,e];exact G⟩
theorem pi {j:List (Str×Addr)}{l:List (Str×NameKind)}{x:Str}{c:Addr}(h:(fc j l []).lookup x=some c):j.lookup x=some c:=
 mW (l:=l) (cs:=[]) (λ_ G=>absurd G @e) (x,c) @dL
theorem Jn {j:List (Str×Addr)}{l:List (Str×NameKind)}{x:Str}{c:Addr}(J:j.lookup x=some c)(h:(x,NameKind.free)∈l):(fc j l []).lookup x=some c:=by
 obtain ⟨d,G⟩:=j9 (uh (cs:=[]) J h);rw [G,<-J,pi G]
theorem kh {scope:Scope}{env:Env}(h:∀n,(n,NameKind.free)∈scope.names->∃c,env.cells.lookup n=some c):closureFor scope env=pure @cF:=by
 have z:∀(l:List (Str×NameKind)) (j:List (Str×Addr)),(∀n,(n,NameKind.free)∈l->∃c,env.cells.lookup n=some c)->
  (forIn l j (λ(x:Str×NameKind) (r:List (Str×Addr))=>match x with
    |(name,kind)=>if (kind==NameKind.free)=true then (do let c<-cellOf env name;pure (ForInStep.yield ((name,c)::r))) else (do pure PUnit.unit;pure (ForInStep.yield r))):Sem (List (Str×Addr)))=pure (fc env.cells l j):=by
  intro l
  induction l with
  |nil=>intro j _;rfl
  |cons p r ih=>
   intro j W;obtain ⟨n,k⟩:=p;have U:=ih;by_cases S:k= .free
   ·subst S;obtain ⟨c,J⟩:=W n mem_cons_self;rw [pj J];rw [<-ih ((n,c)::j) λm F=>W m (mem_cons_of_mem _ F)];rw [forIn_cons];simp only [cellOf,J,beq_self_eq_true,if_true];rfl
   ·rw [iw S];rw [<-ih j λm F=>W m (mem_cons_of_mem _ F)];rw [forIn_cons]
    have G:(k==NameKind.free)=false:=by simpa using S
    simp only [G,Bool.false_eq_true,if_false];rfl
 have e:=z scope.names [] h;unfold closureFor
 first
  |exact congrArg (λm=>m>>=pure) e
  |(simp only [bind_pure];exact e)
  |(rw [show (pure @cF:Sem (List (Str×Addr)))=(pure @cF>>=pure) from rfl,<-e];rfl)
noncomputable def bc (X:Cx)(scope:Scope)(N':List Str)(C:Addr)(s:Shared)(H:Hp)(ex:List Addr):Cx where
 prog:=X.prog
 w:=X.w
 K:=X.K
 mg:=X.mg
 base:=X.base
 A:=X.A
 N:=N'
 s₀:=s
 H₀:=H
 env:=compEnvC scope @bc C X.env
 outer:=X.stack
 stack:=X.stack
 ex:=ex
 fn:=λ_=>false
 calm:=X.calm
 pn:=[]
 xe:=λ_ _=>False
structure cB (X:Cx)(scope:Scope)(N':List Str)(pk:List @z):Prop where
 kind:scope.kind= .function
 nocell:∀y∈scope.names,y.2≠ .cell
 loc:∀y∈scope.names,y.2= .local->scope.names.lookup y.1=some .local
 free:∀n,(n,NameKind.free)∈scope.names->X.env.kindOf n=some .cell\/X.env.kindOf n=some .free
 nofl:∀n,(n,NameKind.free)∈scope.names->scope.names.lookup n≠some .local
 pl:pk.length=N'.length
 pn:∀(j i:Nat) (x:Str),pk[j]? =some (some i)->N'[j]? =some x->X.N[i]? =some x/\(x,NameKind.free)∈scope.names
noncomputable def dg (pk:List @z)(σ:St):St:=pk.map λo=>o.bind λi=>(σ[i]?).join
theorem sP {scope:Scope}{env:Env}{x:Str}(O:∀y∈scope.names,y.2≠ .cell)(h:(relabel scope env).names.lookup x=some .cell\/(relabel scope env).names.lookup x=some .free):(x,NameKind.free)∈scope.names:=by
 have I:∀k,(relabel scope env).names.lookup x=some k->(k= .cell\/k= .free)->(x,NameKind.free)∈scope.names:=λk e S=>by
  have m:=PySem.mem_of_lookup e;obtain ⟨p,G,e2⟩:=mem_map.mp m;obtain ⟨n,z⟩:=p;dsimp only at e2;by_cases J:(z==NameKind.free&&env.scope.kind== .function&&env.kindOf n==some .cell)=true
  ·rw [if_pos J] at e2
   have j:z= .free:=by
    simp only [Bool.and_eq_true] at J;simpa using J.1.1
   have F:n=x:=(Prod.mk.inj e2).1;rw [<-F,<-j];exact G
  ·rw [if_neg J] at e2;have F:n=x:=(Prod.mk.inj e2).1;have L:z=k:=(Prod.mk.inj e2).2
   rcases S with S|S
   ·exact absurd @gN (O _ G)
   ·rw [<-F,<-S,<-L];exact G
 rcases h with h|h
 ·exact I _ h (.inl rfl)
 ·exact I _ h (.inr rfl)
section
variable {X:Cx}{pins:List (Addr×Obj)}{σ:St}{H:Hp}{s:Shared}{scope:Scope}{N':List Str}{pk:List @z}{fp:List Addr}
theorem Mi (I:ay X pins σ H s)(S:cB X scope N' pk){C:Addr}(J:s.heap.objs.size<=C)(F:∀b∈fp,jL X pins H b)(G:∀b∈fp,b<s.heap.objs.size):(bc X scope N' C s H fp).Ok where
 mod:=I.ok.mod
 kind:=S.kind
 glob:=I.ok.glob
 blt:=I.ok.blt
 above:=J
 inj:=λx y c h1 h2=>I.ok.inj x y c (pi h1) (pi h2)
 has:=λx h=>by
  have m:(x,NameKind.free)∈scope.names:=sP S.nocell h;obtain ⟨c,L⟩:=I.ok.has x (S.free x m);exact ⟨c,Jn L m⟩
 cab:=λx c h _=>nomatch h
 hd:=I.ok.hd
 frames:=I.ok.frames
 stk:= .inl rfl
 exf:=λb j=>⟨Nat.ne_of_lt (Nat.lt_of_lt_of_le (G b j) J),λx c e=>(F b j).2.2.2.2.1 x c (pi e)⟩
 bs:=I.bs
 bsz:=Nat.le_trans I.ok.bsz I.sz
 noex:=λb o e j=>by
  rcases (F b j).2.2.2.1 with z|z
  ·exact I.ok.noex b o e z
  ·exact absurd (Nat.lt_of_lt_of_le @N (Nat.le_trans I.ok.bsz z)) @bm
 exfs:=λb j z=>by
  rcases mem_cons.mp @fX with e|e
  ·exact (F b j).2.1 e
  ·exact (F b j).2.2.1 e
 funs:=I.stack
 frf:=I.stkFree
theorem G0 {pk:List @z}{σ:St}{j:Nat}{v:V}(h:(dg pk σ)[j]? =some @bG):∃i,pk[j]? =some (some i)/\σ[i]? =some @bG:=by
 unfold dg at h;rw [getElem?_map] at h
 cases e:pk[j]? with
 |none=>rw [e] at h;cases h
 |some o=>
  rw [e] at h
  cases o with
  |none=>cases h
  |some i=>
   rwa[⟨i,rfl,?_⟩];have h':(σ[i]?).join=some v:=Option.some.inj h
   cases q:σ[i]? with
   |none=>rw [q] at h';cases h'
   |some z=>rw [q] at h';rw [show z=some v from h']
theorem Jk {L:Shared}{C D:Addr}{od:Obj}(I:ay X pins σ H s)(S:cB X scope N' pk)(hC:s.heap.objs.size<=C)(hf:∀b∈fp,jL X pins H b)(af:∀b∈fp,b<s.heap.objs.size)
(Y:L.os=s.os)(hg:L.gens=s.gens)(F:∀b o,s.heap.get? b=some o->L.heap.get? b=some o)(ac:L.heap.Ns C λ_=>none)(hD:s.heap.objs.size<=D)(ae:D≠C)(ad:L.heap.get? D=some od)(aa:∀v,od.data≠ .cell v):
 ay @gc [(D,od)] @E H L where
 ok:=Mi I S hC hf af
 os:=Y
 bare:=by rw [hg];exact I.bare
 base:=Un.kept F
 loc:=⟨_,ac,λj x v h1 h2 J=>by
  obtain ⟨i,e1,e2⟩:=G0 h2;obtain ⟨hN,Z⟩:=S.pn j i x e1 h1;obtain ⟨m,hn,hl⟩:=I.loc;have hk:=S.free x Z;obtain ⟨c,hc⟩:=I.ok.has x hk
  have hv:SW X.env.scope x:=by
   rcases hk with k|k
   ·exact .inr (.inl k)
   ·exact .inr (.inr k)
  obtain ⟨u,r,l⟩:=hl i x v hN e2 hv;rwa[⟨u,r,.inr ⟨?_,c,Jn hc Z,?_⟩⟩]
  ·rcases J with J|J|J
   ·exfalso;have U:(relabel scope X.env).names.lookup x=some .local:=J;obtain ⟨p,W,e⟩:=mem_map.mp (PySem.mem_of_lookup U);obtain ⟨n,R⟩:=p;dsimp only at e;by_cases G:(R==NameKind.free&&X.env.scope.kind== .function&&X.env.kindOf n==some .cell)=true
    ·rw [if_pos G] at e;exact nomatch (Prod.mk.inj e).2
    ·rw [if_neg G] at e;have en:n=x:=(Prod.mk.inj e).1;have ek:R= .local:=(Prod.mk.inj e).2;have q:=S.loc _ W ek;have q2:(relabel scope X.env).names.lookup x=some .local:=U;exact S.nofl x Z (by rw [<-en];exact q)
   ·exact .inl J
   ·exact .inr J
  ·rcases l with ⟨k,_⟩|⟨_,c',e,z⟩
   ·rcases hk with R|R<;>(rw [R] at k;cases k)
   ·rw [hc] at e;cases e;obtain ⟨o,O,hd⟩:=z
    exact ⟨o,F _ _ O,hd⟩⟩
 cell:=λx c h=>by
  obtain ⟨v,o,O,hd⟩:=I.cell x c (pi h);exact ⟨v,o,F _ _ O,hd⟩
 free:=I.hok.fresh hC
 freeC:=λx c h=>I.freeC x c (pi h)
 pin:=λp W=>by
  have e:p=(D,od):=by simpa using (show p∈([]:List (Addr×Obj))++[(D,od)] from W)
  subst e;rwa[⟨ad,I.hok.fresh hD,ae,λz=> ?_,aa⟩];obtain ⟨_,o,O,_⟩:=I.stack.mem z;exact absurd (Nat.lt_of_lt_of_le (Heap.lt_size O) hD) @bm
 hok:=I.hok.kept F
 len:=by unfold dg;rw [length_map];exact S.pl
end
theorem B8 {prog:Program}{w:World}{A:Around}{E:Value->Shared->Prop}{s:Shared}{l:Addr}{its:Array Value}{n:Nat}{x:Value}{Q:Value->Shared->Prop}
(e:s.heap.get? l=some {cls:= .type "list",data:= .seq its n})(hsz:its.size<=sizeLine)
(z:∀h' n',h'.get? l=some {cls:= .type "list",data:= .seq (its.push x) n'}->Heap.SameBut l s.heap h'->Q .none {s with heap:=h'}):
 wpAny @l A (call (.builtin "list.append") [.ref l,x]) Q E s:=by
 have W:s.heap.IsList l its:=PySem.IsL.isList e;rwa[wpAny_call_entry slot_list_append W.typeIs entry_list_append ?_ (args_list_append _ _)];show wpAny _ _ (updateSeq l (·.push x)>>=λ_=>ret .none) _ _ s;rwa[wpAny_bind ?_];have q:(s.heap.update l (Obj.mapSeq (·.push x))).get? l=some (Obj.mapSeq (·.push x) {cls:= .type "list",data:= .seq its n}):=Heap.get?_update_self _ e rfl;exact wpAny_updateSeq e rfl (wpAny_pure ⟨.none,rfl,z _ _ q (Heap.SameBut.update ..)⟩)
section
variable {X:Cx}{pins:List (Addr×Obj)}{σ:St}{H H':Hp}{s s':Shared}{scope:Scope}{N':List Str}{pk:List @z}{fp:List Addr}
theorem gi.track {P:Program}{w:World}{H:Hp}{h:Heap}{a:Addr}{o:HO}(x:gi P w H h)(F:H a=none)(j:bh P w @W h a o):gi P w @W h:=λb u e=>by
 by_cases z:b=a
 ·subst z;rw [af] at e;cases e;exact j
 ·rw [ag z] at e
  exact (x b u e).stay (λc v _ q=>q) (λc q=>by rw [ag @eM];exact q) λc xs q=>by rw [ag @eM];exact q
theorem gi.but {P:Program}{w:World}{H:Hp}{h h':Heap}{a:Addr}(x:gi P w H h)(F:H a=none)(k:∀b o,b≠a->h.get? b=some o->h'.get? b=some o):gi P w H h':=λb u e=>
 (x b u e).stay (λc v J q=>k c v (by
   rcases J with rfl|J
   ·exact λz=>by rw [z,F] at e;cases e
   ·exact bq J F) q) @dp λ_ _ q=>q
theorem Jj {C D:Addr}{h':Heap}{ys:List V}{its:List Value}{n:Nat}{W:St}{R:List (Addr×Obj)}(I:ay X pins σ H s)(S:∀b∈fp,jL X pins H b)
(J:ay @gc R W H' s')(Y:s.heap.objs.size<=C)(hD:s.heap.objs.size<=D)(ae:D≠C)(L:H' D=none)(e:s'.heap.get? D=some {cls:= .type "list",data:= .seq its.toArray n})(r:aO ys its)
(Z:ys.length<=sizeLine)(sb:Heap.SameBut C s'.heap h'):ay X pins σ @bY {s' with heap:=h'}:=by
 have u:Un @eb fp H H' s.heap s'.heap:=J.base;have j:∀b o,b≠C->s'.heap.get? b=some o->h'.get? b=some o:=λb o F q=>(sb.2 b F).trans q;have G:∀b o,s.heap.get? b=some o->b≠C/\b≠D:=λb o q=>⟨Nat.ne_of_lt (Nat.lt_of_lt_of_le @fu Y),Nat.ne_of_lt (Nat.lt_of_lt_of_le @fu hD)⟩;have U:H' C=none:=J.free
 have af:gi X.prog X.w @bY h':=by
  rwa[gi.but (a:=C) (gi.track (h:=s'.heap) J.hok L ⟨Z,its,n,r,e⟩) ?_ j];rw [ag (Ne.symm ae)];exact U
 rwa[I.call' (s':= {s' with heap:=h'}) (ch:=fp) J.os ?_ af J.bare λb F=>⟨(S b F).2.2.2.1,(S b F).2.1,(S b F).2.2.2.2.1,(S b F).2.2.2.2.2⟩];rwa[⟨λb o q n F O=> ?_,λb o q n F O=> ?_,λb o q n O=> ?_,λb o q O=> ?_,λb xs q=> ?_,λb o xs q=> ?_,λb ps q=> ?_⟩]
 ·exact j b o (G b o q).1 (u.keep b o q n F O)
 ·obtain ⟨sl,z⟩:=u.slot b o q n F O;exact ⟨sl,j b _ (G b o q).1 z⟩
 ·rw [ag (G b o q).2];exact u.free b o q n O
 ·obtain ⟨o',z⟩:=u.there b o q O;exact ⟨o',j b o' (G b o q).1 z⟩
 ·have z:=u.tups b xs q;rw [ag (bq z L)];exact z
 ·have z:=u.frzs b o xs q;rw [ag (bq z L)];exact z
 ·obtain ⟨m,z⟩:=u.tbls b ps q;exact ⟨m,by rw [ag (bq z L)];exact z⟩
end
def JB (X:Cx)(es:List Expr)(t:TT):Prop:=
 ∀(pins:List (Addr×Obj)) (s:Shared) (σ:St) (H:Hp) (Q:Bool->Hp->Prop),ay X pins σ H s->t σ H Q->
  wpAny @d X.A (forIn es true λc r=>if r=true then do let ok<-isTrue c X.env (eval c X.env);pure (ForInStep.yield ok) else pure (ForInStep.yield r)) @dV X.xe s
def Ro:TT:=λ_ H Q=>Q true H
theorem bC {X:Cx}:JB X [] Ro:=λpins s σ H Q I h=>wpAny_tests_nil ⟨H,I,h⟩
theorem fz {X:Cx}{c:Expr}{t:TT}(h:PT X c t):JB X [c] t:=λpins s σ H Q I G=>wpAny_tests_one (h pins s σ H Q I G)
def vO (σ σ':St):Prop:=σ'.length=σ.length/\∀(i:Nat) v,σ[i]? =some @bG->σ'[i]? =some @bG
def FU (pk:List @z)(wi:TI)(g:TG)(tt:TT)(te:TE):TE:=λσ H Q=>wi σ H λJ H1=>∃W:Nat->Nat->List V->Hp->Prop,(∃m,W 0 m [] H1)/\∀i m ys H,W i m ys H->
 (J.stop i H/\ys.length<=sizeLine/\∀p,H p=none->Q (.ref p) @O)\/
 (J.go i H/\ys.length<sizeLine/\∃N:List V->Hp->Prop,(∀zs H',N zs H'->∃m',m'<m/\W (i+1) m' zs H')/\∀x H',J.yld i H x H'->g x @E H' λσ2 H2=>vO @E σ2/\tt σ2 H2 λb H3=>
   if b=true then te σ2 H3 λv H4=>N (ys++[v]) H4 else N ys H3)
structure Dg (P:Program)(w:World)(K:Fg)(A₀:Around)(c:Bool)(tg:Expr)(J:It)(fp:List Addr)(it:Addr)(tn:Nat->Heap->Prop):Prop where
 mem:it∈fp
 obj:∀i h,tn i h->∀b∈fp,∃o,h.get? b=some o/\∀v,o.data≠ .cell v
 keep:∀i h h',tn i h->(∀b∈fp,∀o,h.get? b=some o->h'.get? b=some o)->tn i h'
 item:∀(X:Cx),X.prog=P->X.w=w->X.K=K->X.A=A₀->X.calm=c->∀(i:Nat) (pins:List (Addr×Obj)) (s:Shared) (σ:St) (H:Hp) (E:Value->Shared->Prop),ay X pins σ H s->(∀b∈fp,jL X pins H b)->tn i s.heap->J.go i H->
  wpAny @P X.A @cn (λr s1=>∃u,r=some u/\
   wpAny @P X.A @cq (λ_ s2=>∃x H',ay X pins σ H' s2/\aL x u/\J.yld i H x H'/\tn (i+1) s2.heap/\∀b∈fp,H' b=none) E s1) E s
 done:∀(X:Cx),X.prog=P->X.w=w->X.K=K->X.A=A₀->X.calm=c->∀(i:Nat) (pins:List (Addr×Obj)) (s:Shared) (σ:St) (H:Hp) (E:Value->Shared->Prop),ay X pins σ H s->(∀b∈fp,jL X pins H b)->tn i s.heap->J.stop i H->
  wpAny @P X.A @cn (λr s1=>r=none/\ay X pins σ H s1) E s
 self:∀(A:Around) (i:Nat) (s:Shared) (Q:Value->Shared->Prop) (E:Value->Shared->Prop),tn i s.heap->Q (.ref it) s->wpAny @P A (pyIter (.ref it)) Q E s
theorem Ad.toA {P:Program}{w:World}{K:Fg}{F:Around}{c:Bool}{tg:Expr}{J:It}{fp:List Addr}{it:Addr}{z:Nat->Heap->Prop}(T:Ad P w K tg J fp it z)(j:c=true):Dg P w K F c tg J fp it z:=
 ⟨T.mem,T.obj,T.keep,λX h1 h2 G _ W=>T.item X h1 h2 G (W.trans j),λX h1 h2 G _ W=>T.done X h1 h2 G (W.trans j),T.self⟩
def SY (X:Cx)(pins:List (Addr×Obj))(σ:St)(tg:Expr)(R:It->Hp->Prop)(itv:Value)(s2:Shared):Prop:=
 ∃(it:Addr) (fp:List Addr) (tn:Nat->Heap->Prop) (J:It) (H':Hp),itv= .ref it/\ay X pins σ H' s2/\Dg X.prog X.w X.K X.A X.calm tg J fp it tn/\tn 0 s2.heap/\(∀b∈fp,jL X pins H' b)/\R J H'
def Tr (X:Cx)(tg iter:Expr)(t:TI):Prop:=
 ∀(pins:List (Addr×Obj)) (s:Shared) (σ:St) (H:Hp) (R:It->Hp->Prop),ay X pins σ H s->t σ H R->
  wpAny @d X.A @fd (λv s1=>wpAny @d X.A (pyIter v) (SY X pins σ tg R) X.xe s1) X.xe s
theorem PI.toA {X:Cx}{tg iter:Expr}{t:TI}(h:PI X tg iter t)(j:X.calm=true):Tr X tg iter t:=λpins s σ H R I q=>
 bz (h pins s σ H R I q) λv L h1=>bz h1 λai G ⟨F,fp,z,J,H2,e,O,T,r⟩=>⟨F,fp,z,J,H2,e,O,T.toA j,r⟩
set_option maxHeartbeats 4000000 in
theorem ud {X:Cx}{pins:List (Addr×Obj)}{σ:St}{H:Hp}{F:Shared}{scope:Scope}{N':List Str}{pk:List @z}{fp:List Addr}{tg elt iter:Expr}{ifs:List Expr}{pos:Pos}{g:TG}{tt:TT}{te:TE}
{J:It}{it:Addr}{tn:Nat->Heap->Prop}{R:Value->Addr->Result->Shared->Prop}{E:Value->Shared->Prop}{Q:VK}
(S:cB X scope N' pk)(hg:∀C s H ex,PG @m tg g)(ht:∀C s H ex,JB @m ifs tt)(he:∀C s H ex,PE @m elt te)
(I:ay X pins σ H F)(T:Dg X.prog X.w X.K X.A X.calm tg J fp it tn)(st:tn 0 F.heap)(hf:∀b∈fp,jL X pins H b)
(hW:∃W:Nat->Nat->List V->Hp->Prop,(∃m,W 0 m [] H)/\∀i m ys H,W i m ys H->
   (J.stop i H/\ys.length<=sizeLine/\∀p,H p=none->Q (.ref p) @O)\/
   (J.go i H/\ys.length<sizeLine/\∃N:List V->Hp->Prop,(∀zs H',N zs H'->∃m',m'<m/\W (i+1) m' zs H')/\∀x H',J.yld i H x H'->g x @E H' λσ2 H2=>vO @E σ2/\tt σ2 H2 λb H3=>
     if b=true then te σ2 H3 λv H4=>N (ys++[v]) H4 else N ys H3))
(hR:∀(C D:Addr) (s':Shared) (ys:List V) (H':Hp),(∃m,s'.heap.Ns C m)->Q (.ref D) @bY->(∀h',Heap.SameBut C s'.heap h'->ay X pins σ @bY {s' with heap:=h'})->F.heap.objs.size<=C->upd H' D (.lst ys) C=none->
   R (.ref D) C (.ok .next) s'):
 wpAny @d X.A (newList []) (λacc s₃=>wpAny @d X.A (newFunctionEnv scope X.env.globals @bc [] X.env.qual none .none (some X.env)) (λcenv s₄=>
  codeAny @d X.A (.compStart (.ListComp elt [⟨tg,iter,ifs,0⟩] scope pos) 0 (.ref it) acc {cenv with scope:=relabel scope X.env}) (R acc cenv.locals) s₄) E s₃) E F:=by
 obtain ⟨W,⟨m0,w0⟩,au⟩:=hW;rwa[wpAny_newObj_type (wpAny_newFunctionEnv S.nocell (by intro y hy;simp at hy) (λh₁ ac U=> ?_) S.kind)];dsimp only at ac U ⊢;generalize aj:F.heap.push {cls:= .type "list",dict:=none,data:= .seq ([]:List Value).toArray}=H2 at ac U ⊢
 have hC:H2.objs.size=F.heap.objs.size+1:=by rw [<-aj,Heap.size_push]
 have ae:F.heap.objs.size≠H2.objs.size:=by rw [hC];exact Nat.ne_of_lt @cJ
 have Y:F.heap.objs.size<=H2.objs.size:=by rw [hC];exact Nat.le_succ _
 have as:∀b o,F.heap.get? b=some o->h₁.get? b=some o:=λb o e=>
  U.extBut b o (Nat.ne_of_lt (Nat.lt_of_lt_of_le @N Y)) (Heap.get?_push_of_some _ (aj▸Heap.get?_push_of_some _ e))
 have ap:h₁.get? F.heap.objs.size=some {cls:= .type "list",data:= .seq ([]:List Value).toArray}:=
  U.extBut _ _ ae (Heap.get?_push_of_some _ (aj▸Heap.get?_push_size _ rfl))
 have am:∀b∈fp,b<F.heap.objs.size:=λb L=>by
  obtain ⟨o,e,_⟩:=T.obj 0 _ st b L;exact Heap.lt_size e
 have aq:tn 0 h₁:=T.keep 0 _ _ st λb _ o e=>as b o e;have aF:X.env.locals≠H2.objs.size:=Nat.ne_of_lt (Nat.lt_of_lt_of_le I.lt Y);generalize aG:H2.objs.size=C at *;generalize al:F.heap.objs.size=D at *
 have Z:F.heap.objs.size<=D:=by rw [al];exact Nat.le_refl _
 have ad:F.heap.objs.size<=C:=by rw [al];exact Y
 have ah:∀s₃:Shared,s₃= {F with heap:=h₁,toks:=F.toks+([]:List (Str×Value)).length}->
  codeAny @d X.A (.compLoop (.ListComp elt [⟨tg,iter,ifs,0⟩] scope pos) 0 (.ref it) (.ref D) @cM) (R (.ref D) C) s₃:=by
  rintro s₃ rfl
  refine codeAny_loop rfl (λn s'=>∃i H' ys its k,ay @F [(D,{cls:= .type "list",data:= .seq its k})] @E H' s'/\aO ys its.toList/\tn i s'.heap/\(∀b∈fp,H' b=none)/\W i n ys H') ?_ m0
   ⟨0,H,[],#[],0,Jk I S ad hf (λb L=>by rw [al];exact am b L) rfl rfl as (by simpa using ac) Z ae ap (λv z=>nomatch z),.nil,aq,λb L=>(hf b L).1,w0⟩
  rintro n s3 ⟨i,H3,ys,its,k,I3,aa,ar,az,w3⟩;show wpAny _ _ ((compTurn (.ListComp elt [⟨tg,iter,ifs,0⟩] scope pos) 0 (.ref it) (.ref D) @cM).onRaise (λx=>do noteFrame x @cM;theTreesLotGoes x)) _ _ s3;rwa[wpAny_noted ?_];rw [compTurn_list];have G:∀ {α:Type} {t:Sem α} {Q':α->Shared->Prop} {E':Value->Shared->Prop} {s':Shared},wpAny @d X.A t Q' @fw s'->wpAny @d X.A t Q' E' s':=λh=>wpAny_mono h (λ_ _ x=>x) λ_ _ x=>x.elim
  have ak:∀ {H':Hp} {j},(∀b∈fp,H' b=none)->(∀p∈j,p.1=D)->∀b∈fp,jL @F j H' b:=λ{H' j} hn hp b L=>
   ⟨hn b L,(I3.ok.exf b L).1,I3.ok.exfs b L,.inl L,(I3.ok.exf b L).2,λp aC z=>by
     have aA:p∈j:=by simpa using (show p∈([]:List (Addr×Obj))++j from aC)
     have q:=am b L;rw [<-z,hp p aA] at q
     exact Nat.lt_irrefl _ q⟩
  have O:∀p∈[(D,({cls:= .type "list",data:= .seq its k}:Obj))],p.1=D:=λp hp=>by
   have e:p=(D,({cls:= .type "list",data:= .seq its k}:Obj)):=by simpa using hp
   rw [e]
  have af:∀ {j:List (Addr×Obj)} {σ' H' s'},ay @F j σ' H' s'->(D,({cls:= .type "list",data:= .seq its k}:Obj))∈j->s'.heap.get? D=some {cls:= .type "list",data:= .seq its k}/\H' D=none:=λ{j σ' H' s'} J hm=>by
   obtain ⟨a1,a2,_⟩:=J.pin _ (show (D,({cls:= .type "list",data:= .seq its k}:Obj))∈([]:List (Addr×Obj))++j by simpa using hm);exact ⟨a1,a2⟩
  rwa[wpAny_bind (wpAny_standAt @cW)]
  rcases au i n ys H3 w3 with ⟨aw,hz,qn⟩|⟨go,hz,N,hN,ax⟩
  ·rwa[G (bz (T.done @F rfl rfl rfl rfl rfl i _ s3 _ H3 @fw I3 (ak az O) ar aw) λr s4 ⟨hr,I4⟩=> ?_)];subst hr;rwa[wpAny_pure ?_];obtain ⟨a1,a2⟩:=af I4 @e;obtain ⟨mC,aB,_⟩:=I4.loc;exact hR C D s4 ys H3 ⟨mC,aB⟩ (qn D a2) (λh' sb=>Jj I hf I4 ad Z ae a2 (its:=its.toList) (n:=k) (by simpa using a1) aa hz sb) Y (by rw [ag (Ne.symm ae)];exact I4.free)
  ·rwa[G (bz (T.item @F rfl rfl rfl rfl rfl i _ s3 _ H3 @fw I3 (ak az O) ar go) λr s4 ⟨u,hr,h4⟩=> ?_)];subst hr;rwa[wpAny_bind (G (bz h4 λ_ s5 ⟨x,H5,I5,r5,y5,an,aD⟩=> ?_))];have I5':=I5.pinned (ak aD O) (T.obj _ _ an);rwa[wpAny_bind (G (bz (hg C F H fp _ s5 _ H5 x u _ I5' r5 (ax x H5 y5)) λ_ s6 ⟨σ6,H6,I6,av,q6⟩=> ?_))];rwa[wpAny_bind (G (bz (ht C F H fp _ s6 σ6 H6 _ I6 q6) λb s7 ⟨H7,I7,q7⟩=> ?_))]
   have ai:∀ {H':Hp} {s':Shared},ay @F ([(D,{cls:= .type "list",data:= .seq its k})]++sk fp s5.heap) σ6 H' s'->
    ay @F [(D,{cls:= .type "list",data:= .seq its k})] @E H' s'/\tn (i+1) s'.heap/\∀b∈fp,H' b=none:=λ{H' s'} I7=>by
    rwa[⟨I7.unpinned.weak av.1.symm av.2,T.keep _ _ _ an λb L o e=>(I7.pin (b,o) (mem_append_right _ (mem_append_right _ (io L e)))).1,λb L=> ?_⟩];obtain ⟨o,e,d⟩:=T.obj _ _ an b L;exact (I7.pin (b,o) (mem_append_right _ (mem_append_right _ (io L e)))).2.1
   cases b with
   |false=>
    rw [if_neg Bool.false_ne_true] at q7;obtain ⟨m',hm,w7⟩:=hN _ _ q7;obtain ⟨J7,t7,f7⟩:=ai I7;rw [if_neg Bool.false_ne_true]
    first
     |exact wpAny_pure ⟨rfl,m',hm,i+1,H7,ys,its,k,J7,aa,t7,f7,w7⟩
     |exact wpAny_bind (wpAny_pure (wpAny_pure ⟨rfl,m',hm,i+1,H7,ys,its,k,J7,aa,t7,f7,w7⟩))
   |true=>
    rw [if_pos rfl] at q7;rw [if_pos rfl];rwa[wpAny_bind (wpAny_bind (G (bz (he C F H fp _ s7 σ6 H7 _ I7 q7) λy s8 ⟨v,H8,I8,r8,n8⟩=> ?_)))];obtain ⟨m',hm,w8⟩:=hN _ _ n8;obtain ⟨J8,t8,f8⟩:=ai I8;obtain ⟨a1,a2⟩:=af J8 @e
    have aE:its.size<=sizeLine:=by
     have e:=aa.length
     have e2:its.toList.length=its.size:=by simp
     lia
    rwa[wpAny_bind (B8 a1 aE λh' k' e' sb=> ?_)]
    have J9:ay @F [] @E H8 {s8 with heap:=h'}:=
     ay.turned (t':=s8.toks) (it:=D) (J8.pins_of λp hp=>nomatch hp) (λb o L e=>(sb.2 b L).trans e) a2 ae (.inr Z) (λx c e z=>by
      obtain ⟨w',o,ho,hd⟩:=J8.cell x c e
      rw [z,a1] at ho;cases ho;cases hd) λp hp=>nomatch (show p∈([]:List (Addr×Obj))++[] from hp)
    have J10:ay @F [(D,{cls:= .type "list",data:= .seq @hm k'})] @E H8 {s8 with heap:=h'}:=
     J9.pins_of λp hp=>by
      have e:p=(D,({cls:= .type "list",data:= .seq @hm k'}:Obj)):=by simpa using hp
      subst e;rwa[⟨e',a2,ae,λz=> ?_,λv z=>nomatch z⟩];obtain ⟨_,o,ho,_⟩:=I.stack.mem z;exact absurd (Nat.lt_of_lt_of_le (Heap.lt_size ho) Z) @bm
    have t9:tn (i+1) h':=T.keep _ _ _ t8 λb L o e=>(sb.2 b (λz=>Nat.lt_irrefl D (by have:=am b L;rw [z] at this;exact this))).trans e
    have ao:aO (ys++[v]) (its.push y).toList:=by
     rw [Array.toList_push];exact aO.append aa (.cons r8 .nil)
    first
     |exact wpAny_pure (wpAny_pure ⟨rfl,m',hm,i+1,H8,ys++[v],its.push y,k',J10,ao,t9,f8,w8⟩)
     |exact wpAny_bind (wpAny_pure (wpAny_pure ⟨rfl,m',hm,i+1,H8,ys++[v],its.push y,k',J10,ao,t9,f8,w8⟩))
 exact codeAny_compStart_list (ah _ rfl) (T.self _ 0 _ _ _ aq (ah _ rfl))
section
variable {X:Cx}{scope:Scope}{N':List Str}{pk:List @z}{tg elt iter:Expr}{ifs:List Expr}{pos:Pos}{wi:TI}{g:TG}{tt:TT}{te:TE}
theorem yU (S:cB X scope N' pk)(hi:Tr X tg iter wi)(L:∀C s H ex,PG @m tg g)(W:∀C s H ex,JB @m ifs tt)
(Y:∀C s H ex,PE @m elt te)(hs:∀x,foldedSetIterable iter X.env x=pure x:=by intro _;rfl):PE X (.ListComp elt [⟨tg,iter,ifs,0⟩] scope pos) @eQ:=by
 intro pins s σ H Q I h;rw [eval_ListComp];rwa[wpAny_comprehension_free (use:=none) rfl hs (kh λn F=>I.ok.has n (S.free n F)) S.kind S.loc ?_];rwa[bz @dX λv s1 h1=>bz h1 λai s2 h2=> ?_];obtain ⟨it,fp,tn,J,H2,e,O,T,ag,G,z⟩:=h2;subst e;rwa[ud (R:=λj C=>compPost @d X.A X.xe none @u j C) S L W Y O T ag G z ?_];intro C D s' ys H' F q U _ _;obtain ⟨m,Z⟩:=F;exact ⟨m,Z,λh' sb=>⟨.ref D,_,U h' sb,rfl,q⟩⟩
theorem KW (J:X.calm=true)(S:cB X scope N' pk)(hi:PI X tg iter wi)(z:∀C s H ex,PG @m tg g)(O:∀C s H ex,JB @m ifs tt)
(j:∀C s H ex,PE @m elt te)(hs:∀x,foldedSetIterable iter X.env x=pure x:=by intro _;rfl):PE X (.ListComp elt [⟨tg,iter,ifs,0⟩] scope pos) @eQ:=yU S (hi.toA J) z O j hs
theorem KM {i:Nat}{x:Str}{G j:Pos}(hc:X.calm=true)(hN:X.N.Nodup)(hx:X.N[i]? =some x)(hl:Nn X.env.scope x)(S:cB X scope N' pk)(hi:PI X tg iter wi)(hg:∀C s H ex,PG @m tg g)
(ht:∀C s H ex,JB @m ifs tt)(he:∀C s H ex,PE @m elt te)(hs:∀x,foldedSetIterable iter X.env x=pure x:=by intro _;rfl)
(W:swapsWith (.ListComp elt [⟨tg,iter,ifs,0⟩] scope pos) (some (.Name x G)) j.line X.env=pure true:=by rfl)(hf:X.fn x=true\/X.env.scope.names.lookup x=some .local:=by first|exact .inl rfl|exact .inr rfl|assumption):
 PS X (.Assign [.Name x G] (.ListComp elt [⟨tg,iter,ifs,0⟩] scope pos) j) (FV @eQ (qd i)):=by
 intro pins s σ H D0 I h;rw [exec_Assign_Name_used _ _ _ _ W];rwa[wpAny_bind (wpAny_standAt @cW)];show wpAny _ _ (comprehension (.ListComp elt [⟨tg,iter,ifs,0⟩] scope pos) scope X.env (firstIterPos [⟨tg,iter,ifs,0⟩] pos) (newList []) false @fd (some @cX)>>=λ_=>pure ()) _ _ s;rwa[wpAny_bind (wpAny_comprehension_free (use:=some @cX) rfl hs (kh λn U=>I.ok.has n (S.free n U)) S.kind S.loc ?_)];rwa[bz ((hi.toA hc) pins s σ H _ I h) λv s1 h1=>bz h1 λai s2 h2=> ?_];obtain ⟨it,fp,tn,J,H2,e,O,T,ag,f2,hW⟩:=h2;subst e;rwa[ud (Q:=λx H1=>qd i x σ H1 D0.nx) (R:=λac C=>compPost @d X.A X.xe (some @cX) _ ac C) S hg ht he O T ag f2 hW ?_];intro C D s' ys H' U q hv Y Z;obtain ⟨m,hm⟩:=U;have I':ay X pins σ @bY s':=hv s'.heap (Heap.SameBut.refl ..);rwa[wpAny_assign_Name (vh (v:= .ref D) I' hN hx hl rfl (λad I'' ch=> ?_) hf)];obtain ⟨a,sb,F⟩:=ch
 have L:C≠a:=by
  rcases F with F|F
  ·rw [F];exact Nat.ne_of_gt (Nat.lt_of_lt_of_le O.lt Y)
  ·obtain ⟨v,z⟩:=O.cell x a F;exact Nat.ne_of_gt (Nat.lt_of_lt_of_le z.lt Y)
 rwa[⟨m,hm.sameBut sb L,λh' aa=>wpAny_pure (wpAny_pure ⟨_,_,?_,q⟩)⟩];rwa[ay.turned (t':=ad.toks) (it:=C) I'' (λb o hb e=>(aa.2 b hb).trans e) Z (Nat.ne_of_gt (Nat.lt_of_lt_of_le O.lt Y)) (.inr (Nat.le_trans O.sz Y)) (λy c e z=> ?_) λp hp z=> ?_]
 ·obtain ⟨v,q⟩:=O.cell y c e;exact absurd (Nat.lt_of_lt_of_le q.lt Y) (by rw [z];exact Nat.lt_irrefl _)
 ·exact absurd (Nat.lt_of_lt_of_le (Heap.lt_size (O.pin p hp).1) Y) (by rw [z];exact Nat.lt_irrefl _)
end
theorem bU {pk:List @z}{σ:St}{x:V}:vO (dg (none::pk) σ) ((dg (none::pk) σ).set 0 (some x)):=by
 rwa[⟨by simp,λi v h=> ?_⟩]
 cases i with
 |zero=>exact nomatch (show (none:Option V)=some v from Option.some.inj h)
 |succ i=>simpa [dg] using h
section
variable {X:Cx}
noncomputable def cV:V->Option Value
 | .ty n=>some (.type n)
 | .ref C=>some (.ref C)
 |_=>none
theorem Nh {c:V}{t u:Value}(h:cV c=some t)(r:aL c u):u=t:=by
 cases c with
 |ty n=>cases h;exact r
 |ref C=>cases h;exact r
 |_=>cases h
theorem zP:bi X (.builtin "isinstance") (λxs H Q=>∃x c cv t b,xs=[x,c]/\cV c=some cv/\j4 X.K H x t/\W.kitOne X.K t cv=some b/\Q (.bl b) H):=by
 intro pins s σ H xs j Q I r h;obtain ⟨x,c,cv,t,b,rfl,J,ty,e,q⟩:=h;obtain ⟨u,z,rfl,F,U⟩:=MQ r;cases Nh J U;exact Ez I F ty e λtk=>⟨.bl b,H,I.tok _,rfl,q⟩
theorem z8 {bs:List Bool}:∀ {us:List Value},aO @bh us->LSm.BoolsAre us bs:=by
 induction bs with
 |nil=>intro us r;rw [map_nil] at r;cases r;exact .nil
 |cons b bs ih=>
  intro us r;rw [map_cons] at r
  cases r with
  |cons r1 r2=>cases r1;exact .cons b (ih r2)
theorem EY (R:X.calm=true):bi X (.builtin "all") (λxs H Q=>∃(a:Addr) (bs:List Bool),xs=[.ref a]/\aD X.K H a @bh/\Q (.bl @gO) H):=by
 intro pins s σ H xs U Q I r h;obtain ⟨a,bs,rfl,G,q⟩:=h;obtain ⟨u,rfl,O⟩:=fW r;cases O;obtain ⟨its,J,pl,Y⟩:=I.list G;have W:s.heap.IsList a its.toArray:=pl.isList;have j:=z8 J
 have z:a<s.heap.objs.size:=by obtain ⟨_,e,_⟩:=W;exact Heap.lt_size e
 rwa[call_all_walk (wpAny_pyIter_list W ?_)]
 refine ⟨s.heap.objs.size,[s.heap.objs.size,a],[s.heap.objs.size],its.toArray.size,_,_,λi=>(bs[i]?).getD true,rfl,Walks.list (A:=X.A.in1) @fG _ a @fx its.toArray,
  ⟨⟨_,Heap.get?_push_size _ rfl,rfl,rfl⟩,W.push _⟩,λi v s' Q' Z L F=> ?_,λh' tk S=> ?_⟩
 ·obtain ⟨b,e,rfl⟩:=j.get i v (by simpa using L);simp only [e,Option.getD_some] at F;exact wpAny_truthy_bool F
 ·have e:((List.range its.toArray.size).all λi=>(bs[i]?).getD true)=bs.all id:=by
   rw [size_toArray,j.length];exact LSm.range_all bs
  rw [e];exact ⟨.bl _,H,I.kept (LSm.kept_iter S),rfl,q⟩
noncomputable def S9 (x:Str):It:=⟨λi _=>i<x.cps.size,λi H v H'=>H'=H/\∃c,x.cps[i]? =some c/\v= .str ⟨#[c]⟩,λi _=>x.cps.size<=i⟩
theorem vf {P:Program}{w:World}{K:Fg}{tg:Expr}{it:Addr}{x:Str}{t:Tok}{T:String}(Y:T="str_ascii_iterator"\/T="str_iterator"):
 Ad P w K tg (S9 x) [it] it (λi h=>i<=x.cps.size/\h.IsStrIter it T x t i) where
 mem:=by simp
 obj:=λi h st b j=>by
  have e:b=it:=by simpa using j
  subst e;obtain ⟨o,F,J,hd⟩:=st.2;exact ⟨o,F,λv z=>by rw [hd] at z;cases z⟩
 keep:=λi h h' st k=>⟨st.1,let ⟨o,F,r⟩:=st.2;⟨o,k it @e o F,r⟩⟩
 item:=by
  intro X O hw hK J i pins s σ H E I L st S;subst O hw hK;obtain ⟨Z,U,f2,f3,f4,f5⟩:=L it @e
  have W:Walks X.prog X.w X.A it [it] [it] x.cps.size (SignAt x) (λi h=>h.IsStrIter it T x t i):=by
   rcases Y with rfl|rfl
   ·exact Walks.strAscii @ez it x t
   ·exact Walks.strWide @ez it x t
  rwa[W.item i s _ _ S st.2 λv h' tk hv G kk=> ?_];obtain ⟨c,u,hx,rfl⟩:=hv;have I1:ay X pins σ H {s with heap:=h',toks:=tk}:=I.turned (λb o j e=>kk b o (by simpa using j) e) Z U f3 f4 f5;obtain ⟨o,F,R,hd⟩:=id G;exact ⟨_,rfl,zm (s:= {s with heap:=h',toks:=tk}) F R hd (by rcases Y with rfl|rfl<;>decide) ⟨.str ⟨#[c]⟩,H,I1,⟨_,rfl⟩,⟨rfl,c,hx,rfl⟩,⟨S,G⟩,λb j=>(L b j).1⟩⟩
 done:=by
  intro X O hw hK J i pins s σ H E I L st S;subst O hw hK;obtain ⟨Z,U,f2,f3,f4,f5⟩:=L it @e
  have W:Walks X.prog X.w X.A it [it] [it] x.cps.size (SignAt x) (λi h=>h.IsStrIter it T x t i):=by
   rcases Y with rfl|rfl
   ·exact Walks.strAscii @ez it x t
   ·exact Walks.strWide @ez it x t
  have e:i=x.cps.size:=Nat.le_antisymm st.1 S;subst e;exact W.done s _ _ st.2 λh' tk kk=>⟨rfl,I.turned (λb o j e=>kk b o (by simpa using j) e) Z U f3 f4 f5⟩
 self:=λA i s Q E st h=>by
  rcases Y with rfl|rfl
  ·exact wpAny_pyIter_striter_ascii st.2 h
  ·exact wpAny_pyIter_striter_wide st.2 h
theorem Kj {ts:List Str}:∀ {us:List Value},aO @dw us->∃l:List (Str×Tok),us=strValues l/\l.map (·.1)=ts:=by
 induction ts with
 |nil=>intro us r;rw [map_nil] at r;cases r;exact ⟨[],rfl,rfl⟩
 |cons b bs ih=>
  intro us r;rw [map_cons] at r
  cases r with
  |cons r1 r2=>
   obtain ⟨t,rfl⟩:=r1;obtain ⟨l,rfl,e⟩:=ih r2;exact ⟨(b,t)::l,rfl,by rw [map_cons,e]⟩
theorem Ij:Ao X "str.join" (λx xs H Q=>∃z a ts,x= .str z/\xs=[.ref a]/\aD X.K H a @dw/\(ts.toArray.foldl (· + ·.length+z.length) 0)<=sizeLine/\(Builtin.Str.glued z ts).length<=sizeLine/\Q (.str @cg) H):=by
 intro pins s σ H x xs v U Q I L R h;obtain ⟨z,a,ts,rfl,rfl,G,O,j,q⟩:=h;obtain ⟨t,rfl⟩:=L;obtain ⟨u,rfl,S⟩:=fW R;cases S;obtain ⟨its,J,pl,_⟩:=I.list G;obtain ⟨l,rfl,W⟩:=Kj J;rwa[call_meets F.slot_str_join @eO F.entry_str_join (F.args_str_join_2 _ _) (meets_str_join_list z t a l ?_) ⟨pl.isList,?_⟩]
 ·rw [W];exact sM O
 ·subst W
  cases l with
  |nil=>exact ⟨j,.str _,H,I.tok _,⟨_,rfl⟩,q⟩
  |cons p r=>
   cases r with
   |nil=>exact ⟨.str _,H,I,⟨p.2,rfl⟩,q⟩
   |cons p2 r=>exact ⟨j,.str _,H,I.tok _,⟨_,rfl⟩,q⟩
theorem ET:bi X (.type "int") (λxs H Q=>∃x n,xs=[.str x]/\PySem.intText? x=some n/\x.length<=640/\Q (.int n) H):=by
 intro pins s σ H xs z Q I r h;obtain ⟨x,n,rfl,F,j,q⟩:=h;obtain ⟨u,rfl,t,rfl⟩:=fW r;exact PySem.W.KIN.call_text F j ⟨.int n,H,I.tok _,⟨_,rfl⟩,q⟩
theorem Bp:dz X @fv (λx y H Q=>∃z n,x= .str z/\y= .int n/\1<n/\n<=1000/\0<z.length/\z.length<=1000/\Q (.str ⟨(List.replicate n.toNat z.cps).foldl (· ++ ·) #[]⟩) H):=by
 intro pins s σ H x y v u Q I L O h;obtain ⟨z,n,rfl,rfl,h1,h2,R,Y,q⟩:=h;obtain ⟨t,rfl⟩:=L;obtain ⟨S,rfl⟩:=O;have W:(z.length:Int)*n<=1000*1000:=Int.mul_le_mul @b h2 @b @c
 have U:z.length*n.toNat<=1000000:=by
  have e:((z.length*n.toNat:Nat):Int)=(z.length:Int)*n:=by rw [Int.natCast_mul,Int.toNat_of_nonneg @b]
  lia
 have hs:sizeLine=16777216:=sizeLine_eq;have F:(n==1)=false:=beq_eq_false_iff_ne.mpr @b;have G:(z.length==0)=false:=beq_eq_false_iff_ne.mpr @b;rwa[PySem.P.mul_str ?_ (λ_ _=> ?_) (λ_ _=>sM @b) ?_]
 ·rw [decide_eq_false @b,decide_eq_false @b];rfl
 ·have:=Int.le_ediv_of_mul_le (a:=(z.length:Int)) (b:=2^63 - 1) (c:=n) @b @b;lia
 ·rw [if_neg @b,F,G];rwa[⟨?_,.str _,H,I.tok _,⟨_,rfl⟩,q⟩];show ((List.replicate n.toNat z.cps).foldl (· ++ ·) #[]).size<=sizeLine
  have J:∀(k:Nat) (j:Array Nat),((List.replicate k z.cps).foldl (· ++ ·) j).size=j.size+z.length*k:=by
   intro k
   induction k with
   |zero=>intro j;simp
   |succ k ih=>
    intro j;rw [replicate_succ,foldl_cons,ih,Array.size_append,Nat.mul_succ];have e:z.cps.size=z.length:=rfl;lia
  rw [J];simp only [size_toArray,length_nil];lia
theorem Lz:Ao X "int.bit_length" (λx xs H Q=>∃i,x= .int i/\xs=[]/\Q (.int (Builtin.Int.intBits i)) H):=by
 intro pins s σ H x xs v F Q I z j h;obtain ⟨i,rfl,rfl,q⟩:=h;obtain ⟨t,rfl⟩:=z;cases j;exact call_int_bit_length ⟨.int _,H,I.tok _,⟨_,rfl⟩,q⟩
end
structure bp (P:Program)(w:World)(K:Fg)(mg:Str->Option Value)(base:Heap)(n:Nat)(x:Str)(ps:List Str)(sp:Sp):Prop where
 ex:∃f fd,ax P w K mg base aY n f fd ps sp/\fv K fd ps []/\W.keepIn K (.ref f)=true/\mg x=some (.ref f)
section
variable {X:Cx}{x:Str}{p pos:Pos}{e:Expr}{es:List Expr}{t:TA}{ps:List Str}{sp:Sp}{n m:Nat}
theorem RQ (c:bp X.prog X.w X.K X.mg X.base n x ps sp)(U:bY m X.A)(G:n<=m)(L:Gl X x)(J:PA X (e::es) t)(z:(x==("__debug__":Str))=false:=by decide)
(S:starEach (e::es) X.env=(false,eval e X.env)::starEach es X.env:=by rfl)(j:(backTo pos @w).any (·.1)=false:=by rfl):
 PE X (.Call (.Name x p) (e::es) [] pos) (vg sp [] E0 t):=by
 obtain ⟨f,fd,F,b,k,I⟩:=c.ex;exact CB (F.mono G) U L I k b .nil fH J z S j
end
noncomputable def ue (sc:Scope)(N:List Str)(scope:Scope)(N':List Str)(pk:List @z):Bool:=
 (scope.kind== .function)&&scope.names.all (λy=>y.2 != .cell)&&scope.names.all (λy=> !(y.2== .local)||scope.names.lookup y.1==some .local)&&
 scope.names.all (λy=> !(y.2== .free)||((sc.names.lookup y.1==some .cell||sc.names.lookup y.1==some .free)&&scope.names.lookup y.1 != some .local))&&
 (pk.length==N'.length)&&(List.range pk.length).all λj=>match pk[j]?,N'[j]? with
   |some (some i),some x=>N[i]? ==some x&&scope.names.contains (x,NameKind.free)
   |_,_=>true
theorem aC {X:Cx}{scope:Scope}{N':List Str}{pk:List @z}(h:ue X.env.scope X.N scope N' pk=true):cB X scope N' pk:=by
 unfold ue at h;simp only [Bool.and_eq_true] at h;obtain ⟨⟨⟨⟨⟨h1,h2⟩,I⟩,G⟩,W⟩,L⟩:=h;rwa[⟨by simpa using h1,λy S=> ?_,λy S J=> ?_,λn F=> ?_,λn F=> ?_,by simpa using W,λj i x e1 e2=> ?_⟩]
 ·have:=all_eq_true.mp h2 y S;simpa using this
 ·have:=all_eq_true.mp I y S;rw [J] at this;simpa using this
 ·have:=all_eq_true.mp G _ F;simp only [beq_self_eq_true,Bool.not_true,Bool.false_or,Bool.and_eq_true,Bool.or_eq_true] at this
  rcases this.1 with z|z
  ·exact .inl (show X.env.scope.names.lookup n=_ by simpa using z)
  ·exact .inr (show X.env.scope.names.lookup n=_ by simpa using z)
 ·have:=all_eq_true.mp G _ F;simp only [beq_self_eq_true,Bool.not_true,Bool.false_or,Bool.and_eq_true,Bool.or_eq_true] at this;simpa using this.2
 ·have R:j<pk.length:=(List.getElem?_eq_some_iff.mp e1).1;have:=all_eq_true.mp L j (mem_range.mpr R);rw [e1,e2] at this;simp only [Bool.and_eq_true] at this;exact ⟨by simpa using this.1,by simpa using this.2⟩
section
variable {X:Cx}
theorem EQ:bi X (.builtin "len") (λxs H Q=>∃x,xs=[x]/\((∃z,x= .str z/\z.length<=sizeLine/\Q (.int z.length) H)\/∃p,x= .ref p/\∃ys,(aD X.K H p ys\/aK X.K H p ys)/\Q (.int ys.length) H)):=by
 intro pins s σ H xs j Q I r h;obtain ⟨x,rfl,h⟩:=h
 rcases h with ⟨z,rfl,F,q⟩|⟨p,rfl,ys,G,q⟩
 ·exact xH pins s σ H _ j Q I r ⟨z,rfl,F,q⟩
 ·exact xI pins s σ H _ j Q I r ⟨p,ys,rfl,G,q⟩
def RH (K:Fg):R2:=λx y H Q=>∃i,y= .int i/\((∃z,x= .str z/\z.length<=sizeLine/\∃c,uy z.cps.toList i=some c/\Q (.str ⟨#[c]⟩) H)\/∃p,x= .ref p/\∃xs,(aD K H p xs\/aK K H p xs)/\∃v,uy xs i=some v/\Q v H)
theorem PY:E9 X (RH X.K):=by
 intro value J pins s σ H x y v u Q I j L h hs;obtain ⟨i,rfl,h⟩:=h
 rcases h with ⟨z,rfl,O,c,R,q⟩|⟨p,rfl,xs,G|G,F,U,q⟩
 ·exact PV value J pins s σ H _ _ v u Q I j L ⟨z,i,c,rfl,rfl,O,R,q⟩ hs
 ·exact LJ value J pins s σ H _ _ v u Q I j L ⟨p,xs,i,F,rfl,rfl,G,U,q⟩ hs
 ·exact PU value J pins s σ H _ _ v u Q I j L ⟨p,xs,i,F,rfl,rfl,G,U,q⟩ hs
theorem Jv {ns:List Int}{k:Int}(I:0<=k)(h1:k<ns.length):uy @U k=some (.int (ns.getD k.toNat 0)):=by
 obtain ⟨j,rfl⟩:=Int.eq_ofNat_of_zero_le I;rwa[bx ?_]
 have R:j<ns.length:=by lia
 rw [getElem?_map,getElem?_eq_getElem R];simp [List.getD,getElem?_eq_getElem R]
def ug (J:It)(pk:List @z)(g:TG)(tt:TT)(te:TE)(σ:St)(H:Hp)(Q:VK):Prop:=∃W:Nat->Nat->List V->Hp->Prop,(∃m,W 0 m [] H)/\∀i m ys H,W i m ys H->
 (J.stop i H/\ys.length<=sizeLine/\∀p,H p=none->Q (.ref p) @O)\/
 (J.go i H/\ys.length<sizeLine/\∃N:List V->Hp->Prop,(∀zs H',N zs H'->∃m',m'<m/\W (i+1) m' zs H')/\∀x H',J.yld i H x H'->g x @E H' λσ2 H2=>vO @E σ2/\tt σ2 H2 λb H3=>
   if b=true then te σ2 H3 λv H4=>N (ys++[v]) H4 else N ys H3)
def BY (J:It)(g:TG)(tb:TS)(D:lQ)(σ:St)(H:Hp):Prop:=∃W:Nat->Nat->St->Hp->Prop,(∃m,W 0 m σ H)/\∀i m σ H,W i m σ H->
 (J.stop i H/\D.nx σ H)\/(J.go i H/\∃N:St->Hp->Prop,(∀σ' H',N σ' H'->∃m',m'<m/\W (i+1) m' σ' H')/\∀x H',J.yld i H x H'->g x σ H' λσ2 H2=>tb {D with nx:=N,ct:=N,bk:=D.nx} σ2 H2)
section
variable {K:Fg}{a:Addr}{xs:List V}{g:TG}{tb:TS}{D:lQ}{σ:St}{H:Hp}
theorem bS (j:Nat->St->Hp->Prop)(I:j 0 σ H)(W:∀i σ H,i<=xs.length->j i σ H->aD K H a xs)
(hs:∀i x σ H,xs[i]? =some x->j i σ H->g x σ H λσ2 H2=>tb {D with nx:=j (i+1),ct:=j (i+1),bk:=D.nx} σ2 H2)(G:∀σ H,j xs.length σ H->D.nx σ H):BY @hj g tb D σ H:=IT j I W hs G
theorem IU (j:Nat->St->Hp->Prop)(I:j 0 σ H)(W:∀i σ H,i<=xs.length->j i σ H->aK K H a xs)
(hs:∀i x σ H,xs[i]? =some x->j i σ H->g x σ H λσ2 H2=>tb {D with nx:=j (i+1),ct:=j (i+1),bk:=D.nx} σ2 H2)(G:∀σ H,j xs.length σ H->D.nx σ H):BY @hk g tb D σ H:=LW j I W hs G
theorem cL {lo:Int}{n:Nat}(j:Nat->St->Hp->Prop)(I:j 0 σ H)
(hs:∀i σ H,i<n->j i σ H->g (.int (lo+i)) σ H λσ2 H2=>tb {D with nx:=j (i+1),ct:=j (i+1),bk:=D.nx} σ2 H2)(G:∀σ H,j n σ H->D.nx σ H):BY @hf g tb D σ H:=EE j I hs G
end
theorem eK {lo:Int}{n:Nat}{pk:List @z}{g:TG}{tt:TT}{te:TE}{σ:St}{H:Hp}{Q:VK}(j:Nat->List V->Hp->Prop)(L:n<=sizeLine)(F:∀i ys H,j i ys H->ys.length<=i)(I:j 0 [] H)
(hs:∀i ys H,i<n->j i ys H->g (.int (lo+i)) @E H λσ2 H2=>vO @E σ2/\tt σ2 H2 λb H3=>if b=true then te σ2 H3 λv H4=>j (i+1) (ys++[v]) H4 else j (i+1) ys H3)
(G:∀ys H,j (n) ys H->∀p,H p=none->Q (.ref p) @O):
 ug @hf pk g tt te σ H Q:=by
 rwa[⟨λi m ys H=>m=n - i/\i<=n/\j i ys H,⟨n,by simp,Nat.zero_le _,I⟩,?_⟩];rintro i m ys H ⟨rfl,hi,p⟩;have W:=F _ _ _ p;by_cases z:i<n
 ·rwa[.inr ⟨z,by lia,j (i+1),λzs H' J=>⟨n - (i+1),by lia,rfl,z,J⟩,λx H' y=> ?_⟩];obtain ⟨e,y⟩:=y;subst e y;exact hs i ys _ z p
 ·have e:i=n:=by lia
  subst e;exact .inl ⟨Nat.le_refl _,by lia,G ys H p⟩
theorem bI {K:Fg}{a:Addr}{xs:List V}{pk:List @z}{g:TG}{tt:TT}{te:TE}{σ:St}{H:Hp}{Q:VK}(j:Nat->List V->Hp->Prop)(O:xs.length<=sizeLine)(F:∀i ys H,j i ys H->ys.length<=i)(I:j 0 [] H)(G:∀i ys H,i<=xs.length->j i ys H->aD K H a xs)
(hs:∀i x ys H,xs[i]? =some x->j i ys H->g x @E H λσ2 H2=>vO @E σ2/\tt σ2 H2 λb H3=>if b=true then te σ2 H3 λv H4=>j (i+1) (ys++[v]) H4 else j (i+1) ys H3)
(L:∀ys H,j @gP ys H->∀p,H p=none->Q (.ref p) @O):
 ug @hj pk g tt te σ H Q:=by
 rwa[⟨λi m ys H=>m=xs.length - i/\i<=xs.length/\j i ys H,⟨xs.length,by simp,Nat.zero_le _,I⟩,?_⟩];rintro i m ys H ⟨rfl,hi,p⟩;have W:=F _ _ _ p;by_cases z:i<xs.length
 ·rwa[.inr ⟨⟨xs,xs[i],G i ys H hi p,by simp [z]⟩,by lia,j (i+1),λzs H' J=>⟨xs.length - (i+1),by lia,rfl,z,J⟩,λx H' y=> ?_⟩];obtain ⟨e,y⟩:=y;subst e;exact hs i x ys _ (y xs (G i ys _ hi p)) p
 ·have e:i=xs.length:=by lia
  subst e;exact .inl ⟨⟨xs,G _ ys H @f p,Nat.le_refl _⟩,by lia,L ys H p⟩
theorem fM {K:Fg}{a:Addr}{xs:List V}{pk:List @z}{g:TG}{tt:TT}{te:TE}{σ:St}{H:Hp}{Q:VK}(j:Nat->List V->Hp->Prop)(O:xs.length<=sizeLine)(F:∀i ys H,j i ys H->ys.length<=i)(I:j 0 [] H)(G:∀i ys H,i<=xs.length->j i ys H->aK K H a xs)
(hs:∀i x ys H,xs[i]? =some x->j i ys H->g x @E H λσ2 H2=>vO @E σ2/\tt σ2 H2 λb H3=>if b=true then te σ2 H3 λv H4=>j (i+1) (ys++[v]) H4 else j (i+1) ys H3)
(L:∀ys H,j @gP ys H->∀p,H p=none->Q (.ref p) @O):
 ug @hk pk g tt te σ H Q:=by
 rwa[⟨λi m ys H=>m=xs.length - i/\i<=xs.length/\j i ys H,⟨xs.length,by simp,Nat.zero_le _,I⟩,?_⟩];rintro i m ys H ⟨rfl,hi,p⟩;have W:=F _ _ _ p;by_cases z:i<xs.length
 ·rwa[.inr ⟨⟨xs,xs[i],G i ys H hi p,by simp [z]⟩,by lia,j (i+1),λzs H' J=>⟨xs.length - (i+1),by lia,rfl,z,J⟩,λx H' y=> ?_⟩];obtain ⟨e,y⟩:=y;subst e;exact hs i x ys _ (y xs (G i ys _ hi p)) p
 ·have e:i=xs.length:=by lia
  subst e;exact .inl ⟨⟨xs,G _ ys H @f p,Nat.le_refl _⟩,by lia,L ys H p⟩
theorem zL {z:Str}{pk:List @z}{g:TG}{tt:TT}{te:TE}{σ:St}{H:Hp}{Q:VK}(j:Nat->List V->Hp->Prop)(R:z.cps.size<=sizeLine)(F:∀i ys H,j i ys H->ys.length<=i)(I:j 0 [] H)
(hs:∀i c ys H,z.cps[i]? =some c->j i ys H->g (.str ⟨#[c]⟩) @E H λσ2 H2=>vO @E σ2/\tt σ2 H2 λb H3=>if b=true then te σ2 H3 λv H4=>j (i+1) (ys++[v]) H4 else j (i+1) ys H3)
(O:∀ys H,j (z.cps.size) ys H->∀p,H p=none->Q (.ref p) @O):
 ug (S9 z) pk g tt te σ H Q:=by
 rwa[⟨λi m ys H=>m=z.cps.size - i/\i<=z.cps.size/\j i ys H,⟨z.cps.size,by simp,Nat.zero_le _,I⟩,?_⟩];rintro i m ys H ⟨rfl,hi,p⟩;have W:=F _ _ _ p;by_cases G:i<z.cps.size
 ·rwa[.inr ⟨G,by lia,j (i+1),λzs H' J=>⟨z.cps.size - (i+1),by lia,rfl,G,J⟩,λx H' y=> ?_⟩];obtain ⟨e,c,L,U⟩:=y;subst e U;exact hs i c ys _ L p
 ·have e:i=z.cps.size:=by lia
  subst e;exact .inl ⟨Nat.le_refl _,by lia,O ys H p⟩
end
section
variable {X:Cx}{K:Fg}
theorem Bq (S:X.K=K):dz X @ec (Tj K false):=S▸D4
theorem uY (S:X.K=K):dz X @dq (Tj K true):=S▸w5
theorem LK (S:X.K=K):E9 X (RH K):=S▸PY
def RG (K:Fg):List V->Hp->VK->Prop:=λxs H Q=>∃x,xs=[x]/\((∃z,x= .str z/\z.length<=sizeLine/\Q (.int z.length) H)\/∃p,x= .ref p/\∃ys,(aD K H p ys\/aK K H p ys)/\Q (.int ys.length) H)
theorem ER (S:X.K=K):bi X (.builtin "len") (RG K):=S▸EQ
def RI (K:Fg):List V->Hp->VK->Prop:=λxs H Q=>∃x c cv t b,xs=[x,c]/\cV c=some cv/\j4 K H x t/\W.kitOne K t cv=some b/\Q (.bl b) H
theorem ES (S:X.K=K):bi X (.builtin "isinstance") (RI K):=S▸zP
def RL (K:Fg):List V->Hp->VK->Prop:=λxs H Q=>∃(a:Addr) (bs:List Bool),xs=[.ref a]/\aD K H a @bh/\Q (.bl @gO) H
theorem EX (S:X.K=K)(J:X.calm=true):bi X (.builtin "all") (RL K):=S▸EY J
def KH (K:Fg):List V->Hp->VK->Prop:=λxs H Q=>∃p ys,xs=[.ref p]/\(aD K H p ys\/aK K H p ys)/\∀l,H l=none->Q (.ref l) @cd
theorem B5 (S:X.K=K):bi X (.type "list") (KH K):=S▸xG
def GV (K:Fg):List V->Hp->VK->Prop:=λxs H Q=>∃p ys,xs=[.ref p]/\((aD K H p ys/\∀l,H l=none->Q (.ref l) @cQ)\/(aK K H p ys/\Q (.ref p) H))
theorem zO (S:X.K=K):bi X (.type "tuple") (GV K):=S▸u6
def OJ (K:Fg):V->List V->Hp->VK->Prop:=λx xs H Q=>∃z a ts,x= .str z/\xs=[.ref a]/\aD K H a @dw/\(ts.toArray.foldl (· + ·.length+z.length) 0)<=sizeLine/\(Builtin.Str.glued z ts).length<=sizeLine/\Q (.str @cg) H
theorem Ik (S:X.K=K):Ao X "str.join" (OJ K):=S▸Ij
theorem KR (S:X.K=K){es:List Expr}{k:Nat}{t:Di}{n:Nat}{pos:Pos}(J:X.calm=true)(h:E6 X es t)
(F:(assignEach es X.env).length=n:=by rfl)(j:(assignEach es X.env).findIdx? (·.1)=none:=by rfl):PG X (.Tuple es k pos) (SA K n t):=S▸OP J h F j
end
theorem vO.refl (σ:St):vO σ σ:=⟨rfl,λ_ _ h=>h⟩
theorem vO.cons {σ j:St}{o o':Option V}(h:o=none\/o=o')(s:vO σ j):vO (o::σ) (o'::j):=by
 rwa[⟨by simp [s.1],λi v e=> ?_⟩]
 cases i with
 |zero=>
  rcases h with rfl|rfl
  ·exact nomatch (show (none:Option V)=some v from Option.some.inj e)
  ·exact e
 |succ i=>exact s.2 i v (by simpa using e)
theorem Rz {σ:St}{x:V}:vO (none::σ) (some x::σ):= .cons (.inl rfl) (.refl _)
noncomputable def bu:Expr->Bool
 | .Starred _ _=>false
 |_=>true
theorem aP {e:Expr}{es:List Expr}{env:Env}(h:bu e=true):starEach (e::es) env=(false,eval e env)::starEach es env:=by
 cases e<;>first|rfl|cases h
noncomputable def aG:List Expr->Bool
 |[]=>true
 |e::es=>bu e&&aG es
theorem br {pos:Pos}{env:Env}:∀ {es:List Expr},aG es=true->(backTo pos @bX).any (·.1)=false
 |[],_=>rfl
 |e::es,h=>by
  have h':(bu e&&aG es)=true:=h;rw [Bool.and_eq_true] at h';rw [aP h'.1];show (false||(backTo pos @bX).any (·.1))=false;rw [br h'.2];rfl
theorem oM {pos:Pos}{env:Env}:∀ {es:List Expr},aG es=true->(backTo pos @bX).all (λx=> !x.1)=true
 |[],_=>rfl
 |e::es,h=>by
  have h':(bu e&&aG es)=true:=h;rw [Bool.and_eq_true] at h';rw [aP h'.1];show (true&&(backTo pos @bX).all (λx=> !x.1))=true;rw [oM h'.2];rfl
noncomputable def d5:Expr->Bool
 | .Call _ [] [] _=>false
 |_=>true
theorem ux {o:Expr}{name:Str}{env:Env}{z:Sem Value}(h:d5 o=true):attributeBase o name env z=z:=by
 unfold attributeBase;split
 ·cases h
 ·rfl
noncomputable def vm:Expr->Bool
 | .UnaryOp _ _ _=>false
 | .BoolOp _ _ _=>false
 | .IfExp _ _ _ _=>false
 | .Compare _ _ _ _=>false
 |_=>true
theorem IE {e:Expr}{env:Env}{z:Sem Value}(h:vm e=true):isTrue e env z=(do let v<-z;standAt e.pos;holding [v] (truthy v)):=by
 cases e<;>first|rfl|cases h
section
variable {X:Cx}{K:Fg}{x:Str}{p pos apos cpos:Pos}{e o a:Expr}{es:List Expr}{t:TA}{te to ta:TE}{ps:List Str}{sp:Sp}{n m:Nat}{id T:String}{r:List V->Hp->VK->Prop}{name:Str}{rm:V->List V->Hp->VK->Prop}
theorem ao (j:PE X e te)(U:PA X es t)(hs:bu e=true:=by rfl):PA X (e::es) (MU te t):=KY j U (aP hs)
theorem b3 (c:bp X.prog X.w X.K X.mg X.base n x ps sp)(U:bY m X.A)(F:n<=m)(S:Gl X x)(j:PA X (e::es) t)(z:(x==("__debug__":Str))=false:=by decide)(G:aG (e::es)=true:=by rfl):
 PE X (.Call (.Name x p) (e::es) [] pos) (vg sp [] E0 t):=by
 have h':(bu e&&aG es)=true:=G;rw [Bool.and_eq_true] at h';exact RQ c U F S j z @cY @cZ
theorem aN (J:bi X (.builtin id) r)(S:Gl X x)(j:X.mg x=none)(U:bootBuiltins x=some (.builtin id))(I:PA X (e::es) t)(F:x≠"__name__":=by decide)(z:(x==("__debug__":Str))=false:=by decide)
(G:aG (e::es)=true:=by rfl):PE X (.Call (.Name x p) (e::es) [] pos) (Tg r t):=by
 have h':(bu e&&aG es)=true:=G;rw [Bool.and_eq_true] at h';exact Ha J S j U I F z @cY @cZ
theorem aV (J:bi X (.type T) r)(S:Gl X x)(j:X.mg x=none)(U:bootBuiltins x=some (.type T))(I:PA X (e::es) t)(F:x≠"__name__":=by decide)(z:(x==("__debug__":Str))=false:=by decide)
(G:aG (e::es)=true:=by rfl):PE X (.Call (.Name x p) (e::es) [] pos) (Tg r t):=by
 have h':(bu e&&aG es)=true:=G;rw [Bool.and_eq_true] at h';exact D2 J S j U I F z @cY @cZ
end
def vv (b:Bool)(A B:Prop):Prop:=if b=true then A else B
theorem xj {b:Bool}{A B:Prop}(h1:b=true->A)(h2:b=false->B):vv b A B:=by
 cases b with
 |true=>exact h1 rfl
 |false=>exact h2 rfl
theorem b6 {b:Bool}{A B:Prop}(e:b=true)(h:A):vv b A B:=by subst e;exact h
theorem bG {b:Bool}{A B:Prop}(e:b=false)(h:B):vv b A B:=by subst e;exact h
theorem fD {c:Prop}[Decidable c]{A B:Prop}(h1:c->A)(h2: ¬c->B):vv (decide c) A B:=xj (λh=>h1 (of_decide_eq_true h)) (λh=>h2 (of_decide_eq_false h))
theorem oX {c:Prop}[Decidable c]{A B:Prop}(J:c)(h:A):vv (decide c) A B:=b6 (decide_eq_true J) h
theorem fI {c:Prop}[Decidable c]{A B:Prop}(J: ¬c)(h:B):vv (decide c) A B:=bG (decide_eq_false J) h
theorem UM {c:Prop}[Decidable c]{A B:Prop}(h1: ¬c->A)(h2:c->B):vv (!decide c) A B:=by
 by_cases h:c
 ·rw [decide_eq_true h];exact bG rfl (h2 h)
 ·rw [decide_eq_false h];exact b6 rfl (h1 h)
theorem PE.imp {X:Cx}{e:Expr}{t t':TE}(h:PE X e t)(i:∀σ H Q,t' σ H Q->t σ H Q):PE X e t':=λpins s σ H Q I q=>h pins s σ H Q I (i σ H Q q)
theorem dz.imp {X:Cx}{f:Value->Value->Sem Value}{r R:R2}(h:dz X f r)(i:∀x y H Q,R x y H Q->r x y H Q):dz X f R:=λpins s σ H x y v u Q I z L q=>h pins s σ H x y v u Q I z L @gk
theorem E9.imp {X:Cx}{r R:R2}(h:E9 X r)(i:∀x y H Q,R x y H Q->r x y H Q):E9 X R:=λvalue J pins s σ H x y v u Q I z L q=>h value J pins s σ H x y v u Q I z L @gk
theorem bi.imp {X:Cx}{f:Value}{r R:List V->Hp->VK->Prop}(h:bi X f r)(i:∀xs H Q,R xs H Q->r xs H Q):bi X f R:=λpins s σ H xs j Q I z q=>h pins s σ H xs j Q I z (i _ _ _ q)
theorem Ao.imp {X:Cx}{id:String}{r R:V->List V->Hp->VK->Prop}(h:Ao X id r)(i:∀x xs H Q,R x xs H Q->r x xs H Q):Ao X id R:=λpins s σ H x xs v j Q I z F q=>h pins s σ H x xs v j Q I z F @gk
def NM (i:Nat):TE:=λσ H Q=>match σ[i]? with|some @bG=>Q v H|_=>False
theorem wv {X:Cx}(i:Nat){x:Str}{pos:Pos}(z:X.N[i]? =some x:=by rfl)(U:SW X.env.scope x:=by first|exact Or.inl rfl|exact Or.inr @n|exact Or.inr @fo)(G:(x==("__debug__":Str))=false:=by decide)
(F:(x==("__classdict__":Str))=false:=by decide):PE X (.Name x pos) (NM i):=
 (G5 z U G F).imp λσ H Q h=>by
   unfold NM at h
   cases e:σ[i]? with
   |none=>rw [e] at h;exact h.elim
   |some o=>
    cases o with
    |none=>rw [e] at h;exact h.elim
    |some v=>rw [e] at h;exact ⟨v,e,h⟩
def wI (g:Int->Int->V):R2:=λx y H Q=>match x,y with| .int i,.int j=>Q @cV H|_,_=>False
def wC (C:Int->Int->Prop)(g:Int->Int->V):R2:=λx y H Q=>match x,y with| .int i,.int j=>C i j/\Q @cV H|_,_=>False
theorem kJ {g:Int->Int->V}:∀x y H Q,wI g x y H Q->GW g x y H Q:=λx y H Q h=>by
 cases x with
 |int i=>cases y with
  |int j=>exact ⟨i,j,rfl,rfl,h⟩
  |_=>exact False.elim h
 |_=>exact False.elim h
theorem vY {C:Int->Int->Prop}{g:Int->Int->V}:∀x y H Q,wC C g x y H Q->rI C g x y H Q:=λx y H Q h=>by
 cases x with
 |int i=>cases y with
  |int j=>exact ⟨i,j,rfl,rfl,h⟩
  |_=>exact False.elim h
 |_=>exact False.elim h
section
variable {X:Cx}{K:Fg}
theorem Cj:dz X (binaryOp .Sub) (wI λi j=> .int (i - j)):=OW.imp kJ
theorem NK:dz X (binaryOp .FloorDiv) (wC E7 λi j=> .int (i / j)):=KZ.imp vY
def T4:R2:=λx y H Q=>match x,y with| .int i,.int j=>0<j/\Q (.int (i% j)) H|_,_=>False
theorem QP:dz X (binaryOp .Mod) T4:=O0.imp λx y H Q h=>vY (C:=λ_ j=>0<j) (g:=λi j=> .int (i% j)) x y H Q (by
 cases x with
 |int i=>cases y with
  |int j=>exact h
  |_=>exact False.elim h
 |_=>exact False.elim h)
theorem QN:dz X (binaryOp .Pow) (wC Ch λi j=> .int (i^j.toNat)):=OY.imp vY
theorem QM:dz X (binaryOp .LShift) (wC Ch λi j=> .int (i*2^j.toNat)):=OX.imp vY
theorem QW:dz X (binaryOp .BitAnd) (wI λi j=> .int (Builtin.bitAnd i j)):=O3.imp kJ
theorem TM:dz X (binaryOp .BitOr) (wI λi j=> .int (Builtin.bitOr i j)):=RS.imp kJ
theorem w_lt:dz X (compareOp .Lt) (wI λi j=> .bl (decide (i<j))):=RU.imp kJ
theorem yi:dz X (compareOp .LtE) (wI λi j=> .bl (decide (i<=j))):=RV.imp kJ
theorem QU:dz X (compareOp .Gt) (wI λi j=> .bl (decide (j<i))):=RW.imp kJ
theorem QV:dz X (compareOp .GtE) (wI λi j=> .bl (decide (j<=i))):=RX.imp kJ
def Mm (p q:Addr)(H:Hp)(Q:VK):Prop:=∃xs ys,H p=some (.lst xs)/\H q=some (.lst ys)/\xs.length+ys.length<=sizeLine/\∀l,H l=none->Q (.ref l) (upd H l (.lst (xs++ys)))
def Uf:R2:=λx y H Q=>match x,y with
 | .int i,.int j=>Q (.int (i+j)) H
 | .str a,.str b=>a.length+b.length<=sizeLine/\Q (.str (a++b)) H
 | .ref p,.ref q=>Mm p q H Q
 |_,_=>False
theorem QX:dz X @bB Uf:=(O4.or (Br.or O2)).imp λx y H Q h=>by
 cases x with
 |int i=>cases y with
  |int j=>exact .inl ⟨i,j,rfl,rfl,h⟩
  |_=>exact False.elim h
 |str a=>cases y with
  |str b=>exact .inr (.inl ⟨a,b,rfl,rfl,h⟩)
  |_=>exact False.elim h
 |ref p=>cases y with
  |ref q=>obtain ⟨xs,ys,h1,h2,G,z⟩:=h;exact .inr (.inr ⟨p,q,xs,ys,rfl,rfl,h1,h2,G,z⟩)
  |_=>exact False.elim h
 |_=>exact False.elim h
def T3:R2:=λx y H Q=>match x,y with
 | .int i,.int j=>uF i j/\Q (.int (i*j)) H
 | .str z,.int n=>(1<n/\n<=1000/\0<z.length/\z.length<=1000)/\Q (.str ⟨(List.replicate n.toNat z.cps).foldl (· ++ ·) #[]⟩) H
 |_,_=>False
theorem QO:dz X @fv T3:=(OZ.or Bp).imp λx y H Q h=>by
 cases x with
 |int i=>cases y with
  |int j=>exact .inl ⟨i,j,rfl,rfl,h⟩
  |_=>exact False.elim h
 |str z=>cases y with
  |int n=>exact .inr ⟨z,n,rfl,rfl,h.1.1,h.1.2.1,h.1.2.2.1,h.1.2.2.2,h.2⟩
  |_=>exact False.elim h
 |_=>exact False.elim h
def T2:V->Hp->VK->Prop:=λx H Q=>match x with| .int i=>Q (.int (-i)) H|_=>False
theorem FA:Qu X (unaryOp .USub) T2:=λpins s σ H x v Q I z h=>by
 cases x with
 |int i=>exact NW pins s σ H _ v Q I z ⟨i,rfl,h⟩
 |_=>exact False.elim h
noncomputable def SI:V->V->Option Bool
 | .non,.non=>some true
 | .int i,.int j=>some (decide (i=j))
 | .str a,.str b=>some (decide (a=b))
 | .bl a,.bl b=>some (decide (a=b))
 | .non,.int _=>some false| .int _,.non=>some false| .non,.str _=>some false| .str _,.non=>some false| .non,.bl _=>some false| .bl _,.non=>some false
 | .int _,.str _=>some false| .str _,.int _=>some false| .bl _,.str _=>some false| .str _,.bl _=>some false
 |_,_=>none
theorem IX {x y:V}{b:Bool}(h:SI x y=some b):Ou x y=true/\decide (x=y)=b:=by
 cases x<;>cases y<;>first|cases h|skip
 all_goals first
  |exact ⟨rfl,by simp⟩
  |(refine ⟨rfl,?_⟩;simp)
def T6 (neg:Bool):R2:=λx y H Q=>match y with
 | .non=>(match x with| .non=>Q (.bl (!neg)) H|_=>Q (.bl neg) H)
 |_=>False
theorem MM:dz X (compareOp .Is) (T6 false):=O1.imp λx y H Q h=>by
 cases y with
 |non=>cases x<;>exact ⟨rfl,h⟩
 |_=>exact False.elim h
def rE (K:Fg)(neg:Bool)(x:V)(p:Addr)(H:Hp)(Q:VK):Prop:=∃xs,(aD K H p xs\/aK K H p xs)/\c4 x=true/\xs.all c4=true/\Q (.bl (if neg then !xi x xs else xi x xs)) H
noncomputable def iF (a b:Str):Bool:= !(Builtin.Str.occurrences b a 0 b.length 1).isEmpty
def T8 (K:Fg)(neg:Bool):R2:=λx y H Q=>match y with
 | .str b=>(match x with| .str a=>Q (.bl (if neg then !iF a b else iF a b)) H|_=>False)
 | .ref p=>rE K neg x p H Q
 |_=>False
theorem QT (S:X.K=K):dz X @ec (T8 K false):=(D3.or (Bq S)).imp λx y H Q h=>by
 cases y with
 |str b=>cases x with
  |str a=>exact .inl ⟨a,b,rfl,rfl,h⟩
  |_=>exact False.elim h
 |ref p=>obtain ⟨xs,h1,h2,G,j⟩:=h;exact .inr ⟨p,xs,rfl,h1,h2,G,j⟩
 |_=>exact False.elim h
theorem qH (S:X.K=K):dz X @dq (T8 K true):=(w4.or (uY S)).imp λx y H Q h=>by
 cases y with
 |str b=>cases x with
  |str a=>exact .inl ⟨a,b,rfl,rfl,h⟩
  |_=>exact False.elim h
 |ref p=>obtain ⟨xs,h1,h2,G,j⟩:=h;exact .inr ⟨p,xs,rfl,h1,h2,G,j⟩
 |_=>exact False.elim h
def pK (K:Fg)(p:Addr)(i:Int)(H:Hp)(Q:VK):Prop:=∃xs,(aD K H p xs\/aK K H p xs)/\∃v,uy xs i=some v/\Q v H
def wq (z:Str)(i:Int)(H:Hp)(Q:VK):Prop:=z.length<=sizeLine/\∃c,uy z.cps.toList i=some c/\Q (.str ⟨#[c]⟩) H
def U7 (K:Fg):R2:=λx y H Q=>match x,y with
 | .str z,.int i=>wq z i H Q
 | .ref p,.int i=>pK K p i H Q
 |_,_=>False
theorem yj (S:X.K=K):E9 X (U7 K):=(LK S).imp λx y H Q h=>by
 cases x with
 |str z=>cases y with
  |int i=>obtain ⟨h1,h2⟩:=h;exact ⟨i,rfl,.inl ⟨z,rfl,h1,h2⟩⟩
  |_=>exact False.elim h
 |ref p=>cases y with
  |int i=>obtain ⟨xs,h1,h2⟩:=h;exact ⟨i,rfl,.inr ⟨p,rfl,xs,h1,h2⟩⟩
  |_=>exact False.elim h
 |_=>exact False.elim h
def jf (K:Fg)(p:Addr)(H:Hp)(Q:VK):Prop:=∃ys,(aD K H p ys\/aK K H p ys)/\Q (.int ys.length) H
def T5 (K:Fg):List V->Hp->VK->Prop:=λxs H Q=>match xs with
 |[.str z]=>z.length<=sizeLine/\Q (.int z.length) H
 |[.ref p]=>jf K p H Q
 |_=>False
theorem QQ (S:X.K=K):bi X (.builtin "len") (T5 K):=(ER S).imp λxs H Q h=>by
 match xs,h with
 |[.str z],h=>exact ⟨_,rfl,.inl ⟨z,rfl,h⟩⟩
 |[.ref p],h=>exact ⟨_,rfl,.inr ⟨p,rfl,h⟩⟩
def CQ (x:Str)(H:Hp)(Q:VK):Prop:=∃n,PySem.intText? x=some n/\x.length<=640/\Q (.int n) H
def T7:List V->Hp->VK->Prop:=λxs H Q=>match xs with
 |[.int i]=>Q (.int i) H
 |[.bl k]=>Q (.int (if k then 1 else 0)) H
 |[.str x]=>CQ x H Q
 |_=>False
theorem QS:bi X (.type "int") T7:=(EU.or ET).imp λxs H Q h=>by
 match xs,h with
 |[.int i],h=>exact .inl (.inl ⟨i,rfl,h⟩)
 |[.bl k],h=>exact .inl (.inr ⟨k,rfl,h⟩)
 |[.str x],h=>obtain ⟨n,h1,h2,G⟩:=h;exact .inr ⟨x,n,rfl,h1,h2,G⟩
noncomputable def LL:V->String->Option Bool
 | .non,T=>some (T=="NoneType")
 | .bl _,T=>some (T=="bool"||T=="int")
 | .int _,T=>some (T=="int")
 | .str _,T=>some (T=="str")
 |_,_=>none
def lC (K:Fg)(x c:V)(H:Hp)(Q:VK):Prop:=∃cv t b,cV c=some cv/\j4 K H x t/\W.kitOne K t cv=some b/\Q (.bl b) H
noncomputable def wX (T:String):Bool:=T=="int"||T=="str"||T=="bool"||T=="list"||T=="tuple"||T=="dict"
def NQ (K:Fg):List V->Hp->VK->Prop:=λxs H Q=>match xs with
 |[x,.ty T]=>(match LL x T with|some b=>wX T=true/\Q (.bl b) H|none=>lC K x (.ty T) H Q)
 |[x,c]=>lC K x c H Q
 |_=>False
end
theorem Ev {K:Fg}{H:Hp}{x:V}{T:String}{b:Bool}(h:LL x T=some b)(G:wX T=true):∃t,j4 K H x t/\W.kitOne K t (.type T)=some b:=by
 have J:T="int"\/T="str"\/T="bool"\/T="list"\/T="tuple"\/T="dict":=by
  unfold wX at G;simp only [Bool.or_eq_true,beq_iff_eq] at G
  rcases G with ((((h|h)|h)|h)|h)|h<;>simp [h]
 cases x with
 |non=>refine ⟨_,.non,?_⟩;rcases J with rfl|rfl|rfl|rfl|rfl|rfl<;>(cases h;rfl)
 |bl y=>refine ⟨_,.bl y,?_⟩;rcases J with rfl|rfl|rfl|rfl|rfl|rfl<;>(cases h;rfl)
 |int y=>refine ⟨_,.int y,?_⟩;rcases J with rfl|rfl|rfl|rfl|rfl|rfl<;>(cases h;rfl)
 |str y=>refine ⟨_,.str y,?_⟩;rcases J with rfl|rfl|rfl|rfl|rfl|rfl<;>(cases h;rfl)
 |_=>cases h
section
variable {X:Cx}{K:Fg}{a b c e:Expr}{ta tb te:TE}{tA tB':TT}{cq:List Expr}{pos:Pos}
theorem QR (S:X.K=K):bi X (.builtin "isinstance") (NQ K):=(ES S).imp λxs H Q h=>by
 have j:∀x c,lC K x c H Q->RI K [x,c] H Q:=λx c ⟨z,t,b,h1,h2,G,F⟩=>⟨x,c,z,t,b,rfl,h1,h2,G,F⟩
 match xs,h with
 |[x,.ty T],h=>
  have h':(match LL x T with|some b=>wX T=true/\Q (.bl b) H|none=>lC K x (.ty T) H Q):=h
  cases e:LL x T with
  |none=>rw [e] at h';exact j _ _ h'
  |some b=>
   rw [e] at h';obtain ⟨t,h1,h2⟩:=Ev (K:=K) (H:=H) e h'.1;exact ⟨x,.ty T,_,t,b,rfl,rfl,h1,h2,h'.2⟩
 |[x,.ref C],h=>exact j _ _ h
 |[x,.non],h=>exact j _ _ h
 |[x,.bl _],h=>exact j _ _ h
 |[x,.int _],h=>exact j _ _ h
 |[x,.str _],h=>exact j _ _ h
 |[x,.byt _],h=>exact j _ _ h
 |[x,.flt _],h=>exact j _ _ h
def Q0 (t:TE):TT:=λσ H Q=>t σ H λx H'=>match x with| .bl k=>Q k H'|_=>False
theorem c8 {j:CmpOp}{r:R2}(J:dz X @eN r)(L:PE X a ta)(hb:PE X b tb)(F:behindInMarks j b=false):PT X (.Compare a [j] [b] pos) (Q0 @fm):=by
 intro pins s σ H Q I h
 refine wpAny_isTrue_Compare1 (bz @bP λv S ⟨x,H1,I1,Z,q1⟩=>bz (hb pins S σ H1 _ I1 q1) λu R ⟨y,H2,O,U,q2⟩=>
  bz (J pins R σ H2 x y v u _ O Z U q2) λcv s3 ⟨z,Y,W,r3,G⟩=> ?_) F
 cases z with
 |bl k=>cases r3;exact wpAny_truthy_bool ⟨Y,W,G⟩
 |_=>exact False.elim G
def rD (K:Fg)(p:Addr)(H:Hp)(Q:Bool->Hp->Prop):Prop:=(∃xs,(aD K H p xs\/aK K H p xs)/\Q (!xs.isEmpty) H)\/∃kvs,H p=some (.dK kvs)/\Q (!kvs.isEmpty) H
def TQ (K:Fg)(ta:TE):TT:=λσ H Q=>ta σ H λx H'=>match x with
 | .bl k=>Q k H'
 | .non=>Q false H'
 | .int i=>Q (i != 0) H'
 | .str y=>y.length<=sizeLine/\Q ((y.length:Int) != 0) H'
 | .ref p=>rD K p H' Q
 |_=>False
theorem pH (S:X.K=K)(R:PE X a ta)(O:vm a=true:=by rfl):PT X a (TQ K ta):=by
 subst S;intro pins s σ H Q I h;rwa[isTrue_plain (bz (R pins s σ H _ I h) λv L ⟨x,H1,G,F,J⟩=> ?_) (IE O)]
 cases x with
 |bl k=>exact i6 pins L σ H1 _ v Q G F ⟨k,rfl,J⟩
 |non=>exact i6 pins L σ H1 _ v Q G F ⟨false,rfl,J⟩
 |int i=>exact i6 pins L σ H1 _ v Q G F ⟨_,rfl,J⟩
 |str y=>exact i6 pins L σ H1 _ v Q G F ⟨_,⟨J.1,rfl⟩,J.2⟩
 |ref p=>
  rcases J with ⟨xs,j|j,q⟩|⟨z,j,q⟩
  ·exact i6 pins L σ H1 _ v Q G F ⟨_,.inl ⟨xs,j,rfl⟩,q⟩
  ·exact i6 pins L σ H1 _ v Q G F ⟨_,.inr (.inl ⟨xs,j,rfl⟩),q⟩
  ·exact i6 pins L σ H1 _ v Q G F ⟨_,.inr (.inr ⟨z,j,rfl⟩),q⟩
 |_=>exact False.elim J
def Ue (t u:TT):TT:=λσ H Q=>t σ H λc H1=>vv c (u σ H1 Q) (Q false H1)
def U6 (t u:TT):TT:=λσ H Q=>t σ H λc H1=>vv c (Q true H1) (u σ H1 Q)
theorem Av (j:PT X a tA)(z:PW X (.BoolOp .And (b::cq) pos) tB'):PW X (.BoolOp .And (a::b::cq) pos) (Ue tA tB'):=OK j z
theorem yc (j:PT X a tA)(z:PW X (.BoolOp .Or (b::cq) pos) tB'):PW X (.BoolOp .Or (a::b::cq) pos) (U6 tA tB'):=RN j z
def Re (ta tb:TE):TE:=λσ H Q=>ta σ H λx H1=>match x with| .bl c=>vv c @gv (Q (.bl false) H1)|_=>False
def TZ (ta tb:TE):TE:=λσ H Q=>ta σ H λx H1=>match x with| .bl c=>vv c (Q (.bl true) H1) @gv|_=>False
theorem Ax (j:PE X a ta)(z:PE X (.BoolOp .And (b::cq) pos) tb):PE X (.BoolOp .And (a::b::cq) pos) (Re ta tb):=by
 intro pins s σ H Q I h;rwa[BoolOp_and (bz @bu λv L ⟨x,H1,G,F,J⟩=> ?_)]
 cases x with
 |bl c=>
  cases F;rwa[wpAny_truthy_bool ?_]
  cases c with
  |true=>exact z pins L σ H1 Q G J
  |false=>exact ⟨.bl false,H1,G,rfl,J⟩
 |_=>exact False.elim J
theorem QK (j:PE X a ta)(z:PE X (.BoolOp .Or (b::cq) pos) tb):PE X (.BoolOp .Or (a::b::cq) pos) (TZ ta tb):=by
 intro pins s σ H Q I h;rwa[BoolOp_or (bz @bu λv L ⟨x,H1,G,F,J⟩=> ?_)]
 cases x with
 |bl c=>
  cases F;rwa[wpAny_truthy_bool ?_]
  cases c with
  |false=>exact z pins L σ H1 Q G J
  |true=>exact ⟨.bl true,H1,G,rfl,J⟩
 |_=>exact False.elim J
def T1 (K:Fg)(ta:TE):TE:=λσ H Q=>ta σ H λx H'=>match x with
 | .bl k=>Q (.bl (!k)) H'
 | .non=>Q (.bl true) H'
 | .int i=>Q (.bl (!(i != 0))) H'
 | .str y=>y.length<=sizeLine/\Q (.bl (!((y.length:Int) != 0))) H'
 | .ref p=>rD K p H' λk H2=>Q (.bl (!k)) H2
 |_=>False
theorem Fo (S:X.K=K)(U:PE X a ta):PE X (.UnaryOp .Not a pos) (T1 K ta):=by
 subst S;intro pins s σ H Q I h;rwa[UnaryOp_ (bz @bQ λv L ⟨x,H1,W,F,J⟩=> ?_)]
 have z:(∃k,SX X.K x H1 k/\Q (.bl (!k)) H1)->wpAny @d X.A (unaryOp .Not v) @u X.xe L:=λh=>
  not_of (bz (i6 pins L σ H1 x v (λk H2=>Q (.bl (!k)) H2) W F h) λk Y ⟨H2,O,R⟩=>⟨.bl (!k),H2,O,rfl,R⟩)
 cases x with
 |bl k=>exact z ⟨k,rfl,J⟩
 |non=>exact z ⟨false,rfl,J⟩
 |int i=>exact z ⟨_,rfl,J⟩
 |str y=>exact z ⟨_,⟨J.1,rfl⟩,J.2⟩
 |ref p=>
  rcases J with ⟨xs,G|G,q⟩|⟨j,G,q⟩
  ·exact z ⟨_,.inl ⟨xs,G,rfl⟩,q⟩
  ·exact z ⟨_,.inr (.inl ⟨xs,G,rfl⟩),q⟩
  ·exact z ⟨_,.inr (.inr ⟨j,G,rfl⟩),q⟩
 |_=>exact False.elim J
def Ua (t:TT)(ta tb:TE):TE:=λσ H Q=>t σ H λc H1=>vv c (ta σ H1 Q) @gv
theorem Ci (J:PT X c tA)(j:PE X a ta)(z:PE X b tb):PE X (.IfExp c a b pos) (Ua tA ta tb):=G8 J j z
def T9 (c:TT)(t u:TS):TS:=λD σ H=>c σ H λb H1=>vv b (t D σ H1) (u D σ H1)
theorem az {t u:TS}{p q:List Stmt}(J:PT X c tA)(j:uG X p t)(z:uG X q u):PS X (.If c p q pos) (T9 tA t u):=RP J j z
def vi (K:Fg)(p:Addr)(lo hi:Option Int)(H:Hp)(Q:VK):Prop:=(∃xs,aD K H p xs/\∀l,H l=none->Q (.ref l) (upd H l (.lst @bW)))\/
 ∃xs,aK K H p xs/\ ¬(HT.sIx xs.length 0 lo=0/\HT.sIx xs.length xs.length hi=xs.length)/\∀l,H l=none->Q (.ref l) (upd H l (.tup @bW))
def U5 (K:Fg):V->Option Int->Option Int->Hp->VK->Prop:=λx lo hi H Q=>match x with| .ref p=>vi K p lo hi H Q|_=>False
theorem TL (S:X.K=K):Ql X (U5 K):=by
 subst S;intro pins s σ H x v F G lo hi sl Q I z hs pl J h
 cases x with
 |ref p=>
  rcases h with ⟨xs,h1,h2⟩|⟨xs,h1,h2,j⟩
  ·exact Kp pins s σ H _ v F G lo hi sl Q I z hs pl J ⟨p,xs,rfl,h1,h2⟩
  ·exact Oo pins s σ H _ v F G lo hi sl Q I z hs pl J ⟨p,xs,rfl,h1,h2,j⟩
 |_=>exact False.elim h
def Q3 (t:TE):TO:=λσ H Q=>t σ H λx H1=>match x with| .int i=>Q (some i) H1|_=>False
theorem J4 (h:PE X e te):PO X (some e) (Q3 te):=by
 intro pins s σ H Q I z;rw [evalPart_some];rwa[bz (h pins s σ H _ I z) λu L ⟨x,H1,G,F,J⟩=> ?_]
 cases x with
 |int i=>obtain ⟨t,rfl⟩:=F;exact ⟨some i,H1,G,.int i t,J⟩
 |_=>exact False.elim J
def FE (K:Fg)(T:String)(x:V)(H:Hp)(P:Prop):Prop:=match x with
 | .str _=>T="str"/\P
 | .int _=>T="int"/\P
 | .ref _=>Tb K T x H/\P
 |_=>False
def U9 (K:Fg)(T:String)(r:V->List V->Hp->VK->Prop)(to:TE)(t:TA):TE:=λσ H Q=>to σ H λx H1=>FE K T x H1 (t σ H1 λxs H2=>r x xs H2 Q)
end
section
variable {X:Cx}{K:Fg}{o e:Expr}{es:List Expr}{to:TE}{t:TA}{name:Str}{apos cpos:Pos}{T id:String}{r:V->List V->Hp->VK->Prop}
theorem yn {x:V}{H:Hp}{P:Prop}(h:FE K T x H P):Tb K T x H/\P:=by
 cases x with
 |str z=>exact h
 |int i=>exact h
 |ref p=>exact h
 |_=>exact False.elim h
theorem iW (hK:X.K=K)(pa:PlainAttrs T)(S:Slot T name id)(G:typeOf (.builtin id)=pure (.type "method_descriptor"))(hm:Ao X id r)(W:PE X o to)(ha:PA X (e::es) t)
(hb:d5 o=true:=by rfl)(L:aG (e::es)=true:=by rfl)(hl:(e::es).length<29:=by decide)(z:(apos.endLine==cpos.line)=true:=by rfl):
 PE X (.Call (.Attribute o name apos) (e::es) [] cpos) (U9 K T r to t):=by
 subst hK;have h':(bu e&&aG es)=true:=L;rw [Bool.and_eq_true] at h';have hs:starEach (e::es) X.env=(false,eval e X.env)::starEach es X.env:=aP h'.1;have j:(backTo cpos @w).any (·.1)=false:=br h'.2
 have F:((backTo cpos (starEach (e::es) X.env)).all (λx=> !x.1)&&(backToKw cpos @cv).all @da
  &&decide ((e::es).length+([]:List Keyword).length+(if ([]:List Keyword).isEmpty then 0 else 1)<30))=true:=by
  rw [oM L,arm_keywordEach_nil];show (true&&true&&decide ((e::es).length+0+0<30))=true;rw [decide_eq_true @b];rfl
 intro pins s σ H Q I h;rwa[wpAny_Call_method_late (ux hb) F z rfl (bz (W pins s σ H _ I h) λv s1 ⟨x,H1,U,O,J⟩=> ?_)];obtain ⟨ty,J⟩:=yn J;obtain ⟨h1,h2⟩:=FL U O ty;rwa[⟨T,id,pa,S,G,h1,h2,?_⟩];have R:=ha cpos pins s1 σ H1 _ U J;rw [hs] at R ⊢;rwa[Calls.callWith_builtin (by show (false||(backTo cpos @w).any (·.1))=false;rw [j]<;>rfl) (Calls.evalArgs_plain ?_)];exact bz R λZ s2 ⟨vs,H2,Y,r2,q2⟩=>hm pins s2 σ H2 x vs v Z Q Y O r2 q2
def Ud (K:Fg)(T:String)(r:V->List V->Hp->VK->Prop)(to:TE):TE:=λσ H Q=>to σ H λx H1=>FE K T x H1 (r x [] H1 Q)
theorem Fs (U:X.K=K)(O:PlainAttrs T)(S:Slot T name id)(G:typeOf (.builtin id)=pure (.type "method_descriptor"))(W:Ao X id r)(L:PE X o to)
(R:d5 o=true:=by rfl)(z:(apos.endLine==cpos.line)=true:=by rfl):PE X (.Call (.Attribute o name apos) [] [] cpos) (Ud K T r to):=by
 subst U;intro pins s σ H Q I h;rwa[wpAny_Call_method0_late (ux R) z (bz @bP λv Y ⟨x,H1,j,F,J⟩=> ?_)];obtain ⟨ty,J⟩:=yn J;obtain ⟨h1,h2⟩:=FL j F ty;exact ⟨T,id,O,S,G,h1,h2,Calls.callWith_builtin rfl (PySem.evalArgs_none (W pins Y σ H1 x [] v [] Q j F .nil J))⟩
noncomputable def CW (z y:Str):Int:=match Builtin.Str.occurrences z y 0 z.length 1 with|i::_=>(i:Int)|[]=> -1
def zc (K:Fg)(z:Str)(a:Addr)(H:Hp)(Q:VK):Prop:=∃ts:List Str,aD K H a @dw/\(ts.toArray.foldl (· + ·.length+z.length) 0)<=sizeLine/\(Builtin.Str.glued z ts).length<=sizeLine/\Q (.str @cg) H
def Q8 (K:Fg):V->List V->Hp->VK->Prop:=λx xs H Q=>match x,xs with| .str z,[.ref a]=>zc K z a H Q|_,_=>False
theorem vX (S:X.K=K):Ao X "str.join" (Q8 K):=(Ik S).imp λx xs H Q h=>by
 match x,xs,h with
 | .str z,[.ref a],h=>obtain ⟨j,h1⟩:=h;exact ⟨z,a,j,rfl,rfl,h1⟩
def Rb:V->List V->Hp->VK->Prop:=λx xs H Q=>match x,xs with| .int i,[]=>Q (.int (Builtin.Int.intBits i)) H|_,_=>False
theorem FC:Ao X "int.bit_length" Rb:=Lz.imp λx xs H Q h=>by
 match x,xs,h with
 | .int i,[],h=>exact ⟨i,rfl,rfl,h⟩
def Mt (a:Addr)(y:V)(H:Hp)(Q:VK):Prop:=∃xs,H a=some (.lst xs)/\xs.length<sizeLine/\Q .non (upd H a (.lst (xs++[y])))
def Kc:V->List V->Hp->VK->Prop:=λx xs H Q=>match x,xs with| .ref a,[y]=>Mt a y H Q|_,_=>False
theorem ym:Ao X "list.append" Kc:=by
 intro pins s σ H x xs v j Q I z F h
 match x,xs,h with
 | .ref a,[y],h=>
   obtain ⟨ys,h1,h2,G⟩:=h;exact Ek pins s σ H _ _ v j Q I z F ⟨a,ys,y,rfl,rfl,h1,h2,G⟩
def Mx (K:Fg)(a:Addr)(H:Hp)(Q:VK):Prop:=∃bs:List Bool,aD K H a @bh/\Q (.bl (bs.all _root_.id)) H
def Rf (K:Fg):List V->Hp->VK->Prop:=λxs H Q=>match xs with|[.ref a]=>Mx K a H Q|_=>False
theorem MO (S:X.K=K)(J:X.calm=true):bi X (.builtin "all") (Rf K):=(EX S J).imp λxs H Q h=>by
 match xs,h with
 |[.ref a],h=>obtain ⟨bs,h1⟩:=h;exact ⟨a,bs,rfl,h1⟩
def y7 (K:Fg)(p:Addr)(H:Hp)(Q:VK):Prop:=∃ys,(aD K H p ys\/aK K H p ys)/\∀l,H l=none->Q (.ref l) @cd
def Q7 (K:Fg):List V->Hp->VK->Prop:=λxs H Q=>match xs with|[.ref a]=>y7 K a H Q|_=>False
theorem kI (S:X.K=K):bi X (.type "list") (Q7 K):=(B5 S).imp λxs H Q h=>by
 match xs,h with
 |[.ref a],h=>obtain ⟨ys,h1⟩:=h;exact ⟨a,ys,rfl,h1⟩
def Ds (K:Fg)(p:Addr)(H:Hp)(Q:VK):Prop:=∃ys,(aD K H p ys/\∀l,H l=none->Q (.ref l) @cQ)\/(aK K H p ys/\Q (.ref p) H)
def NN (K:Fg):List V->Hp->VK->Prop:=λxs H Q=>match xs with|[.ref a]=>Ds K a H Q|_=>False
theorem fV (S:X.K=K):bi X (.type "tuple") (NN K):=(zO S).imp λxs H Q h=>by
 match xs,h with
 |[.ref a],h=>obtain ⟨ys,h1⟩:=h;exact ⟨a,ys,rfl,h1⟩
def zd (K:Fg)(p:Addr)(H:Hp)(R:It->Hp->Prop):Prop:=(∃xs,aD K H p xs/\R (JK K p) H)\/∃xs,aK K H p xs/\R (MG K p) H
def TX (K:Fg)(te:TE):TI:=λσ H R=>te σ H λx H1=>match x with| .str z=>R (S9 z) H1| .ref p=>zd K p H1 R|_=>False
end
theorem Fn {X:Cx}{K:Fg}(hK:X.K=K){tg e:Expr}{te:TE}(Z:PE X e te):PI X tg e (TX K te):=by
 subst hK;intro pins s σ H R I h;rwa[bz (Z pins s σ H _ I h) λv L ⟨x,H1,G,O,q⟩=> ?_];have W:∀ {t:TE},True:=λ{_}=>trivial
 have F:((∃z,x= .str z/\R (S9 z) H1)\/(∃a,x= .ref a/\(∃xs,aD X.K H1 a xs)/\R (JK X.K a) H1)\/(∃a,x= .ref a/\(∃xs,aK X.K H1 a xs)/\R (MG X.K a) H1))->
  wpAny @d X.A (pyIter v) @ey X.xe L:=λq=>by
  rcases q with ⟨z,rfl,q⟩|⟨a,rfl,⟨xs,J⟩,q⟩|⟨a,rfl,⟨xs,J⟩,q⟩
  ·obtain ⟨t,rfl⟩:=O
   have fp:∀b∈[L.heap.objs.size],jL X pins H1 b:=λb j=>by
    have e:b=L.heap.objs.size:=by simpa using j
    subst e;exact G.fpOk @f @cc
   cases S:z.cps.all (· <128)
   ·exact wpAny_pyIter_wide S ⟨L.heap.objs.size,[L.heap.objs.size],_,_,H1,rfl,G.kept (t':=L.toks) λb o e=>Heap.get?_push_of_some _ e,vf (.inr rfl),⟨Nat.zero_le _,_,Heap.get?_push_size _ rfl,rfl,rfl⟩,fp,q⟩
   ·exact wpAny_pyIter_ascii S ⟨L.heap.objs.size,[L.heap.objs.size],_,_,H1,rfl,G.kept (t':=L.toks) λb o e=>Heap.get?_push_of_some _ e,vf (.inl rfl),⟨Nat.zero_le _,_,Heap.get?_push_size _ rfl,rfl,rfl⟩,fp,q⟩
  ·cases O;obtain ⟨its,U,p,Y⟩:=G.list J;rwa[wpAny_pyIter_list p.isList ?_];rwa[⟨L.heap.objs.size,[L.heap.objs.size],_,_,H1,rfl,G.kept (t':=L.toks) λb o e=>Heap.get?_push_of_some _ e,Dr a _,⟨_,Heap.get?_push_size _ rfl,rfl,rfl⟩,λb j=> ?_,q⟩]
   have e:b=L.heap.objs.size:=by simpa using j
   subst e;exact G.fpOk @f @cc
  ·cases O;obtain ⟨its,U,p,Y⟩:=G.tuple J;rwa[wpAny_pyIter_tuple (show L.heap.IsTuple a its.toArray from p) ?_];rwa[⟨L.heap.objs.size,[L.heap.objs.size],_,_,H1,rfl,G.kept (t':=L.toks) λb o e=>Heap.get?_push_of_some _ e,Az a _,⟨_,Heap.get?_push_size _ rfl,rfl,rfl⟩,λb j=> ?_,q⟩]
   have e:b=L.heap.objs.size:=by simpa using j
   subst e;exact G.fpOk @f @cc
 cases x with
 |str z=>exact F (.inl ⟨z,rfl,q⟩)
 |ref p=>
  rcases q with ⟨xs,h1,h2⟩|⟨xs,h1,h2⟩
  ·exact F (.inr (.inl ⟨p,rfl,⟨xs,h1⟩,h2⟩))
  ·exact F (.inr (.inr ⟨p,rfl,⟨xs,h1⟩,h2⟩))
 |_=>exact False.elim q
section
variable {X:Cx}{tg:Expr}
def Q2 (ta:TA):TI:=λσ H R=>ta σ H λvs H1=>match vs with|[.int j]=>(-4611686018427387904<=j/\j<4611686018427387904)/\R (MI 0 j.toNat) H1|_=>False
theorem bA {a:Expr}{ta:TA}{p pos:Pos}(S:Gl X "range")(z:X.mg "range"=none)(G:PA X [a] ta)(hs:bu a=true:=by rfl):PI X tg (.Call (.Name "range" p) [a] [] pos) (Q2 ta):=by
 intro pins s σ H R I h;rwa[Call_ (ly I S z boot_range (PyProof.Rows.callWith_type1 (bz (G pos pins s σ H _ I h) λU W ⟨O,H1,L,F,J⟩=> ?_) (aP hs) rfl))]
 match O,J with
 |[.int j],J=>
  cases F with
  |cons r rr=>
   cases rr;obtain ⟨t,rfl⟩:=r;have h1: -4611686018427387904<=j:=J.1.1;have h2:j<4611686018427387904:=J.1.2;exact call_range_1 (GU L @b @b @b @b (by simpa using J.2))
def setL (p:Addr)(k:Int)(v:V)(H:Hp)(Q:Hp->Prop):Prop:=∃xs j,H p=some (.lst xs)/\An xs.length k=some j/\Q @bH
def TW:V->V->V->Hp->(Hp->Prop)->Prop:=λo i v H Q=>match o,i with| .ref p,.int k=>setL p k v H Q|_,_=>False
theorem qU:JC X TW:=by
 intro pins s σ H o i v J z u Q I L O F h
 match o,i,h with
 | .ref p,.int k,h=>
   obtain ⟨xs,j,h1,h2,G⟩:=h;exact Gk pins s σ H _ _ v J z u Q I L O F ⟨p,xs,k,j,rfl,rfl,h1,h2,G⟩
def FK (K:Fg)(n:Nat)(a:Addr)(H:Hp)(P:List V->Prop):Prop:=∃xs,aK K H a xs/\xs.length=n/\P xs
def TN (K:Fg)(n:Nat)(t:Di):TG:=λv σ H Q=>match v with| .ref a=>FK K n a H λxs=>t xs σ H Q|_=>False
def NH (t:TG)(u:Di):Di:=λvs σ H Q=>match vs with|v::r=>t v σ H λσ' H'=>u r σ' H' Q|[]=>False
def QJ:Di:=λvs σ H Q=>match vs with|[]=>Q σ H|_=>False
theorem dB:E6 X [] QJ:=λpins s σ H L j Q I r h=>by
 match L,h with
 |[],h=>exact KQ pins s σ H [] j Q I r ⟨rfl,h⟩
theorem aE {e:Expr}{es:List Expr}{t:TG}{u:Di}(h1:PG X e t)(h2:E6 X es u)(hs:bu e=true:=by rfl):E6 X (e::es) (NH t u):=λpins s σ H L j Q I r h=>by
 match L,h with
 |v::vr,h=>exact G2 h1 h2 (by cases e<;>first|rfl|cases hs) pins s σ H _ j Q I r ⟨v,vr,rfl,h⟩
theorem ff {K:Fg}(S:X.K=K){es:List Expr}{k:Nat}{t:Di}{n:Nat}{pos:Pos}(J:X.calm=true)(h:E6 X es t)
(F:(assignEach es X.env).length=n:=by rfl)(j:(assignEach es X.env).findIdx? (·.1)=none:=by rfl):PG X (.Tuple es k pos) (TN K n t):=λpins s σ H v u Q I r q=>by
 match v,q with
 | .ref a,⟨xs,h1,h2,h3⟩=>exact KR S J h F j pins s σ H _ u Q I r ⟨a,xs,rfl,h1,h2,h3⟩
end
def FH (pk:List @z)(wi:TI)(g:TG)(tt:TT)(te:TE):TE:=λσ H Q=>wi σ H λJ H1=>ug J pk g tt te σ H1 Q
def Ub (wi:TI)(g:TG)(tb:TS):TS:=λD σ H=>wi σ H λJ H1=>BY J g tb D σ H1
section
variable {X:Cx}{scope:Scope}{N':List Str}{pk:List @z}{tg elt iter:Expr}{ifs:List Expr}{pos:Pos}{wi:TI}{g:TG}{tt:TT}{te:TE}
noncomputable def sJ:Expr->Bool
 | .Set _ _ _=>false
 |_=>true
theorem gc {e:Expr}{env:Env}(h:sJ e=true)(x:Value):foldedSetIterable e env x=pure x:=by
 unfold foldedSetIterable
 cases e<;>first|rfl|cases h
theorem bF (J:X.calm=true)(S:cB X scope N' pk)(hi:PI X tg iter wi)(z:∀C s H ex,PG @m tg g)(O:∀C s H ex,JB @m ifs tt)
(j:∀C s H ex,PE @m elt te)(hs:sJ iter=true:=by rfl):PE X (.ListComp elt [⟨tg,iter,ifs,0⟩] scope pos) @eR:=
 KW J S hi z O j (gc hs)
theorem fw {i:Nat}{x:Str}{G j:Pos}(J:X.calm=true)(U:X.N.Nodup)(z:X.N[i]? =some x)(I:Nn X.env.scope x)(S:cB X scope N' pk)(hi:PI X tg iter wi)(R:∀C s H ex,PG @m tg g)
(O:∀C s H ex,JB @m ifs tt)(L:∀C s H ex,PE @m elt te)(hs:sJ iter=true:=by rfl)
(W:swapsWith (.ListComp elt [⟨tg,iter,ifs,0⟩] scope pos) (some (.Name x G)) j.line X.env=pure true:=by rfl)(F:X.fn x=true\/X.env.scope.names.lookup x=some .local:=by first|exact .inl rfl|exact .inr rfl|assumption):
 PS X (.Assign [.Name x G] (.ListComp elt [⟨tg,iter,ifs,0⟩] scope pos) j) (FV @eR (qd i)):=
 KM J U z I S hi R O L (gc hs) W F
theorem bJ {R:List Stmt}{tb:TS}(G:PassesOwn @d X.A X.env X.xe)(J:X.calm=true)(hi:PI X tg iter wi)(S:PG X tg g)(z:uG X R tb)
(hs:sJ iter=true:=by rfl):PS X (.For tg iter R [] pos) (Ub wi g tb):=ON G J hi S z (gc hs)
end
def Kh (t u:TS):TS:=λD σ H=>∃M:St->Hp->Prop,t {D with nx:=M} σ H/\∀σ' H',M σ' H'->u D σ' H'
theorem dZ {X:Cx}{st:Stmt}{cq:List Stmt}{t u:TS}(h1:PS X st t)(h2:uG X cq u):uG X (st::cq) (Kh t u):=by
 intro pins s σ H D I h;obtain ⟨M,O,z⟩:=h;rwa[wpAny_execs_cons (bz (h1 pins s σ H {D with nx:=M} I O) λf L q=> ?_)]
 cases f with
 |next=>
  obtain ⟨j,H',G,q⟩:=q;exact h2 pins L j H' D G (z j H' q)
 |ret v=>exact q
 |brk=>exact q
 |cont=>exact q
theorem ub {t u:TS}{D:lQ}{σ:St}{H:Hp}(M:St->Hp->Prop)(h1:t {D with nx:=M} σ H)(h2:∀σ' H',M σ' H'->u D σ' H'):Kh t u D σ H:=⟨M,h1,h2⟩
section
variable {K:Fg}{H:Hp}{p q:Addr}{xs ys:List V}{Q:VK}
theorem eQ (h:aD K H p ys)(g:Q (.int ys.length) H):jf K p H Q:=⟨ys,.inl h,g⟩
theorem gW (h:aK K H p ys)(g:Q (.int ys.length) H):jf K p H Q:=⟨ys,.inr h,g⟩
theorem bP {i:Int}{v:V}(h:aD K H p xs)(e:uy xs i=some v)(g:Q v H):pK K p i H Q:=⟨xs,.inl h,v,e,g⟩
theorem ar {i:Int}{v:V}(h:aK K H p xs)(e:uy xs i=some v)(g:Q v H):pK K p i H Q:=⟨xs,.inr h,v,e,g⟩
theorem qK {z:Str}{i:Int}{c:Nat}(j:z.length<=sizeLine)(e:uy z.cps.toList i=some c)(g:Q (.str ⟨#[c]⟩) H):wq z i H Q:=⟨j,c,e,g⟩
theorem AX {x:V}(h:aD K H p xs)(h1:c4 x=true)(h2:xs.all c4=true)(g:Q (.bl (xi x xs)) H):rE K false x p H Q:=⟨xs,.inl h,h1,h2,g⟩
theorem Gm {x:V}(h:aK K H p xs)(h1:c4 x=true)(h2:xs.all c4=true)(g:Q (.bl (xi x xs)) H):rE K false x p H Q:=⟨xs,.inr h,h1,h2,g⟩
theorem DB {x:V}(h:aD K H p xs)(h1:c4 x=true)(h2:xs.all c4=true)(g:Q (.bl (!xi x xs)) H):rE K true x p H Q:=⟨xs,.inl h,h1,h2,g⟩
theorem DA {x:V}(h:aK K H p xs)(h1:c4 x=true)(h2:xs.all c4=true)(g:Q (.bl (!xi x xs)) H):rE K true x p H Q:=⟨xs,.inr h,h1,h2,g⟩
theorem P0 {x:Str}{n:Int}(e:PySem.intText? x=some n)(W:x.length<=640)(g:Q (.int n) H):CQ x H Q:=⟨n,e,W,g⟩
theorem Kt {R:Bool->Hp->Prop}(h:aD K H p xs)(g:R (!xs.isEmpty) H):rD K p H R:= .inl ⟨xs,.inl h,g⟩
theorem Op {lo hi:Option Int}(h:aD K H p xs)(g:∀l,H l=none->Q (.ref l) (upd H l (.lst @bW))):vi K p lo hi H Q:= .inl ⟨xs,h,g⟩
theorem BL {z:Str}{ts:List Str}(h:aD K H p @dw)(h1:(ts.toArray.foldl (· + ·.length+z.length) 0)<=sizeLine)(h2:(Builtin.Str.glued z ts).length<=sizeLine)(g:Q (.str @cg) H):zc K z p H Q:=⟨ts,h,h1,h2,g⟩
theorem iL {y:V}(h:H p=some (.lst xs))(j:xs.length<sizeLine)(g:Q .non (upd H p (.lst (xs++[y])))):Mt p y H Q:=⟨xs,h,j,g⟩
theorem Nj {bs:List Bool}(h:aD K H p @bh)(g:Q (.bl @gO) H):Mx K p H Q:=⟨bs,h,g⟩
theorem Rm (h:aD K H p ys)(g:∀l,H l=none->Q (.ref l) @cQ):Ds K p H Q:=⟨ys,.inl ⟨h,g⟩⟩
theorem Rl (h:aK K H p ys)(g:Q (.ref p) H):Ds K p H Q:=⟨ys,.inr ⟨h,g⟩⟩
theorem bD {R:It->Hp->Prop}(h:aD K H p xs)(g:R (JK K p) H):zd K p H R:= .inl ⟨xs,h,g⟩
theorem jw {R:It->Hp->Prop}(h:aK K H p xs)(g:R (MG K p) H):zd K p H R:= .inr ⟨xs,h,g⟩
theorem rC {k:Int}{j:Nat}{v:V}{R:Hp->Prop}(h:H p=some (.lst xs))(z:An xs.length k=some j)(g:R @bH):setL p k v H R:=⟨xs,j,h,z,g⟩
theorem gz {n:Nat}{P:List V->Prop}(h:aK K H p xs)(W:xs.length=n)(g:P xs):FK K n p H P:=⟨xs,h,W,g⟩
end
theorem uf {i j:Int}(h1: -18446744073709551616<i)(h2:i<18446744073709551616):uF i j:= .inl ⟨h1,h2⟩
theorem Jm {i j:Int}(h1: -18446744073709551616<j)(h2:j<18446744073709551616):uF i j:= .inr ⟨h1,h2⟩
theorem SM {i j:Int}(h1:0<j)(h2:j<1073741824):E7 i j:=⟨h1,h2⟩
theorem Ji {i j:Int}(h1:0<=j)(h2:j<=1000000)(G:i.natAbs<18446744073709551616):Ch i j:=⟨h1,h2,G⟩
theorem aU (x:Str):x.cps.toList.length=x.length:=by simp [Str.length]
theorem Gj {n:Nat}(h:n<=640):n<=sizeLine:=by rw [sizeLine_eq];lia
theorem Cr {n:Nat}(h:n<=9000):n<sizeLine:=by rw [sizeLine_eq];lia
def E8 (K:Fg)(H:Hp)(a:Addr)(ns:List Int):Prop:=aD K H a @U/\ns.length<=63
inductive D where
 |non|bl (b:Bool)|int (i:Int)|str (x:Str)|lst (ds:List D)|tup (ds:List D)
mutual
noncomputable def zC:D->D->Bool
 | .non,.non=>true
 | .bl a,.bl b=>a==b
 | .bl a,.int b=>(if a then 1 else 0)==b
 | .int a,.bl b=>a==(if b then 1 else 0)
 | .int a,.int b=>a==b
 | .str a,.str b=>a==b
 | .lst xs,.lst ys=>eqDs xs ys
 | .tup xs,.tup ys=>eqDs xs ys
 |_,_=>false
noncomputable def eqDs:List D->List D->Bool
 |[],[]=>true
 |x::xs,y::ys=>zC x y&&eqDs xs ys
 |_,_=>false
end
mutual
theorem mU:∀d:D,zC d d=true
 | .non=>rfl
 | .bl a=>by simp [zC]
 | .int a=>by simp [zC]
 | .str a=>by simp [zC]
 | .lst xs=>by rw [zC];exact eqDs_refl xs
 | .tup xs=>by rw [zC];exact eqDs_refl xs
theorem eqDs_refl:∀ds:List D,eqDs ds ds=true
 |[]=>rfl
 |d::ds=>by rw [eqDs,mU d,eqDs_refl ds];rfl
end
theorem jy:∀ {xs ys:List D},xs.length≠ys.length->eqDs xs ys=false
 |[],[],h=>absurd rfl h
 |[],_::_,_=>by simp [eqDs]
 |_::_,[],_=>by simp [eqDs]
 |x::xs,y::ys,h=>by
  rw [eqDs,jy (xs:=xs) (ys:=ys) (by simpa using h),Bool.and_false]
theorem jz:∀ {xs ys:List D},xs.length=ys.length->((List.range xs.length).all λj=>zC (xs.getD j .non) (ys.getD j .non))=eqDs xs ys
 |[],[],_=>rfl
 |[],_::_,h=>by simp at h
 |_::_,[],h=>by simp at h
 |x::xs,y::ys,h=>by
  have z:=jz (xs:=xs) (ys:=ys) (by simpa using h);rw [eqDs,<-z,length_cons,range_succ_eq_map,all_cons,all_map];rfl
inductive bO (K:Fg)(H:Hp):V->D->Prop
 |non:bO K H .non .non
 |bl (b:Bool):bO K H (.bl b) (.bl b)
 |int (i:Int):bO K H (.int i) (.int i)
 |str (x:Str):bO K H (.str x) (.str x)
 |lst {a:Addr} {xs:List V} {ds:List D} (h:aD K H a xs) (hl:xs.length=ds.length) (hi:∀(i:Nat) x d,xs[i]? =some x->ds[i]? =some d->bO K H x d):bO K H (.ref a) (.lst ds)
 |tup {a:Addr} {xs:List V} {ds:List D} (h:aK K H a xs) (hl:xs.length=ds.length) (hi:∀(i:Nat) x d,xs[i]? =some x->ds[i]? =some d->bO K H x d):bO K H (.ref a) (.tup ds)
mutual
noncomputable def vC:D->Nat
 | .lst ds=>deps ds+1
 | .tup ds=>deps ds+1
 |_=>0
noncomputable def deps:List D->Nat
 |[]=>0
 |d::ds=>max (vC d) (deps ds)
end
theorem tZ:∀ {ds:List D} {i:Nat} {d:D},ds[i]? =some d->vC d<=deps ds
 |[],_,_,h=>by simp at h
 |d::ds,0,_,h=>by simp at h;subst h;rw [deps];exact Nat.le_max_left _ _
 |d::ds,i+1,e,h=>by
  have:=tZ (ds:=ds) (i:=i) (d:=e) (by simpa using h);rw [deps];exact Nat.le_trans this (Nat.le_max_right _ _)
section
variable {X:Cx}{pins:List (Addr×Obj)}{σ:St}{H:Hp}{s:Shared}
theorem y1 {a:Addr}{xs ys:List V}(I:ay X pins σ H s)(h:aD X.K H a xs)(h':aK X.K H a ys):False:=by
 obtain ⟨its,_,p,_⟩:=I.list h;obtain ⟨G,_,p2,_⟩:=I.tuple h';obtain ⟨o,e,c,_⟩:=p.isList;obtain ⟨o',z,j,_⟩:=p2;rw [e] at z;cases z;rw [c] at j;injection j with c2;exact absurd c2 @c
theorem bO.inj (I:ay X pins σ H s){x:V}{d e:D}(h:bO X.K H x d)(h':bO X.K H x e):d=e:=by
 induction h generalizing e with
 |non=>cases h';rfl
 |bl b=>cases h';rfl
 |int i=>cases h';rfl
 |str z=>cases h';rfl
 | @lst a xs ds hq hl hi ih=>
   cases h' with
   | @lst _ ys es hq' hl' hi'=>
     have j:=I.list_inj hq hq';subst j;congr 1;rwa[ext_getElem @b λi h1 h2=> ?_];exact ih i xs[i] _ @e (by simp [h1]) (hi' i xs[i] _ @e (by simp [h2]))
   |tup hq' _ _=>exact (y1 I hq hq').elim
 | @tup a xs ds hq hl hi ih=>
   cases h' with
   | @tup _ ys es hq' hl' hi'=>
     have j:=I.tuple_inj hq hq';subst j;congr 1;rwa[ext_getElem @b λi h1 h2=> ?_];exact ih i xs[i] _ @e (by simp [h1]) (hi' i xs[i] _ @e (by simp [h2]))
   |lst hq' _ _=>exact (y1 I hq' hq).elim
open PySem.SeqAt in
theorem zD (I:ay X pins σ H s){x:V}{d:D}(h:bO X.K H x d):∀ {y:V} {e:D} {u v:Value} {A:Around},bO X.K H y e->aL x u->aL y v->A.units+vC d<cLine->EqAt A s u v (zC d e):=by
 have F:∀ {x y:V} {u v:Value} {A:Around},c4 x=true->c4 y=true->aL x u->aL y v->EqAt A s u v (L9 x y):=λf1 f2 Y U=>IY Y U f1 f2
 induction h with
 |non=>
  intro y e u v A S L G Z
  cases S with
  |non=>exact F (x:= .non) (y:= .non) rfl rfl L G
  |bl b=>exact F (x:= .non) (y:= .bl b) rfl rfl L G
  |int i=>exact F (x:= .non) (y:= .int i) rfl rfl L G
  |str z=>exact F (x:= .non) (y:= .str z) rfl rfl L G
  |lst hq _ _=>cases L;cases G;obtain ⟨_,_,p,_⟩:=I.list hq;exact EqAt.none_list p.isList @b
  |tup hq _ _=>cases L;cases G;obtain ⟨_,_,p,_⟩:=I.tuple hq;exact EqAt.none_tuple p @b
 |bl b=>
  intro y e u v A S L G Z
  cases S with
  |non=>exact F (x:= .bl b) (y:= .non) rfl rfl L G
  |bl c=>exact F (x:= .bl b) (y:= .bl c) rfl rfl L G
  |int i=>exact F (x:= .bl b) (y:= .int i) rfl rfl L G
  |str z=>exact F (x:= .bl b) (y:= .str z) rfl rfl L G
  |lst hq _ _=>cases L;cases G;obtain ⟨_,_,p,_⟩:=I.list hq;exact EqAt.bool_list b p.isList @b
  |tup hq _ _=>cases L;cases G;obtain ⟨_,_,p,_⟩:=I.tuple hq;exact EqAt.bool_tuple b p @b
 |int i=>
  intro y e u v A S L G Z
  cases S with
  |non=>exact F (x:= .int i) (y:= .non) rfl rfl L G
  |bl c=>exact F (x:= .int i) (y:= .bl c) rfl rfl L G
  |int j=>exact F (x:= .int i) (y:= .int j) rfl rfl L G
  |str z=>exact F (x:= .int i) (y:= .str z) rfl rfl L G
  |lst hq _ _=>obtain ⟨t,rfl⟩:=L;cases G;obtain ⟨_,_,p,_⟩:=I.list hq;exact EqAt.int_list i t p.isList @b
  |tup hq _ _=>obtain ⟨t,rfl⟩:=L;cases G;obtain ⟨_,_,p,_⟩:=I.tuple hq;exact EqAt.int_tuple i t p @b
 |str z=>
  intro y e u v A S L G Z
  cases S with
  |non=>exact F (x:= .str z) (y:= .non) rfl rfl L G
  |bl c=>exact F (x:= .str z) (y:= .bl c) rfl rfl L G
  |int j=>exact F (x:= .str z) (y:= .int j) rfl rfl L G
  |str z'=>exact F (x:= .str z) (y:= .str z') rfl rfl L G
  |lst hq _ _=>obtain ⟨t,rfl⟩:=L;cases G;obtain ⟨_,_,p,_⟩:=I.list hq;exact EqAt.str_list z t p.isList @b
  |tup hq _ _=>obtain ⟨t,rfl⟩:=L;cases G;obtain ⟨_,_,p,_⟩:=I.tuple hq;exact EqAt.str_tuple z t p @b
 | @lst a xs ds hq hl hi ih=>
   intro y e u v A S L G Z
   have ad:vC (.lst ds)=deps ds+1:=by rw [vC]
   cases L
   obtain ⟨its,Y,W,z1⟩:=I.list hq
   cases S with
   |non=>cases G;exact EqAt.list_none W.isList @b
   |bl b=>cases G;exact EqAt.list_bool b W.isList @b
   |int j=>obtain ⟨t,rfl⟩:=G;exact EqAt.list_int j t W.isList @b
   |str z=>obtain ⟨t,rfl⟩:=G;exact EqAt.list_str z t W.isList @b
   | @lst b ys es hq' hl' hi'=>
     cases G
     by_cases R:a=b
     ·subst R
      have e:=bO.inj I (.lst hq hl hi) (.lst hq' hl' hi')
      rw [<-e,mU]
      exact EqAt.same _
     obtain ⟨J,U,p2,z2⟩:=I.list hq'
     rw [zC]
     have l1:=Y.length
     have l2:=U.length
     by_cases O:ds.length=es.length
     ·rw [<-jz O]
      have ac:ds.length=its.toArray.size:=by rw [size_toArray];lia
      rw [ac]
      rwa[EqAt.of_refs R (RcAt.lists W.isList p2.isList (by simp only [size_toArray];lia) @b λj h1 h2=> ?_)]
      have j1:j<xs.length:=by rw [size_toArray] at h1;lia
      have j2:j<ys.length:=by rw [size_toArray] at h2;lia
      obtain ⟨w1,e1,q1⟩:=Y.get (i:=j) (x:=xs[j]) @e
      obtain ⟨w2,e2,q2⟩:=U.get (i:=j) (x:=ys[j]) @e
      have k1:its.toArray[j]=w1:=by
       have:its[j]? =some its.toArray[j]:=by simp
       rw [this] at e1;exact Option.some.inj e1
      have k2:J.toArray[j]=w2:=by
       have:J[j]? =some J.toArray[j]:=by simp
       rw [this] at e2;exact Option.some.inj e2
      rw [k1,k2]
      have d1:ds[j]? =some @cG:=by simp [List.getD,getElem?_eq_getElem (show j<ds.length by lia)]
      have d2:es[j]? =some @cH:=by simp [List.getD,getElem?_eq_getElem (show j<es.length by lia)]
      have aa:=tZ d1
      rwa[ih j xs[j] _ @e d1 (hi' j ys[j] _ @e d2) q1 q2 ?_]
      have:A.in1.units=A.units+1:=rfl
      lia
     ·rw [jy O]
      exact EqAt.of_refs R (RcAt.lists_lengths W.isList p2.isList (by simp only [size_toArray];rw [bne_iff_ne];lia) @b)
   |tup hq' _ _=>cases G;obtain ⟨_,_,p2,_⟩:=I.tuple hq';exact EqAt.list_tuple W.isList p2 @b
 | @tup a xs ds hq hl hi ih=>
   intro y e u v A S L G Z
   have ad:vC (.tup ds)=deps ds+1:=by rw [vC]
   cases L
   obtain ⟨its,Y,W,z1⟩:=I.tuple hq
   cases S with
   |non=>cases G;exact EqAt.tuple_none W @b
   |bl b=>cases G;exact EqAt.tuple_bool b W @b
   |int j=>obtain ⟨t,rfl⟩:=G;exact EqAt.tuple_int j t W @b
   |str z=>obtain ⟨t,rfl⟩:=G;exact EqAt.tuple_str z t W @b
   |lst hq' _ _=>cases G;obtain ⟨_,_,p2,_⟩:=I.list hq';exact EqAt.tuple_list W p2.isList @b
   | @tup b ys es hq' hl' hi'=>
     cases G
     by_cases R:a=b
     ·subst R
      have e:=bO.inj I (.tup hq hl hi) (.tup hq' hl' hi')
      rw [<-e,mU]
      exact EqAt.same _
     obtain ⟨J,U,p2,z2⟩:=I.tuple hq'
     rw [zC]
     have l1:=Y.length
     have l2:=U.length
     have ae:eqDs ds es=((List.range (min its.toArray.size J.toArray.size)).all (λj=>zC @cG @cH)&&its.toArray.size==J.toArray.size):=by
      by_cases O:ds.length=es.length
      ·have e1:its.toArray.size=ds.length:=by rw [size_toArray];lia
       have e2:J.toArray.size=ds.length:=by rw [size_toArray];lia
       rw [e1,e2,Nat.min_self,jz O];simp
      ·rw [jy O]
       have:(its.toArray.size==J.toArray.size)=false:=beq_eq_false_iff_ne.mpr (by simp only [size_toArray];lia)
       rw [this,Bool.and_false]
     rw [ae]
     rwa[EqAt.of_refs R (RcAt.tuples W p2 @b λj h1 h2=> ?_)]
     have j1:j<xs.length:=by rw [size_toArray] at h1;lia
     have j2:j<ys.length:=by rw [size_toArray] at h2;lia
     obtain ⟨w1,e1,q1⟩:=Y.get (i:=j) (x:=xs[j]) @e
     obtain ⟨w2,e2,q2⟩:=U.get (i:=j) (x:=ys[j]) @e
     have k1:its.toArray[j]=w1:=by
      have:its[j]? =some its.toArray[j]:=by simp
      rw [this] at e1;exact Option.some.inj e1
     have k2:J.toArray[j]=w2:=by
      have:J[j]? =some J.toArray[j]:=by simp
      rw [this] at e2;exact Option.some.inj e2
     rw [k1,k2]
     have d1:ds[j]? =some @cG:=by simp [List.getD,getElem?_eq_getElem (show j<ds.length by lia)]
     have d2:es[j]? =some @cH:=by simp [List.getD,getElem?_eq_getElem (show j<es.length by lia)]
     have aa:=tZ d1
     rwa[ih j xs[j] _ @e d1 (hi' j ys[j] _ @e d2) q1 q2 ?_]
     have:A.in1.units=A.units+1:=rfl
     lia
end
def zB (K:Fg)(x y:V)(H:Hp)(P:Bool->Prop):Prop:=∃d e,bO K H x (.lst d)/\bO K H y (.lst e)/\vC (.lst d)<=60/\P (zC (.lst d) (.lst e))
theorem B1 {K:Fg}{x y:V}{H:Hp}{P:Bool->Prop}{d:List D}(h1:bO K H x (.lst d))(h2:bO K H y (.lst d))(G:vC (.lst d)<=60)(g:P true):zB K x y H P:=⟨d,d,h1,h2,G,by rw [mU];exact g⟩
def Ra (K:Fg):R2:=λx y H Q=>match SI x y with|some b=>Q (.bl b) H|none=>zB K x y H λb=>Q (.bl b) H
def Q4 (K:Fg):R2:=λx y H Q=>match SI x y with|some b=>Q (.bl (!b)) H|none=>zB K x y H λb=>Q (.bl (!b)) H
section
variable {X:Cx}{K:Fg}{m:Nat}
theorem yq {d:D}(U:bY m X.A)(G:vC d<=60):X.A.units+vC d<cLine:=by have:=U.un;lia
open PySem.SeqAt in
theorem yk (hK:X.K=K)(hr:bY m X.A):dz X (compareOp .Eq) (Ra K):=by
 subst hK
 intro pins s σ H x y v u Q I L O h
 unfold Ra at h
 cases e:SI x y with
 |some b=>
  rw [e] at h
  obtain ⟨h1,h2⟩:=IX e
  exact RY pins s σ H x y v u Q I L O ⟨h1,by rw [h2];exact h⟩
 |none=>
  rw [e] at h
  obtain ⟨ds,es,h1,h2,hd,q⟩:=h
  have z:EP X pins σ Q (.bool (zC (.lst ds) (.lst es))) s:=⟨.bl _,H,I,rfl,q⟩
  have hu:=yq (X:=X) hr hd
  have J:X.A.units<cLine:=by lia
  cases h1 with
  | @lst a xs _ hq hl hi=>
    have D1:bO X.K H (.ref a) (.lst ds):= .lst hq hl hi
    cases L
    obtain ⟨its,R,W,z1⟩:=I.list hq
    cases h2 with
    | @lst b ys _ hq' hl' hi'=>
      cases O
      obtain ⟨G,U,p2,z2⟩:=I.list hq'
      have ad:vC (.lst ds)=deps ds+1:=by rw [vC]
      rw [zC] at z
      have l1:=R.length
      have l2:=U.length
      by_cases F:ds.length=es.length
      ·rw [<-jz F,show ds.length=its.toArray.size by rw [size_toArray];lia] at z
       rwa[RcAt.lists W.isList p2.isList (by simp only [size_toArray];lia) J (λj g1 Z=> ?_) _ _ _ _ z]
       have j1:j<xs.length:=by rw [size_toArray] at g1;lia
       have j2:j<ys.length:=by rw [size_toArray] at Z;lia
       obtain ⟨w1,e1,q1⟩:=R.get (i:=j) (x:=xs[j]) @e
       obtain ⟨w2,e2,q2⟩:=U.get (i:=j) (x:=ys[j]) @e
       have k1:its.toArray[j]=w1:=by
        have:its[j]? =some its.toArray[j]:=by simp
        rw [this] at e1;exact Option.some.inj e1
       have k2:G.toArray[j]=w2:=by
        have:G[j]? =some G.toArray[j]:=by simp
        rw [this] at e2;exact Option.some.inj e2
       rw [k1,k2]
       have S:ds[j]? =some @cG:=by simp [List.getD,getElem?_eq_getElem (show j<ds.length by lia)]
       have Y:es[j]? =some @cH:=by simp [List.getD,getElem?_eq_getElem (show j<es.length by lia)]
       have aa:=tZ S
       rwa[zD I (hi j xs[j] _ @e S) (hi' j ys[j] _ @e Y) q1 q2 ?_]
       have:X.A.in1.units=X.A.units+1:=rfl
       lia
      ·rw [jy F] at z
       exact RcAt.lists_lengths W.isList p2.isList (by simp only [size_toArray];rw [bne_iff_ne];lia) J _ _ _ _ z
open PySem.SeqAt in
theorem vd (hK:X.K=K)(hr:bY m X.A):dz X (compareOp .NotEq) (Q4 K):=by
 subst hK
 intro pins s σ H x y v u Q I L O h
 unfold Q4 at h
 cases e:SI x y with
 |some b=>
  rw [e] at h
  obtain ⟨h1,h2⟩:=IX e
  exact RT pins s σ H x y v u Q I L O ⟨h1,by rw [h2];exact h⟩
 |none=>
  rw [e] at h
  obtain ⟨ds,es,h1,h2,hd,q⟩:=h
  have z:EP X pins σ Q (.bool (!zC (.lst ds) (.lst es))) s:=⟨.bl _,H,I,rfl,q⟩
  have hu:=yq (X:=X) hr hd
  have J:X.A.units<cLine:=by lia
  cases h1 with
  | @lst a xs _ hq hl hi=>
    have D1:bO X.K H (.ref a) (.lst ds):= .lst hq hl hi
    cases L
    obtain ⟨its,R,W,z1⟩:=I.list hq
    cases h2 with
    | @lst b ys _ hq' hl' hi'=>
      cases O
      obtain ⟨G,U,p2,z2⟩:=I.list hq'
      have ad:vC (.lst ds)=deps ds+1:=by rw [vC]
      rw [zC] at z
      have l1:=R.length
      have l2:=U.length
      by_cases F:ds.length=es.length
      ·rw [<-jz F,show ds.length=its.toArray.size by rw [size_toArray];lia] at z
       rwa[RcNeAt.lists W.isList p2.isList (by simp only [size_toArray];lia) J (λj g1 Z=> ?_) _ _ _ _ z]
       have j1:j<xs.length:=by rw [size_toArray] at g1;lia
       have j2:j<ys.length:=by rw [size_toArray] at Z;lia
       obtain ⟨w1,e1,q1⟩:=R.get (i:=j) (x:=xs[j]) @e
       obtain ⟨w2,e2,q2⟩:=U.get (i:=j) (x:=ys[j]) @e
       have k1:its.toArray[j]=w1:=by
        have:its[j]? =some its.toArray[j]:=by simp
        rw [this] at e1;exact Option.some.inj e1
       have k2:G.toArray[j]=w2:=by
        have:G[j]? =some G.toArray[j]:=by simp
        rw [this] at e2;exact Option.some.inj e2
       rw [k1,k2]
       have S:ds[j]? =some @cG:=by simp [List.getD,getElem?_eq_getElem (show j<ds.length by lia)]
       have Y:es[j]? =some @cH:=by simp [List.getD,getElem?_eq_getElem (show j<es.length by lia)]
       have aa:=tZ S
       rwa[zD I (hi j xs[j] _ @e S) (hi' j ys[j] _ @e Y) q1 q2 ?_]
       have:X.A.in1.units=X.A.units+1:=rfl
       lia
      ·rw [jy F] at z
       exact RcNeAt.lists_lengths W.isList p2.isList (by simp only [size_toArray];rw [bne_iff_ne];lia) J _ _ _ _ z
end
structure JS (h:Heap)(a T:Addr)(cls:Value)(dd:Option Addr)(fl:Value):Prop where
 ex:∃oe vs oT ts,h.get? a=some oe/\oe.cls=cls/\oe.dict=dd/\oe.data= .fields vs/\vs[1]? =some (.ref T)/\vs[2]? =some .none/\T≠a/\h.get? T=some oT/\oT.data= .fields ts/\ts[3]? =some fl
structure Pass (fs:List Addr)(ch:List Addr)(h h':Heap):Prop where
 keep:∀b o,b∉ch->b∉fs->h.get? b=some o->h'.get? b=some o
 slot:∀b o,b∉ch->h.get? b=some o->∃sl,h'.get? b=some {o with slots:=sl}
theorem CG {o:Obj}{vs:Array Value}(G:o.data= .fields vs)(f:Array Value->Array Value):Obj.mapFields f o= {o with data:= .fields (f vs)}:=by
 obtain ⟨c,d,j,sl⟩:=o;cases G;rfl
section
variable {M:Model}{A:Around}{E:Value->Shared->Prop}{s:Shared}
theorem vA {base:Heap}{env:Env}{outer:List Env}{L e:Addr}{R:Obj}{vs:Array Value}{G:Value}{F:Bool}{Q:Unit->Shared->Prop}
(ae:A.frames=some (env::outer))(hl:s.heap.FunFrames base (env::outer))(hf:env.frame=some L)(he:s.heap.get? e=some R)(hd:R.data= .fields vs)(hsz:1<vs.size)(h2:vs[2]? =some .none)
(h:∀h' T,Pass (xx (env::outer)) [e] s.heap h'->s.heap.get? T=none->JS h' e T R.cls R.dict (rawInt L)->Q () {s with heap:=h'}):
 wpAny M A (do let a<-frameOf env;let pl<-entryPlaceOf L F;let b<-EntryCells.newEntry G a .none (rawInt L) .none pl;setField (.ref e) 1 b) Q E s:=by
 have aa:e∉(env::outer).filterMap (·.frame):=λhm=>by
  obtain ⟨_,o,S,ah⟩:=hl.mem hm;rw [he] at S;cases S;exact ah vs hd
 rwa[wpAny_bind (wpAny_frameOf_fun ae hl hf λj I=>wpAny_bind (wpAny_entryPlaceOf λpl U=> ?_))];unfold EntryCells.newEntry newFields;rwa[wpAny_bind (wpAny_newObj_type ?_ (U.sizeOk5 _ _ _ _ _))];have W:j.get? e=some R:=(I.2.1 e aa).trans he;generalize S:({cls:= .type "traceback",dict:=none,data:= .fields ([G,.ref L,.none,rawInt L,.none]++(if pl.isEmpty then List.replicate 6 Value.none else pl)).toArray}:Obj)=o
 have ad:o.data= .fields ([G,.ref L,.none,rawInt L,.none]++(if pl.isEmpty then List.replicate 6 Value.none else pl)).toArray:=by rw [<-S]
 have aj:o.isFreed=false:=by rw [<-S];rfl
 have Z:=Heap.get?_push_of_some (h:=j) o W;rwa[wpAny_setField Z hd hsz ?_];have ac:j.objs.size≠e:=Nat.ne_of_gt (Heap.lt_size W);have Y:=Obj.data_mapFields hd (·.setIfInBounds 1 @cs);have ai:=Heap.get?_update_self (Obj.mapFields (·.setIfInBounds 1 @cs)) Z (Obj.isFreed_of_fields Y);have ag:=(Heap.get?_update_other (j.push o) (Obj.mapFields (·.setIfInBounds 1 @cs)) (Ne.symm ac)).trans (Heap.get?_push_size j aj)
 have J:∀b u,b≠e->j.get? b=some u->((j.push o).update e (Obj.mapFields (·.setIfInBounds 1 @cs))).get? b=some u:=λb u af hb=>by
  rw [Heap.get?_update_other _ _ (Ne.symm af)];exact Heap.get?_push_of_some _ hb
 rwa[h _ j.objs.size ⟨λb u hb ak O=> ?_,λb u hb O=> ?_⟩ (Heap.get?_none_of_le (by rw [I.1];exact Nat.le_refl _)) ⟨_,_,o,_,ai,?_,?_,Y,by simp [hsz],by rw [Array.getElem?_setIfInBounds_ne @c];exact h2,ac,ag,ad,?_⟩]
 ·exact J b u (λz=>hb (by simp [z])) ((I.2.1 b ak).trans O)
 ·obtain ⟨sl,hs⟩:=I.2.2 b u O;exact ⟨sl,J b _ (λz=>hb (by simp [z])) hs⟩
 ·exact Obj.cls_mapFields _ _
 ·rw [CG hd]
 ·first|(simp;done)|(rcases U with rfl|⟨_,_,_,_,_,_,_,rfl⟩<;>simp)
theorem tT {a T:Addr}{G fl:Value}{dd:Option Addr}{f:Option Addr}{Q:Unit->Shared->Prop}(x:JS s.heap a T G dd fl)
(h:∀h',Pass [] [T] s.heap h'->JS h' a T G dd (f.elim .none λf=>rawInt f)->Q () {s with heap:=h'}):wpAny M A (setFlight (.ref a) f) Q E s:=by
 obtain ⟨Y,vs,oT,ts,h1,h2,Z,S,W,L,U,R,I,h9⟩:=x.ex;have J:3<ts.size:=(Array.getElem?_eq_some_iff.mp h9).1;unfold setFlight;rwa[wpAny_bind (wpAny_field h1 S W ?_)];rw [if_pos (show (Value.ref T != Value.none)=true from by simp)];have j:∀b,b≠T->∀g,(s.heap.update T g).get? b=s.heap.get? b:=λb F g=>Heap.get?_update_other _ _ @gL;rwa[wpAny_setField R I J (h _ ⟨λb o F _ O=>(j b (λz=>F (by simp [z])) _).trans O,λb o F O=>⟨o.slots,(j b (λz=>F (by simp [z])) _).trans O⟩⟩ ?_)];exact ⟨Y,vs,_,_,(j a (Ne.symm U) _).trans h1,h2,Z,S,W,L,U,Heap.get?_update_self _ R (Obj.isFreed_of_fields (Obj.data_mapFields I _)),Obj.data_mapFields I _,by simp [J]⟩
end
theorem Pass.more {fs fs' ch:List Addr}{h h1:Heap}(a:Pass fs ch h h1)(hs:∀b∈fs,b∈fs'):Pass fs' ch h h1:=⟨λb o j F e=>a.keep b o j (λz=>F (hs b z)) e,a.slot⟩
def Nw (X:Cx)(pins:List (Addr×Obj))(H:Hp)(b:Addr):Prop:=H b=none/\b≠X.env.locals/\b∉X.fs/\(b∈X.ex\/X.s₀.heap.get? b=none)/\(∀x c,X.env.cells.lookup x=some c->c≠b)/\∀p∈X.pn++pins,p.1≠b
theorem bh.here {P:Program}{w:World}{H:Hp}{h:Heap}{a:Addr}{o:HO}(x:bh P w H h a o):∃u,h.get? a=some u:=by
 cases o with
 |lst xs=>obtain ⟨_,_,_,_,e⟩:=x;exact ⟨_,e⟩
 |tup xs=>obtain ⟨_,_,_,o,e,_⟩:=x;exact ⟨_,e⟩
 |dK kvs=>obtain ⟨_,_,_,_,o,_,_,e,_⟩:=x;exact ⟨_,e⟩
 |dT kvs=>obtain ⟨_,_,_,_,o,_,_,e,_⟩:=x;exact ⟨_,e⟩
 |set S n=>obtain ⟨o,_,_,_,e,_⟩:=x;exact ⟨_,e⟩
 |ins C dx fs=>obtain ⟨_,_,_,e,_⟩:=x;exact ⟨_,e⟩
 |own y=>obtain ⟨_,e⟩:=x;exact ⟨_,e⟩
 |xd fs=>obtain ⟨_,⟨_,_,_,e,_⟩,_⟩:=x;exact ⟨_,e⟩
 |rng lo hi=>obtain ⟨_,_,_,e⟩:=x;exact ⟨_,e⟩
 |frz ob u=>obtain ⟨e,_⟩:=x;exact ⟨_,e⟩
 |tbl ps=>exact ⟨_,show h.get? a=some _ from x⟩
 |met f y=>exact ⟨_,show h.get? a=some _ from x⟩
 |ext φ=>obtain ⟨_,e,_⟩:=x;exact e
theorem gi.none_of {P:Program}{w:World}{H:Hp}{h:Heap}{a:Addr}(x:gi P w H h)(e:h.get? a=none):H a=none:=by
 cases q:H a with
 |none=>rfl
 |some o=>obtain ⟨u,z⟩:=(x a o q).here;rw [e] at z;cases z
section
variable {X:Cx}{pins:List (Addr×Obj)}{σ:St}{H:Hp}{s:Shared}
theorem ay.nw {H':Hp}{b:Addr}(I:ay X pins σ H s)(j:s.heap.get? b=none)(L:H' b=none):Nw X pins H' b:=by
 rwa[⟨L,λz=> ?_,λz=> ?_,?_,λx c e z=> ?_,λp G z=> ?_⟩]
 ·obtain ⟨m,⟨o,_,_,J,_⟩,_⟩:=I.loc;rw [<-z,j] at J;cases J
 ·obtain ⟨_,o,J,_⟩:=I.funs.mem z;rw [j] at J;cases J
 ·by_cases F:b∈X.ex
  ·exact .inl F
  ·rwa[.inr ?_]
   cases q:X.s₀.heap.get? b with
   |none=>rfl
   |some o=>obtain ⟨o',e⟩:=I.base.there b o q F;rw [j] at e;cases e
 ·obtain ⟨v,o,J,_⟩:=I.cell x c e;rw [z,j] at J;cases J
 ·have e:=(I.pin p G).1;rw [z,j] at e;cases e
theorem ay.pass {ch:List Addr}{h':Heap}(I:ay X pins σ H s)(p:Pass @eb ch s.heap h')(O:∀b∈ch,Nw X pins H b):ay X pins σ H {s with heap:=h'}:=by
 have S:∀b u,H b=some u->b∉ch:=λb u e z=>by rw [(O b z).1] at e;cases e
 have L:∀b u,H b=some u->b∉xx X.stack:=λb u e z=>by rw [I.stkFree b z] at e;cases e
 have R:∀b o,X.s₀.heap.get? b=some o->b∉X.ex->b∉ch:=λb o e j F=>by
  rcases (O b F).2.2.2.1 with z|z
  ·exact j z
  ·rw [e] at z;cases z
 have ac:∀b o,X.s₀.heap.get? b=some o->b≠X.env.locals:=λb o e=>Nat.ne_of_lt @q
 have W:∀b o,X.s₀.heap.get? b=some o->b∉X.fs->b∉xx X.stack:=λb o e F z=>by
  rcases mem_cons.mp @fX with q|q
  ·exact ac b o e q
  ·exact F q
 have Z:X.env.locals∉ch:=λz=>(O _ z).2.1 rfl;have Y:∀x c,X.env.cells.lookup x=some c->c∉ch:=λx c e z=>(O c z).2.2.2.2.1 x c e rfl
 have G:∀x c,X.env.cells.lookup x=some c->∀v,s.heap.IsCell c v->h'.IsCell c v:=λx c e v ⟨o,U,hd⟩=>by
  obtain ⟨sl,q⟩:=p.slot c o (Y x c e) U;exact ⟨_,q,hd⟩
 rwa[⟨I.ok,I.os,I.bare,⟨λb o e n F j=> ?_,λb o e n F j=> ?_,I.base.free,λb o e j=> ?_,I.base.tups,I.base.frzs,I.base.tbls⟩,?_,λx c e=> ?_,I.free,I.freeC,λq hq=> ?_,λb u e=> ?_,I.len⟩]
 ·exact p.keep b o @cU (W b o e F) (I.base.keep b o e n F j)
 ·obtain ⟨sl,e1⟩:=I.base.slot b o e n F j;obtain ⟨ae,e2⟩:=p.slot b _ @cU e1;exact ⟨ae,e2⟩
 ·obtain ⟨o',e1⟩:=I.base.there b o e j;obtain ⟨ae,e2⟩:=p.slot b _ @cU e1;exact ⟨_,e2⟩
 ·obtain ⟨m,⟨o,es,ep,U,r⟩,hl⟩:=I.loc;obtain ⟨sl,hL⟩:=p.slot _ o Z U;rwa[⟨m,⟨_,es,ep,hL,r⟩,λi x v e1 e2 e3=> ?_⟩];obtain ⟨u,rv,l⟩:=hl i x v e1 e2 e3;rwa[⟨u,rv,?_⟩]
  rcases l with l|⟨k,c,e,z⟩
  ·exact .inl l
  ·exact .inr ⟨k,c,e,G x c e _ z⟩
 ·obtain ⟨v,z⟩:=I.cell x c e;exact ⟨v,G x c e v z⟩
 ·obtain ⟨e,n,ne,nf,d⟩:=I.pin q hq;rwa[⟨p.keep q.1 q.2 (λz=>(O _ z).2.2.2.2.2 q hq rfl) @k e,n,ne,nf,d⟩]
  rcases mem_cons.mp (I.stkSub _ z) with y|y
  ·exact ne y
  ·exact nf y
 ·rwa[(I.hok b u e).stay (λc v J q=>p.keep c v ?_ ?_ q) @dp λ_ _ q=>q]
  ·rcases J with z|z
   ·rw [z];exact S b u e
   ·exact S c _ z
  ·rcases J with z|z
   ·rw [z];exact L b u e
   ·exact L c _ z
def MA (X:Cx)(pins:List (Addr×Obj))(H:Hp)(h:Heap)(a:Addr)(cls:Value)(dd:Option Addr):Prop:=Nw X pins H a/\
 ((∃oe vs,h.get? a=some oe/\oe.cls=cls/\oe.dict=dd/\oe.data= .fields vs/\vs[1]? =some .none/\vs[2]? =some .none)\/∃T fl,JS h a T cls dd fl/\Nw X pins H T/\(fl= .none\/∃L,X.env.frame=some L/\fl=rawInt L))
theorem y0 {A:Around}{M:Model}{E:Value->Shared->Prop}{a:Addr}{Z:Value}{dd:Option Addr}{Q:Unit->Shared->Prop}{L:Addr}(I:ay X pins σ H s)(x:MA X pins H s.heap a Z dd)
(hA:A.frames=some X.stack)(F:X.stack=X.env::X.outer)(hf:X.env.frame=some L)
(h:∀h' T,ay X pins σ H {s with heap:=h'}->Nw X pins H T->JS h' a T Z dd (rawInt L)->Q () {s with heap:=h'}):wpAny M A (noteFrame (.ref a) X.env) Q E s:=by
 obtain ⟨fa,x⟩:=x
 have ae:A.frames=some (X.env::X.outer):=by rw [<-F];exact hA
 have hl:s.heap.FunFrames X.base (X.env::X.outer):=by rw [<-F];exact I.stack
 unfold noteFrame;simp only [hf]
 rcases x with ⟨oe,vs,h1,h2,h3,R,W,G⟩|⟨T,fl,x,fT,aa⟩
 ·rwa[wpAny_bind (wpAny_field h1 R W ?_)];rw [if_neg @c];rwa[vA ae hl hf h1 R (Array.getElem?_eq_some_iff.mp W).1 G λh' T p Y x=> ?_];rw [<-F] at p;have J:=I.pass p (by simpa using fa);exact h h' T J (I.nw Y (I.hok.none_of Y)) (by rw [<-h2,<-h3];exact x)
 ·obtain ⟨oe,vs,oT,ts,h1,h2,h3,R,W,G,h6,h7,h8,h9⟩:=id x.ex;rwa[wpAny_bind (wpAny_field h1 R W ?_)];rw [if_pos (show (Value.ref T != Value.none)=true from by simp)];rwa[wpAny_bind (wpAny_field h7 h8 h9 ?_)]
  rcases aa with rfl|⟨L',S,rfl⟩
  ·rw [if_neg (show ¬((Value.none==rawInt L)=true) from by simp [rawInt])];have ac:3<ts.size:=(Array.getElem?_eq_some_iff.mp h9).1;rwa[wpAny_bind (wpAny_setField h7 h8 ac ?_)];have j:∀b,b≠T->∀g,(s.heap.update T g).get? b=s.heap.get? b:=λb U g=>Heap.get?_update_other _ _ (Ne.symm U)
   have p1:Pass @eb [T] s.heap (s.heap.update T (Obj.mapFields (·.setIfInBounds 3 Value.none))):=
    ⟨λb o U _ O=>(j b (λz=>U (by simp [z])) _).trans O,λb o U O=>⟨o.slots,(j b (λz=>U (by simp [z])) _).trans O⟩⟩
   have J1:=I.pass p1 (by simpa using fT);rwa[vA (s:= {s with heap:=s.heap.update T (Obj.mapFields (·.setIfInBounds 3 Value.none))}) ae (base:=X.base) (by rw [<-F];exact J1.stack) hf ((j a (Ne.symm h6) _).trans h1) R (Array.getElem?_eq_some_iff.mp W).1 G λh' T' p Y x'=> ?_];rw [<-F] at p;have J:=J1.pass p (by simpa using fa);exact h h' T' J (J1.nw Y (J1.hok.none_of Y)) (by rw [<-h2,<-h3];exact x')
  ·rw [hf] at S;cases S;rw [if_pos (show (rawInt L==rawInt L)=true from by simp)];exact wpAny_pure (h s.heap T I fT x)
theorem Et {A:Around}{M:Model}{E:Value->Shared->Prop}{a:Addr}{G:Value}{dd:Option Addr}{Q:Unit->Shared->Prop}{L:Addr}(I:ay X pins σ H s)(x:MA X pins H s.heap a G dd)
(R:A.frames=some X.stack)(j:X.stack=X.env::X.outer)(U:X.env.frame=some L)
(h:∀h' T,ay X pins σ H {s with heap:=h'}->Nw X pins H T->JS h' a T G dd .none->Q () {s with heap:=h'}):wpAny M A (leaving X.env (.ref a)) Q E s:=by
 unfold leaving;rwa[wpAny_bind (y0 I x R j U λh1 T J F S=>tT (s:= {s with heap:=h1}) S λh2 p O=> ?_)];exact h h2 T (J.pass (p.more λ_ z=>nomatch z) (by simpa using F)) F O
end
def lV (P:Program)(w:World):nz:=λouter H s E e s'=>∃(a T:Addr) (cls:Value) (dd:Option Addr) (H':Hp),e= .ref a/\s'.os=s.os/\AllBare s'.gens/\Un (xx outer) [] H H' s.heap s'.heap/\gi P w H' s'.heap/\
 s.heap.get? a=none/\s.heap.get? T=none/\H' a=none/\H' T=none/\JS s'.heap a T cls dd .none/\E cls dd H'
def Fl (X:Cx)(E:XK):Prop:=∀(pins:List (Addr×Obj)) (σ:St) (H:Hp) (s:Shared) (a:Addr) (cls:Value) (dd:Option Addr),ay X pins σ H s->MA X pins H s.heap a cls dd->E cls dd H->X.xe (.ref a) s
theorem ay.afterE {X:Cx}{pins:List (Addr×Obj)}{σ:St}{H:Hp}{s s':Shared}{E:XK}{e:Value}(I:ay X pins σ H s)(h:lV X.prog X.w X.stack H s E e s'):
 ∃a cls dd H',e= .ref a/\ay X pins σ H' s'/\MA X pins H' s'.heap a cls dd/\E cls dd H':=by
 obtain ⟨a,T,cls,dd,H',rfl,os,j,G,af,J,Y,F,L,x,q⟩:=h;rwa[⟨a,cls,dd,H',rfl,I.call' os G af j (λb z=>nomatch z),⟨I.nw J F,.inr ⟨T,_,x,I.nw Y L,.inl rfl⟩⟩,q⟩]
theorem Fl.passes {X:Cx}{E:XK}(f:Fl X E):gw (lV X.prog X.w) X E:=λpins σ H s e s' I h=>by
 obtain ⟨a,G,dd,H',rfl,J,x,q⟩:=I.afterE h;exact f pins σ H' s' a G dd J x q
section
variable {P:Program}{w:World}{K:Fg}{mg:Str->Option Value}{base:Heap}{N:List Str}{qual:Str}{scope:Scope}{f:Addr}{cd:Value}{A:Around}{outer:List Env}{s:Shared}{H:Hp}{E:XK}
theorem dD:Fl (iR @V P w K mg base N qual scope f cd A outer s H E) E:=by
 intro pins σ H' s' a G dd I x q;show wpAny _ _ _ _ _ _;rwa[Et I x I.ok.frames rfl rfl λh' T J F L=> ?_];have j:=x.1;rwa[⟨a,T,G,dd,H',rfl,J.os,J.bare,J.base,J.hok,?_,?_,j.1,F.1,L,q⟩]
 ·rcases j.2.2.2.1 with z|z
  ·exact absurd (show a∈([]:List Addr) from z) @e
  ·exact z
 ·rcases F.2.2.2.1 with z|z
  ·exact absurd (show T∈([]:List Addr) from z) @e
  ·exact z
theorem Hf:PassesOwn @P (iR @V P w K mg base N qual scope f cd A outer s H E).A (iR @V P w K mg base N qual scope f cd A outer s H E).env (iR @V P w K mg base N qual scope f cd A outer s H E).xe:=by
 intro e s' h;have h':wpAny @P (A.deeper @L) (leaving @L e) (λ_ ad=>lV P w outer H s E e ad) (λj ad=>lV P w outer H s E j ad) s':=h;exact PassesOwn.leaving (Q₁:=λe ad=>lV P w outer H s E e ad) (E₁:=λj ad=>lV P w outer H s E j ad) e s' h'
end
theorem be.okX {P:Program}{w:World}{K:Fg}{mg:Str->Option Value}{base:Heap}{x qual:Str}{st:Stmt}{f:Addr}{fd:FuncData}{N ps:List Str}{k:Nat}{sp:Sp}(F:be K x qual st f fd)(S:ai N ps @cf)(O:∀vs H Q E,sp vs H Q E->vs.length=ps.length)
(j:∀(cdv:Value) (A:Around) (outer:List Env) (s:Shared) (H:Hp) (vs:List V) (Q:VK) (E:XK),bY k @bg->sp vs H Q E->
   ∃t,uG (iR @V P w K mg base N qual @cf f cdv A outer s H E) @dN t/\t {nx:=λ_ H'=>Q .non H',rt:=Q} @bF H):ax P w K mg base @V (k+1) f fd ps sp:=by
 obtain ⟨R,J,W,Y,pm,Z,cdv,I,ac,rfl,G,z⟩:=F.ex;exact M8 G z S O λA outer s H vs Q E U L=>j cdv A outer s H vs Q E U L
structure nq (P:Program)(w:World)(K:Fg)(mg:Str->Option Value)(base:Heap)(n:Nat)(x:Str)(ps:List Str)(sp:Sp):Prop where
 ex:∃f fd,ax P w K mg base @V n f fd ps sp/\fv K fd ps []/\W.keepIn K (.ref f)=true/\mg x=some (.ref f)
section
variable {X:Cx}{x:Str}{p pos:Pos}{e:Expr}{es:List Expr}{t:TA}{ps:List Str}{sp:Sp}{n m:Nat}{E:XK}
theorem ik (fl:Fl X E)(c:nq X.prog X.w X.K X.mg X.base n x ps sp)(U:bY m X.A)(J:n<=m)(S:Gl X x)(G:PA X (e::es) t)(z:(x==("__debug__":Str))=false:=by decide)
(I:aG (e::es)=true:=by rfl):PE X (.Call (.Name x p) (e::es) [] pos) (vg sp [] E t):=by
 obtain ⟨f,fd,F,b,k,j⟩:=c.ex;have h':(bu e&&aG es)=true:=I;rw [Bool.and_eq_true] at h';exact CB (F.mono J) U S j k b .nil fl.passes G z @cY @cZ
end
theorem LZ {K:Fg}{h:Heap}{C:Addr}{bmB:List Value}{newId:String}(X:K.In h)(q:W.excIn K C bmB newId=true):
 ∃bm N nm q bs hdct sn sub ab col dd k0 k1 k2 k3 k5 mN,h.get? C=some @A/\h.Ns N mN/\mN "__init__"=none/\OwnTail h bmB bm:=by
 unfold W.excIn at q;split at q
 case h_2=>cases q
 case h_1 dd cd sl ho=>
  split at q
  case h_2=>cases q
  case h_1 C' bm k0 k1 k2 k3 n k5 hm hs=>
   simp only [Bool.and_eq_true,beq_iff_eq,Bool.not_eq_true'] at q;obtain ⟨⟨⟨⟨⟨e1,e2⟩,j⟩,O⟩,af⟩,z⟩:=q;subst e1 e2;obtain ⟨nm,bs,J,I,G,L,sn,sub,ab,col,F⟩:=cd;dsimp only at hm j af z;subst hm j;obtain ⟨l⟩:=sl;simp only at hs;subst hs;exact ⟨bm,I,nm,G,bs,L,sn,sub,ab,col,dd,k0,k1,k2,k3,k5,_,X _ _ ho,.of_isNs (W.isNs_of_in X af),W.nsMap_none_of_in X af z,W.tail_of_in X O⟩
def N3 (C:Addr)(E:XK)(t:TA):TS:=λ_ σ H=>t σ H λvs H1=>vs.length<=sizeLine/\E (.ref C) none H1
section
variable {X:Cx}{C:Addr}{bmB:List Value}{B newId initId:String}{x:Str}{np cpos pos:Pos}{e:Expr}{es:List Expr}{t:TA}{E:XK}
theorem ay.made' {pins:List (Addr×Obj)}{σ:St}{H:Hp}{s:Shared}{h':Heap}{a:Addr}{vs:List Value}(I:ay X pins σ H s)(m:Heap.MadeExcOf s.heap h' a (.ref C) vs):
 ay X pins σ H {s with heap:=h'}/\MA X pins H h' a (.ref C) none:=by
 obtain ⟨t,h1,_⟩:=m.there;exact ⟨I.kept (t':=s.toks) m.keeps,I.nw m.new (I.hok.none_of m.new),.inl ⟨_,_,h1,rfl,rfl,rfl,rfl,rfl⟩⟩
theorem GY (fl:Fl X E)(hc:X.calm=true)(O:W.excIn X.K C bmB newId=true)(R:ExcBaseFacts B newId initId bmB)(hg:Gl X x)(hm:X.mg x=some (.ref C))(ha:PA X (e::es) t)
(Z:aG (e::es)=true:=by rfl)(L:(x==("__debug__":Str))=false:=by decide):PS X (.Raise (some (.Call (.Name x np) (e::es) [] cpos)) none pos) (N3 C E t):=by
 intro pins s σ H D I h;have h':(bu e&&aG es)=true:=Z;rw [Bool.and_eq_true] at h';have S:=aP (env:=X.env) (es:=es) h'.1;have F:(backTo cpos @w).any (·.1)=false:=br h'.2;obtain ⟨bm,N,nm,q,bs,hdct,sn,sub,ab,col,dd,k0,k1,k2,k3,k5,Y,hC,hN,G,T⟩:=LZ I.ok.mod.kin O
 refine wpAny_Raise_call_subT (C:=C) (nm:=nm) (q:=q) (N:=N) (bs:=bs) (bm:=bm) (hdct:=hdct) (sn:=sn) (sub:=sub) (ab:=ab) (col:=col) (dd:=dd) (k0:=k0) (k1:=k1) (k2:=k2) (k3:=k3) (k5:=k5)
  R (mN:=Y) (T.hasType R.hasBase) @bO (by rw [S];show (false||(backTo cpos @w).any (·.1))=false;rw [F];rfl) G (eR I hg hm ⟨rfl,?_⟩ L)
 have U:=ha cpos pins s σ H _ I h;rw [S] at U ⊢;rwa[Calls.evalArgs_plain (bz U λus s2 ⟨vs,H2,j,r,z,q2⟩=>⟨rfl,by rw [<-r.length];exact z,j.bk _ _ hC,hN.keeps j.bk,T.keeps j.bk,λh' a m=> ?_⟩)];obtain ⟨J,x⟩:=j.made' m;exact fl pins σ H2 _ a _ _ J x q2
end
theorem tW {K:Fg}{h:Heap}{C:Addr}{bmB:List Value}{newId:String}(X:K.In h)(q:W.excIn K C bmB newId=true):
 ∃bm N nm q bs hdct sn sub ab col dd k0 k1 k2 k3 k5,h.get? C=some @A/\OwnTail h bmB bm/\∀v b,W.mroIn K C v=some b->(Value.ref C::bm).contains v=b:=by
 unfold W.excIn at q;split at q
 case h_2=>cases q
 case h_1 dd cd sl ho=>
  split at q
  case h_2=>cases q
  case h_1 C' bm k0 k1 k2 k3 n k5 hm hs=>
   simp only [Bool.and_eq_true,beq_iff_eq,Bool.not_eq_true'] at q;obtain ⟨⟨⟨⟨⟨e1,e2⟩,j⟩,O⟩,af⟩,z⟩:=q;subst e1 e2;obtain ⟨nm,bs,J,L,I,G,sn,sub,ab,col,F⟩:=cd;dsimp only at hm j af z;subst hm j;obtain ⟨l⟩:=sl;simp only at hs;subst hs;rwa[⟨bm,L,nm,I,bs,G,sn,sub,ab,col,dd,k0,k1,k2,k3,k5,X _ _ ho,W.tail_of_in X O,λv b e=> ?_⟩];unfold W.mroIn W.clsIn at e;rw [ho] at e;simpa using e
section
variable {M:Model}{A:Around}{E:Value->Shared->Prop}
variable {nm q nm' q':Str}{C N C' N':Addr}{bs bm bs' bm':List Value}{hdct hdct':Bool}{sn sn':List Str}{sub sub':List Value}{ab ab':Bool}{col col':Option Bool}{dd dd':Option Addr}{k0 k1 k2 k3 k5 l0 l1 l2 l3 l5:Option Value}{newId newId':String}
theorem qf {s:Shared}{e:Addr}{R:Obj}{b:Bool}{Q:Bool->Shared->Prop}
(J:s.heap.get? C=some @A)(F:s.heap.get? C'=some (excClassObj nm' q' C' N' bs' bm' hdct' sn' sub' ab' col' dd' l0 l1 l2 l3 l5 newId'))
(S:s.heap.get? e=some R)(Y:R.cls= .ref C')(j:(Value.ref C::bm).contains (.type "BaseException")=true)(z:(Value.ref C'::bm').contains (.ref C)=b)
(G:Q b s):wpAny M A (excMatches (.ref e) (.ref C)) Q E s:=by
 obtain ⟨h,g,d,t,os⟩:=s;have f:=tc_notTuple;unfold excMatches
 repeat (first|(with_reducible refine wpAny_loadPart_at S ?_;rw [Y])|with_reducible refine wpAny_loadPart_at J ?_|(with_reducible refine wpAny_isSubtype_exc J ?_;rw [j])|(with_reducible refine wpAny_isSubtype_exc F ?_;rw [z])|wp_step)
 cases b<;>(wp_walk;exact G)
end
structure Cf (K:Fg)(C:Addr):Prop where
 ex:∃bmB newId,W.excIn K C bmB newId=true/\bmB.contains (.type "BaseException")=true
def Dl (K:Fg)(cls:Value)(C:Addr)(b:Bool):Prop:=∃D,cls= .ref D/\Cf K D/\W.mroIn K D (.ref C)=some b
theorem Jo {K:Fg}{M:Model}{A:Around}{E:Value->Shared->Prop}{s:Shared}{C a:Addr}{G:Value}{R:Obj}{b:Bool}{Q:Bool->Shared->Prop}(X:K.In s.heap)(O:Cf K C)(c:Dl K G C b)
(W:s.heap.get? a=some R)(Y:R.cls=G)(L:Q b s):wpAny M A (excMatches (.ref a) (.ref C)) Q E s:=by
 obtain ⟨D,rfl,hD,Z⟩:=c;obtain ⟨bmB,newId,U,j⟩:=O.ex;obtain ⟨J,newId',S,_⟩:=hD.ex;obtain ⟨bm,N,nm,q,bs,hdct,sn,sub,ab,col,dd,k0,k1,k2,k3,k5,F,T,_⟩:=tW X U;obtain ⟨bm',N',nm',q',bs',hdct',sn',sub',ab',col',dd',l0,l1,l2,l3,l5,I,_,z⟩:=tW X S;exact qf F I W Y (by rw [contains_cons,T.hasType j,Bool.or_true]) (z _ _ Z) L
noncomputable def Cx.mk' (X:Cx)(a:Addr):Cx:= {X with A:=X.A.mark @fD,calm:=false,xe:=λ_ _=>False}
section
variable {X:Cx}{pins:List (Addr×Obj)}{σ:St}{H:Hp}{s:Shared}{a:Addr}
theorem ay.mark (I:ay X pins σ H s):ay (X.mk' a) pins σ H s:=
 ⟨⟨I.ok.mod,I.ok.kind,I.ok.glob,I.ok.blt,I.ok.above,I.ok.inj,I.ok.has,I.ok.cab,(λz=>nomatch (show false=true from z)),I.ok.frames,I.ok.stk,I.ok.exf,I.ok.bs,I.ok.bsz,I.ok.noex,I.ok.exfs,I.ok.funs,I.ok.frf⟩,
   I.os,I.bare,I.base,I.loc,I.cell,I.free,I.freeC,I.pin,I.hok,I.len⟩
theorem ay.unmark (W:X.Ok)(I:ay (X.mk' a) pins σ H s):ay X pins σ H s:=⟨W,I.os,I.bare,I.base,I.loc,I.cell,I.free,I.freeC,I.pin,I.hok,I.len⟩
end
def XP (X:Cx)(pins:List (Addr×Obj))(σ:St)(E:XK)(e:Value)(s':Shared):Prop:=∃a cls dd H',e= .ref a/\ay X pins σ H' s'/\MA X pins H' s'.heap a cls dd/\E cls dd H'
def PX (X:Cx)(e:Expr)(t:XK->TE):Prop:=
 ∀(E:XK) (pins:List (Addr×Obj)) (s:Shared) (σ:St) (H:Hp) (Q:VK),ay X pins σ H s->t E σ H Q->wpAny @d X.A @fZ @u @fy s
def U3 (X:Cx)(st:Stmt)(t:XK->TS):Prop:=
 ∀(E:XK) (pins:List (Addr×Obj)) (s:Shared) (σ:St) (H:Hp) (D:lQ),ay X pins σ H s->t E D σ H->wpAny @d X.A (exec st X.env) @gi @fy s
section
variable {X:Cx}{x:Str}{p pos:Pos}{e:Expr}{es:List Expr}{t:TA}{ps:List Str}{sp:Sp}{n m:Nat}{E:XK}
theorem Mo {α:Type}{M:Model}{A:Around}{E Z:Value->Shared->Prop}{s:Shared}{c:Sem α}{Q:α->Shared->Prop}(z:Z=λ_ _=>False)(h:wpAny M A c Q Z s):wpAny M A c Q E s:=by
 subst z;exact wpAny_noRaise h
theorem KC {pins:List (Addr×Obj)}{σ:St}{H:Hp}{s:Shared}{Q:VK}{us:List Value}{vs:List V}{f:Addr}{fd:FuncData}{k:Nat}(F:ax X.prog X.w X.K X.mg X.base (lV X.prog X.w) k f fd ps sp)(j:bY k X.A)(z:fv X.K fd ps [])
(I:ay X pins σ H s)(r:aO vs us)(h:sp (vs++[]) H Q E):wpAny @d X.A (call (.ref f) us) @u @fy s:=by
 have U:aO (vs++[]) (us++[]):=r.append .nil
 have W:(us++[]).length=ps.length:=by rw [<-U.length];exact F.len _ _ _ _ h
 rwa[wpAny_call (codeAny_mono (F.run X.A X.stack s H ⟨us,[]⟩ (us++[]) (vs++[]) Q E j I.env0 (z s us I.kIn W) U h) λr s' G=> ?_)]
 cases r with
 |error e=>exact I.afterE G
 |ok fl=>
  cases fl with
  |ret u=>exact I.after G
  |next=>exact False.elim G
  |brk=>exact False.elim G
  |cont=>exact False.elim G
theorem RM (L:X.xe=λ_ _=>False)(c:nq X.prog X.w X.K X.mg X.base n x ps sp)(U:bY m X.A)(J:n<=m)(S:Gl X x)(R:PA X (e::es) t)(z:(x==("__debug__":Str))=false:=by decide)
(j:aG (e::es)=true:=by rfl):PX X (.Call (.Name x p) (e::es) [] pos) (λE=>vg sp [] E t):=by
 obtain ⟨f,fd,F,b,k,O⟩:=c.ex;have h':(bu e&&aG es)=true:=j;rw [Bool.and_eq_true] at h';intro E pins s σ H Q I h;rwa[wpAny_Call_Name_kw (eR I S O ?_ z)];rwa[W.callWith_K (h₀:=X.base) I.ok.mod.kin k (bz (Mo L (R pos pins s σ H _ I h)) λY s1 ⟨Z,H1,G,r,q⟩=>⟨G.kIn,?_⟩) @cY @cZ];exact KC (F.mono J) U b G r q
def TH (t:XK->TE):XK->TS:=λE D σ H=>t E σ H λ_ H1=>D.nx σ H1
theorem GX {te:XK->TE}(S:PX X e te)(hs:swapsWith e none pos.line X.env=pure false:=by rfl):U3 X (.Expr e pos) (TH te):=by
 intro E pins s σ H D I h;exact wpAny_Expr_any (bz (S E pins s σ H _ I h) λv L ⟨x,H1,G,F,J⟩=>⟨σ,H1,G,J⟩) I.quiet hs
theorem MA.land {X:Cx}{pins:List (Addr×Obj)}{σ:St}{H:Hp}{s:Shared}{a T:Addr}{G:Value}{dd:Option Addr}{fl:Value}{M:Model}{A:Around}{E:Value->Shared->Prop}{Q:Unit->Shared->Prop}(I:ay X pins σ H s)(x:JS s.heap a T G dd fl)(F:Nw X pins H T)
(h:∀h',ay X pins σ H {s with heap:=h'}->JS h' a T G dd .none->Q () {s with heap:=h'}):wpAny M A (setFlight (.ref a) none) Q E s:=
 tT x λh' p L=>h h' (I.pass (p.more λ_ z=>nomatch z) (by simpa using F)) L
end
open PySem.W
section
variable {prog:Program}{w:World}{A:Around}{E:Value->Shared->Prop}{s:Shared}{K:Frag}{x D:Addr}{ox:Obj}{odo:Option Obj}{name:Str}
theorem Qb {R:Result->Shared->Prop}{tk:Tok}(X:K.In s.heap)(I:PySem.W.InstAt s.heap x ox D odo)
(z:findIn K (.ref D) "__class__"=some (some (.builtin "object.__class__")))(G:mroIn K D (.type "BaseException")=some true)(J:mroIn K D (.type "object")=some true)
(h:R (.ok (.ret (.ref D))) s):codeAny @l A (.call (.builtin "BaseException.__getattribute__") ⟨[.ref x,.str "__class__" tk],[]⟩) R s:=by
 obtain ⟨Y,g,d,t,os⟩:=s;have L:=I.type (M:=model prog w);have O:=looks_findIn (M:=model prog w) X z;have S:=looks_mroIn (M:=model prog w) X G;rwa[codeAny_call_builtin PySem.F.attr_ValueError.ga.plain PySem.F.entry_bexc_ga ?_]
 have U:builtinKind "BaseException.__getattribute__"=some .slot:=by decide+kernel
 have j:splitId "BaseException.__getattribute__"=some ("BaseException","__getattribute__"):=by decide+kernel
 have ha:=PySem.F.args_bexc_ga (.ref x) (.str "__class__" tk);simp only [checkBuiltinCall,U,j];rwa[wpAny_bind ?_];unfold isInstance;rwa[wpAny_bind (L.at (S.at ?_))];have Z:=KF.type_class;have f6:=PySem.F.slot_gs_get.lookup;have f7:=PySem.F.slot_gs_set.lookup
 repeat (any_goals (first|assumption|with_reducible refine L.at ?_|with_reducible refine O.at ?_|wp_step))
 rwa[class_get (s:=⟨Y,g,d,t,os⟩) (ox:=ox) (od:=odo) X I J ?_]
 repeat (any_goals (first|assumption|wp_step))
theorem L7 {Q:Option Value->Shared->Prop}(X:K.In s.heap)(I:PySem.W.InstAt s.heap x ox D odo)(j:findIn K (.ref D) "__getattribute__"=some (some (.builtin "BaseException.__getattribute__")))
(z:findIn K (.ref D) "__getattr__"=some none)(R:findIn K (.ref D) "__class__"=some (some (.builtin "object.__class__")))(G:mroIn K D (.type "BaseException")=some true)(J:mroIn K D (.type "object")=some true)
(h:Q (some (.ref D)) {s with toks:=s.toks+1}):wpAny @l A (getAttr? (.ref x) "__class__") Q E s:=by
 obtain ⟨hh,g,d,t,os⟩:=s;have L:=I.type (M:=model prog w);have O:=looks_findIn (M:=model prog w) X j;have L2':=looks_findIn (M:=model prog w) X z;have U:=looks_findIn (M:=model prog w) X R;have Y:=looks_mroIn (M:=model prog w) X G;have Z:=PySem.F.attr_ValueError.ga.bind (.ref x);unfold getAttr? getAttrBy? getAttrBy;rwa[wpAny_bind (wpAny_mkText (wpAny_bind (wpAny_attempt (wpAny_holding (wpAny_bind (L.at (wpAny_bind (O.at ?_))))))))]
 have S:(Value.builtin "BaseException.__getattribute__"==Value.builtin "object.__getattribute__")=false:=by decide+kernel
 repeat (any_goals (first|assumption|wp_step))
 rwa[L2'.at ?_]
 repeat (any_goals (first|assumption|wp_step))
 rwa[Qb X I R G J ?_];exact handed_on rfl (wpAny_pure h)
end
noncomputable def iP (a:Addr)(cls:Value)(dd:Option Addr):HO:= .ext λh=>∃oe vs,h.get? a=some oe/\oe.cls=cls/\oe.dict=dd/\oe.data= .fields vs/\vs[2]? =some .none
theorem L8 {P:Program}{w:World}{H:Hp}{h:Heap}{a T:Addr}{G fl:Value}{dd:Option Addr}(x:JS h a T G dd fl):bh P w H h a (iP a G dd):=by
 obtain ⟨R,j,I,J,h1,h2,z,F,W,L,_⟩:=x.ex;exact ⟨⟨R,j,h1,h2,z,F,L⟩,⟨_,h1⟩,λO Z ⟨R,j,k1,k2⟩ st=>⟨R,j,st _ k1,k2⟩⟩
structure pG (K:Frag)(D:Addr):Prop where
 ga:findIn K (.ref D) "__getattribute__"=some (some (.builtin "BaseException.__getattribute__"))
 gr:findIn K (.ref D) "__getattr__"=some none
 cl:findIn K (.ref D) "__class__"=some (some (.builtin "object.__class__"))
 mB:mroIn K D (.type "BaseException")=some true
 mO:mroIn K D (.type "object")=some true
theorem y9 {K:Frag}{x D:Addr}{ox:Obj}{odo:Option Obj}(k:pG K D):KitX K (.ref x) (.ref D) (λh=>PySem.W.InstAt h x ox D odo) where
 ty:=λ_ _ _ I=>I.type
 it:=λM h X _=>by
  obtain ⟨cd,J,_⟩:=Option.bind_eq_some_iff.mp k.mO;unfold clsIn at J;split at J
  ·rename_i L O G ae F;intro U Y Z s' R q;unfold isType loadHead;exact wpAny_bind (wpAny_loadPart (R _ _ (X _ _ F)) (wpAny_pure q))
  ·cases J
 ne:=λh S dd its n sl X j=>by
  obtain ⟨cd,J,_⟩:=Option.bind_eq_some_iff.mp k.mO;rwa[Bool.eq_false_iff.mpr λq=> ?_];have e:D=S:=Value.ref.inj (beq_iff_eq.mp q);subst e;unfold clsIn at J;split at J
  ·rename_i L O G ae F;have z:=(X _ _ F).symm.trans j;cases z
  ·cases J
 ca:=λX I q=>L7 X I k.ga k.gr k.cl k.mB k.mO q
section
variable {X:Cx}{pins:List (Addr×Obj)}{σ:St}{H:Hp}{s:Shared}{a:Addr}{o:HO}
theorem ay.track (I:ay X pins σ H s)(n:Nw X pins H a)(W:bh X.prog X.w @W s.heap a o):ay X pins σ @W s:=by
 obtain ⟨L,Y,U,S,R,O⟩:=n
 have F:∀b u,H b=some u->upd H a o b=some u:=λb u e=>by rw [ag (bq e L)];exact e
 rwa[⟨I.ok,I.os,I.bare,⟨I.base.keep,I.base.slot,λb u e n J=> ?_,I.base.there,λb xs e=>F _ _ @em,λb u v e=>F _ _ (I.base.frzs b u v e),λb ps e=> ?_⟩,I.loc,I.cell,?_,λx c e=> ?_,λp G=> ?_,λb u e=> ?_,I.len⟩]
 ·have j:b≠a:=λz=>by
   subst z
   rcases S with q|q
   ·exact J q
   ·rw [e] at q;cases q
  rw [ag j];exact I.base.free b u e n J
 ·obtain ⟨m,q⟩:=I.base.tbls b ps e;exact ⟨m,F _ _ q⟩
 ·rw [ag (Ne.symm Y)];exact I.free
 ·rw [ag (R x c e)];exact I.freeC x c e
 ·obtain ⟨e,n,r⟩:=I.pin p G;exact ⟨e,by rw [ag (O p G)];exact n,r⟩
 ·by_cases j:b=a
  ·subst j;rw [af] at e;cases e;exact W
  ·rw [ag j] at e;exact (I.hok b u e).stay @cI (λc q=>F _ _ q) λc xs q=>F _ _ q
theorem qO {M:Model}{A:Around}{E:Value->Shared->Prop}{j:Nat}{n:Str}{pos:Pos}{Q:Unit->Shared->Prop}(I:ay X pins σ H s)(hN:X.N.Nodup)(R:X.N[j]? =some n)(hk:X.env.scope.names.lookup n=some .local)
(h:∀s',ay X pins @ed H s'->Q () s'):wpAny M A (do bindName X.env n .none;unbindBehindTheSuite X.env n pos) Q E s:=by
 obtain ⟨m,S,hl⟩:=id I.loc
 have Y:(X.env.scope.kind== .class||(X.env.scope.kind== .module&&X.env.locals != X.env.globals))=false:=by rw [I.ok.kind];rfl
 have L:j<σ.length:=by rw [I.len];exact (List.getElem?_eq_some_iff.mp R).1
 rwa[wpAny_nameGoes_keeps hk S Y λh' v af hs=>h _ ?_];obtain ⟨oL,_,_,ag,_⟩:=id S;rwa[⟨I.ok,I.os,I.bare,⟨λb o e n O G=> ?_,λb o e n O G=> ?_,I.base.free,λb o e G=> ?_,I.base.tups,I.base.frzs,I.base.tbls⟩,⟨_,af,λi y v' e1 e2 e3=> ?_⟩,λy c e=> ?_,I.free,I.freeC,λp hp=> ?_,λb Z e=> ?_,by simpa using I.len⟩]
 ·exact (hs.2 b @bV).trans @du
 ·obtain ⟨sl,e1⟩:=I.base.slot b o e n O G;exact ⟨sl,(hs.2 b @bV).trans e1⟩
 ·obtain ⟨o',e1⟩:=I.base.there b o e G;exact ⟨o',(hs.2 b @bV).trans e1⟩
 ·by_cases F:i=j
  ·subst F;rw [getElem?_set_self L] at e2;cases e2
  ·rw [getElem?_set_ne @gL] at e2;obtain ⟨u',r',q⟩:=hl i y v' e1 e2 e3;rwa[⟨u',r',?_⟩]
   rcases q with ⟨k,e⟩|⟨k,c,e,z⟩
   ·rwa[.inl ⟨k,?_⟩];have:y≠n:=λe=>F (mI hN e1 (e▸R));simp [this,e]
   ·exact .inr ⟨k,c,e,z.sameBut hs (I.cne y c e)⟩
 ·obtain ⟨W,z⟩:=I.cell y c e;exact ⟨W,z.sameBut hs (I.cne y c e)⟩
 ·obtain ⟨e,n,U,nf,d⟩:=I.pin p hp;exact ⟨(hs.2 p.1 U).trans e,n,U,nf,d⟩
 ·rwa[(I.hok b Z e).stay (λc W J q=>(hs.2 c ?_).trans q) @dp λ_ _ q=>q];rintro rfl
  rcases J with J|J
  ·have z:=I.free;rw [J,e] at z;cases z
  ·rw [I.free] at J;cases J
end
noncomputable def Se (D:lQ)(j:Nat):lQ:= {nx:=λσ H=>D.nx @ed H,rt:=D.rt,bk:=λσ H=>D.bk @ed H,ct:=λσ H=>D.ct @ed H}
section
variable {X:Cx}
def BM (K:Fg)(a:Addr)(c:V)(H:Hp)(Q:VK):Prop:=∃D dd cv b,H a=some (iP a (.ref D) dd)/\pG K D/\(dd=none\/∃d fs,dd=some d/\H d=some (.xd fs))/\cV c=some cv/\W.kitOne K (.ref D) cv=some b/\Q (.bl b) H
end
theorem u5:entryFor table "proto.unchain"=some Builtin.«proto.unchain»:=by first|exact entryFor_of_fast @o|exact entryFor_of_tree @o
section
variable {prog:Program}{w:World}{A:Around}{E:Value->Shared->Prop}{s:Shared}
theorem Bj {it a:Addr}{L:Obj}{vs:Array Value}{x left ae:Int}{Q:Option Value->Shared->Prop}(S:A.handled=some (.ref a))(Z:s.heap.get? a=some L)(hd:L.data= .fields vs)(h2:vs[2]? =some .none)
(j:IsRangeIter s.heap it x left ae)(I:left<=0)(hQ:∀h',Heap.ExtBut it s.heap h'->Q none {s with heap:=h'}):wpAny @l A @cn Q E s:=by
 have Y:s.TypeIs (.ref it) "range_iterator":=⟨_,j,rfl⟩;unfold pyNext
 refine wpAny_bind (wpAny_attempt (wpAny_callSpecial?_slot (name:=s!"__next__") Y F.slot_range_iterator_next
  (wpAny_call_entry F.slot_range_iterator_next Y F.entry_range_iterator_next ?_ (F.args_range_iterator_next_1 _))))
 show wpAny _ _ (field (.ref it) 0>>=_) _ _ s;rwa[wpAny_bind (wpAny_field j rfl (x:=rawInt x) rfl ?_)];show wpAny _ _ (field (.ref it) 1>>=_) _ _ s;rwa[wpAny_bind (wpAny_field j rfl (x:=rawInt left) rfl ?_)];show wpAny _ _ (field (.ref it) 2>>=_) _ _ s;rwa[wpAny_bind (wpAny_field j rfl (x:=rawInt ae) rfl ?_)];show wpAny _ _ (if left<=0 then _ else _) _ _ s;rw [if_pos I];rwa[wpAny_bind @fK];rwa[wpAny_bind ?_];show wpAny _ _ (newExc (.type "StopIteration") []>>=_) _ _ _;rwa[wpAny_bind ?_];simp only [newExc,newTuple];rwa[wpAny_bind (wpAny_newObj_type ?_ (by size_fits))];rwa[wpAny_bind (m:=firstArgMember _ _) (wpAny_of_eq (a:=Value.none) (by first|rfl|(simp only [firstArgMember];rfl)) ?_)];rwa[wpAny_newObj_type ?_ (by size_fits)];simp only [raiseNew];rwa[wpAny_bind (wpAny_handled ?_)]
 first|rw [show A.in1.handled=some (.ref a) from S]|rw [S]
 dsimp only;have O:=Heap.lt_size Z;have R:∀U W:Obj,((s.heap.push U).push W).get? a=some L:=λU W=>Heap.get?_push_of_some _ (Heap.get?_push_of_some _ Z)
 have J:a≠(s.heap.push {cls:= .type "tuple",data:= .seq ([]:List Value).toArray}).objs.size:=by
  rw [Heap.size_push];exact Nat.ne_of_lt (Nat.lt_succ_of_lt O)
 rw [if_pos (show ((Value.ref a) != Value.ref (s.heap.push {cls:= .type "tuple",data:= .seq ([]:List Value).toArray}).objs.size)=true by simpa using J)];rwa[wpAny_bind (wpAny_holding (wpAny_runValue (codeAny_builtin u5 ?_)))];unfold Builtin.«proto.unchain»;dsimp only;rwa[wpAny_bind (wpAny_field (R _ _) hd h2 ?_)];rw [if_pos @c];rwa[wpAny_bind @cr];rwa[wpAny_pure ?_];have G:=Heap.get?_push_size (s.heap.push {cls:= .type "tuple",data:= .seq ([]:List Value).toArray}) (o:= {cls:= .type "StopIteration",data:= .fields (#[.ref s.heap.objs.size,.none,.none,.none,.bool false,.none]++ownMembersOf (.type "StopIteration") [])}) rfl;show wpAny _ _ _ _ _ _;rwa[wpAny_bind (wpAny_setField (a:=(s.heap.push {cls:= .type "tuple",data:= .seq ([]:List Value).toArray}).objs.size) (i:=2) (x:= .ref a) G rfl (by rw [Array.size_append];exact Nat.lt_of_lt_of_le (by decide:2<6) (Nat.le_add_right _ _)) (wpAny_throw ?_))];rwa[wpAny_bind (wpAny_isInstance (T:="StopIteration") (b:=true) ⟨_,Heap.get?_update_self _ G rfl,rfl⟩ isSubtype_stop ?_)];rwa[wpAny_pure (hQ _ λb o hb e=> ?_)]
 rw [Heap.get?_update_other _ _ (λz=>by
  rw [<-z,Heap.size_push] at e
  exact absurd @N (Nat.not_lt.mpr @bC))]
 exact Heap.get?_push_of_some _ (Heap.get?_push_of_some _ e)
end
noncomputable def MH (a:Addr)(lo:Int)(n:Nat):It:=⟨λi _=>i<n,λi H x H'=>H'=H/\x= .int (lo+i),λi H=>n<=i/\∃cls dd,H a=some (iP a cls dd)⟩
theorem yr {P:Program}{w:World}{K:Fg}{A₀:Around}{c:Bool}{tg:Expr}{a:Addr}(hh:A₀.handled=some (.ref a))(it:Addr)(lo:Int)(n:Nat):
 Dg P w K A₀ c tg (MH a lo n) [it] it (λi h=>IsRangeIter h it (lo+(i:Nat)*1) ((n:Int) - (i:Nat)) 1) where
 mem:=by simp
 obj:=λi h st b j=>by
  have e:b=it:=by simpa using j
  subst e
  exact ⟨_,st,λv z=>by
   have z':Data.fields _=Data.cell v:=z
   cases z'⟩
 keep:=λi h h' st k=>k it @e _ st
 item:=by
  intro X L J S hA hc i pins s σ H E I G st U;subst L J S;obtain ⟨R,O,f2,Z,Y,W⟩:=G it @e;have aa:i<n:=U;rwa[wpAny_pyNext_range_item st @b λh' F sb=> ?_];have I1:ay X pins σ H {s with heap:=h',toks:=s.toks+1}:=I.turned (λb o j e=>(sb.2 b j).trans e) R O Z Y W
  have ag:IsRangeIter h' it (lo+((i+1:Nat):Int)*1) ((n:Int) - ((i+1:Nat):Int)) 1:=by
   have e1:lo+((i+1:Nat):Int)*1=lo+(i:Nat)*1+1:=by lia
   have e2:(n:Int) - ((i+1:Nat):Int)=(n:Int) - (i:Nat) - 1:=by lia
   rw [e1,e2];exact F
  rwa[⟨_,rfl,zm (s:= {s with heap:=h',toks:=s.toks+1}) (n:="range_iterator") F rfl rfl @c ⟨.int (lo+i),H,I1,⟨s.toks,?_⟩,⟨rfl,rfl⟩,ag,λb j=>(G b j).1⟩⟩];rw [Int.mul_one]
 done:=by
  intro X L J S hA hc i pins s σ H E I G st U;subst L J S;obtain ⟨R,O,f2,Z,Y,W⟩:=G it @e;obtain ⟨hn,ac,dd,ea⟩:=U;obtain ⟨⟨oe,vs,k1,k2,k3,k4,k5⟩,_,_⟩:=I.hok a _ ea;exact Bj (by rw [hA];exact hh) k1 k4 k5 st (by have:n<=i:=hn;lia) λh' eb=>⟨rfl,I.turned (t':=s.toks) @ca R O Z Y W⟩
 self:=λ_ _ _ _ _ st h=>wpAny_pyIter_rangeiter st h
section
variable {X:Cx}{tg:Expr}
theorem DV {a:Addr}(J:X.A.handled=some (.ref a)){pins:List (Addr×Obj)}{σ:St}{H:Hp}{s:Shared}{R:It->Hp->Prop}{E:Value->Shared->Prop}{lo hi:Int}{t u v:Tok}{tk:Nat}(I:ay X pins σ H s)(h1: -(2^62)<=lo)(h2:lo<2^62)(j: -(2^62)<=hi)(z:hi<2^62)
(q:R (MH a lo (hi - lo).toNat) H):wpAny @d X.A (pyIter (.ref s.heap.objs.size)) (SY X pins σ tg R) E {s with heap:=s.heap.push {cls:= .type "range",data:= .fields #[.int lo t,.int hi u,.int 1 v]},toks:=tk}:=by
 rwa[wpAny_pyIter_range (IsRange.new ..) (small_one h1 h2 j z) ?_];have G:ay X pins σ H {s with heap:=s.heap.push {cls:= .type "range",data:= .fields #[.int lo t,.int hi u,.int 1 v]},toks:=tk}:=I.kept λb o e=>Heap.get?_push_of_some _ e
 refine ⟨(s.heap.push {cls:= .type "range",data:= .fields #[.int lo t,.int hi u,.int 1 v]}).objs.size,[(s.heap.push {cls:= .type "range",data:= .fields #[.int lo t,.int hi u,.int 1 v]}).objs.size],_,_,H,rfl,
  G.kept (t':=tk) λb o e=>Heap.get?_push_of_some _ e,yr J _ lo (hi - lo).toNat,?_,λb F=> ?_,q⟩
 ·have e1:lo+((0:Nat):Int)*1=lo:=by simp
  have e2:(((hi - lo).toNat:Nat):Int) - ((0:Nat):Int)=Builtin.Range.rangeSize lo hi 1:=by rw [rangeSize_one];split<;>lia
  show IsRangeIter _ _ (lo+((0:Nat):Int)*1) ((((hi - lo).toNat:Nat):Int) - ((0:Nat):Int)) 1;rw [e1,e2];exact Heap.get?_push_size _ rfl
 ·have e:b=(s.heap.push {cls:= .type "range",data:= .fields #[.int lo t,.int hi u,.int 1 v]}).objs.size:=by simpa using F
  subst e;exact G.fpOk @f @cc
def NP (h:Addr)(ta:TA):TI:=λσ H R=>ta σ H λvs H1=>match vs with|[.int j]=>(-4611686018427387904<=j/\j<4611686018427387904)/\R (MH h 0 j.toNat) H1|_=>False
theorem Aw {h:Addr}{a:Expr}{ta:TA}{p pos:Pos}(U:X.A.handled=some (.ref h))(S:Gl X "range")(z:X.mg "range"=none)(G:PA X [a] ta)(hs:bu a=true:=by rfl):Tr X tg (.Call (.Name "range" p) [a] [] pos) (NP h ta):=by
 intro pins s σ H R I q;rwa[Call_ (ly I S z boot_range (PyProof.Rows.callWith_type1 (bz (G pos pins s σ H _ I q) λW Y ⟨O,H1,L,F,J⟩=> ?_) (aP hs) rfl))]
 match O,J with
 |[.int j],J=>
  cases F with
  |cons r rr=>
   cases rr;obtain ⟨t,rfl⟩:=r;have h1: -4611686018427387904<=j:=J.1.1;have h2:j<4611686018427387904:=J.1.2;exact call_range_1 (DV U L @b @b @b @b (by simpa using J.2))
end
theorem zM {h:Addr}{lo:Int}{n:Nat}{pk:List @z}{g:TG}{tt:TT}{te:TE}{σ:St}{H:Hp}{Q:VK}(j:Nat->List V->Hp->Prop)(O:n<=sizeLine)(F:∀i ys H,j i ys H->ys.length<=i)(I:j 0 [] H)
(G:∀ys H,j n ys H->∃cls dd,H h=some (iP h cls dd))
(hs:∀i ys H,i<n->j i ys H->g (.int (lo+i)) @E H λσ2 H2=>vO @E σ2/\tt σ2 H2 λb H3=>if b=true then te σ2 H3 λv H4=>j (i+1) (ys++[v]) H4 else j (i+1) ys H3)
(L:∀ys H,j (n) ys H->∀p,H p=none->Q (.ref p) @O):
 ug (MH h lo n) pk g tt te σ H Q:=by
 rwa[⟨λi m ys H=>m=n - i/\i<=n/\j i ys H,⟨n,by simp,Nat.zero_le _,I⟩,?_⟩];rintro i m ys H ⟨rfl,hi,p⟩;have W:=F _ _ _ p;by_cases z:i<n
 ·rwa[.inr ⟨z,by lia,j (i+1),λzs H' J=>⟨n - (i+1),by lia,rfl,z,J⟩,λx H' y=> ?_⟩];obtain ⟨e,y⟩:=y;subst e y;exact hs i ys _ z p
 ·have e:i=n:=by lia
  subst e;exact .inl ⟨⟨Nat.le_refl _,G ys H p⟩,by lia,L ys H p⟩
theorem Fq {X:Cx}{scope:Scope}{N':List Str}{pk:List @z}{tg elt iter:Expr}{ifs:List Expr}{pos:Pos}{wi:TI}{g:TG}{tt:TT}{te:TE}(S:cB X scope N' pk)(hi:Tr X tg iter wi)(z:∀C s H ex,PG @m tg g)(O:∀C s H ex,JB @m ifs tt)
(j:∀C s H ex,PE @m elt te)(hs:sJ iter=true:=by rfl):PE X (.ListComp elt [⟨tg,iter,ifs,0⟩] scope pos) @eR:=
 yU S hi z O j (gc hs)
structure km (k:Nat)(A:Around)(a:Addr):Prop where
 hd:A.handled=some (.ref a)
 dp:A.depth+3*k+5<recursionLimit
 un:A.units+16*k+200<cLine
theorem km.mono {j k:Nat}{A:Around}{a:Addr}(r:km k A a)(h:j<=k):km j A a:=⟨r.hd,by have:=r.dp;lia,by have:=r.un;lia⟩
theorem km.deeper {k:Nat}{A:Around}{a:Addr}(r:km (k+1) A a)(env:Env):km k (A.deeper env) a:=
 ⟨r.hd,by have:=r.dp;show A.depth+1+3*k+5<_;lia,by have:=r.un;show A.units+3+16*k+200<_;lia⟩
theorem bY.mark {k:Nat}{A:Around}(r:bY k A)(a:Addr):km k (A.mark @fD) a:=⟨rfl,r.dp,r.un⟩
structure Ah (P:Program)(w:World)(K:Fg)(mg:Str->Option Value)(base:Heap)(k:Nat)(f:Addr)(fd:FuncData)(ps:List Str)(sp:Addr->Sp):Prop where
 len:∀a vs H Q E,sp a vs H Q E->vs.length=ps.length
 run:∀(a:Addr) (A:Around) (outer:List Env) (s:Shared) (H:Hp) (args:Args) (us:List Value) (vs:List V) (Q:VK) (E:XK),km k A a->lP P w K mg base A outer s H->BindsTo s fd args @ce->aO vs us->sp a vs H Q E->
  codeAny @P A (.call (.ref f) args) @dx s
noncomputable def Cx.uncalm (X:Cx):Cx:= {X with calm:=false,xe:=λ_ _=>False}
theorem Qa {P:Program}{w:World}{K:Fg}{mg:Str->Option Value}{base:Heap}{k:Nat}{x qual:Str}{st:Stmt}{f:Addr}{fd:FuncData}{N ps:List Str}{sp:Addr->Sp}(F:be K x qual st f fd)(S:ai N ps @cf)
(U:∀a vs H Q E,sp a vs H Q E->vs.length=ps.length)
(L:∀(cdv:Value) (a:Addr) (A:Around) (outer:List Env) (s:Shared) (H:Hp) (vs:List V) (Q:VK) (E:XK),km k @bg a->sp a vs H Q E->
   ∃t,uG (iR aY P w K mg base N qual @cf f cdv A outer s H E).uncalm @dN t/\t {nx:=λ_ H'=>Q .non H',rt:=Q} @bF H):Ah P w K mg base (k+1) f fd ps sp:=by
 obtain ⟨oc,od,kV,ag,pm,an,cdv,ct,af,rfl,lk,aa⟩:=F.ex;rwa[⟨U,λa A outer s H ac us vs Q E hr G hb r R=> ?_⟩];have hl:=U _ _ _ _ _ R;have KX:K.In s.heap:=G.mod.kin.keeps λb o e=>(G.bs b o e).1;have ad:s.heap.NoLimit:=G.mod.nolimit.keeps λb o e=>(G.bs b o e).1
 have O:∀y∈ps.zip us,(ae st).names.lookup y.1=some .local\/((ae st).names.lookup y.1=some .cell/\((cellsFrom (s.heap.objs.size+1) (ae st).names []).lookup y.1).isSome=true):=λ⟨n,v⟩ hy=>by
  rcases S.par n (of_mem_zip hy).1 with q|q
  ·exact .inl q
  ·exact .inr ⟨q,W.cellsFrom_some _ _ _ (.inl q)⟩
 rwa[codeAny_call_function (by have:=hr.dp;lia) @gM rfl S.co S.gen rfl (W.codeRec_of KX aa) @fJ];rwa[wpAny_newFunctionEnv_cells S.kind O λenv he s1 x=> ?_];subst he;rwa[⟨ad.keeps x.toInCall.keep,codeAny_func ?_⟩];obtain ⟨t,ht,hq⟩:=L cdv a A outer s H vs Q E @gj R;have e1:lP P w K mg base ({A with handled:=none}:Around) outer s H:=⟨G.frames,G.mod,G.bs,G.bsz,G.funs,G.frf,G.hok,G.bare⟩;have j:ay (iR aY P w K mg base N qual @cf f cdv ({A with handled:=none}:Around) outer s H E) [] @bF H s1:=oW S rfl e1 hl r x
 have I:ay (iR aY P w K mg base N qual @cf f cdv A outer s H E).uncalm [] @bF H s1:=
  ⟨⟨j.ok.mod,j.ok.kind,j.ok.glob,j.ok.blt,j.ok.above,j.ok.inj,j.ok.has,j.ok.cab,(λz=>nomatch (show false=true from z)),Around.frames_deeper G.frames,j.ok.stk,j.ok.exf,j.ok.bs,j.ok.bsz,j.ok.noex,j.ok.exfs,j.ok.funs,j.ok.frf⟩,
    j.os,j.bare,j.base,j.loc,j.cell,j.free,j.freeC,j.pin,j.hok,j.len⟩
 rwa[wpAny_mono (ht [] s1 @bF H _ I hq) @es λe s' hs=>hs.elim]
 have Y:∀ {Z:St} {H':Hp} {v:V} {u:Value},ay (iR aY P w K mg base N qual @cf f cdv A outer s H E).uncalm [] Z H' s'->aL v u->Q v H'->CE outer P w H s Q u s':=
  λ{Z H' v u} J rv q=>⟨v,H',J.os,J.bare,J.base,J.hok,rv,q⟩
 cases fl with
 |ret u=>
  obtain ⟨v,Z,H',J,rv,q⟩:=hs;exact Y J rv q
 |next=>
  obtain ⟨Z,H',J,q⟩:=hs;exact Y (v:=V.non) (u:=Value.none) J rfl q
 |brk=>
  obtain ⟨_,_,_,q⟩:=hs;exact False.elim q
 |cont=>
  obtain ⟨_,_,_,q⟩:=hs;exact False.elim q
structure MK (P:Program)(w:World)(K:Fg)(mg:Str->Option Value)(base:Heap)(n:Nat)(x:Str)(ps:List Str)(sp:Addr->Sp):Prop where
 ex:∃f fd,Ah P w K mg base n f fd ps sp/\fv K fd ps []/\W.keepIn K (.ref f)=true/\mg x=some (.ref f)
section
variable {X:Cx}{x:Str}{p pos:Pos}{e:Expr}{es:List Expr}{t:TA}{ps:List Str}{sp:Addr->Sp}{n m:Nat}{a:Addr}
theorem OT (c:MK X.prog X.w X.K X.mg X.base n x ps sp)(Z:km m X.A a)(Y:n<=m)(S:Gl X x)(ha:PA X (e::es) t)(J:(x==("__debug__":Str))=false:=by decide)
(R:aG (e::es)=true:=by rfl):PE X (.Call (.Name x p) (e::es) [] pos) (vg (sp a) [] E0 t):=by
 obtain ⟨f,fd,F,b,k,hm⟩:=c.ex;have h':(bu e&&aG es)=true:=R;rw [Bool.and_eq_true] at h';intro pins s σ H Q I h;rwa[wpAny_Call_Name_kw (eR I S hm ?_ J)];rwa[W.callWith_K (h₀:=X.base) I.ok.mod.kin k (bz (ha pos pins s σ H _ I h) λj O ⟨L,H1,z,r,q⟩=>⟨z.kIn,?_⟩) @cY @cZ];have U:aO (L++[]) (j++[]):=r.append .nil
 have hl:(j++[]).length=ps.length:=by rw [<-U.length];exact F.len _ _ _ _ _ q
 rwa[wpAny_call (codeAny_mono (F.run a X.A X.stack O H1 ⟨j,[]⟩ (j++[]) (L++[]) Q E0 (Z.mono Y) z.env0 (b O j z.kIn hl) U q) λr s' G=> ?_)]
 cases r with
 |error e=>exact False.elim G
 |ok fl=>
  cases fl with
  |ret u=>exact z.after G
  |next=>exact False.elim G
  |brk=>exact False.elim G
  |cont=>exact False.elim G
end
def lD (K:Fg)(a:Addr)(c:V)(H:Hp)(Q:VK):Prop:=lC K (.ref a) c H Q\/BM K a c H Q
def Q9 (K:Fg):List V->Hp->VK->Prop:=λxs H Q=>match xs with
 |[.ref a,c]=>lD K a c H Q
 |xs=>NQ K xs H Q
theorem c9 {X:Cx}{K:Fg}(S:X.K=K):bi X (.builtin "isinstance") (Q9 K):=by
 intro pins s σ H xs j Q I r h;have F:NQ K xs H Q->wpAny @d X.A (call (.builtin "isinstance") j) @u X.xe s:=λh=>QR S pins s σ H xs j Q I r h
 match xs,h with
 |[.ref a,c],h=>
  rcases h with h|⟨D,dd,O,b,e,k,G,hc,L,q⟩
  ·subst S;obtain ⟨O,t,b,h1,h2,h3,Y⟩:=h;exact zP pins s σ H _ j Q I r ⟨.ref a,c,O,t,b,rfl,h1,h2,h3,Y⟩
  ·subst S;obtain ⟨u,w',rfl,r1,U⟩:=MQ r;cases Nh hc U;obtain rfl:u=Value.ref a:=r1;obtain ⟨⟨R,vs,k1,k2,k3,J,k5⟩,_,_⟩:=I.hok a _ e
   rcases G with rfl|⟨d,fs,rfl,Z⟩
   ·rwa[W.kia_one (y9 (ox:=R) (odo:=none) k) I.kIn ⟨k1,k2,?_,?_⟩ L (λz=>nomatch z) λtk=>⟨.bl b,H,I.tok _,rfl,q⟩]
    ·unfold W.notCls;rw [J]
    ·rw [k3];trivial
   ·obtain ⟨mA,⟨od,es,ep,e',_⟩,_⟩:=I.hok d _ Z;rwa[W.kia_one (y9 (ox:=R) (odo:=some od) k) I.kIn ⟨k1,k2,?_,?_⟩ L (λz=>nomatch z) λtk=>⟨.bl b,H,I.tok _,rfl,q⟩]
    ·unfold W.notCls;rw [J]
    ·rw [k3];exact e'
 |[],h=>exact F h
 |[.non],h=>exact F h
 |[.bl _],h=>exact F h
 |[.int _],h=>exact F h
 |[.str _],h=>exact F h
 |[.byt _],h=>exact F h
 |[.flt _],h=>exact F h
 |[.ty _],h=>exact F h
 |[.ref _],h=>exact F h
 |[.non,c],h=>exact F h
 |[.bl _,c],h=>exact F h
 |[.int _,c],h=>exact F h
 |[.str _,c],h=>exact F h
 |[.byt _,c],h=>exact F h
 |[.flt _,c],h=>exact F h
 |[.ty _,c],h=>exact F h
 |x::y::z::r,h=>exact F (by cases x<;>exact h)
theorem CN {K:Fg}{H:Hp}{a D:Addr}{c:V}{z:Value}{b:Bool}{Q:VK}(e:H a=some (iP a (.ref D) none))(k:pG K D)(h1:cV c=some z)(G:W.kitOne K (.ref D) z=some b)(g:Q (.bl b) H):lD K a c H Q:= .inr ⟨D,none,z,b,e,k,.inl rfl,h1,G,g⟩
theorem ze {K:Fg}{H:Hp}{a D d:Addr}{fs:List (Str×V)}{c:V}{z:Value}{b:Bool}{Q:VK}(e:H a=some @en)(Z:H d=some (.xd fs))(k:pG K D)(h1:cV c=some z)(G:W.kitOne K (.ref D) z=some b)(g:Q (.bl b) H):lD K a c H Q:= .inr ⟨D,some d,z,b,e,k,.inr ⟨d,fs,rfl,Z⟩,h1,G,g⟩
theorem oR {M:Model}{A:Around}{E:Value->Shared->Prop}{s:Shared}{env:Env}{o:Expr}{m:Str}{apos pos:Pos}{es:List Expr}{Q:Value->Shared->Prop}(j:d5 o=true)(G:aG es=true)(W:es.length<29)(z:(apos.endLine==pos.line)=true)
(h:wpAny M A (eval o env) (λov s₁=>wpAny M A (getMethod ov m (do return (<-importBound o env).getD true)) (λfx s₂=>wpAny M A (callWith pos fx.1 fx.2 @hd (backToKw pos (keywordEach [] env))) Q E s₂) E s₁) E s):
 wpAny M A (eval (.Call (.Attribute o m apos) es [] pos) env) Q E s:=by
 have F:methodCallForm (es.length+([]:List Keyword).length) @hd (backToKw pos (keywordEach [] env))=true:=by
  unfold methodCallForm;rw [oM G,arm_keywordEach_nil];show (true&&true&&decide (es.length+0+0<30))=true;rw [decide_eq_true @b];rfl
 rw [arm_eval_Call,ux j];rwa[wpAny_bind (bz h λov L h1=>wpAny_bind (wpAny_standAt ?_))];unfold methodCall;rw [F];rwa[wpAny_bind (wpAny_holding ?_)];unfold calleeOf;rw [if_pos rfl];rwa[bz h1 λfx R h2=> ?_];rwa[wpAny_bind ?_];unfold methodCallPos;rw [z];exact wpAny_pure h2
structure iB (P:Program)(w:World)(K:Fg)(mg:Str->Option Value)(base:Heap)(CX:nz)(n:Nat)(m:Str)(C:Addr)(sp:Sp):Prop where
 ex:∃f fd ps,vQ K C/\JE K C m f/\ax P w K mg base CX n f fd ps sp/\fv K fd ps []
def xa (P:Program)(w:World)(K:Fg)(mg:Str->Option Value)(base:Heap)(CX:nz)(n:Nat)(m:Str)(a:Addr)(E:XK)(H:Hp)(k:Sp->Prop):Prop:=∃C dx fs sp,H a=some (.ins C dx fs)/\fs.lookup m=none/\iB P w K mg base CX n m C sp/\k sp
def FG (P:Program)(w:World)(K:Fg)(mg:Str->Option Value)(base:Heap)(CX:nz)(n:Nat)(m:Str)(E:XK)(to:TE)(t:TA):TE:=λσ H Q=>to σ H λx H1=>match x with
 | .ref a=>xa P w K mg base CX n m a E H1 λsp=>t σ H1 λvs H2=>sp (.ref a::vs) H2 Q E
 |_=>False
section
variable {X:Cx}{CX:nz}{o e:Expr}{es:List Expr}{to:TE}{t:TA}{m:Str}{apos pos:Pos}{n k:Nat}{E:XK}
theorem lW (hx:gw CX X E)(Y:bY k X.A)(U:n<=k)(R:PE X o to)(ha:PA X (e::es) t)(hb:d5 o=true:=by rfl)(G:aG (e::es)=true:=by rfl)(Z:(e::es).length<29:=by decide)
(z:(apos.endLine==pos.line)=true:=by rfl):PE X (.Call (.Attribute o m apos) (e::es) [] pos) (FG X.prog X.w X.K X.mg X.base CX n m E to t):=by
 have h':(bu e&&aG es)=true:=G;rw [Bool.and_eq_true] at h';intro pins s σ H Q I h;rwa[oR hb G Z z (bz (R pins s σ H _ I h) λu s1 ⟨x,H1,J,L,q⟩=> ?_)]
 match x,q with
 | .ref a,⟨C,dx,fs,sp,ea,l,c,q⟩=>
   obtain rfl:u=Value.ref a:=L;obtain ⟨f,fd,ps,cl,j,F,b⟩:=c.ex;rwa[tJ J ea cl j l ?_];rwa[W.callWith_K (first:=[.ref a]) (h₀:=X.base) I.ok.mod.kin j.kp (bz (ha pos pins s1 σ H1 _ J q) λS s2 ⟨vs,H2,O,r,q2⟩=>⟨O.kIn,?_⟩) @cY @cZ];exact Bi (us:= .ref a::S) (vs:= .ref a::vs) (F.mono U) Y b .nil hx O (.cons rfl r) (by rw [append_nil];exact q2)
theorem ye (R:gw CX X E)(U:bY k X.A)(O:n<=k)(L:PE X o to)(S:d5 o=true:=by rfl)(z:(apos.endLine==pos.line)=true:=by rfl):
 PE X (.Call (.Attribute o m apos) [] [] pos) (FG X.prog X.w X.K X.mg X.base CX n m E to N4):=by
 intro pins s σ H Q I h;rwa[oR S rfl @c z (bz @bP λu Z ⟨x,H1,G,J,q⟩=> ?_)]
 match x,q with
 | .ref a,⟨C,dx,fs,sp,ea,l,c,q⟩=>
   obtain rfl:u=Value.ref a:=J;obtain ⟨f,fd,ps,Y,j,F,b⟩:=c.ex;rwa[tJ G ea Y j l ?_];exact W.callWith_K0 (first:=[.ref a]) G.kIn j.kp (Bi (us:=[.ref a]) (vs:=[.ref a]) (F.mono O) U b .nil R G (.cons rfl .nil) q)
def zw (K:Fg)(f:Str)(a:Addr)(H:Hp)(Q:VK):Prop:=∃C dx fs v,H a=some (.ins C dx fs)/\vQ K C/\aT K C f/\fs.lookup f=some v/\Q v H
def Uc (K:Fg)(f:Str)(to:TE):TE:=λσ H Q=>to σ H λx H1=>match x with| .ref a=>zw K f a H1 Q|_=>False
theorem NI {K:Fg}{f:Str}(S:X.K=K)(J:PE X o to)(F:d5 o=true:=by rfl):PE X (.Attribute o f pos) (Uc K f to):=by
 subst S;intro pins s σ H Q I h;rwa[Dc (ux F) (bz (J pins s σ H _ I h) λu U ⟨x,H1,G,z,q⟩=> ?_)]
 match x,q with
 | .ref a,⟨C,dx,fs,v,ea,c,n,l,q⟩=>
   obtain rfl:u=Value.ref a:=z;exact BP G ea c n l λL R O j=>⟨v,H1,O,j,q⟩
def putAt (K:Fg)(f:Str)(a:Addr)(y:V)(H:Hp)(R:Hp->Prop):Prop:=∃C dx fs,H a=some (.ins C dx fs)/\vQ K C/\aT K C f/\fs.length<1000/\R @cb
def TY (K:Fg)(f:Str)(to tv:TE):TS:=λD σ H=>tv σ H λy H1=>to σ H1 λx H2=>match x with| .ref a=>putAt K f a y H2 λH3=>D.nx σ H3|_=>False
theorem dE {K:Fg}{f:Str}{value:Expr}{tv:TE}{pos':Pos}(S:X.K=K)(F:PE X o to)(U:PE X value tv)(hs:swapsWith value (some (.Attribute o f pos')) pos.line X.env=pure false:=by rfl):PS X (.Assign [.Attribute o f pos'] value pos) (TY K f to tv):=by
 subst S;intro pins s σ H D I h;rwa[plainObj_wpAny_Assign_Attribute (bz @bQ λu W ⟨y,H1,G,L,q⟩=>bz (F pins W σ H1 _ G q) λJ Z ⟨x,H2,O,j,R⟩=> ?_) hs]
 match x,R with
 | .ref a,⟨C,dx,fs,ea,c,n,l,q⟩=>
   obtain rfl:J=Value.ref a:=j;exact AW O ea c n l L λY z=>⟨σ,_,z,q⟩
theorem im {P:Program}{w:World}{K:Fg}{mg:Str->Option Value}{base:Heap}{a C dx:Addr}{fs:List (Str×V)}{sp:Sp}{H:Hp}{R:Sp->Prop}(h1:H a=some (.ins C dx fs))(h2:fs.lookup m=none)(G:iB P w K mg base CX n m C sp)(g:R sp):xa P w K mg base CX n m a E H R:=⟨C,dx,fs,sp,h1,h2,G,g⟩
theorem fh {K:Fg}{f:Str}{a C dx:Addr}{fs:List (Str×V)}{v:V}{H:Hp}{Q:VK}(h1:H a=some (.ins C dx fs))(h2:vQ K C)(G:aT K C f)(j:fs.lookup f=some v)(g:Q v H):zw K f a H Q:=⟨C,dx,fs,v,h1,h2,G,j,g⟩
theorem dI {K:Fg}{f:Str}{a C dx:Addr}{fs:List (Str×V)}{y:V}{H:Hp}{R:Hp->Prop}(h1:H a=some (.ins C dx fs))(h2:vQ K C)(G:aT K C f)(j:fs.length<1000)(g:R @cb):putAt K f a y H R:=⟨C,dx,fs,h1,h2,G,j,g⟩
end
structure iM (P:Program)(w:World)(K:Fg)(mg:Str->Option Value)(base:Heap)(CX:nz)(n:Nat)(x:Str)(C:Addr)(sp:Sp):Prop where
 ex:∃f fd ps,Mk K C f/\ax P w K mg base CX n f fd ps sp/\fv K fd ps []/\mg x=some (.ref C)
section
variable {X:Cx}{CX:nz}{e:Expr}{es:List Expr}{t:TA}{x:Str}{p pos:Pos}{n k:Nat}{E:XK}{C:Addr}{sp:Sp}
def gD (C:Addr)(sp:Sp)(E:XK)(vs:List V)(H:Hp)(Q:VK):Prop:=∀a dx,H a=none->H dx=none->dx≠a->sp (.ref a::(vs++[])) @p (λv H2=>v= .non/\Q (.ref a) H2) E
def Q5 (C:Addr)(sp:Sp)(E:XK)(t:TA):TE:=λσ H Q=>t σ H λvs H1=>gD C sp E vs H1 Q
theorem fU (c:iM X.prog X.w X.K X.mg X.base CX n x C sp)(I:gw CX X E)(U:bY k X.A)(j:n+1<=k)(S:Gl X x)(L:PA X (e::es) t)(z:(x==("__debug__":Str))=false:=by decide)(G:aG (e::es)=true:=by rfl):
 PE X (.Call (.Name x p) (e::es) [] pos) (Q5 C sp E t):=by
 obtain ⟨f,fd,ps,M,F,b,J⟩:=c.ex;have h':(bu e&&aG es)=true:=G;rw [Bool.and_eq_true] at h';rwa[(KU M F (U.mono j) S J b .nil I L z @cY @cZ).imp λσ H Q h=> ?_];exact h
end
section
variable {X:Cx}{K:Fg}{a b c:Expr}{ta tb tc:TE}{pos:Pos}
def Jq (K:Fg)(p q:Addr)(H:Hp)(Q:VK):Prop:=Mm p q H Q\/∃xs ys,aK K H p xs/\aK K H q ys/\xs≠[]/\xs.length+ys.length<=sizeLine/\(ys=[]->Q (.ref p) H)/\(ys≠[]->∀l,H l=none->Q (.ref l) (upd H l (.tup (xs++ys))))
def Rh (K:Fg):R2:=λx y H Q=>match x,y with
 | .int i,.int j=>Q (.int (i+j)) H
 | .str a,.str b=>a.length+b.length<=sizeLine/\Q (.str (a++b)) H
 | .ref p,.ref q=>Jq K p q H Q
 |_,_=>False
theorem NL (S:X.K=K):dz X @bB (Rh K):=by
 subst S;rwa[(QX.or K0).imp λx y H Q h=> ?_]
 cases x with
 |int i=>cases y with
  |int j=>exact .inl h
  |_=>exact False.elim h
 |str a=>cases y with
  |str b=>exact .inl h
  |_=>exact False.elim h
 |ref p=>cases y with
  |ref q=>
   rcases h with h|⟨xs,ys,h1,h2,G,z,W,L⟩
   ·exact .inl h
   ·exact .inr ⟨p,q,xs,ys,rfl,rfl,h1,h2,G,z,W,L⟩
  |_=>exact False.elim h
 |_=>exact False.elim h
theorem SN {p q:Addr}{H:Hp}{Q:VK}{xs ys:List V}(h1:H p=some (.lst xs))(h2:H q=some (.lst ys))(j:xs.length+ys.length<=sizeLine)(g:∀l,H l=none->Q (.ref l) (upd H l (.lst (xs++ys)))):Jq K p q H Q:= .inl ⟨xs,ys,h1,h2,j,g⟩
def NS (r r':R2)(ta tb tc:TE):TE:=λσ H Q=>ta σ H λx H1=>tb σ H1 λy H2=>r x y H2 λz H3=>match z with| .bl k=>vv k (tc σ H3 λw' H4=>r' y w' H4 Q) (Q (.bl false) H3)|_=>False
theorem yg {J j:CmpOp}{r R:R2}(W:dz X (compareOp J) r)(F:dz X @eN R)(ha:PE X a ta)(hb:PE X b tb)(hc:PE X c tc)
(Z:lastMarks [J,j] [b,c]=false:=by with_unfolding_all rfl):PE X (.Compare a [J,j] [b,c] pos) (NS r R ta tb tc):=by
 intro pins s σ H Q I h
 refine Compare_chain (bz (ha pins s σ H _ I h) λv s1 ⟨x,H1,S,r1,q1⟩=>chain_link (bz (hb pins s1 σ H1 _ S q1) λu s2 ⟨y,H2,Y,U,q2⟩=>
  bz (W pins s2 σ H2 x y v u _ Y r1 U q2) λd s3 ⟨z,O,L,r3,G⟩=> ?_)) Z
 match z,G with
 | .bl k,G=>
   cases r3;rwa[wpAny_truthy_bool ?_]
   cases k with
   |false=>exact ite_ff ⟨.bl false,O,L,rfl,G⟩
   |true=>exact ite_tt (chain_last (bz (hc pins s3 σ O _ L G) λw' s4 ⟨z',H4,I4,r4,q4⟩=>F pins s4 σ H4 y z' u w' Q I4 U r4 q4))
def Ka (r r':R2)(ta tb tc:TE):TT:=λσ H Q=>ta σ H λx H1=>tb σ H1 λy H2=>r x y H2 λz H3=>match z with| .bl k=>vv k (tc σ H3 λw' H4=>r' y w' H4 λv H5=>match v with| .bl c=>Q c H5|_=>False) (Q false H3)|_=>False
theorem yd {L j:CmpOp}{r R:R2}(Y:dz X (compareOp L) r)(F:dz X @eN R)(ha:PE X a ta)(hb:PE X b tb)(hc:PE X c tc)
(hm:lastMarks [L,j] [b,c]=false:=by with_unfolding_all rfl):PT X (.Compare a [L,j] [b,c] pos) (Ka r R ta tb tc):=by
 intro pins s σ H Q I h
 refine isTrue_chain (bz (ha pins s σ H _ I h) λv s1 ⟨x,H1,W,r1,q1⟩=>test_link (bz (hb pins s1 σ H1 _ W q1) λu s2 ⟨y,H2,Z,U,q2⟩=>
  bz (Y pins s2 σ H2 x y v u _ Z r1 U q2) λd s3 ⟨z,S,O,r3,G⟩=> ?_)) hm
 match z,G with
 | .bl k,G=>
   cases r3;rwa[wpAny_truthy_bool ?_]
   cases k with
   |false=>exact ite_ff ⟨S,O,G⟩
   |true=>
    rwa[ite_tt (test_last (bz (hc pins s3 σ S _ O G) λw' s4 ⟨z',H4,I4,r4,q4⟩=>bz (F pins s4 σ H4 y z' u w' _ I4 U r4 q4) λd' s5 ⟨z2,H5,I5,r5,J⟩=> ?_))]
    match z2,J with
    | .bl c,J=>
      cases r5;exact wpAny_truthy_bool ⟨H5,I5,J⟩
def LY (a b:Addr)(H:Hp)(Q:VK):Prop:=∃xs zs,H a=some (.lst xs)/\H b=some (.lst zs)/\xs.length+zs.length<=sizeLine/\Q .non (upd H a (.lst (xs++zs)))
def Kb:V->List V->Hp->VK->Prop:=λx xs H Q=>match x,xs with| .ref a,[.ref b]=>LY a b H Q|_,_=>False
theorem qV:Ao X "list.extend" Kb:=by
 intro pins s σ H x xs v j Q I z F h
 match x,xs,h with
 | .ref a,[.ref b],⟨ys,zs,h1,h2,h3,h4⟩=>exact Ej pins s σ H _ _ v j Q I z F ⟨a,b,ys,zs,rfl,rfl,h1,h2,h3,h4⟩
theorem M9 {a b:Addr}{H:Hp}{Q:VK}{xs zs:List V}(h:H a=some (.lst xs))(h2:H b=some (.lst zs))(j:xs.length+zs.length<=sizeLine)(g:Q .non (upd H a (.lst (xs++zs)))):LY a b H Q:=⟨xs,zs,h,h2,j,g⟩
def Q1:List V->Hp->VK->Prop:=λxs H Q=>match xs with|[.int i]=>i.natAbs.log2<1920/\Q (.str @gu) H|_=>False
theorem NJ:bi X (.type "str") Q1:=xF.imp λxs H Q h=>by
 match xs,h with
 |[.int i],h=>exact ⟨i,rfl,h⟩
end
open Builtin Builtin.Str
section
variable {X:Cx}{K:Fg}
theorem Kk {l:List (Str×Tok)}:aO ((l.map (·.1)).map V.str) (strValues l):=by
 induction l with
 |nil=>exact .nil
 |cons p r ih=>exact .cons ⟨p.2,rfl⟩ ih
def NO:V->List V->Hp->VK->Prop:=λx xs H Q=>match x,xs with
 | .str z,[.str y]=>((y.length==0)=false/\z.length+2<=sizeLine)/\∀l,H l=none->Q (.ref l) (upd H l (.lst ((Txt.split z y).map V.str)))
 |_,_=>False
theorem J5:Ao X "str.split" NO:=by
 intro pins s σ H x xs v S Q I G O h
 match x,xs,h with
 | .str x,[.str y],⟨⟨hy,hsz⟩,q⟩=>
   obtain ⟨t,rfl⟩:=G
   cases O with
   |cons r rr=>
    cases rr;obtain ⟨u,rfl⟩:=r
    have J:(partsBetween x (occurrences x y 0 x.length (x.length+1)) y.length).length<=sizeLine:=by
     have e1:=StrLaws.occ_length_le x y 0 x.length (x.length+1);rw [length_partsBetween];lia
    have z:∀(l:List (Str×Tok)) (k:Nat),l.map (·.1)=Txt.split x y->l.length<=sizeLine->EP X pins σ Q (.ref s.heap.objs.size) {s with heap:=s.heap.push {cls:= .type "list",data:= .seq (strValues l).toArray},toks:=k}:=λl k e L=>by
     rwa[⟨.ref s.heap.objs.size,_,I.laid (t':=k) (o:= .lst ((Txt.split x y).map V.str)) (λb R q=>Heap.get?_push_of_some _ q) @f ?_,rfl,q _ @bt⟩];rw [<-e];exact ⟨by simpa using L,strValues l,0,Kk,Heap.get?_push_size _ rfl⟩
    have W:1<=sizeLine:=by lia
    cases h1:(decide (x.length<y.length)||decide (strKind x<strKind y))
    ·cases j:(occurrences x y 0 x.length (x.length+1)).isEmpty
     ·rwa[call_meets F.slot_str_split @eS F.entry_str_split @dD (meets_str_split_sep x y t u h1 hy j @b J) ?_];show wants _ _ _ {s with toks:=_,heap:=s.heap.push {cls:= .type "list",data:= .seq (strsFrom s.toks (partsBetween x (occurrences x y 0 x.length (x.length+1)) y.length)).toArray}};rw [strsFrom_eq];have e:(numbered s.toks (partsBetween x (occurrences x y 0 x.length (x.length+1)) y.length)).map (·.1)=Txt.split x y:=(numbered_texts _ _).trans ((if_neg (ne_true_of_eq_false h1)).trans (if_neg (ne_true_of_eq_false j))).symm;rwa[z _ _ e ?_];have e2:=congrArg List.length (numbered_texts s.toks (partsBetween x (occurrences x y 0 x.length (x.length+1)) y.length));rw [length_map] at e2;lia
     ·exact call_meets F.slot_str_split @eS F.entry_str_split @dD (meets_str_split_not_found x y t u h1 hy j)
       (z [(x,t)] s.toks ((if_neg (ne_true_of_eq_false h1)).trans (if_pos j)).symm W)
    ·exact call_meets F.slot_str_split @eS F.entry_str_split @dD (meets_str_split_cannot_occur x y t u h1)
      (z [(x,t)] s.toks (if_pos h1).symm W)
def TV (K:Fg):V->Option Int->Option Int->Hp->VK->Prop:=λx lo hi H Q=>match x with
 | .ref p=>vi K p lo hi H Q
 | .str z=>z.length<=sizeLine/\Q (.str (Txt.slice z lo hi)) H
 |_=>False
theorem QL (U:X.K=K):Ql X (TV K):=by
 intro pins s σ H x v S W lo hi sl Q I R hs pl O h
 cases x with
 |ref p=>exact TL U pins s σ H _ v S W lo hi sl Q I R hs pl O h
 |str z=>
  obtain ⟨t,rfl⟩:=R;obtain ⟨J,q⟩:=h;rwa[⟨"str",_,F.slot_str_getitem.lookup,typeIs_str _ _ _,?_⟩];have G:∀L k,EP X pins σ Q (.str (Txt.slice z lo hi) L) {s with toks:=k}:=λL k=>⟨.str _,H,I.tok k,⟨L,rfl⟩,q⟩
  cases pl with
  |none=>cases O with
   |none=>exact wpAny_getItem_str_slice (l:=none) (u:=none) (st:=none) hs rfl @D
   |int j tj=>exact wpAny_getItem_str_slice (l:=none) (u:=some (j,tj)) (st:=none) hs rfl @D
  |int i ti=>cases O with
   |none=>exact wpAny_getItem_str_slice (l:=some (i,ti)) (u:=none) (st:=none) hs rfl @D
   |int j tj=>exact wpAny_getItem_str_slice (l:=some (i,ti)) (u:=some (j,tj)) (st:=none) hs rfl @D
 |_=>exact False.elim h
theorem bN {x:Str}{C:Addr}{pos:Pos}(S:Gl X x)(F:X.mg x=some (.ref C))(z:(x==("__debug__":Str))=false:=by decide):PE X (.Name x pos) (tC (.ref C)):=Cz (v:=V.ref C) S F rfl z
end
theorem aq.seqT {K:Fg}{H H':Hp}{a:Addr}{xs:List V}(e:aq H H')(h:aK K H a xs):aK K H' a xs:=by
 rcases h with (h|⟨o,h⟩)|h
 ·exact .inl (.inl (e _ _ h))
 ·exact .inl (.inr ⟨o,e _ _ h⟩)
 ·exact .inr h
theorem aq.upd {H:Hp}{p:Addr}{o:HO}(G:H p=none):aq H @db:=λb u z=>by rw [ag (bq z G)];exact z
theorem aq.any {K:Fg}{H H':Hp}{a:Addr}{xs:List V}(e:aq H H')(h:aD K H a xs\/aK K H a xs):aD K H' a xs\/aK K H' a xs:=h.imp e.seq e.seqT
section
variable {K:Fg}{H H':Hp}{x:V}
theorem M3 {α β:Type}{F:α->β->Prop}:∀ {xs:List α} {ds:List β} {i:Nat} {x:α},Paired F xs ds->xs[i]? =some x->∃d,ds[i]? =some d/\F x d
 |_,_,0,_,.cons r _,h=>⟨_,rfl,by simp at h;exact h▸r⟩
 |_,_,i+1,_,.cons _ t,h=>by simpa using M3 t (by simpa using h)
 |_,_,i,_,.nil,h=>by simp at h
theorem MZ {α β:Type}{F:α->β->Prop}:∀ {xs:List α} {ds:List β} {i:Nat} {d:β},Paired F xs ds->ds[i]? =some d->∃x,xs[i]? =some x/\F x d
 |_,_,0,_,.cons r _,h=>⟨_,rfl,by simp at h;exact h▸r⟩
 |_,_,i+1,_,.cons _ t,h=>by simpa using MZ t (by simpa using h)
 |_,_,i,_,.nil,h=>by simp at h
theorem _root_.PySem.Paired.len {α β:Type}{F:α->β->Prop}{xs:List α}{ds:List β}(h:Paired F xs ds):xs.length=ds.length:=by
 induction h with
 |nil=>rfl
 |cons _ _ ih=>simp [ih]
theorem UZ {α β:Type}{F:α->β->Prop}:∀ {xs:List α} {ds:List β},xs.length=ds.length->(∀(i:Nat) x d,xs[i]? =some x->ds[i]? =some d->F x d)->Paired F xs ds
 |[],[],_,_=> .nil
 |x::xs,d::ds,hl,h=> .cons (h 0 x d rfl rfl) (UZ (by simpa using hl) λi y e h1 h2=>h (i+1) y e (by simpa using h1) (by simpa using h2))
 |[],_::_,hl,_=>by simp at hl
 |_::_,[],hl,_=>by simp at hl
theorem _root_.PySem.Paired.get1 {α β:Type}{F:α->β->Prop}{xs:List α}{ds:List β}{i:Nat}{x:α}(h:Paired F xs ds)(e:xs[i]? =some x):∃d,ds[i]? =some d/\F x d:=M3 h e
theorem _root_.PySem.Paired.get2 {α β:Type}{F:α->β->Prop}{xs:List α}{ds:List β}{i:Nat}{d:β}(h:Paired F xs ds)(e:ds[i]? =some d):∃x,xs[i]? =some x/\F x d:=MZ h e
theorem _root_.PySem.Paired.of {α β:Type}{F:α->β->Prop}{xs:List α}{ds:List β}(W:xs.length=ds.length)(h:∀(i:Nat) x d,xs[i]? =some x->ds[i]? =some d->F x d):Paired F xs ds:=UZ W h
theorem _root_.PySem.Paired.app {α β:Type}{F:α->β->Prop}{xs j:List α}{ds z:List β}(h:Paired F xs ds)(h':Paired F j z):Paired F (xs++j) (ds++z):=by
 induction h with
 |nil=>exact h'
 |cons r _ ih=>exact .cons r ih
abbrev aI (K:Fg)(H:Hp):List V->List D->Prop:=Paired (bO K H)
theorem iQ {a:Addr}{xs:List V}{ds:List D}(h:aK K H a xs)(p:aI K H xs ds):bO K H (.ref a) (.tup ds):=
 .tup h p.len λi x d h1 h2=>by obtain ⟨e,G,r⟩:=p.get1 h1;rw [h2] at G;cases G;exact r
theorem B4 {a:Addr}{xs:List V}{ds:List D}(h:aD K H a xs)(p:aI K H xs ds):bO K H (.ref a) (.lst ds):=
 .lst h p.len λi x d h1 h2=>by obtain ⟨e,G,r⟩:=p.get1 h1;rw [h2] at G;cases G;exact r
theorem bO.outT {ds:List D}(h:bO K H x (.tup ds)):∃a xs,x= .ref a/\aK K H a xs/\aI K H xs ds:=by
 cases h with
 |tup h hl hi=>exact ⟨_,_,rfl,h,PySem.Paired.of hl hi⟩
theorem bO.outL {ds:List D}(h:bO K H x (.lst ds)):∃a xs,x= .ref a/\aD K H a xs/\aI K H xs ds:=by
 cases h with
 |lst h hl hi=>exact ⟨_,_,rfl,h,PySem.Paired.of hl hi⟩
theorem bO.isInt {i:Int}(h:bO K H x (.int i)):x= .int i:=by cases h;rfl
theorem bO.isStr {i:Str}(h:bO K H x (.str i)):x= .str i:=by cases h;rfl
theorem bO.same {d:D}(h:bO K H x d)(s:aq H H'):bO K H' x d:=by
 induction h with
 |non=>exact .non
 |bl b=>exact .bl b
 |int i=>exact .int i
 |str z=>exact .str z
 |lst h hl hi ih=>exact .lst (s.seq h) hl ih
 |tup h hl hi ih=>exact .tup (s.seqT h) hl ih
theorem aI.same {xs:List V}{ds:List D}(h:aI K H xs ds)(s:aq H H'):aI K H' xs ds:=Paired.imp' (λ_ _ z=>bO.same z s) h
mutual
noncomputable def noL:D->Bool
 | .lst _=>false
 | .tup ds=>noLs ds
 |_=>true
noncomputable def noLs:List D->Bool
 |[]=>true
 |d::ds=>noL d&&noLs ds
end
theorem gC:∀ {ds:List D} {i:Nat} {d:D},noLs ds=true->ds[i]? =some d->noL d=true
 |[],_,_,_,h=>by simp at h
 |e::ds,0,d,hn,h=>by
  rw [noLs,Bool.and_eq_true] at hn;simp at h;exact h▸hn.1
 |e::ds,i+1,d,hn,h=>by
  rw [noLs,Bool.and_eq_true] at hn;exact gC hn.2 (by simpa using h)
theorem aK.noL {a p:Addr}{xs zs:List V}{o:HO}(h:aK K H a xs)(G:H p=some (.lst zs)):aK K @db a xs:=by
 rcases h with (h|⟨u,h⟩)|h
 ·exact .inl (.inl (by rw [ag (λz=>by rw [z,G] at h;cases h)];exact h))
 ·exact .inl (.inr ⟨u,by rw [ag (λz=>by rw [z,G] at h;cases h)];exact h⟩)
 ·exact .inr h
theorem bO.noL {d:D}{p:Addr}{zs:List V}{o:HO}(h:bO K H x d)(F:L2.noL d=true)(G:H p=some (.lst zs)):bO K (L2.upd H p o) x d:=by
 induction h with
 |non=>exact .non
 |bl b=>exact .bl b
 |int i=>exact .int i
 |str z=>exact .str z
 |lst h hl hi ih=>rw [L2.noL] at F;cases F
 |tup h hl hi ih=>
  rw [L2.noL] at F;exact .tup (h.noL G) hl λi x d h1 h2=>ih i x d h1 h2 @fL
theorem jB {xs zs:List V}{ds:List D}{p:Addr}{o:HO}(h:aI K H xs ds)(F:noLs ds=true)(j:H p=some (.lst zs)):aI K @db xs ds:=
 PySem.Paired.of h.len λi x d h1 h2=>by
  obtain ⟨e,G,r⟩:=h.get1 h1;rw [h2] at G;cases G;exact r.noL @fL j
theorem Cs {p:Addr}{ys:List V}{Q:VK}(h:aD K H p ys\/aK K H p ys)(g:Q (.int ys.length) H):jf K p H Q:=⟨ys,h,g⟩
theorem Os {p:Addr}{ys:List V}{Q:VK}{i:Int}{v:V}(h:aD K H p ys\/aK K H p ys)(e:uy ys i=some v)(g:Q v H):pK K p i H Q:=⟨ys,h,v,e,g⟩
theorem PD {p:Addr}{ys:List V}{Q:VK}(h:aD K H p ys\/aK K H p ys)(g:∀l,H l=none->Q (.ref l) @cd):y7 K p H Q:=⟨ys,h,g⟩
end
section
variable {K:Fg}{H H':Hp}{x:V}{Q:VK}
theorem aq.get {b:Addr}{o:HO}(s:aq H H')(h:H b=some o):H' b=some o:=s b o h
def Tl (xs:List V)(H:Hp)(Q:VK):Prop:=xs.length<=sizeLine/\∀p,H p=none->Q (.ref p) (upd H p (.tup xs))
def Tn (xs:List V)(H:Hp)(Q:VK):Prop:=xs.length<=sizeLine/\∀p,H p=none->Q (.ref p) (upd H p (.lst xs))
def QZ (t:TA):TE:=λσ H Q=>t σ H λxs H1=>Tl xs H1 Q
def Q6 (t:TA):TE:=λσ H Q=>t σ H λxs H1=>Tn xs H1 Q
theorem kB {X:Cx}{es:List Expr}{t:TA}{pos:Pos}{J}(h:PA X es t):PE X (.Tuple es J pos) (QZ t):=OQ h
theorem gO {X:Cx}{es:List Expr}{t:TA}{pos:Pos}(h:PA X es t):PE X (.List es pos) (Q6 t):=OR h
theorem cj {xs:List V}(j:xs.length<=sizeLine)(g:∀p H',aq H H'->H p=none->H' p=some (.tup xs)->Q (.ref p) H'):Tl xs H Q:=
 ⟨j,λp n=>g p _ (.upd n) n af⟩
theorem ju {xs:List V}(j:xs.length<=sizeLine)(g:∀p H',aq H H'->H p=none->H' p=some (.lst xs)->Q (.ref p) H'):Tn xs H Q:=
 ⟨j,λp n=>g p _ (.upd n) n af⟩
theorem iZ {p:Addr}{ys:List V}(h:aD K H p ys)(g:∀p H',aq H H'->H p=none->H' p=some (.tup ys)->Q (.ref p) H'):Ds K p H Q:=Rm h λp n=>g p _ (.upd n) n af
theorem ip {p:Addr}{ys:List V}(h:aD K H p ys\/aK K H p ys)(g:∀p H',aq H H'->H p=none->H' p=some (.lst ys)->Q (.ref p) H'):y7 K p H Q:=PD h λp n=>g p _ (.upd n) n af
theorem Kq {p:Addr}{xs:List V}{lo hi:Option Int}(h:aD K H p xs)(g:∀p H',aq H H'->H p=none->H' p=some (.lst @bW)->Q (.ref p) H'):vi K p lo hi H Q:=Op h λp n=>g p _ (.upd n) n af
theorem aI.via {xs:List V}{ds:List D}(s:aq H H')(h:aI K H xs ds):aI K H' xs ds:=aI.same h s
theorem bw {n:Nat}(h:n<=1000000):n<=sizeLine:=by rw [sizeLine_eq];lia
theorem aH {α:Type}{f:α->D}{xs:List V}{j:List α}(h:aI K H xs (j.map f)):xs.length=j.length:=by rw [h.len];simp
theorem bj {α:Type}{f:α->D}{xs:List V}{j:List α}{i:Nat}{x:V}(h:aI K H xs (j.map f))(e:xs[i]? =some x):∃a,j[i]? =some a/\bO K H x (f a):=by
 obtain ⟨d,G,dx⟩:=h.get1 e;rw [getElem?_map] at G
 cases z:j[i]? with
 |none=>rw [z] at G;cases G
 |some l=>rw [z] at G;exact ⟨l,rfl,Option.some.inj G▸dx⟩
end
end L2
local macro_rules | `(tactic| walk_at "l3sq") => `(tactic| first
  | assumption
  | (show L2.aK _ _ _ _; first | exact L2.aK.of (by assumption) | exact L2.aq.seqT (by assumption) (by walk_at "l3sq"))
  | (show L2.aD _ _ _ _; first | exact L2.aD.of (by assumption) | exact L2.aq.seq (by assumption) (by walk_at "l3sq"))
  | (show L2.E8 _ _ _ _; exact L2.E8.via (by assumption) (by walk_at "l3sq"))
  | (show L2.aI _ _ _ _; exact L2.aI.via (by assumption) (by walk_at "l3sq"))
  | (show L2.bO _ _ _ _; exact L2.bO.via (by assumption) (by walk_at "l3sq"))
  | (show _ = some _; exact L2.aq.get (by assumption) (by walk_at "l3sq")))
namespace L2
theorem P2 {c:Prop}[Decidable c]{A B:Prop}(J: ¬c)(h:A):vv (!decide c) A B:=UM (λ_=>h) (λz=>absurd z J)
theorem EB {c:Prop}[Decidable c]{A B:Prop}(J:c)(h:B):vv (!decide c) A B:=UM (λz=>absurd J z) (λ_=>h)
end L2
set_option hygiene false in
local macro_rules|`(tactic|walk_at "l3gs")=>do
 let r←("ho hp hq;hr hs ht;hu hv;hw hx;hy hz hA;hB hC hD hE hF hG hH;hI hJ;hK hL;hM hN".splitOn ";").toArray.mapM λx=>do let i:Array Lean.Term:=(x.splitOn " ").toArray.map λs=>⟨Lean.mkIdent (.mkSimple s)⟩;let p:=i[0]!;let e:=i.extract 1 i.size;`(Lean.Parser.Tactic.tacticSeq|(show @$p;first $[|refine @$e]*))
 `(tactic|((conv=>whnf);first $[|$r]*))
local macro_rules | `(tactic| walk_at "l3go") => `(tactic| ((repeat (walk_at "l3gs")); conv => whnf))
local macro_rules | `(tactic| walk_at "l3gc") => `(tactic| (walk_at "l3go"; refine L2.cutE (by walk_at "l3go"; exact ⟨rfl, rfl⟩) ?_))
local macro_rules | `(tactic| walk_at "l3gr") => `(tactic| first | refine L2.bG rfl ?_ | refine L2.b6 rfl ?_)
namespace L2
open PySem PySem.Spec PyProof.Rows
section
variable {X:Cx}{K:Fg}{H:Hp}{Q:VK}
theorem Jp {prog:Program}{w:World}{A:Around}{E:Value->Shared->Prop}{s:Shared}{t b:Addr}{ws:List Value}{Q:Value->Shared->Prop}(ht:IsTup s.heap t (#[]:Array Value))(Y:IsTup s.heap b ws.toArray)(h:Q (.ref b) s):wpAny @l A (binaryOp .Add (.ref t) (.ref b)) Q E s:=by
 obtain ⟨⟨W,dd,S,sl⟩,O,U,n,L⟩:=id ht;obtain ⟨⟨Z,z,R,G⟩,j,J,n2,I⟩:=id Y;simp only at U L J I;subst U L J I;exact concat_meets ⟨_,O,rfl⟩ ⟨_,j,rfl⟩ noFill_tuple_add seq_tuple_add PySem.F.slot_tuple_add PySem.F.entry_tuple_add @cC (tuple_addW0 t b #[] ws.toArray n n2 dd z sl G @e) ⟨O,j,h⟩
def RK (K:Fg):R2:=λx y H Q=>∃a b ys,x= .ref a/\y= .ref b/\aK K H a []/\aK K H b ys/\Q (.ref b) H
theorem K1:dz X @bB (RK X.K):=by
 intro pins s σ H x y v u Q I z L h;obtain ⟨a,b,ys,rfl,rfl,J,j,q⟩:=h;cases z;cases L;obtain ⟨its,F,W,_⟩:=I.tuple J;obtain ⟨G,U,p2,_⟩:=I.tuple j;cases F;exact Jp W p2 ⟨.ref b,H,I,rfl,q⟩
def Mn (K:Fg)(p q:Addr)(H:Hp)(Q:VK):Prop:=Jq K p q H Q\/∃ys,aK K H p []/\aK K H q ys/\Q (.ref q) H
def Rg (K:Fg):R2:=λx y H Q=>match x,y with
 | .int i,.int j=>Q (.int (i+j)) H
 | .str a,.str b=>a.length+b.length<=sizeLine/\Q (.str (a++b)) H
 | .ref p,.ref q=>Mn K p q H Q
 |_,_=>False
theorem iY (S:X.K=K):dz X @bB (Rg K):=by
 subst S;rwa[((NL rfl).or K1).imp λx y H Q h=> ?_]
 cases x with
 |int i=>cases y with
  |int j=>exact .inl h
  |_=>exact False.elim h
 |str a=>cases y with
  |str b=>exact .inl h
  |_=>exact False.elim h
 |ref p=>cases y with
  |ref q=>
   rcases h with h|⟨ys,h1,h2,G⟩
   ·exact .inl h
   ·exact .inr ⟨p,q,ys,rfl,rfl,h1,h2,G⟩
  |_=>exact False.elim h
 |_=>exact False.elim h
theorem C5 {p q:Addr}{xs ys:List V}(h1:H p=some (.lst xs))(h2:H q=some (.lst ys))(j:xs.length+ys.length<=sizeLine)(g:∀l H',aq H H'->H l=none->H' l=some (.lst (xs++ys))->Q (.ref l) H'):Mn K p q H Q:= .inl (SN h1 h2 j λl n=>g l _ (.upd n) n af)
theorem EM (x:V)(xs:List V):qE (x::xs) (some 1) none=xs:=by
 unfold qE
 have e:HT.sIx (x::xs).length 0 (some 1)=1:=by
  rw [show (some (1:Int))=some ((1:Nat):Int) from rfl,HT.sIx_nat,length_cons];lia
 rw [e,HT.sIx_none,length_cons];simp
theorem jb {pk:List @z}{σ:St}{x y:V}:vO (dg (none::none::pk) σ) (((dg (none::none::pk) σ).set 0 (some x)).set 1 (some y)):=
 vO.cons (.inl rfl) (.cons (.inl rfl) (.refl _))
theorem ja {pk:List @z}{σ:St}{x y z u:V}:vO (dg (none::none::none::none::pk) σ) (((((dg (none::none::none::none::pk) σ).set 0 (some x)).set 1 (some y)).set 2 (some z)).set 3 @ei):=
 vO.cons (.inl rfl) (.cons (.inl rfl) (.cons (.inl rfl) (.cons (.inl rfl) (.refl _))))
end
abbrev TJ:=Str->St->Hp->(Str->Hp->Prop)->Prop
def Tv (x:Str):Prop:=∀c∈x.cps.toList,c<128
section
variable {X:Cx}{K:Fg}
theorem DW (bs:List Bool):((List.range bs.length).any λi=>(bs[i]?).getD true)=bs.any id:=by
 rw [Bool.eq_iff_iff,any_eq_true,any_eq_true];constructor
 ·rintro ⟨i,hi,e⟩;have hi:=mem_range.mp hi;rw [getElem?_eq_getElem hi] at e;exact ⟨_,getElem_mem hi,e⟩
 ·rintro ⟨b,z,e⟩;obtain ⟨i,hi,rfl⟩:=mem_iff_getElem.mp z;exact ⟨i,mem_range.mpr hi,by rw [getElem?_eq_getElem hi];exact e⟩
theorem EW (R:X.calm=true):bi X (.builtin "any") (λxs H Q=>∃(a:Addr) (bs:List Bool),xs=[.ref a]/\aD X.K H a @bh/\Q (.bl (bs.any id)) H):=by
 intro pins s σ H xs U Q I r h;obtain ⟨a,bs,rfl,G,q⟩:=h;obtain ⟨u,rfl,O⟩:=fW r;cases O;obtain ⟨its,J,pl,Y⟩:=I.list G;have W:s.heap.IsList a its.toArray:=pl.isList;have j:=z8 J
 have z:a<s.heap.objs.size:=by obtain ⟨_,e,_⟩:=W;exact Heap.lt_size e
 rwa[call_any_walk (wpAny_pyIter_list W ?_)]
 refine ⟨s.heap.objs.size,[s.heap.objs.size,a],[s.heap.objs.size],its.toArray.size,_,_,λi=>(bs[i]?).getD true,rfl,Walks.list (A:=X.A.in1) @fG _ a @fx its.toArray,
  ⟨⟨_,Heap.get?_push_size _ rfl,rfl,rfl⟩,W.push _⟩,λi v s' Q' Z L F=> ?_,λh' tk S=> ?_⟩
 ·obtain ⟨b,e,rfl⟩:=j.get i v (by simpa using L);simp only [e,Option.getD_some] at F;exact wpAny_truthy_bool F
 ·have e:((List.range its.toArray.size).any λi=>(bs[i]?).getD true)=bs.any id:=by
   rw [size_toArray,j.length];exact DW bs
  rw [e];exact ⟨.bl _,H,I.kept (LSm.kept_iter S),rfl,q⟩
def Mu (K:Fg)(a:Addr)(H:Hp)(Q:VK):Prop:=∃bs:List Bool,aD K H a @bh/\Q (.bl (bs.any _root_.id)) H
def Rc (K:Fg):List V->Hp->VK->Prop:=λxs H Q=>match xs with|[.ref a]=>Mu K a H Q|_=>False
theorem MN (S:X.K=K)(J:X.calm=true):bi X (.builtin "any") (Rc K):=by
 subst S;rwa[(EW J).imp λxs H Q h=> ?_];unfold Rc at h;split at h
 ·obtain ⟨bs,h1,h2⟩:=h;exact ⟨_,bs,rfl,h1,h2⟩
 ·exact h.elim
theorem Ni {K:Fg}{p:Addr}{H:Hp}{Q:VK}{bs:List Bool}(h:aD K H p @bh)(g:Q (.bl (bs.any id)) H):Mu K p H Q:=⟨bs,h,g⟩
noncomputable def v6 (x y:Str):Bool:=decide (0+y.length<=x.length)&&Builtin.Str.subAt x y 0
def Ck:V->List V->Hp->VK->Prop:=λx xs H Q=>match x,xs with| .str z,[.str y]=>Q (.bl (v6 z y)) H|_,_=>False
theorem Fy:Ao X "str.startswith" Ck:=by
 intro pins s σ H x xs v L Q I j J h;unfold Ck at h;split at h
 ·rename_i z y;obtain ⟨t,rfl⟩:=j;obtain ⟨u,rfl,G,rfl⟩:=fW J;exact call_gives F.slot_str_startswith @eO F.entry_str_startswith (F.args_str_startswith_2 _ _) (gives_str_startswith z y t G) ⟨.bl _,H,I,rfl,h⟩
 ·exact h.elim
end
noncomputable def fu:Stmt->Nat->Stmt
 | .ClassDef _ _ _ body _ _ _ _ _ _ _,j=>body.getD j (.Pass ⟨0,0,0,0⟩)
 |s,_=>s
structure gJ (K:Fg)(C:Addr):Prop where
 cl:vQ K C
 ha:W.findIn K (.ref C) "__class__"=some (some (.builtin "object.__class__"))
 hn:W.specialIn K (.builtin "object.__class__") "__get__"=some (some (.builtin "getset_descriptor.__get__"))
 htk:W.takesIn K (.builtin "object.__class__")=some true
 hm:W.mroIn K C (.type "object")=some true
structure Nm (K:Fg)(C:Addr):Prop where
 makes:W.makesIn K C=true
 init:W.findIn K (.ref C) "__init__"=some (some (.builtin "object.__init__"))
 kp:W.keepIn K (.ref C)=true
section
variable {X:Cx}{C:Addr}{x:Str}{p pos:Pos}
def FT (C:Addr):TE:=λ_ H Q=>∀a dx,H a=none->H dx=none->dx≠a->Q (.ref a) @p
theorem KA {pins:List (Addr×Obj)}{σ:St}{H:Hp}{s:Shared}{Q:VK}(M:Nm X.K C)(I:ay X pins σ H s)(h:FT C σ H Q):wpAny @d X.A (call (.ref C) []) @u X.xe s:=by
 have G:=h (s.heap.objs.size+1) s.heap.objs.size @ff @bt (Nat.ne_of_lt @cJ);have O:=ay.made (C:=C) I;have Y:=W.makes_of (M:=model X.prog X.w) I.kIn M.makes
 have e2:((s.heap.push W.emptyDict).push @t).get? (s.heap.objs.size+1)=some @t:=by
  have:=Heap.get?_push_size @fe (o:=W.instObj C s.heap.objs.size) rfl;rwa [Heap.size_push] at this
 have J:PySem.W.Looks @d ((s.heap.push W.emptyDict).push @t) (typeOf (.ref (s.heap.objs.size+1))) (.ref C):=(PySem.W.Looks.ld e2).andThen .now;have z:PySem.W.Looks @d ((s.heap.push W.emptyDict).push @t) (isInstance (.ref (s.heap.objs.size+1)) (.type "object")) true:=J.andThen (Y.top.keeps λb o e=>Heap.get?_push_of_some _ (Heap.get?_push_of_some _ e));rwa[wpAny_call (Em I.kIn M.makes M.init (λj=>PySem.W.Looks.of_pure (W.oi_bind j)) ?_)];obtain ⟨F,g,d,t,os⟩:=s;rwa[codeAny_call_builtin W.oi_plain W.entry_oi (@W.check_slot @d _ _ _ "object.__init__" "object" "__init__" (.ref (F.objs.size+1)) [] [] _ W.oi_kind W.oi_split z (W.oi_args (.ref (F.objs.size+1))) ?_)];rw [W.oi_run];exact wpAny_pure (And.intro rfl ⟨V.ref (F.objs.size+1),_,O,rfl,G⟩)
theorem Bo (M:Nm X.K C)(S:Gl X x)(F:X.mg x=some (.ref C))(z:(x==("__debug__":Str))=false:=by decide):PE X (.Call (.Name x p) [] [] pos) (FT C):=by
 intro pins s σ H Q I h;rwa[wpAny_Call_Name_kw (eR I S F ?_ z)];exact W.callWith_K0 I.kIn M.kp (KA M I h)
end
theorem fC {H:Hp}{a dx:Addr}{o:HO}(h1:H a=none)(h2:H dx=none):aq H (upd (upd H dx (.own a)) a o):=λb u z=>by
 rw [ag (λe=>by rw [e,h1] at z;cases z),ag (λe=>by rw [e,h2] at z;cases z)];exact z
theorem Py {C:Addr}{σ:St}{H:Hp}{Q:VK}(g:∀a dx H',aq H H'->H a=none->H' a=some (.ins C dx [])->Q (.ref a) H'):FT C σ H Q:=λa dx h1 h2 _=>g a dx _ (fC h1 h2) h1 af
section
variable {X:Cx}{CX:nz}{o e:Expr}{es:List Expr}{to:TE}{t:TA}{m:Str}{apos pos:Pos}{n k:Nat}{E:XK}{P:Program}{w:World}{K:Fg}{mg:Str->Option Value}{base:Heap}
theorem Fp (h1:X.prog=P)(h2:X.w=w)(G:X.K=K)(R:X.mg=mg)(W:X.base=base)(I:gw CX X E)(U:bY k X.A)(F:n<=k)(J:PE X o to)(S:PA X (e::es) t)(L:d5 o=true:=by rfl)(j:aG (e::es)=true:=by rfl)(O:(e::es).length<29:=by decide)
(z:(apos.endLine==pos.line)=true:=by rfl):PE X (.Call (.Attribute o m apos) (e::es) [] pos) (FG P w K mg base CX n m E to t):=by
 subst h1 h2 G R W;exact lW I U F J S L j O z
end
theorem CL (xs:Array Nat)(a:Nat):∀m,a+m<=xs.size->((List.range m).map λk=>a+k).filterMap (λi=>xs[i]?)=(xs.toList.drop a).take m
 |0,_=>by simp
 |m+1,h=>by
  have j:=CL xs a m @b;rw [range_succ,map_append,filterMap_append,j,take_succ,getElem?_drop,Array.getElem?_toList]
  have:a+m<xs.size:=by lia
  simp [Array.getElem?_eq_getElem this]
theorem yQ {start stop:Int}{n:Nat}{x:Str}(F:x.length=n)(I:0<=start)(h1:start<=stop)(h2:stop<=n):(sliceRange start stop 1).filterMap (λi=>x.cps[i]?)=(x.cps.toList.drop start.toNat).take (stop - start).toNat/\(sliceRange start stop 1).length=(stop - start).toNat:=by
 have e:sliceRange start stop 1=(List.range (stop - start).toNat).map λk=>start.toNat+k:=by
  unfold sliceRange;simp only [show (1:Int)>0 by decide,if_true]
  have c:(if start<stop then (stop - start+1 - 1) / 1 else 0)=stop - start:=by split<;>lia
  rw [c];rwa[map_congr_left λk _=> ?_];lia
 have hs:x.cps.size=n:=F;rw [e];exact ⟨CL x.cps start.toNat _ @b,by simp⟩
theorem fY {x:Str}{l u:Option Int}{start stop:Int}(hi:Builtin.Str.strSliceIndices l u 1 x.length=sliceRange start stop 1)(I:0<=start)(h1:start<=stop)(h2:stop<=x.length):(Txt.slice x l u).cps.toList=(x.cps.toList.drop start.toNat).take (stop - start).toNat:=by
 obtain ⟨F,U⟩:=yQ (x:=x) rfl I h1 h2;unfold Txt.slice;rw [hi];split
 ·rename_i h
  have G:(stop - start).toNat=x.length:=by simpa [U] using h
  have j:start.toNat=0:=by lia
  rw [j,drop_zero,G,take_of_length_le (by rw [aU];exact Nat.le_refl _)]
 ·exact F
theorem ms {x:Str}{n:Int}(h:0<=n):(Txt.slice x none (some n)).cps.toList=x.cps.toList.take n.toNat:=by
 by_cases F:n<=x.length
 ·rw [fY (start:=0) (stop:=n) ?_ @c h F]
  ·simp
  ·unfold Builtin.Str.strSliceIndices;simp only [show (1:Int)>0 by decide,if_true,if_neg (show ¬n<0 by lia)];congr 1;lia
 ·rw [fY (start:=0) (stop:=x.length) ?_ @c @b @ee]
  ·rw [take_of_length_le (by rw [length_drop,aU];lia),take_of_length_le (by rw [aU];lia)];rfl
  ·unfold Builtin.Str.strSliceIndices;simp only [show (1:Int)>0 by decide,if_true,if_neg (show ¬n<0 by lia)];congr 1;lia
theorem kO {x:Str}{n:Int}(h:0<=n):(Txt.slice x (some n) none).cps.toList=x.cps.toList.drop n.toNat:=by
 by_cases F:n<=x.length
 ·rw [fY (start:=n) (stop:=x.length) ?_ h F @ee]
  ·rw [take_of_length_le (by rw [length_drop,aU];lia)]
  ·unfold Builtin.Str.strSliceIndices;simp only [show (1:Int)>0 by decide,if_true,if_neg (show ¬n<0 by lia)];congr 1;lia
 ·rw [fY (start:=x.length) (stop:=x.length) ?_ @b @ee @ee]
  ·rw [show ((x.length:Int) - x.length).toNat=0 by lia,take_zero,drop_of_length_le (by rw [aU];lia)]
  ·unfold Builtin.Str.strSliceIndices;simp only [show (1:Int)>0 by decide,if_true,if_neg (show ¬n<0 by lia)];congr 1;lia
theorem pA (x y:Str):(x++y).cps.toList=x.cps.toList++y.cps.toList:=by
 show (x.cps++y.cps).toList=_;simp
theorem v5 {x y:Str}(h:x.cps.toList=y.cps.toList):x=y:=by
 cases x;cases y;congr 1;exact Array.toList_inj.mp h
open PySem.W
noncomputable def mT (K:Frag)(C:Addr)(bmB:List Value)(newId:String):Bool:=match K.lookup C with
 |some ⟨.type "type",_,.cls cd,sl⟩=>(match cd.mro,sl.toList with
  | .ref C'::bm,[_,_,_,_,some (.builtin n),_]=>C'==C&&n==newId&& !cd.hasDel&&tailIn K bmB bm&&nsOkIn K cd.ns&&cd.hasDict
  |_,_=>false)
 |_=>false
theorem gF {K:Frag}{h:Heap}{C:Addr}{bmB:List Value}{newId:String}(X:K.In h)(q:mT K C bmB newId=true):
 ∃bm N nm q bs sn sub ab col dd k0 k1 k2 k3 k5 mN cd,h.get? C=some (excClassObj nm q C N bs bm true sn sub ab col dd k0 k1 k2 k3 k5 newId)/\h.Ns N mN/\OwnTail h bmB bm/\(∀v b,mroIn K C v=some b->(Value.ref C::bm).contains v=b)/\
  clsIn K C=some cd/\cd.mro= .ref C::bm/\cd.hasDict=true:=by
 unfold mT at q;split at q
 case h_2=>cases q
 case h_1 dd cd sl ho=>
  split at q
  case h_2=>cases q
  case h_1 C' bm k0 k1 k2 k3 n k5 hm hs=>
   simp only [Bool.and_eq_true,beq_iff_eq,Bool.not_eq_true'] at q;obtain ⟨⟨⟨⟨⟨e1,e2⟩,j⟩,O⟩,af⟩,z⟩:=q;subst e1 e2;obtain ⟨nm,bs,U,L,J,W,sn,sub,ab,col,S⟩:=cd;dsimp only at hm j af z;subst hm j z;obtain ⟨l⟩:=sl;simp only at hs;subst hs;obtain ⟨G,R,I,F⟩:∃G,clsIn K C'=some G/\G.mro= .ref C'::bm/\G.hasDict=true:=⟨{name:=nm,bases:=bs,mro:= .ref C'::bm,ns:=L,qualname:=J,slotNames:=sn,subclasses:=sub,abstract:=ab,collection:=col},by unfold clsIn;rw [ho],rfl,rfl⟩;rwa[⟨bm,L,nm,J,bs,sn,sub,ab,col,dd,k0,k1,k2,k3,k5,_,G,X _ _ ho,.of_isNs (isNs_of_in X af),tail_of_in X O,λv b e=> ?_,R,I,F⟩];unfold mroIn clsIn at e;rw [ho] at e;simpa using e
abbrev E2:List Value:=[.type "ValueError",.type "Exception",.type "BaseException",.type "object"]
section
variable {prog:Program}{w:World}{A:Around}{E:Value->Shared->Prop}{K:Frag}{C f:Addr}
theorem qW {h:Heap}{g:Array GenState}{d:Drawn}{t:Nat}{os:OsState}{cq:List Value}{Q:Fin->Shared->Prop}(X:K.In h)(q:mT K C E2 "ValueError.__new__"=true)(hi:findIn K (.ref C) "__init__"=some @J)(W:isFn K (.ref f)=true)
(S:∀h' e,Heap.MadeExcOf h h' e (.ref C) cq->
   wpAny @l A (call (.ref f) (.ref e::cq)) (λr s'=>r= .none/\Q (.done (.ret (.ref e))) s') E ⟨h',g,d,t,os⟩)(z:cq.length<=sizeLine):
 wpAny @l A (Builtin.«type.__call__» ⟨.ref C::cq,[]⟩) Q E ⟨h,g,d,t,os⟩:=by
 obtain ⟨bm,N,nm,q',bs,sn,sub,ab,col,dd,k0,k1,k2,k3,k5,Z,cd,J,hn,T,_,_⟩:=gF X q;have F:=PySem.F.excBase_ValueError
 have G:E2.contains (.type "ValueError")=true:=by decide+kernel
 repeat (first|with_reducible refine wpAny_loadPart_at J ?_|with_reducible refine wpAny_madeBy_exc J ?_|wp_step)
 rwa[codeAny_call_builtin_code (Code.quiet_builtin _ F.quiet) (wpAny_check_new_subU F G T J ?_)];rwa[codeAny_exc_new_subU F G F T J ?_ z];show wpAny _ _ _ _ _ _
 have R:∀b o,h.get? b=some o->((h.push {cls:= .type "tuple",data:= .seq cq.toArray}).push {cls:= .ref C,data:= .fields #[.ref h.objs.size,.none,.none,.none,.bool false,.none]}).get? b=some o:=
  λb o e=>Heap.get?_push_of_some _ (Heap.get?_push_of_some _ e)
 have I:=R _ _ J;have O:=X.keeps R
 have j:((h.push {cls:= .type "tuple",data:= .seq cq.toArray}).push
  {cls:= .ref C,data:= .fields #[.ref h.objs.size,.none,.none,.none,.bool false,.none]}).get? (h.objs.size+1)=some
  {cls:= .ref C,data:= .fields #[.ref h.objs.size,.none,.none,.none,.bool false,.none]}:=by heap_get
 have L:(Value.ref C::bm).contains (.ref C)=true:=by simp
 unfold isInstance
 repeat (first|with_reducible refine wpAny_loadPart_at j ?_|(with_reducible refine wpAny_isSubtype_exc I ?_;rw [L])|wp_step)
 show wpAny _ _ (typeLookup (.ref C) _) _ _ _;rwa[(looks_findIn O hi).here ?_];rwa[wpAny_holding @cW];rwa[(bind_fn O _ (beq_iff_eq.mp W)).here ?_];rwa[wpAny_bind (wpAny_mono (S _ (h.objs.size+1) ⟨R,Heap.get?_none_of_le @bC,h.objs.size,j,Heap.get?_none_of_le @f,?_⟩) (λr s' U=> ?_) λ_ _ x=>x)]
 ·exact Heap.get?_push_of_some _ (Heap.get?_push_at rfl rfl)
 ·obtain ⟨rfl,Y⟩:=U
  wp_walk
  exact Y
theorem EV {s:Shared}{cq:List Value}{Q:Value->Shared->Prop}(X:K.In s.heap)(q:mT K C E2 "ValueError.__new__"=true)(hi:findIn K (.ref C) "__init__"=some @J)(F:isFn K (.ref f)=true)
(G:∀h' e,Heap.MadeExcOf s.heap h' e (.ref C) cq->
   wpAny @l (A.under (.builtin "type.__call__" ⟨.ref C::cq,[]⟩)) (call (.ref f) (.ref e::cq)) (λr s'=>r= .none/\Q (.ref e) s') E {s with heap:=h'})(z:cq.length<=sizeLine):
 wpAny @l A (call (.ref C) cq) Q E s:=by
 obtain ⟨h,g,d,t,os⟩:=s;obtain ⟨bm,N,nm,q',bs,sn,sub,ab,col,dd,k0,k1,k2,k3,k5,Y,cd,J,I,T,_,_⟩:=gF X q;have O:=tc_lookup;have R:=tc_bind (.ref C);have L:(⟨h,g,d,t,os⟩:Shared).TypeIs (.ref C) "type":=⟨_,J,rfl⟩;rwa[wpAny_call (codeAny_of_tree ?_)];show wpAny _ _ (callAny (.ref C) _) _ _ _
 repeat (any_goals (first|assumption|with_reducible refine wpAny_loadPart_at J ?_|wp_step))
 rwa[⟨rfl,?_⟩];rwa[codeAny_call_builtin_at (Code.quiet_builtin _ @g) entry_typeCall (wpAny_check_type_call_sub J (qW X q hi F (λh' e j=> ?_) z))];exact G h' e j
end
noncomputable def fK (a:Addr)(cls:Value)(dd:Option Addr):HO:= .ext λh=>∃oe vs,h.get? a=some oe/\oe.cls=cls/\oe.dict=dd/\oe.data= .fields vs/\vs[1]? =some .none/\vs[2]? =some .none
theorem xy {P:Program}{w:World}{H:Hp}{h:Heap}{a:Addr}{G:Value}{dd:Option Addr}{R:Obj}{vs:Array Value}(h1:h.get? a=some R)(h2:R.cls=G)(j:R.dict=dd)(z:R.data= .fields vs)(W:vs[1]? =some .none)(L:vs[2]? =some .none):bh P w H h a (fK a G dd):=
 ⟨⟨R,vs,h1,h2,j,z,W,L⟩,⟨_,h1⟩,λO Z ⟨R,vs,k1,k2⟩ st=>⟨R,vs,st _ k1,k2⟩⟩
structure JQ (K:Frag)(B:Addr):Prop where
 rd:readsIn K B (.type "type")=true
 at_:findCls K (.ref B) (.type "type") "__init__"=some (.val (.builtin "ValueError.__init__"))
 ga:specialIn K (.ref B) "__getattribute__"=some (some (.builtin "type.__getattribute__"))
theorem yp {H:Hp}{a:Addr}{o:HO}(e:H a=some o):upd H a o=H:=by
 funext b
 by_cases z:b=a
 ·rw [z,af,e]
 ·rw [ag z]
def tH (K:Frag)(vs:List V)(H:Hp)(R:Hp->Prop):Prop:=∃a v C,vs=[.ref a,v]/\H a=some @C/\mT K C E2 "ValueError.__new__"=true/\R H
def N9 (K:Frag)(t:TA):TE:=λσ H Q=>t σ H λvs H1=>tH K vs H1 λH2=>Q .non H2
section
variable {X:Cx}{B:Addr}{x:Str}{np apos pos:Pos}{e1 e2:Expr}{t:TA}
theorem E1 {A:Around}{pins:List (Addr×Obj)}{σ:St}{H:Hp}{s:Shared}{Q:Value->Shared->Prop}{E:Value->Shared->Prop}{a C:Addr}{us:List Value}(I:ay X pins σ H s)(R:H a=some @C)(q:mT X.K C E2 "ValueError.__new__"=true)(hz:us.length<=1000)
(h:∀s',ay X pins σ H s'->Q .none s'):wpAny @d A (call (.builtin "ValueError.__init__") (.ref a::us)) Q E s:=by
 have F:=PySem.F.excBase_ValueError;obtain ⟨bm,N,nm,q',bs,sn,sub,ab,col,dd,k0,k1,k2,k3,k5,mN,cd,hC,hn,T,_,_⟩:=gF I.kIn q;obtain ⟨⟨oe,W,U,Z,g3,O,S,g6⟩,_⟩:=I.hok a _ R;obtain ⟨G,g,d,tk,os⟩:=s;rwa[wpAny_call (codeAny_call_builtin F.init.plain F.initEntry (wpAny_check_init_subU F T hC U Z ?_))]
 wp_walk
 rw [if_neg (show ¬(us.toArray.size>sizeLine) by rw [sizeLine_eq];simp;lia)]
 wp_walk
 rw [O];rwa[wpAny_pure ?_];have sz:1<W.size:=(Array.getElem?_eq_some_iff.mp S).1
 have L:0<W.size:=by lia
 rw [Array.getElem?_eq_getElem L];rwa[wpAny_pure @cW];have e1:(G.push {cls:=Value.type "tuple",data:=Data.seq us.toArray}).get? a=some oe:=Heap.get?_push_of_some _ U;rwa[wpAny_setField e1 O L ?_]
 have j:∀(s':Shared),ay X pins σ H s'->wpAny @d A.in1 (ret Value.none) (λj s'=>match j with
  |Fin.done f=>(match (Except.ok f:Result) with|Except.ok @gw=>Q v s'|Except.ok a=>False|Except.error e=>E e s')
  |Fin.again c'=>c'.quiet=true/\codeAny @d A c' (λr s'=>match r with|Except.ok @gw=>Q v s'|Except.ok a=>False|Except.error e=>E e s') s')
  (λe s'=>match (Except.error e:Result) with|Except.ok @gw=>Q v s'|Except.ok a=>False|Except.error e=>E e s') s':=λs' J=>wpAny_pure (h s' J)
 have J:ay X pins σ H {heap:=(G.push {cls:=Value.type "tuple",data:=Data.seq us.toArray}).update a (Obj.mapFields (·.setIfInBounds 0 @ct)),gens:=g,drawn:=d,toks:=tk,os:=os}:=by
  have Y:=Obj.data_mapFields O (·.setIfInBounds 0 @ct);have ai:=Heap.get?_update_self (Obj.mapFields (·.setIfInBounds 0 @ct)) e1 (Obj.isFreed_of_fields Y)
  have J:=I.write (x:=a) (e:=a) (o:=fK a (.ref C) none) (h':=(G.push {cls:=Value.type "tuple",data:=Data.seq us.toArray}).update a (Obj.mapFields (·.setIfInBounds 0 @ct))) (t':=tk) (by rw [R];exact True.intro) (.inl rfl)
   (λb u hb z=>by rw [Heap.get?_update_other _ _ (Ne.symm hb)];exact Heap.get?_push_of_some _ z) ⟨_,ai⟩
   (xy ai ((Obj.cls_mapFields _ _).trans Z) (by rw [CG O];exact g3) Y (by rw [Array.getElem?_setIfInBounds_ne @c];exact S) (by rw [Array.getElem?_setIfInBounds_ne @c];exact g6))
  rw [yp R] at J;exact J
 split
 ·exact wpAny_letGo (j _ J)
 ·exact wpAny_pure (j _ J)
end
section
variable {X:Cx}{B:Addr}{x:Str}{np apos pos:Pos}{e1:Expr}{es:List Expr}{t:TA}
theorem Hd {K:Frag}(Z:X.K=K)(M:JQ K B)(S:Gl X x)(hm:X.mg x=some (.ref B))(ha:PA X (e1::es) t)(G:(x==("__debug__":Str))=false:=by decide)(L:aG (e1::es)=true:=by rfl)(Y:(e1::es).length<29:=by decide)(z:(apos.endLine==pos.line)=true:=by rfl):
 PE X (.Call (.Attribute (.Name x np) "__init__" apos) (e1::es) [] pos) (N9 K t):=by
 subst Z;have h':(bu e1&&aG es)=true:=L;rw [Bool.and_eq_true] at h';intro pins s σ H Q I h;rwa[oR rfl L Y z (eR I S hm ?_ G)];rwa[method_cls I.kIn M.ga (cls_value I.kIn M.rd M.at_ rfl ?_)];have I1:=I.tok (s.toks+1);have W:=aP (env:=X.env) (es:=es) h'.1;have F:(backTo pos @w).any (·.1)=false:=br h'.2;have R:=ha pos pins _ σ H _ I1 h;rw [W] at R ⊢;rwa[Calls.callWith_builtin (by show (false||(backTo pos @w).any (·.1))=false;rw [F];rfl) (Calls.evalArgs_plain (bz R λus s2 ⟨vs,H2,O,r,U⟩=> ?_))];obtain ⟨a,v,C,rfl,ea,j,q⟩:=U
 cases r with|cons r1 r2=>cases r2 with|cons r2 r3=>
 cases r3;obtain rfl:_=Value.ref a:=r1;exact E1 O ea j @e λs' J=>⟨.non,H2,J,rfl,q⟩
end
theorem OwnTail.refuse {h:Heap}{bmB bm:List Value}(T:OwnTail h bmB bm)(z:Value)(j:Str):refuseLoop z j bm=refuseLoop z j bmB:=by
 induction T with
 |base=>rfl
 |own _ _ _ _ ih=>rw [refuseLoop_ref];exact ih
def qS (K:Frag)(f:Str)(a:Addr)(y:V)(H:Hp)(R:Hp->Prop):Prop:=∃C,H a=some @C/\mT K C E2 "ValueError.__new__"=true/\findIn K (.ref C) "__setattr__"=some (some (.builtin "object.__setattr__"))/\findIn K (.ref C) f=some none/\mroIn K C (.type "object")=some true/\
 ∀d,H d=none->d≠a->R (upd @fp d (.xd [(f,y)]))
def Rp (K:Frag)(f:Str)(to tv:TE):TS:=λD σ H=>tv σ H λy H1=>to σ H1 λx H2=>match x with| .ref a=>qS K f a y H2 λH3=>D.nx σ H3|_=>False
section
variable {X:Cx}{o value:Expr}{to tv:TE}{f:Str}{pos pos':Pos}
theorem TF {A:Around}{pins:List (Addr×Obj)}{σ:St}{H:Hp}{s:Shared}{Q:Unit->Shared->Prop}{E:Value->Shared->Prop}{a C:Addr}{y:V}{u:Value}(I:ay X pins σ H s)(ea:H a=some @C)(q:mT X.K C E2 "ValueError.__new__"=true)
(hs:findIn X.K (.ref C) "__setattr__"=some (some (.builtin "object.__setattr__")))(hn:findIn X.K (.ref C) f=some none)(hO:mroIn X.K C (.type "object")=some true)(ry:aL y u)
(h:∀d s',H d=none->d≠a->ay X pins σ (upd @fp d (.xd [(f,y)])) s'->Q () s'):wpAny @d A (setAttr (.ref a) f u) Q E s:=by
 obtain ⟨bm,N,nm,q',bs,sn,sub,ab,col,dd,k0,k1,k2,k3,k5,mN,cd,hC,hN,T,_,U,ac,ae⟩:=gF I.kIn q;obtain ⟨⟨R,vs,W,g2,g3,Z,g5,g6⟩,_⟩:=I.hok a _ ea;have Y:InstAt s.heap a R C none:=⟨W,g2,by unfold notCls;rw [Z],by rw [g3];trivial⟩;rwa[set_plain I.kIn Y hs ?_];have O:=PySem.F.store_object;have Xk:=I.kIn;have sub:Looks @d s.heap (isInstance (.ref a) (.type "object")) true:=Y.type.andThen (looks_mroIn Xk hO);have hm:Looks @d s.heap (mroOf (.ref C)) cd.mro:=(looks_clsIn Xk U).andThen .now;rwa[codeAny_call_builtin O.slot.plain O.entry (@check_slot @d _ _ {s with toks:=s.toks+1} "object.__setattr__" "object" "__setattr__" (.ref a) [.str f s.toks,u] [] _ O.kind O.split sub (O.args (.ref a) (.str f s.toks) u) ?_)];rw [osa_eq,refuse_eq];rwa[wpAny_bind (wpAny_bind (Looks.here (s:= {s with toks:=s.toks+1}) Y.type (wpAny_bind (Looks.here (s:= {s with toks:=s.toks+1}) hm ?_))))];rw [ac,refuseLoop_ref,OwnTail.refuse T,PySem.F.store_ValueError.passes];rwa[wpAny_pure (wpAny_bind (Looks.here (s:= {s with toks:=s.toks+1}) Y.type (wpAny_bind (Looks.here (s:= {s with toks:=s.toks+1}) (looks_findIn Xk hn) (wpAny_bind @cr)))))];rwa[wpAny_bind (wpAny_pure (wpAny_bind (wpAny_bind (wpAny_loadPart (s:= {s with toks:=s.toks+1}) W ?_))))];rw [g2];rwa[wpAny_bind (Looks.here (s:= {s with toks:=s.toks+1}) (looks_clsIn Xk U) ?_)];rw [ae,if_neg @c];dsimp only;rw [g3];dsimp only;rw [if_neg (by simp [typeHasDict]),Z];dsimp only;obtain ⟨j,gg,dw,tk,os⟩:=s;dsimp only at W ⊢;have S:(j.push {cls:= .type "dict",data:= .dict #[]}).get? a=some R:=Heap.get?_push_of_some _ W;have G:a≠j.objs.size:=Nat.ne_of_lt (Heap.lt_size W);rwa[wpAny_bind (wpAny_alloc' (wpAny_bind (wpAny_update' S ?_)))];rwa[wpAny_pure ?_]
 have ah:((j.push {cls:= .type "dict",data:= .dict #[]}).update a λo=> {cls:=o.cls,dict:=some j.objs.size,data:=o.data,slots:=o.slots}).get? j.objs.size
  =some {cls:= .type "dict",data:= .dict #[]}:=(Heap.get?_update_ne _ _ _ _ G.symm).trans (Heap.get?_push_at rfl rfl)
 have ad:((j.push {cls:= .type "dict",data:= .dict #[]}).update a λo=> {cls:=o.cls,dict:=some j.objs.size,data:=o.data,slots:=o.slots}).Ns j.objs.size (λ_=>none):=
  ⟨_,#[],_,ah,rfl,λe he=>absurd he @e,λ_=>rfl⟩
 show wpAny _ _ (Builtin.ObjectAttr.storeInDict j.objs.size (.str f tk) f u) _ _ _;unfold Builtin.ObjectAttr.storeInDict Builtin.ObjectAttr.newKeyGuard;rwa[wpAny_bind (wpAny_pure (wpAny_bind (wpAny_nsSet1 (Heap.Ns1.of_empty ad) λh' af hs=> ?_)))];obtain ⟨oD,ak,al,aj,ai,aa⟩:=af.count (Within.cons f u Within.nil);rwa[wpAny_bind (wpAny_lookBehind aj (by rw [ai];exact pastItsLine_dict (Nat.le_trans aa (by rw [length_cons,length_nil,sizeLine_eq];lia))) ?_)];rwa[wpAny_pure (h j.objs.size _ I.fresh G.symm ?_)]
 have L:h'.get? a=some {cls:=R.cls,dict:=some j.objs.size,data:=R.data,slots:=R.slots}:=by
  rwa[(hs.2 a G).trans (Heap.get?_update_self _ S ?_)];show Obj.isFreed {cls:=R.cls,dict:=some j.objs.size,data:=R.data,slots:=R.slots}=false;exact Obj.isFreed_of_fields (vs:=vs) Z
 have J:=I.write (x:=a) (e:=a) (o:=fK a (.ref C) (some j.objs.size)) (h':=h') (t':=tk+2) (by rw [ea];exact True.intro) (.inl rfl)
  (λb z hb e=>(hs.2 b @fc).trans ((Heap.get?_update_ne _ _ _ _ hb).trans (Heap.get?_push_of_some _ e))) ⟨_,L⟩ (xy L g2 rfl Z g5 g6)
 rwa[J.track (I.nw (Heap.get?_none_of_le @f) (by rw [ag G.symm];exact I.fresh)) ⟨_,af,λg=> ?_⟩];show iT (List.lookup g [(f,y)]) (if g=f then some u else none);by_cases z:g=f
 ·subst z;rw [if_pos rfl,lookup_cons_self];exact ry
 ·rw [if_neg z,lookup_cons,beq_false_of_ne z];trivial
theorem KL {K:Frag}(W:X.K=K)(L:PE X o to)(U:PE X value tv)(hs:swapsWith value (some (.Attribute o f pos')) pos.line X.env=pure false:=by rfl):PS X (.Assign [.Attribute o f pos'] value pos) (Rp K f to tv):=by
 subst W;intro pins s σ H D I h;rwa[plainObj_wpAny_Assign_Attribute (bz @bQ λu s1 ⟨y,H1,Y,S,q⟩=>bz (L pins s1 σ H1 _ Y q) λJ s2 ⟨x,H2,O,G,R⟩=> ?_) hs]
 match x,R with
 | .ref a,⟨C,ea,j,sa,na,mO,q⟩=>
   obtain rfl:J=Value.ref a:=G;exact TF O ea j sa na mO S λd s3 Z z F=>⟨σ,_,F,q d Z z⟩
end
theorem ay.untrack {X:Cx}{pins:List (Addr×Obj)}{σ:St}{H:Hp}{s:Shared}{a:Addr}{φ:Heap->Prop}(I:ay X pins σ H s)(e:H a=some (.ext φ)):ay X pins σ (λb=>if b=a then none else H b) s:=by
 have j:∀b u,H b=some u->(∀φ,u≠ .ext φ)->(λb=>if b=a then none else H b) b=some u:=λb u z n=>by
  show (if b=a then none else H b)=some u;rw [if_neg];exact z;rintro rfl;rw [e] at z;cases z;exact n _ rfl
 have G:∀b,H b=none->(λb=>if b=a then none else H b) b=none:=λb z=>by
  show (if b=a then none else H b)=none;split
  ·rfl
  ·exact z
 rwa[⟨I.ok,I.os,I.bare,⟨I.base.keep,I.base.slot,λb u e n L=>G _ (I.base.free b u e n L),I.base.there,λb xs e=>j _ _ @em (by intro φ z;cases z),λb u v e=>j _ _ (I.base.frzs b u v e) (by intro φ z;cases z),λb ps e=> ?_⟩,I.loc,I.cell,G _ I.free,λx c e=>G _ @ea,λp J=> ?_,λb u z=> ?_,I.len⟩]
 ·obtain ⟨m,q⟩:=I.base.tbls b ps e;exact ⟨m,j _ _ q (by intro φ z;cases z)⟩
 ·obtain ⟨e,n,r⟩:=I.pin p J;exact ⟨e,G _ n,r⟩
 ·have O:b≠a:=λy=>by
   subst y;have F:(if b=b then none else H b)=some u:=z;rw [if_pos rfl] at F;cases F
  have F:(if b=a then none else H b)=some u:=z;rw [if_neg O] at F;rwa[(I.hok b u F).stay @cI (λc q=>j _ _ q (by intro φ y;cases y)) λc xs q=>j _ _ q (by intro φ y;cases y)]
inductive FZ (C:Addr)(fld:Str)(vs:List V)(H:Hp)(Q:VK)(_e:XK):Prop
 |mk (a v:_) (_:vs=[.ref a,v]) (_:H a=some @C) (_:∀d,H d=none->d≠a->Q .non (upd @fp d (.xd [(fld,v)])))
structure XI (K:Frag)(C f:Addr):Prop where
 j:mT K C E2 "ValueError.__new__"=true
 init:findIn K (.ref C) "__init__"=some @J
 fn:isFn K (.ref f)=true
 kp:keepIn K (.ref C)=true
structure Tp (P:Program)(w:World)(K:Frag)(mg:Str->Option Value)(base:Heap)(n:Nat)(x:Str)(C:Addr)(fld:Str):Prop where
 ex:∃f fd ps,XI K C f/\ax P w K mg base aY n f fd ps (FZ C fld)/\fv K fd ps []/\mg x=some (.ref C)
def Kf (C:Addr)(fld:Str)(E:XK)(t:TA):TS:=λ_ σ H=>t σ H λvs H1=>∃v,vs=[v]/\∀d,H1 d=none->E (.ref C) @dr (upd H1 d (.xd [(fld,v)]))
section
variable {M:Model}{A:Around}{E:Value->Shared->Prop}{env:Env}{nm q:Str}{C N:Addr}{bs bm:List Value}{hdct:Bool}{sn:List Str}{sub:List Value}{ab:Bool}{col:Option Bool}{dd:Option Addr}{k0 k1 k2 k3 k5:Option Value}{newId:String}
theorem jp {s:Shared}{x:Sem Value}{Q:Flow->Shared->Prop}(j:(Value.ref C::bm).contains (.type "BaseException")=true)(F:A.handled=none)
(h:wpAny M A x (λv s₁=>∃e oe vs,v= .ref e/\s₁.heap.get? C=some @A/\s₁.heap.get? e=some oe/\oe.cls= .ref C/\oe.data= .fields vs/\vs[1]? =some .none/\E (.ref e) s₁) E s):
 wpAny M A (raiseStmt env (some x) none) Q E s:=by
 unfold raiseStmt;rwa[wpAny_bind (wpAny_mono h (λv s₁ I=> ?_) λ_ _ x=>x)];obtain ⟨e,⟨U,W,L,ac⟩,vs,rfl,J,S,R,z,h1,G⟩:=I;dsimp only at R z;subst R z;obtain ⟨O,g,d,tk,os⟩:=s₁
 repeat (first|with_reducible refine wpAny_loadPart_at S ?_|with_reducible refine wpAny_loadPart_at J ?_|(with_reducible refine wpAny_isSubtype_exc J ?_;rw [j])|wp_step)
 rw [h1];rwa[wpAny_pure ?_];rw [if_neg @c];exact wpAny_pure (wpAny_raiseNew_none F G)
end
section
variable {X:Cx}{C:Addr}{x fld:Str}{np cpos pos:Pos}{e:Expr}{es:List Expr}{t:TA}{E:XK}{n k:Nat}
theorem DY (fl:Fl X E)(hc:X.calm=true)(c:Tp X.prog X.w X.K X.mg X.base n x C fld)(hr:bY k X.A)(hn:n+1<=k)(hg:Gl X x)(ha:PA X (e::es) t)
(hp:aG (e::es)=true:=by rfl)(aa:(x==("__debug__":Str))=false:=by decide):PS X (.Raise (some (.Call (.Name x np) (e::es) [] cpos)) none pos) (Kf C fld E t):=by
 intro pins s σ H D I h;have h':(bu e&&aG es)=true:=hp;rw [Bool.and_eq_true] at h';obtain ⟨f,fd,ps,M,F,b,hm⟩:=c.ex;obtain ⟨bm,N,nm,q,bs,sn,sub,ab,col,dd,k0,k1,k2,k3,k5,mN,cd,hC,hN,T,_⟩:=gF I.ok.mod.kin M.j
 have G:(Value.ref C::bm).contains (.type "BaseException")=true:=by rw [contains_cons,T.hasType (b:=true) @g,Bool.or_true]
 rw [arm_exec_Raise]
 have go:wpAny @d X.A (eval (.Call (.Name x np) (e::es) [] cpos) X.env) (λv s₁=>∃e U W,v= .ref e/\s₁.heap.get? C=some (excClassObj nm q C N bs bm true sn sub ab col dd k0 k1 k2 k3 k5 "ValueError.__new__")/\s₁.heap.get? e=some U/\U.cls= .ref C/\U.data= .fields W/\W[1]? =some .none/\X.xe (.ref e) s₁) X.xe s:=by
  rwa[wpAny_Call_Name_kw (eR I hg hm ?_ aa)];rwa[callWith_K (h₀:=X.base) I.ok.mod.kin M.kp (bz (ha cpos pins s σ H _ I h) λO Z ⟨W,H1,I1,r,q1⟩=>⟨I1.kIn,?_⟩) @cY @cZ];rw [nil_append];obtain ⟨v,rfl,q1⟩:=q1;rwa[EV I1.kIn M.j M.init M.fn (λh2 a m=> ?_) (by rw [<-r.length];show 1<=_;rw [sizeLine_eq];lia)];have n1:H1 a=none:=I1.hok.none_of m.new;have I2:=I1.kept (t':=Z.toks) m.keeps;have nw:=I1.nw m.new n1;obtain ⟨tt,ht,_⟩:=m.there;have I3:=I2.track (o:=fK a (.ref C) none) nw (xy ht rfl rfl rfl rfl rfl)
  have sp:FZ C fld (.ref a::([v]++[])) (upd H1 a @C) (λz H2=>z= .non/\∃d,H1 d=none/\d≠a/\H2=upd @dy d (.xd [(fld,v)])) E:=
   ⟨a,v,rfl,af,λd nd ne=>⟨rfl,d,by rw [ag ne] at nd;exact nd,ne,rfl⟩⟩
  have r2:aO (V.ref a::([v]++[])) (Value.ref a::(O++[])):= .cons rfl (r.append .nil)
  have hl:(Value.ref a::O++[]).length=ps.length:=by
   have e:=r2.length;rw [F.len _ _ _ _ sp] at e;exact e.symm
  have hb:BindsTo {heap:=h2,gens:=Z.gens,drawn:=Z.drawn,toks:=Z.toks,os:=Z.os} fd {pos:=Value.ref a::O} (ps.zip (Value.ref a::(O++[]))):=b _ (Value.ref a::O) I3.kIn hl;rwa[wpAny_call (codeAny_mono (F.run _ X.stack _ _ ⟨Value.ref a::O,[]⟩ (Value.ref a::(O++[])) _ _ E ((hr.mono hn).make C O []) (I3.env0.make C O []) hb r2 sp) λr s' J=> ?_)]
  cases r with
  |error e=>exact False.elim J
  |ok flw=>
   cases flw with
   |ret u=>
    obtain ⟨v',H',I4,rv,ev,d,nd,R,rfl⟩:=I3.after J;subst ev;rwa[⟨rv,a,?_⟩]
    have e4:upd @dy d (.xd [(fld,v)]) a=some @M:=by rw [ag @ex,af]
    obtain ⟨⟨U,W,g1,g2,g3,g4,g5,g6⟩,_⟩:=I4.hok a _ e4;have I5:=I4.untrack e4
    have eH:(λb=>if b=a then none else upd @dy d (.xd [(fld,v)]) b)=upd H1 d (.xd [(fld,v)]):=by
     funext y
     show (if y=a then none else _)=_;by_cases L:y=a
     ·rw [if_pos L,L,ag @ex,n1]
     ·rw [if_neg L];by_cases S:y=d
      ·rw [S,af,af]
      ·rw [ag S,ag S,ag L,ag L]
    rw [eH] at I5;rwa[⟨U,W,rfl,I4.bk _ _ hC,g1,g2,g4,g5,?_⟩];rwa[fl pins σ _ _ a (.ref C) @dr I5 ⟨⟨by rw [ag @ex];exact n1,nw.2⟩,.inl ⟨U,W,g1,g2,g3,g4,g5,g6⟩⟩ (q1 d nd)]
   |next=>exact False.elim J
   |brk=>exact False.elim J
   |cont=>exact False.elim J
 first
  |refine wpAny_bind (wpAny_standAt (jp G @bO (wpAny_bind @I)))
  |(simp only [evalOpt,Option.map];refine wpAny_bind (wpAny_standAt (jp G @bO (wpAny_bind @I))))
  |(refine wpAny_bind (wpAny_standAt (jp G @bO ?_));refine wpAny_bind @I)
end
section
variable {prog:Program}{w:World}{A:Around}{E:Value->Shared->Prop}{s:Shared}{K:Frag}{x D:Addr}{ox:Obj}{odo:Option Obj}{name:Str}{v:Value}
theorem L6 {R:Result->Shared->Prop}{tk:Tok}(X:K.In s.heap)(I:InstAt s.heap x ox D odo)(J:findObj K D odo name=some (.value v))(G:mroIn K D (.type "BaseException")=some true)
(h:R (.ok (.ret v)) s):codeAny @l A (.call (.builtin "BaseException.__getattribute__") ⟨[.ref x,.str name tk],[]⟩) R s:=by
 obtain ⟨W,g,d,t,os⟩:=s;have L:=I.type (M:=model prog w);have O:=looks_find (M:=model prog w) X I J;have S:=looks_mroIn (M:=model prog w) X G;rwa[codeAny_call_builtin PySem.F.attr_ValueError.ga.plain PySem.F.entry_bexc_ga ?_]
 have z:builtinKind "BaseException.__getattribute__"=some .slot:=by decide+kernel
 have j:splitId "BaseException.__getattribute__"=some ("BaseException","__getattribute__"):=by decide+kernel
 have U:=PySem.F.args_bexc_ga (.ref x) (.str name tk);simp only [checkBuiltinCall,z,j];rwa[wpAny_bind ?_];unfold isInstance;rwa[wpAny_bind (L.at (S.at ?_))]
 repeat (any_goals (first|assumption|with_reducible refine L.at ?_|with_reducible refine O.at ?_|wp_step))
theorem L5 {Q:Value->Shared->Prop}{j:Bool}(X:K.In s.heap)(I:InstAt s.heap x ox D odo)(k:pG K D)(z:findObj K D odo name=some (.value v))(G:handedIn v=true)
(h:∀t,Q v {s with toks:=t}):wpAny @l A (getAttr (.ref x) name j) Q E s:=by
 obtain ⟨J,g,d,t,os⟩:=s;have L:=I.type (M:=model prog w);have O:=looks_findIn (M:=model prog w) X k.ga;have L2':=looks_findIn (M:=model prog w) X k.gr;have Z:=PySem.F.attr_ValueError.ga.bind (.ref x);unfold getAttr getAttrBy;rwa[wpAny_bind (wpAny_mkText (wpAny_holding (wpAny_bind (L.at (wpAny_bind (O.at ?_))))))]
 have S:(Value.builtin "BaseException.__getattribute__"==Value.builtin "object.__getattribute__")=false:=by decide+kernel
 repeat (any_goals (first|assumption|wp_step))
 rwa[L2'.at ?_]
 repeat (any_goals (first|assumption|wp_step))
 rw [if_neg (by cases j<;>decide)]
 repeat (any_goals (first|assumption|wp_step))
 rwa[L6 X I z k.mB ?_];exact handed_on G (h _)
end
def qT (K:Frag)(f:Str)(a:Addr)(H:Hp)(Q:VK):Prop:=∃D d fs v,H a=some @en/\H d=some (.xd fs)/\pG K D/\hasDictIn K D=true/\findIn K (.ref D) f=some none/\fs.lookup f=some v/\Q v H
def QY (K:Frag)(f:Str)(to:TE):TE:=λσ H Q=>to σ H λx H1=>match x with| .ref a=>qT K f a H1 Q|_=>False
theorem KS {X:Cx}{o:Expr}{to:TE}{pos:Pos}{K:Frag}{f:Str}(Y:X.K=K)(S:PE X o to)(U:d5 o=true:=by rfl):PE X (.Attribute o f pos) (QY K f to):=by
 subst Y;intro pins s σ H Q I h;rwa[Dc (ux U) (bz @bN λu s1 ⟨x,H1,G,L,q⟩=> ?_)]
 match x,q with
 | .ref a,⟨D,d,fs,v,ea,ed,k,hd,na,l,q⟩=>
   obtain rfl:u=Value.ref a:=L;obtain ⟨⟨R,vs,k1,k2,k3,k4,k5⟩,_,_⟩:=G.hok a _ ea;obtain ⟨mA,ns,r⟩:=G.hok d _ ed;obtain ⟨z,J,W⟩:=vp ns;obtain ⟨u',O,F⟩:=iT.some_of (v:=v) (o:=mA f) (by rw [<-l];exact r f);have Z:InstAt s1.heap a R D (some z):=⟨k1,k2,by unfold notCls;rw [k4],by rw [k3];exact J⟩
   have j:lookIn f z=some (some u'):=by rw [W,O]
   exact L5 G.kIn Z k (findObj_own hd na rfl j) (vw F) λt=>⟨v,H1,G.tok t,F,q⟩
def gK (K:Frag)(cls:Value)(C:Addr):Prop:=Dl K cls C true\/∃D,cls= .ref D/\mT K D E2 "ValueError.__new__"=true/\mroIn K D (.ref C)=some true
theorem EO {K:Frag}{M:Model}{A:Around}{E:Value->Shared->Prop}{s:Shared}{C a:Addr}{G:Value}{R:Obj}{Q:Bool->Shared->Prop}(X:K.In s.heap)(L:Cf K C)(c:gK K G C)
(S:s.heap.get? a=some R)(Y:R.cls=G)(J:Q true s):wpAny M A (excMatches (.ref a) (.ref C)) Q E s:=by
 rcases c with c|⟨D,rfl,W,U⟩
 ·exact Jo X L c S Y J
 obtain ⟨bmB,newId,O,j⟩:=L.ex;obtain ⟨bm,N,nm,q,bs,hdct,sn,sub,ab,col,dd,k0,k1,k2,k3,k5,F,T,_⟩:=tW X O;obtain ⟨bm',N',nm',q',bs',sn',sub',ab',col',dd',l0,l1,l2,l3,l5,Z,cd,I,_,_,z,_⟩:=gF X W;exact qf F I S Y (by rw [contains_cons,T.hasType j,Bool.or_true]) (z _ _ U) J
def Ke (K:Frag)(C:Addr)(j:Nat)(t:XK->TS)(u:Addr->TS):TS:=λD σ H=>∃M:XK,t M D σ H/\∀cls dd H1,M cls dd H1->gK K cls C/\∀a,H1 a=none->u a (Se D j) (σ.set j @fD) (upd H1 a (iP a cls dd))
theorem DX {X:Cx}{c n:Str}{j:Nat}{C:Addr}{st b₀:Stmt}{z:List Stmt}{t:XK->TS}{u:Addr->TS}{np G tpos:Pos}{L:Addr}(U:X.stack=X.env::X.outer)(hf:X.env.frame=some L)(hC:Cf X.K C)(hg:Gl X c)(hm:X.mg c=some (.ref C))
(O:X.N.Nodup)(R:X.N[j]? =some n)(S:X.env.scope.names.lookup n=some .local)
(hb:U3 X st t)(hs:∀a,uG (X.mk' a) (b₀::z) (u a))(aa:(c==("__debug__":Str))=false:=by decide):
 PS X (.Try [st] [.ExceptHandler (some (.Name c np)) (some n) (b₀::z) G] [] [] tpos) (Ke X.K C j t u):=by
 intro pins s σ H D I h;obtain ⟨M,ht,W⟩:=h;rwa[wpAny_Try_except (wpAny_execs_cons (wpAny_mono (hb M pins s σ H D I ht) (λf s1 q=> ?_) λe s1 q=> ?_))]
 ·cases f with
  |next=>exact wpAny_pure (wpAny_pure q)
  |ret v=>exact q
  |brk=>exact q
  |cont=>exact q
 ·obtain ⟨a,Z,dd,H1,rfl,I1,x1,q1⟩:=q;obtain ⟨hc,W⟩:=W Z dd H1 q1;have na:=x1.1;rwa[y0 I1 x1 I1.ok.frames U hf λh2 T I2 fT x2=> ?_];rwa[MA.land I2 x2 fT λh3 I3 x3=> ?_];rwa[wpAny_handleBy_cons (codeAny_handlers_test (eR (I3.mark (a:=a)) hg hm ?_ aa)) (by intro q;cases q)];obtain ⟨oe,vs,oT,ts,g1,g2,_⟩:=id x3.ex;rwa[EO I3.kIn hC hc g1 g2 ?_];rwa[codeAny_handlers_suite_as (MA.land I3 x3 fT λh4 I4 x4=> ?_)];have I5:=I4.track na (L8 x4);rwa[rh (i:=j) I5 O R (.inl S) (v:= .ref a) rfl (λs6 I6=> ?_) (.inr S)];rwa[wpAny_noRaise (bz (hs a pins _ _ _ (Se D j) (I6.mark (a:=a)) (W a na.1)) λf s5 q=> ?_)]
  cases f with
  |next=>obtain ⟨Y,H',J,q⟩:=q;exact qO @ef O R S λs7 F=>⟨_,H',F,q⟩
  |ret v=>obtain ⟨v,Y,H',J,r,q⟩:=q;exact qO @ef O R S λs7 F=>⟨v,_,H',F,r,q⟩
  |brk=>obtain ⟨Y,H',J,q⟩:=q;exact qO @ef O R S λs7 F=>⟨_,H',F,q⟩
  |cont=>obtain ⟨Y,H',J,q⟩:=q;exact qO @ef O R S λs7 F=>⟨_,H',F,q⟩
open PySem.Calls Att
theorem uw {i:Int}{n:Nat}(h:WData.weight (.int i)<=n):Builtin.Int.intBits i<=n:=by
 unfold WData.weight at h;unfold Builtin.Int.intBits;exact h
theorem qp:∀ {ns:List Int} {n:Nat},WData.weightAll @eP<=n->∀i∈ns,Builtin.Int.intBits i<=n
 |[],_,_,_,hi=>nomatch hi
 |a::r,n,h,i,hi=>by
  have h':WData.weight (.int a)+1+WData.weightAll (r.map WData.int)<=n:=by simpa [WData.weightAll] using h
  rcases mem_cons.mp hi with rfl|hi
  ·exact uw @b
  ·exact qp @b i hi
theorem Ab {ns:List Int}(h:WData.layableAll [WData.list (List.map WData.int ns)]=true):∀i∈ns,Builtin.Int.intBits i<=2^20:=by
 have h1:WData.layable (WData.list (List.map WData.int ns))=true:=by simpa [WData.layableAll] using h
 unfold WData.layable at h1;rw [Bool.and_eq_true,Bool.and_eq_true] at h1;have h2:=of_decide_eq_true h1.2;rwa[qp ?_];simpa [WData.weight] using h2
theorem xL {l:OpenLaw}{n:Nat}{q:Program}{j:List Str}{XP:(Str->Option Value)->Heap->Prop}{Z:World->Heap->Prop}{d:DefRec}
(hn:l.most=some n)(U:d.params.defaults=[])
(O:∀(w:World) (s₀ s₁:Shared) (mg mb:Str->Option Value) (fa:Addr) (o:Obj) (pm cd doc:Value) (a:Addr) (vs:List Value) (ns:List Int),
   Ground q j [] XP w s₀ mg mb s₁.heap->Z w s₁.heap->
   s₁.heap.get? fa=some o->o.data= .func (docDef d.name d.params d.body d.scope pm cd doc)->s₁.heap.CodeRec cd d.name->mg d.name=some (.ref fa)->
   s₁.heap.get? a=some {cls:= .type "list",data:= .seq vs.toArray}->IntsAre vs ns->ns.length<=n->(∀i∈ns,Builtin.Int.intBits i<=2^20)->s₁.gens= #[]->
   codeAny (model l.prog w) callerA (.call (.ref fa) ⟨[.ref a],[]⟩) (λr s'=>r= .ok (.ret (.bool true))/\OldK s₁.heap s'.heap/\s'.os=s₁.os/\AllBare s'.gens) s₁):
 WalkO q j XP Z l.row.toRowW d [] @dc:=by
 intro w s₀ s₁ mg mb G Y fa o pm cd doc dV kV ho hd R hD W hg aa ac as J I ae S ad;obtain rfl:dV= .none:=Dflts.none hD U;obtain rfl:kV= .none:=Dflts.noKw hD;obtain ⟨a,vs,ns,rfl,rfl,L,z,F⟩:=DC hn J S;rwa[enter_call (codeAny_mono (O w s₀ s₁ mg mb fa o pm cd doc a vs ns G Y ho (fd_plain hd) R W L z F (Ab I) hg) λr s' hq=> ?_)];obtain ⟨rfl,h2,h3,h4⟩:=hq;exact ⟨.inl ⟨.bool true,.bool true,[],rfl,λ_=>rfl,.bool true,DZ l _,λ_=>⟨List.Pairwise.nil,λ_ hm=>(nomatch hm)⟩⟩,h2,h3,h4⟩
open PySem.StrLaws Builtin.Str
noncomputable def jn (sp:List Nat):List @gd->List Nat
 |[]=>[]
 |[p]=>p
 |p::q::r=>p++sp++jn sp (q::r)
theorem lB (y:Str):∀ps:List Str,(Str.join y ps).cps.toList=jn y.cps.toList @cK
 |[]=>rfl
 |[p]=>rfl
 |p::q::r=>by
  show (p++y++Str.join y (q::r)).cps.toList=p.cps.toList++y.cps.toList++jn _ ((q::r).map λp=>p.cps.toList);rw [<-lB y (q::r)];simp [Str.cps_append]
theorem tD {c:Nat}{ts:List Nat}(J:c∉ts):∀ps:List @gd,ps≠[]->(jn (c::ts) ps).count c+1=(ps.map (·.count c)).sum+ps.length
 |[],h=>absurd rfl h
 |[p],_=>by simp [jn]
 |p::q::r,_=>by
  have j:=tD J (q::r) @e;have O:ts.count c=0:=List.count_eq_zero.mpr J;simp only [jn,List.count_append,List.count_cons_self,O,map_cons,sum_cons,length_cons] at j ⊢;lia
theorem PR {c:Nat}{ts:List Nat}:∀(ps qs:List @gd),ps≠[]->qs≠[]->(∀p∈ps,c∉p)->(∀q∈qs,c∉q)->jn (c::ts) ps=jn (c::ts) qs->ps=qs:=by
 have J:∀(p q a b:List Nat),c∉p->c∉q->p++c::a=q++c::b->p=q/\a=b:=by
  intro p
  induction p with
  |nil=>
   intro q a b _ G e
   cases q with
   |nil=>exact ⟨rfl,by simpa using e⟩
   |cons z q=>simp only [nil_append,cons_append,List.cons.injEq] at e;exact absurd (by rw [e.1];exact .head _) G
  |cons z p ih=>
   intro q a b j G e
   cases q with
   |nil=>simp only [nil_append,cons_append,List.cons.injEq] at e;exact absurd (by rw [<-e.1];exact .head _) j
   |cons z' q=>
    simp only [cons_append,List.cons.injEq] at e;obtain ⟨h1,h2⟩:=ih q a b (λz=>j (.tail _ z)) (λz=>G (.tail _ z)) e.2;exact ⟨by rw [e.1,h1],h2⟩
 intro ps
 induction ps with
 |nil=>intro qs h;exact absurd rfl h
 |cons p ps ih=>
  intro qs _ F j G e
  cases qs with
  |nil=>exact absurd rfl F
  |cons q qs=>
   have O:=j p (.head _);have L:=G q (.head _)
   cases ps with
   |nil=>
    cases qs with
    |nil=>simp only [jn] at e;rw [e]
    |cons q2 qs=>
     simp only [jn] at e;exact absurd (by rw [e];simp) O
   |cons p2 ps=>
    cases qs with
    |nil=>
     simp only [jn] at e;exact absurd (by rw [<-e];simp) L
    |cons q2 qs=>
     simp only [jn,append_assoc,cons_append] at e;obtain ⟨h1,h2⟩:=J p q _ _ O L e;have R:=List.append_cancel_left h2;rw [h1,ih (q2::qs) @e @e (λz I=>j z (.tail _ I)) (λz I=>G z (.tail _ I)) R]
theorem IC {c:Nat}{ts:List Nat}(J:c∉ts):∀(ps:List @gd),(∀p∈ps,c∉p)->∀i,(jn (c::ts) ps)[i]? =some c->∃r,(jn (c::ts) ps).drop i=(c::ts)++r
 |[],_,i,h=>by simp [jn] at h
 |[p],hp,i,h=>by
  simp only [jn] at h;exact absurd (mem_of_getElem? h) (hp p (.head _))
 |p::q::r,hp,i,h=>by
  simp only [jn,append_assoc] at h ⊢;by_cases h1:i<p.length
  ·rw [getElem?_append_left h1] at h;exact absurd (mem_of_getElem? h) (hp p (.head _))
  ·rw [getElem?_append_right @b] at h;rw [List.drop_append,List.drop_eq_nil_of_le @b,nil_append];generalize i - p.length=j at h ⊢;by_cases h2:j<(c::ts).length
   ·rw [getElem?_append_left h2] at h
    cases j with
    |zero=>exact ⟨_,rfl⟩
    |succ j=>
     rw [List.getElem?_cons_succ] at h;exact absurd (mem_of_getElem? h) J
   ·rw [getElem?_append_right @b] at h;obtain ⟨R,e⟩:=IC J (q::r) (λz F=>hp z (.tail _ F)) _ h;rwa[⟨R,?_⟩];rw [List.drop_append,List.drop_eq_nil_of_le @b,nil_append];exact e
theorem lu (s sub:Str)(hi F:Nat)(O:∀i j,At s sub hi i->At s sub hi j->i<j->i+sub.length<=j):
 ∀(l:List Nat) (st:Array Nat×Nat),l.Pairwise (· < ·)->(∀i∈l,At s sub hi i->st.2<=i)->st.1.size+l.length<=F->
  (forIn l st (occBody s sub hi F)).run.fst.toList.length=st.1.size+(l.filter λi=>decide (i+sub.length<=hi)&&subAt s sub i).length
 |[],st,_,_,_=>by simp
 |a::l,st,hl,hf,hz=>by
  rw [forIn_cons];unfold occBody;have G:=List.pairwise_cons.mp hl;simp only [length_cons] at hz;split
  ·rename_i L;have R:At s sub hi a:=⟨L.1.2,L.2⟩;have h:=lu s sub hi F O l (st.fst.push a,a+sub.length) G.2 (λi J I=>O a i R I (G.1 i J)) (by simp;lia);rwa[Eq.trans h ?_];rw [filter_cons_of_pos (by rw [decide_eq_true L.1.2,L.2];rfl)];simp;lia
  ·rename_i L;have R: ¬At s sub hi a:=λz=>L ⟨⟨⟨by lia,hf a (.head _) z⟩,z.1⟩,z.2⟩;have h:=lu s sub hi F O l st G.2 (λi J I=>hf i (.tail _ J) I) @b;rwa[Eq.trans h ?_]
   rw [filter_cons_of_neg (by
    intro z;rw [Bool.and_eq_true,decide_eq_true_eq] at z
    exact R z)]
theorem xE (c:Nat):∀(L:List Nat) (n:Nat),L.length<=n->((List.range n).filter λi=>decide (L[i]? =some c)).length=L.count c:=by
 intro L
 induction L with
 |nil=>
  intro n _;rw [List.count_nil,length_eq_zero_iff,List.filter_eq_nil_iff];intro i _;simp
 |cons a L ih=>
  intro n F
  cases n with
  |zero=>simp at F
  |succ n=>
   have af:L.length<=n:=by simpa using F
   rw [range_succ_eq_map]
   have e:(List.map Nat.succ (List.range n)).filter (λi=>decide ((a::L)[i]? =some c))=((List.range n).filter λi=>decide (L[i]? =some c)).map Nat.succ:=by
    rw [List.filter_map];rfl
   rw [filter_cons,e];by_cases z:a=c
   ·subst z;simp [ih n af]
   ·rw [if_neg (by simp [z]),length_map,ih n af,List.count_cons_of_ne z]
theorem yx:∀ {l:List Nat},(∀z∈l,z=0)->l.sum=0
 |[],_=>rfl
 |a::l,h=>by rw [sum_cons,h a (.head _),yx λz j=>h z (.tail _ j)]
theorem Iy:∀ {l:List Nat} {z:Nat},z∈l->z<=l.sum
 |a::l,z,h=>by
  rw [sum_cons]
  rcases mem_cons.mp h with rfl|h
  ·lia
  ·have:=Iy h;lia
theorem AE {y:Str}{c:Nat}{ts:List Nat}(Y:y.cps.toList=c::ts)(S:c∉ts)(hk:Builtin.Str.strKind y=1){ps:List Str}(U:ps≠[])(hp:∀p∈ps,c∉p.cps.toList):Txt.split (Str.join y ps) y=ps:=by
 generalize W:Str.join y ps=x
 have O:x.cps.toList=jn (c::ts) @cK:=by rw [<-W,lB,Y]
 have L:∀p∈ps.map (λp=>p.cps.toList),c∉p:=λp aC=>by
  obtain ⟨q,hq,rfl⟩:=mem_map.mp aC;exact hp q hq
 have ad:y.length=(c::ts).length:=by rw [<-Y];simp [Str.length]
 have aj:x.length=x.cps.toList.length:=by simp [Str.length]
 have G:∀i,At x y x.length i↔x.cps.toList[i]? =some c:=λi=>by
  unfold At;rw [subAt_eq,Y,ad];constructor
  ·intro z;have z2:=eq_of_beq z.2
   have:((x.cps.toList.drop i).take (c::ts).length)[0]? =some c:=by rw [z2];rfl
   rw [getElem?_take_of_lt @e,getElem?_drop] at this;simpa using this
  ·intro z;rw [O] at z;obtain ⟨r,e⟩:=IC S _ L i z;rw [<-O] at e
   have hl:i+(c::ts).length<=x.length:=by
    have:=congrArg List.length e;rw [length_drop,length_append] at this
    have hi:i<x.cps.toList.length:=by
     rw [O];exact (List.getElem?_eq_some_iff.mp z).1
    lia
   rwa[⟨hl,?_⟩];rw [e,List.take_left];exact beq_self_eq_true _
 have ap:∀i j,At x y x.length i->At x y x.length j->i<j->i+y.length<=j:=λi j hi Z ah=>by
  rwa[Nat.le_of_not_lt λI=> ?_];have zi:=(G i).mp hi;have zj:=(G j).mp Z;rw [O] at zi;obtain ⟨r,e⟩:=IC S _ L i zi;rw [<-O] at e
  have e2:x.cps.toList[j]? =((c::ts)++r)[j - i]? :=by
   rw [<-e,getElem?_drop];congr 1;lia
  rw [e2,getElem?_append_left @b] at zj;obtain ⟨k,ae⟩:∃k,j - i=k+1:=⟨j - i - 1,by lia⟩;rw [ae,List.getElem?_cons_succ] at zj;exact S (mem_of_getElem? zj)
 have af:(occurrences x y 0 x.length (x.length+1)).length=x.cps.toList.count c:=by
  rw [occ_eq];rwa[(lu x y x.length (x.length+1) ap (List.range' 0 (x.length+1 - 0)) (#[],0) List.pairwise_lt_range' (λi _ _=>Nat.zero_le _) @e).trans ?_];rw [show (#[]:Array Nat).size=0 from rfl,Nat.zero_add,Nat.sub_zero,<-List.range_eq_range',<-xE c x.cps.toList (x.length+1) @b];congr 1;rwa[List.filter_congr λi _=> ?_];rwa[Bool.eq_iff_iff.mpr ?_];rw [Bool.and_eq_true,decide_eq_true_eq,decide_eq_true_eq];exact G i
 have F:=tD S @cK (by simpa using U)
 have ac:((ps.map λp=>p.cps.toList).map (·.count c)).sum=0:=by
  rw [map_map];rwa[yx λz hz=> ?_];obtain ⟨p,aC,rfl⟩:=mem_map.mp hz;exact List.count_eq_zero.mpr (hp p aC)
 rw [<-O,ac,length_map] at F
 have J:(Txt.split x y).length=ps.length:=by
  unfold Txt.split
  have k1: ¬Builtin.Str.strKind x<Builtin.Str.strKind y:=by
   rw [hk];unfold Builtin.Str.strKind;split
   ·lia
   ·split<;>lia
  rw [decide_eq_false k1,Bool.or_false];split
  ·rename_i I;have I:=of_decide_eq_true I;show 1=ps.length
   match ps,U,F,W with
   |[_],_,_,_=>rfl
   |a::b::r,_,F,W=>
    have e:x.length=a.length+y.length+(Str.join y (b::r)).length:=by
     rw [<-W];show (a++y++Str.join y (b::r)).length=_;rw [Str.length_append,Str.length_append]
    lia
  ·split
   ·rename_i he
    have:(occurrences x y 0 x.length (x.length+1)).length=0:=by rw [List.isEmpty_iff.mp he];rfl
    show 1=ps.length;lia
   ·rw [length_partsBetween,af];lia
 have Z:=join_split x y
 have R:Txt.split x y≠[]:=λz=>by
  rw [z] at J;exact U (length_eq_zero_iff.mp J.symm)
 have hQ:x.cps.toList=jn (c::ts) ((Txt.split x y).map λp=>p.cps.toList):=by rw [<-Y,<-lB,Z]
 have ag:=tD S ((Txt.split x y).map λp=>p.cps.toList) (by simpa using R);rw [<-hQ,length_map,J] at ag
 have ai:(((Txt.split x y).map λp=>p.cps.toList).map (·.count c)).sum=0:=by lia
 have aa:∀q∈(Txt.split x y).map (λp=>p.cps.toList),c∉q:=λq hq z=>by
  have h1:q.count c<=(((Txt.split x y).map λp=>p.cps.toList).map (·.count c)).sum:=Iy (mem_map_of_mem hq);have h2:=List.count_pos_iff.mpr z;lia
 have:=PR _ _ (by simpa using U) (by simpa using R) L aa (O.symm.trans hQ);rwa[(List.map_inj_right (f:=λp:Str=>p.cps.toList) λa b e=> ?_).mp this.symm];exact Str.ext' (Array.toList_inj.mp e)
structure FunD (K:Fg)(x qual:Str)(st:Stmt)(T f:Addr)(fd:FuncData):Prop where
 ex:∃(oc:Value) (od:Option Addr) (kV doc pm:Value) (an:Option Addr) (cdv ct:Value) (osl:Array @T),
  fd=W.fnOf x qual @fh @dN @cf (.ref T) kV doc pm an cdv ct/\K.lookup f=some ⟨oc,od,.func fd,osl⟩/\W.codeIn K cdv qual=true
structure CalD (P:Program)(w:World)(K:Fg)(mg:Str->Option Value)(base:Heap)(n:Nat)(x:Str)(ps:List Str)(dvs:List V)(sp:Sp):Prop where
 ex:∃f fd ds,ax P w K mg base @V n f fd ps sp/\fv K fd ps ds/\aO dvs ds/\W.keepIn K (.ref f)=true/\mg x=some (.ref f)
def nr (base:Heap)(mg:Str->Option Value):Prop:=∃bm o,mg "__builtins__"=some (.ref bm)/\bm≠builtinsNs/\bm≠mainGlobals/\base.get? bm=some o/\o.cls= .type "module"/\o.dict=some builtinsNs/\o.data= .plain
theorem Eu {P:Program}{w:World}{K:Frag}{mg mb:Str->Option Value}{CX:nz}{k:Nat}{fa a:Addr}{fd:FuncData}{x:Str}{sp:Sp}{j:Shared}{vs:List Value}{ns:List Int}{tabs:List (Addr×Addr)}
(Y:∀q∈tabs,CodeHd j.heap q.1 q.2/\j.heap.get? q.2=some (tabObj #[]))(an:noTabs K=true)(ak:nr j.heap mg)
(KX:K.In j.heap)(ag:j.heap.Ns mainGlobals mg)(O:j.heap.Ns builtinsNs mb)(aq:∀x:Str,x≠"__name__"->mb x=bootBuiltins x)(ah:j.heap.NoLimit)(hg:j.gens= #[])
(ha:j.heap.get? a=some {cls:= .type "list",data:= .seq vs.toArray})(hi:IntsAre vs ns)(hl:ns.length<=sizeLine)(hr:bY k callerA)
(F:∀base:Heap,K.In base->base.Ns mainGlobals mg->nr base mg->ax P w K mg base CX k fa fd [x] sp)(ac:∀(s:Shared) (u:Value),BindsTo s fd ⟨[u],[]⟩ [(x,u)])
(al:∀H:Hp,(∀q∈tabs,H q.2=some (.tbl #[]))->aD K H a @U->sp [.ref a] H (λv _=>v= .bl true) λ_ _ _=>False)
(ap:∀H e s',CX [] H j @eT e s'->False):
 codeAny @P callerA (.call (.ref fa) ⟨[.ref a],[]⟩) (λr s'=>r= .ok (.ret (.bool true))/\OldK j.heap s'.heap/\s'.os=j.os/\AllBare s'.gens) j:=by
 have rv:=nK hi;have ad:=hi.length
 have ta:∀q∈tabs,q.2≠a:=λq I z=>by have:=(Y q I).2;rw [z,ha] at this;cases this
 have aa:∀H:Hp,aD K H a @U->gi P w H j.heap->(∀q∈tabs,H q.2=some (.tbl #[]))->(∀b u,H b=some u->(∃q∈tabs,b=q.2)\/(b=a/\K.lookup a=none/\∃ob xs,u= .frz ob (.lst xs)))->
  codeAny @P callerA (.call (.ref fa) ⟨[.ref a],[]⟩) (λr s'=>r= .ok (.ret (.bool true))/\OldK j.heap s'.heap/\s'.os=j.os/\AllBare s'.gens) j:=by
  intro H hS aj ae hA;have G:∀ {b:Addr} {o:Obj},j.heap.get? b=some o->H b=none->(u4 j.heap H).get? b=some o:=λe n=>IH e n
  have ao:∀ {b:Addr} {o:Obj},j.heap.get? b=some o->o.cls≠ .none->o.cls≠ .type "list"->H b=none:=λ{b o} e d1 d2=>by
   cases q:H b with
   |none=>rfl
   |some u=>
    rcases hA b u q with ⟨t,R,rfl⟩|⟨rfl,_,_⟩
    ·rw [(Y t R).2] at e;cases e;exact absurd rfl d1
    ·rw [ha] at e;cases e;exact absurd rfl d2
  have am:∀ {b:Addr} {o:Obj} {es:Array DictEntry} {ep:Nat},j.heap.get? b=some o->o.data= .dict es ep->H b=none:=λ{b o es ep} e d=>by
   cases q:H b with
   |none=>rfl
   |some u=>
    rcases hA b u q with ⟨t,R,rfl⟩|⟨rfl,_,_⟩
    ·rw [(Y t R).2] at e;cases e;cases d
    ·rw [ha] at e;cases e;cases d
  have U:∀ {b:Addr} {m:Str->Option Value},j.heap.Ns b m->(u4 j.heap H).Ns b m:=λ{b m} ⟨o,es,ep,e,d,r⟩=>⟨o,es,ep,G e (am e d),d,r⟩
  have af:K.In @eU:=λb o e=>G (KX b o e) (by
   cases q:H b with
   |none=>rfl
   |some u=>
    rcases hA b u q with ⟨t,R,rfl⟩|⟨rfl,hk,_⟩
    ·have e2:=KX _ _ e;rw [(Y t R).2] at e2;have h2:=all_eq_true.mp an (t.2,o) (mem_of_lookupK e);cases e2;exact absurd (show false=true from h2) Bool.false_ne_true
    ·rw [hk] at e;cases e)
  have hM:Mod K mg @eU:=⟨af,U ag,⟨mb,U O,aq⟩,let ⟨mc,h1,h2⟩:=ah;⟨mc,U h1,h2⟩⟩;have hB:nr @eU mg:=let ⟨bm,o,h1,h2,h3,h4,h5,h6,h7⟩:=ak;⟨bm,o,h1,h2,h3,G h4 (ao h4 (by rw [h5];simp) (by rw [h5];simp)),h5,h6,h7⟩;have e0:lP P w K mg @eU callerA [] j H:=⟨rfl,hM,λb o e=>Lw e,Nat.le_of_eq (EC _ _),trivial,λb O=>absurd (show b∈([]:List Addr) from O) @e,aj,.of_eq hg⟩;rwa[codeAny_mono ((F _ af (U ag) hB).run callerA [] j H ⟨[.ref a],[]⟩ [.ref a] [.ref a] _ _ hr e0 (ac j (.ref a)) (.cons rfl .nil) (al H ae hS)) λr s' h=> ?_]
  cases r with
  |error e=>exact (ap H e s' h).elim
  |ok fl=>
   cases fl with
   |next=>exact False.elim h
   |brk=>exact False.elim h
   |cont=>exact False.elim h
   |ret u=>
    obtain ⟨v,H',os,ai,un,Z,r',q⟩:=h;have q':v= .bl true:=q;subst q';obtain rfl:u=Value.bool true:=r';rwa[⟨rfl,⟨λb o e=> ?_,λb o e=>un.there b o e @e⟩,os,ai⟩]
    cases q:H b with
    |none=>exact .inl (un.keep b o e q (by intro z;exact absurd (show b∈([]:List Addr) from z) @e) @e)
    |some u=>
     rcases hA b u q with ⟨t,R,rfl⟩|⟨rfl,hk,ob,xs,rfl⟩
     ·obtain ⟨W,e2⟩:=un.tbls _ _ (ae t R);have e3:s'.heap.get? t.2=some (tabObj (#[]++W)):=Z _ _ e2;have e4:=(Y t R).2;rw [e4] at e;cases e;exact .inr (.inl ⟨((Y t R).1.tab e4).isCodeTable,rfl,#[],W,rfl,e3⟩)
     ·have S:=un.frzs b ob _ q;obtain ⟨e1,_⟩:=aj b _ q;obtain ⟨e2,_⟩:=Z b _ S;rw [e] at e1;cases e1;exact .inl e2
 have ar:∀(H:Hp),(∀b u,H b=some u->u= .tbl #[]->∃q∈tabs,b=q.2)->∀b,H b=some (.tbl #[])->bh P w H j.heap b (.tbl #[]):=λH z b e=>by
  obtain ⟨q,I,rfl⟩:=z b _ e rfl;exact (Y q I).2
 cases hk:K.lookup a with
 |some o=>
  have e:=KX a o hk;rw [ha] at e;cases e;rwa[aa (λb=>if b∈tabs.map (·.2) then some (.tbl #[]) else none) (.inr ⟨_,vs.toArray,_,hk,rfl,rfl,rfl,by rw [size_toArray,ad];exact hl,by simpa using rv⟩) @dO (λq I=>if_pos (mem_map_of_mem I)) @dO]
  ·by_cases J:b∈tabs.map (·.2)
   ·have L:=(if_pos J).symm.trans z;cases L;obtain ⟨q,I,rfl⟩:=mem_map.mp J;exact (Y q I).2
   ·have L:=(if_neg J).symm.trans z;cases L
  ·by_cases J:b∈tabs.map (·.2)
   ·obtain ⟨q,I,rfl⟩:=mem_map.mp J;exact .inl ⟨q,I,rfl⟩
   ·have L:=(if_neg J).symm.trans z;cases L
 |none=>
  have na:a∉tabs.map (·.2):=λz=>by obtain ⟨q,I,e⟩:=mem_map.mp z;exact ta q I e
  rwa[aa (λb=>if b∈tabs.map (·.2) then some (.tbl #[]) else if b=a then some (.frz {cls:= .type "list",data:= .seq vs.toArray} (.lst @U)) else none) (.inl (.inr ⟨{cls:= .type "list",data:= .seq vs.toArray},(if_neg na).trans (if_pos rfl)⟩)) @dO (λq I=>if_pos (mem_map_of_mem I)) @dO]
  ·by_cases J:b∈tabs.map (·.2)
   ·have L:=(if_pos J).symm.trans z;cases L;obtain ⟨q,I,rfl⟩:=mem_map.mp J;exact (Y q I).2
   ·have L:=(if_neg J).symm.trans z;by_cases O:b=a
    ·have S:=(if_pos O).symm.trans L;cases S;subst O;exact ⟨ha,by rw [length_map];exact hl,vs,_,rv,ha⟩
    ·have S:=(if_neg O).symm.trans L;cases S
  ·by_cases J:b∈tabs.map (·.2)
   ·obtain ⟨q,I,rfl⟩:=mem_map.mp J;exact .inl ⟨q,I,rfl⟩
   ·have L:=(if_neg J).symm.trans z;by_cases O:b=a
    ·have S:=(if_pos O).symm.trans L;cases S;exact .inr ⟨O,hk,_,_,rfl⟩
    ·have S:=(if_neg O).symm.trans L;cases S
theorem Fv {l:OpenLaw}{n k:Nat}{q:Program}{I:List Str}{XP:(Str->Option Value)->Heap->Prop}{YP:World->Heap->Prop}{d:DefRec}{K:Params->Frag}{CX:World->nz}{sp:World->Sp}{x:Str}{tabs:World->List (Addr×Addr)}
(hn:l.most=some n)(S:n<=sizeLine)(aa:d.params.defaults=[])(hr:bY k callerA)
(hY:∀(w:World) (h:Heap),YP w h->(K w.params).In h/\∀t∈tabs w,h.get? t.2=some (tabObj #[]))(an:∀w:World,noTabs @bR=true)(U:∀w:World,∀t∈tabs w,codeHdIn @bR t.1 t.2=true)
(F:∀(w:World) (mg:Str->Option Value) (fa:Addr) (h:Heap),(K w.params).In h->h.Ns mainGlobals mg->mg d.name=some (.ref fa)->
   ∃fd:FuncData,(∀(s:Shared) (u:Value),BindsTo s fd ⟨[u],[]⟩ [(x,u)])/\
    ∀base:Heap,(K w.params).In base->base.Ns mainGlobals mg->nr base mg->ax l.prog w @bR mg base (CX w) k fa fd [x] (sp w))
(R:∀(w:World) (H:Hp) (a:Addr) (ns:List Int),ns.length<=n->(∀i∈ns,Builtin.Int.intBits i<=2^20)->(∀t∈tabs w,H t.2=some (.tbl #[]))->aD @bR H a @U->sp w [.ref a] H (λv _=>v= .bl true) λ_ _ _=>False)
(ap:∀(w:World) (H:Hp) (s:Shared) (e:Value) (s':Shared),CX w [] H s @eT e s'->False):
 WalkO q I XP YP l.row.toRowW d [] @dc:=by
 rwa[xL hn aa λw s₀ s₁ mg mb fa o pm cd ad a vs ns G Y ho hd ac W O J j L hg=> ?_];obtain ⟨KX,hT⟩:=hY w _ Y;obtain ⟨fd,hb,hF⟩:=F w mg fa _ KX G.T.g W
 have ak:nr s₁.heap mg:=by
  obtain ⟨bm,ob,h1,h2,Z,h4,h5,h6⟩:=G.T.bmain;rwa[⟨bm,ob,h1,h2,λz=> ?_,Z,h4,h5,h6⟩];obtain ⟨o',es,ep,e',d',_⟩:=G.T.g;rw [z,e'] at Z;cases Z;rw [d'] at h6;cases h6
 exact Eu (tabs:=tabs w) (λt ht=>⟨codeHd_of_K KX (U w t ht),hT t ht⟩) (an w) ak KX G.T.g G.T.b G.T.builtins G.T.nolimit hg O J (Nat.le_trans j S) hr hF hb (λH ae hS=>R w H a ns j L ae hS) λH e s'=>ap w H s₁ e s'
noncomputable def vb (c:Addr)(q:Str):HO:= .ext λh=>h.CodeRec (.ref c) q
noncomputable def u7 (a:Addr)(o:Obj):HO:= .ext λh=>h.get? a=some o
noncomputable def Cg (c:Addr)(v:V):HO:= .ext λh=>∃u,aL v u/\h.IsCell c @ei
section
variable {P:Program}{w:World}{H:Hp}{h:Heap}
theorem Mj {c:Addr}{q:Str}(e:h.CodeRec (.ref c) q):bh P w H h c (vb c q):=by
 obtain ⟨Z,R,vs,Y,I,ad,hd,O⟩:=id e;cases I
 exact ⟨e,⟨R,ad⟩,λh1 h2 z k=>by
  obtain ⟨W,U,F,J,L,S,G,j⟩:=z;cases L
  exact ⟨_,U,F,J,rfl,k _ S,G,j⟩⟩
theorem CI {a:Addr}{o:Obj}(e:h.get? a=some o):bh P w H h a (u7 a o):=⟨e,⟨o,e⟩,λh1 h2 z k=>k _ z⟩
theorem Ml {c:Addr}{v:V}{u:Value}(r:aL v u)(e:h.IsCell c @ei):bh P w H h c (Cg c v):=by
 obtain ⟨o,J,j⟩:=id e
 exact ⟨⟨u,r,e⟩,⟨o,J⟩,λh1 h2 z k=>by
  obtain ⟨G,R,o',L,S⟩:=z
  exact ⟨G,R,o',k _ L,S⟩⟩
end
def c7 (H:Hp)(P:Addr)(q:Str):Prop:=∃ps,H P=some (.tbl ps)/\TriplesOk ps.toList/\∀pos cv,codeAmong pos ps.toList=some cv->∃c',cv= .ref c'/\H c'=some @gx
def fN (P:Addr)(H H':Hp):Prop:=∀b o,b≠P->H b=some o->H' b=some o
def aJ (H H':Hp):Prop:=∀b o,(∀ps,o≠ .tbl ps)->H b=some o->H' b=some o
theorem aJ.refl (H:Hp):aJ H H:=λ_ _ _ e=>e
theorem aJ.trans {H H1 H2:Hp}(a:aJ H H1)(b:aJ H1 H2):aJ H H2:=λc o n e=>b c o n (a c o n e)
theorem aq.nt {H H':Hp}(s:aq H H'):aJ H H':=λb o _ e=>s b o e
theorem fN.nt {P:Addr}{H H':Hp}{ps:Array Value}(s:fN P H H')(L:H P=some (.tbl ps)):aJ H H':=λb o n e=>s b o (λz=>by rw [z,L] at e;cases e;exact n _ rfl) e
theorem c7.same {H H':Hp}{P:Addr}{q:Str}(t:c7 H P q)(s:aq H H'):c7 H' P q:=
 let ⟨ps,h1,h2,h3⟩:=t;⟨ps,s _ _ h1,h2,λpos z e=>let ⟨c',a,b⟩:=h3 pos z e;⟨c',a,s _ _ b⟩⟩
theorem lX {a b:Int}{t u:Tok}{c:Value}:∀ {l:List Value},TriplesOk l->TriplesOk (l++[.int a t,.int b u,c])
 |[],_=>trivial
 | .int _ _:: .int _ _::_::r,h=>lX (l:=r) h
theorem uz {a b:Int}{t u:Tok}{c:Value}{pos:Pos}{j:Value}:∀ {l:List Value},TriplesOk l->codeAmong pos (l++[.int a t,.int b u,c])=some j->codeAmong pos l=some j\/j=c
 |[],_,h=>by
  simp only [nil_append,codeAmong] at h;split at h
  ·cases h;exact .inr rfl
  ·cases h
 | .int x _:: .int y _::z::r,ok,h=>by
   have h:(if x==pos.line&&y==pos.col then some z else codeAmong pos (r++[.int a t,.int b u,c]))=some j:=h;show (if x==pos.line&&y==pos.col then some z else codeAmong pos r)=some j\/_;by_cases L:(x==pos.line&&y==pos.col)=true
   ·rw [if_pos L] at h ⊢;exact .inl h
   ·rw [if_neg L] at h ⊢;exact uz (l:=r) ok h
def Um (P:Addr)(q:Str)(mk:Addr->Value->Obj):TE:=λσ H Q=>c7 H P q/\∀f c' ctv H',fN P H H'->H f=none->H' f=some (u7 f (mk c' ctv))->H' c'=some @gx->c7 H' P q->Q (.ref f) H'
theorem OS {X:Cx}{c P:Addr}{j:Arguments}{R:Expr}{scope:Scope}{clos:List (Str×Addr)}{pos:Pos}(O:X.env.code= .ref c)(C:CodeHd X.base c P)(hB:nr X.base X.mg)(ae:defaultsOf j X.env=([],[]))(ac:closureFor scope X.env=pure clos):
 PE X (.Lambda j R scope pos) (Um P (X.env.qual++"<lambda>") λc' ctv=>kla_obj "<lambda>" (X.env.qual++"<lambda>") j R scope clos ((X.mg "__name__").getD .none) c' ctv):=by
 intro pins s σ H Q I ⟨T,h⟩;rwa[kla_eval ae ?_];obtain ⟨ps,L,ht,hc⟩:=id T;have ad:s.heap.get? P=some (tabObj ps):=I.hok P _ L;have C':=C.keeps I.bk;have hg:s.heap.Ns mainGlobals X.mg:=I.ok.mod.glob.keeps I.bk
 have nb:∀ {b:Addr} {o:Obj},X.base.get? b=some o->b≠P:=λ{b o} e z=>by have:=(I.bs b o e).2;rw [z,L] at this;cases this
 have am:mainGlobals≠P:=by
  obtain ⟨o,es,ep,e,_⟩:=I.ok.mod.glob;exact nb e
 have hb:s.heap.BuiltinsAt X.mg P:=by
  obtain ⟨bm,o,h1,h2,h3,h4,h5,h6,h7⟩:=hB;exact ⟨bm,o,h1,h2,h3,nb h4,I.bk _ _ h4,h5,h6,h7⟩
 cases hm:codeAmong pos ps.toList with
 |none=>
  rwa[kla_makeFunction ac I.ok.glob hg O C' ad ht hm am hb λc' ctv h' tk hx G aa ah W=> ?_];generalize Y:kla_obj "<lambda>" (X.env.qual++"<lambda>") j R scope clos ((X.mg "__name__").getD .none) c' ctv=F;generalize Z:ps++ #[rawInt pos.line,rawInt pos.col,.ref c']=S at W;have J:s.heap.objs.size<=h'.objs.size:=Nat.le_trans G (Nat.le_of_lt aa);have lt:∀ {b:Addr} {u:HO},H b=some u->b<s.heap.objs.size:=λe=>I.hok.lt e;have ak:c'≠P:=Nat.ne_of_gt (Nat.lt_of_lt_of_le (lt L) G);have aj:h'.objs.size≠P:=Nat.ne_of_gt (Nat.lt_of_lt_of_le (lt L) J);have ai:h'.objs.size≠c':=Nat.ne_of_gt aa;have ao:H c'=none:=I.hok.fresh G;have U:H h'.objs.size=none:=I.hok.fresh J
  let H':Hp:=upd (upd (upd H P (.tbl S)) c' (vb c' (X.env.qual++"<lambda>"))) h'.objs.size (u7 h'.objs.size F)
  have ne:∀ {b:Addr} {u:HO},b≠P->H b=some u->H' b=some u:=λ{b u} nP e=>by
   have l:=lt e;show upd @bI h'.objs.size _ b=_;rw [ag (Nat.ne_of_lt (Nat.lt_of_lt_of_le l J)),ag (Nat.ne_of_lt (Nat.lt_of_lt_of_le l G)),ag nP];exact e
  have eP:H' P=some (.tbl S):=by
   show upd @bI h'.objs.size _ P=_;rw [ag aj.symm,ag ak.symm];exact af
  have ec:H' c'=some (vb c' (X.env.qual++"<lambda>")):=by
   show upd @bI h'.objs.size _ c'=_;rw [ag ai.symm];exact af
  have ef:H' h'.objs.size=some (u7 h'.objs.size F):=af;have kp:∀b o,b≠P->s.heap.get? b=some o->(h'.push F).get? b=some o:=λb o nP e=>Heap.get?_push_of_some _ (hx b o nP e);have tP:(h'.push F).get? P=some (tabObj S):=Heap.get?_push_of_some _ W
  have nP:∀ {b:Addr},H b=none->b≠P:=λ{b} n z=>by rw [z,L] at n;cases n
  have un:Un X.fs [] H H' s.heap (h'.push F):=by
   rwa[⟨λb o e n _ _=>kp b o (nP n) e,λb o e n _ _=>⟨o.slots,kp b o (nP n) e⟩,λb o e n _=> ?_,λb o e _=> ?_,λb xs e=>ne (λz=>by rw [z,L] at e;cases e) e,λb o u e=>ne (λz=>by rw [z,L] at e;cases e) e,λb qs e=> ?_⟩]
   ·have l:=Heap.lt_size e;show upd @bI h'.objs.size _ b=_;rw [ag (Nat.ne_of_lt (Nat.lt_of_lt_of_le l J)),ag (Nat.ne_of_lt (Nat.lt_of_lt_of_le l G)),ag (nP n)];exact n
   ·by_cases z:b=P
    ·exact ⟨_,by rw [z];exact tP⟩
    ·exact ⟨o,kp b o z e⟩
   ·by_cases z:b=P
    ·rw [z,L] at e;cases e;exact ⟨#[rawInt pos.line,rawInt pos.col,.ref c'],by rw [z,eP,<-Z]⟩
    ·exact ⟨#[],by rw [ne z e];simp⟩
  have an:gi X.prog X.w H' (h'.push F):=by
   intro b u e;by_cases z1:b=h'.objs.size
   ·rw [z1,ef] at e;cases e;rw [z1];exact CI (Heap.get?_push_size _ (by rw [<-Y];rfl))
   by_cases z2:b=c'
   ·rw [z2,ec] at e;cases e;rw [z2];exact Mj (ah.keeps λb o e=>Heap.get?_push_of_some _ e)
   by_cases z3:b=P
   ·rw [z3,eP] at e;cases e;rw [z3];exact tP
   ·have e':H b=some u:=by
     have e:upd @bI h'.objs.size _ b=some u:=e;rw [ag z1,ag z2,ag z3] at e;exact e
    rwa[(I.hok b u e').stay (λd v hd r=> ?_) (λd r=>ne (λz=>by rw [z,L] at r;cases r) r) λd xs r=>ne (λz=>by rw [z,L] at r;cases r) r];rwa[kp d v @k r]
    rcases hd with hd|hd
    ·exact z3 (hd.symm.trans z)
    ·rw [z,L] at hd;cases hd
  rwa[⟨.ref h'.objs.size,H',I.un (t':=tk) un an,rfl,h _ c' ctv H' (λb o n e=>ne n e) U (by rw [<-Y] at ef;exact ef) ec ⟨S,eP,?_,λpos' cv e=> ?_⟩⟩]
  ·rw [<-Z,Array.toList_append];exact lX ht
  ·rw [<-Z,Array.toList_append] at e
   rcases uz ht e with z|z
   ·obtain ⟨d,e1,e2⟩:=hc pos' cv z;exact ⟨d,e1,ne (λy=>by rw [y,L] at e2;cases e2) e2⟩
   ·exact ⟨c',z,ec⟩
 |some cv=>
  obtain ⟨c',rfl,al⟩:=hc pos cv hm;rwa[kla_makeFunctionHit ac I.ok.glob hg O C' ad ht hm hb λctv h' tk hk J=> ?_];have k2:∀b o,s.heap.get? b=some o->(h'.push (kla_obj "<lambda>" (X.env.qual++"<lambda>") j R scope clos ((X.mg "__name__").getD .none) c' ctv)).get? b=some o:=λb o e=>Heap.get?_push_of_some _ (hk b o e);have U:H h'.objs.size=none:=I.hok.fresh J;have sm:aq H (upd H h'.objs.size (u7 h'.objs.size (kla_obj "<lambda>" (X.env.qual++"<lambda>") j R scope clos ((X.mg "__name__").getD .none) c' ctv))):= .upd U;exact ⟨.ref h'.objs.size,_,I.laid (t':=tk) k2 J (CI (Heap.get?_push_size _ rfl)),rfl,h _ c' ctv _ (λb o _ e=>sm b o e) U af (sm _ _ al) (T.same sm)⟩
structure uC (ps fs:List Str)(sc:Scope):Prop where
 kind:sc.kind= .function
 co:sc.isCoroutine=false
 gen:sc.isGenerator=false
 nd:(ps++fs).Nodup
 par:∀x∈ps,sc.names.lookup x=some .local
 fre:∀x∈fs,sc.names.lookup x=some .free
 nocell:∀x∈sc.names,x.2≠ .cell
 only:∀y∈sc.names,y.2= .free->y.1∈fs
noncomputable def To (P:Program)(w:World)(K:Frag)(mg:Str->Option Value)(base:Heap)(N:List Str)(qual:Str)(scope:Scope)(f:Addr)(cd:Value)(cl:List (Str×Addr))(A:Around)(outer:List Env)(s:Shared)(H:Hp):Cx where
 prog:=P
 w:=w
 K:=K
 mg:=mg
 base:=base
 A:=A.deeper (envX qual scope s.heap.objs.size f cd cl)
 N:=N
 s₀:=s
 H₀:=H
 env:=envX qual scope s.heap.objs.size f cd cl
 outer:=outer
 stack:=envX qual scope s.heap.objs.size f cd cl::outer
 ex:=[]
 calm:=true
 fn:=λ_=>false
 pn:=[]
 xe:=λ_ _=>False
theorem BK {ps:List Str}{us:List Value}{i:Nat}{x:Str}{u:Value}(Z:ps.Nodup)(h1:ps[i]? =some x)(h2:us[i]? =some u):(ps.zip us).reverse.lookup x=some u:=by
 have J:(ps.zip us)[i]? =some (x,u):=by rw [getElem?_zip_eq_some];exact ⟨h1,h2⟩
 have G:(x,u)∈(ps.zip us).reverse:=mem_reverse.mpr (mem_of_getElem? J)
 have z:∀v,(x,v)∈(ps.zip us).reverse->v=u:=λv U=>by
  obtain ⟨j,R⟩:=mem_iff_getElem?.mp (mem_reverse.mp U);obtain ⟨I,F⟩:=getElem?_zip_eq_some.mp R;have:j=i:=mI Z I h1;subst this;rw [h2] at F;exact (Option.some.inj F).symm
 cases e:(ps.zip us).reverse.lookup x with
 |none=>
  have:=lookup_eq_none_iff.mp e (x,u) G;simp at this
 |some v=>rw [z v (PySem.mem_of_lookup e)]
theorem LH {P:Program}{w:World}{K:Frag}{mg:Str->Option Value}{base:Heap}{k:Nat}{f c':Addr}{name qual:Str}{F:Arguments}{R:Expr}{scope:Scope}{Y:List (Str×Addr)}{pm ctv:Value}{ps fs:List Str}{A:Around}{outer:List Env}{s:Shared}{H:Hp}{us:List Value}{vs fvs:List V}{Q:VK}{E:XK}
(S:uC ps fs scope)(hf:s.heap.get? f=some (kla_obj name qual F R scope Y pm c' ctv))(aj:s.heap.CodeRec (.ref c') qual)(hr:bY (k+1) A)(O:lP P w K mg base A outer s H)
(ac:bindArgs (kla_fn name qual F R scope Y pm (.ref c') ctv) ⟨us,[]⟩=pure @ce)(r:aO vs us)(hl:vs.length=ps.length)(al:fvs.length=fs.length)
(j:∀(i:Nat) x v,fs[i]? =some x->fvs[i]? =some v->∃c u,Y.lookup x=some c/\aL v u/\s.heap.IsCell c @ei)(ag:∀x c,Y.lookup x=some c->x∈fs)
(ae:∀x y c,Y.lookup x=some c->Y.lookup y=some c->x=y)(aa:∀x c,Y.lookup x=some c->H c=none)
(ad:bY k (A.deeper @br)->∃t,PE (To P w K mg base (ps++fs) qual scope f (.ref c') Y A outer s H) R t/\t ((vs++fvs).map some) H Q):
 codeAny @P A (.call (.ref f) ⟨us,[]⟩) @dx s:=by
 have ul:us.length=ps.length:=by rw [<-r.length,hl]
 rwa[kla_callFunE hr.depth hf rfl S.co S.gen rfl aj ?_];rw [ac];have ah:s.heap.NoLimit:=O.mod.nolimit.keeps λb o e=>(O.bs b o e).1;rwa[wpAny_pure (wpAny_newFunctionEnv S.nocell (λy U=>S.par _ (of_mem_zip U).1) (λh₁ ak af=>⟨ah.fresh _ af,?_⟩) S.kind)];show codeAny _ _ (.expr R @br) _ _;have hk:∀b o,s.heap.get? b=some o->h₁.get? b=some o:=λb o e=>af.extBut b o @fc (Heap.get?_push_of_some _ e);obtain ⟨t,ht,hq⟩:=ad @gj
 have L:∀x c,Y.lookup x=some c->∃u,s.heap.IsCell c @ei:=λx c e=>by
  obtain ⟨i,hi⟩:=mem_iff_getElem?.mp (ag x c e);have ai:i<fs.length:=(List.getElem?_eq_some_iff.mp hi).1;obtain ⟨c2,u,e2,_,hc⟩:=j i x _ hi (getElem?_eq_getElem @b);rw [e] at e2;cases e2;exact ⟨u,hc⟩
 have G:∀ {c:Addr} {v:Option Value},s.heap.IsCell c v->h₁.IsCell c v:=λ{c v} ⟨o,ho,hd⟩=>⟨o,hk _ _ ho,hd⟩;have W:∀x,scope.names.lookup x=some .free->x∈fs:=λx e=>S.only _ (PySem.mem_of_lookup e) rfl
 have I:ay (To P w K mg base (ps++fs) qual scope f (.ref c') Y A outer s H) [] ((vs++fvs).map some) H {s with heap:=h₁,toks:=s.toks+(ps.zip us).length}:=by
  have Z:∀b:Addr,b∉(To P w K mg base (ps++fs) qual scope f (.ref c') Y A outer s H).ex:=λb z=>absurd (show b∈([]:List Addr) from z) @e
  refine ⟨⟨O.mod,S.kind,rfl,rfl,Nat.le_refl _,ae,λy U=> ?_,λy c z _=>(nomatch (show false=true from z)),λ_=>hr.hd,Around.frames_deeper O.frames,.inr ⟨rfl,rfl⟩,λb z=>absurd z (Z b),O.bs,O.bsz,λb _ _=>Z b,λb z=>absurd z (Z b),O.funs,O.frf⟩,
   rfl,O.bare,Un.kept hk,⟨_,ak,λi y v h1 h2 h3=> ?_⟩,λy c h=> ?_,O.hok.fresh @f,aa,λp hp=>absurd (show p∈([]:List (Addr×Obj)) from hp) @e,O.hok.kept hk,?_⟩
  ·have U:scope.names.lookup y=some .cell\/scope.names.lookup y=some .free:=U
   rcases U with U|U
   ·exact absurd rfl (S.nocell _ (PySem.mem_of_lookup U))
   ·obtain ⟨i,hi⟩:=mem_iff_getElem?.mp (W y U);have ai:i<fs.length:=(List.getElem?_eq_some_iff.mp hi).1;obtain ⟨c2,u,e2,_⟩:=j i y _ hi (getElem?_eq_getElem @b);exact ⟨c2,e2⟩
  ·have h1:(ps++fs)[i]? =some y:=h1;rw [getElem?_map] at h2;obtain ⟨v',hv,e⟩:=Option.map_eq_some_iff.mp h2;cases e;by_cases hi:i<ps.length
   ·rw [getElem?_append_left hi] at h1;rw [getElem?_append_left @b] at hv;obtain ⟨u,hu,rv⟩:=r.get hv;rwa[⟨u,rv,.inl ⟨S.par y (mem_of_getElem? h1),?_⟩⟩];exact BK (nodup_append.mp S.nd).1 h1 hu
   ·rw [getElem?_append_right @b] at h1;rw [getElem?_append_right @b,hl] at hv;obtain ⟨c,u,e2,rv,hc⟩:=j _ y _ h1 hv;exact ⟨u,rv,.inr ⟨.inr (S.fre y (mem_of_getElem? h1)),c,e2,G hc⟩⟩
  ·obtain ⟨u,hc⟩:=L y c h;exact ⟨_,G hc⟩
  ·show _=(ps++fs).length;rw [length_map,length_append,length_append];lia
 rwa[kla_codeExpr (wpAny_mono (ht [] _ _ H Q I hq) (λu s' hs=> ?_) λe s' hs=>False.elim hs)];obtain ⟨v,H',J,rv,q⟩:=hs;exact ⟨v,H',J.os,J.bare,J.base,J.hok,rv,q⟩
noncomputable def hid (cs:List Addr)(H:Hp):Hp:=λb=>if b∈cs then none else H b
noncomputable def unhid (cs:List Addr)(H H2:Hp):Hp:=λb=>if b∈cs then H b else H2 b
theorem lP.hid {P:Program}{w:World}{K:Frag}{mg:Str->Option Value}{base:Heap}{A:Around}{outer:List Env}{s:Shared}{H:Hp}{cs:List Addr}(e:lP P w K mg base A outer s H)(J:∀c∈cs,∃φ,H c=some (.ext φ)):lP P w K mg base A outer s @ge:=by
 have F:∀ {b:Addr},H b=none->L2.hid cs H b=none:=λ{b} n=>by unfold L2.hid;split<;>first|rfl|exact n
 have j:∀ {b:Addr} {o:HO},H b=some o->(∀φ,o≠ .ext φ)->L2.hid cs H b=some o:=λ{b o} q n=>by
  unfold L2.hid;rw [if_neg λz=>by obtain ⟨φ,e⟩:=J b z;rw [q] at e;exact n φ (Option.some.inj e)];exact q
 rwa[⟨e.frames,e.mod,λb o z=>⟨(e.bs b o z).1,F (e.bs b o z).2⟩,e.bsz,e.funs,λb G=>F (e.frf b G),λb o z=> ?_,e.bare⟩]
 have I:H b=some o:=by
  unfold L2.hid at z;split at z
  ·cases z
  ·exact z
 exact (e.hok b o I).stay @cI (λd q=>j q λφ z=>by cases z) λd xs q=>j q λφ z=>by cases z
theorem CE.unhid {P:Program}{w:World}{K:Frag}{mg:Str->Option Value}{base:Heap}{A:Around}{outer:List Env}{s s':Shared}{H:Hp}{cs:List Addr}{Q:VK}{u:Value}(e:lP P w K mg base A outer s H)(S:∀c∈cs,∃φ,H c=some (.ext φ))
(h:CE outer P w @ge s (λv H2=>(∀c∈cs,H2 c=none)->Q v @dd) u s'):CE outer P w H s Q u s':=by
 obtain ⟨v,H2,os,U,J,af,r,q⟩:=h
 have F:∀ {b:Addr},H b=none->L2.hid cs H b=none:=λ{b} n=>by unfold L2.hid;split<;>first|rfl|exact n
 have j:∀ {b:Addr} {o:HO},H b=some o->(∀φ,o≠ .ext φ)->b∉cs/\L2.hid cs H b=some o:=λ{b o} q n=>by
  have nb:b∉cs:=λz=>by obtain ⟨φ,e⟩:=S b z;rw [q] at e;exact n φ (Option.some.inj e)
  exact ⟨nb,by unfold L2.hid;rw [if_neg nb];exact q⟩
 have L:∀ {c:Addr},c∈cs->L2.hid cs H c=none:=λ{c} z=>by unfold L2.hid;rw [if_pos z]
 have Y:∀ {c:Addr},c∈cs->L2.unhid cs H H2 c=H c:=λ{c} z=>by unfold L2.unhid;rw [if_pos z]
 have G:∀ {b:Addr},b∉cs->L2.unhid cs H H2 b=H2 b:=λ{b} z=>by unfold L2.unhid;rw [if_neg z]
 have I:∀ {c:Addr},c∈cs->H2 c=none:=λ{c} z=>by
  obtain ⟨φ,e1⟩:=S c z;obtain ⟨_,⟨o,W⟩,_⟩:=e.hok c _ e1;exact J.free c o W (L z) @e
 have nC:∀ {b:Addr},H b=none->b∉cs:=λ{b} n z=>by obtain ⟨φ,e1⟩:=S b z;rw [n] at e1;cases e1
 rwa[⟨v,L2.unhid cs H H2,os,U,⟨λb o q n O R=>J.keep b o q (F n) O R,λb o q n O R=>J.slot b o q (F n) O R,λb o q n R=>by rw [G (nC n)];exact J.free b o q (F n) R,λb o q R=>J.there b o q R,λb xs q=> ?_,λb o xs q=> ?_,λb xs q=> ?_⟩,λb o z=> ?_,r,q λc S=>I S⟩]
 ·obtain ⟨n,z⟩:=j q λφ z=>by cases z
  rw [G n];exact J.tups b xs z
 ·obtain ⟨n,z⟩:=j q λφ z=>by cases z
  rw [G n];exact J.frzs b o xs z
 ·obtain ⟨n,z⟩:=j q λφ z=>by cases z
  rw [G n];exact J.tbls b xs z
 ·by_cases O:b∈cs
  ·rw [Y O] at z;obtain ⟨φ,e1⟩:=S b O;rw [z] at e1;cases e1;obtain ⟨h1,⟨o1,W⟩,st⟩:=e.hok b _ z
   have nf:b∉xx outer:=λy=>by have:=e.frf b y;rw [z] at this;cases this
   have k1:=J.keep b o1 W (L O) nf @e;exact ⟨st _ _ h1 (λo q=>by rw [W] at q;cases q;exact k1),⟨o1,k1⟩,st⟩
  ·rw [G O] at z;rwa[(af b o z).stay @cI (λd y=> ?_) λd xs y=> ?_]
   ·rw [G λZ=>by rw [I Z] at y;cases y];exact y
   ·rw [G λZ=>by rw [I Z] at y;cases y];exact y
structure uE (P:Program)(w:World)(K:Frag)(mg:Str->Option Value)(base:Heap)(n:Nat)(f:Addr)(sp:Sp):Prop where
 run:∀(A:Around) (outer:List Env) (s:Shared) (H:Hp) (us:List Value) (vs:List V) (Q:VK) (E:XK),bY n A->lP P w K mg base A outer s H->aO vs us->sp vs H Q E->codeAny @P A (.call (.ref f) ⟨us,[]⟩) @dx s
 keep:∀(vs:List V) (H:Hp) (Q:VK) (E:XK) (h:Heap),sp vs H Q E->gi P w H h->K.In h->∃k,(k=Keeper.frame\/k=Keeper.machine\/k=Keeper.boundFrame)/\Looks @P h @et k
section
variable {X:Cx}{x:Str}{p pos:Pos}{e:Expr}{es:List Expr}{t:TA}{n m:Nat}
def N8 (P:Program)(w:World)(K:Frag)(mg:Str->Option Value)(base:Heap)(m:Nat)(i:Nat)(t:TA):TE:=λσ H Q=>∃f n sp,σ[i]? =some @J/\n<=m/\uE P w K mg base n f sp/\t σ H λvs H1=>sp vs H1 Q E0
theorem G9 (i:Nat)(hr:bY m X.A)(hN:X.N[i]? =some x)(Y:SW X.env.scope x)(ha:PA X (e::es) t)(U:(x==("__debug__":Str))=false:=by decide)(J:(x==("__classdict__":Str))=false:=by decide)
(Z:aG (e::es)=true:=by rfl):PE X (.Call (.Name x p) (e::es) [] pos) (N8 X.prog X.w X.K X.mg X.base m i t):=by
 have h':(bu e&&aG es)=true:=Z;rw [Bool.and_eq_true] at h';intro pins s σ H Q I h;obtain ⟨f,n,sp,hσ,hn,C,h⟩:=h;rwa[wpAny_Call_Name_kw (bz (G5 (X:=X) hN Y U J pins s σ H (λv H1=>v= .ref f/\H1=H) I ⟨.ref f,hσ,rfl,rfl⟩) λu W ⟨v,H0,I0,S,ev,eH⟩=> ?_)];subst ev;subst eH;have S:u=Value.ref f:=S;subst S;have he:=aP (env:=X.env) (es:=es) h'.1;have R:(backTo pos @w).any (·.1)=false:=br h'.2
 have j:wpAny @d X.A (spliced (backTo pos (starEach (e::es) X.env))) (λO L=>(∃k,(k=Keeper.frame\/k=Keeper.machine\/k=Keeper.boundFrame)/\Looks @d L.heap @et k)/\wpAny @d X.A (call (.ref f) ([]++O)) @u X.xe L) X.xe W:=by
  rwa[bz (ha pos pins W σ H0 _ I0 h) λO L ⟨vs,H1,F,r,q⟩=>⟨C.keep _ _ _ _ _ q F.hok F.kIn,?_⟩];rwa[wpAny_call (codeAny_mono (C.run X.A X.stack L H1 O vs Q E0 (hr.mono hn) F.env0 r q) λr s' G=> ?_)]
  cases r with
  |error e=>exact False.elim G
  |ok fl=>
   cases fl with
   |ret u=>exact F.after G
   |next=>exact False.elim G
   |brk=>exact False.elim G
   |cont=>exact False.elim G
 rw [he] at j ⊢;exact callWith_of (P:=λh=>∃k,(k=Keeper.frame\/k=Keeper.machine\/k=Keeper.boundFrame)/\Looks @d h @et k) (by show ((false||(backTo pos @w).any (·.1))||false)=false;rw [R];rfl) (λh z=>z) (evalArgs_plain j)
end
theorem xk {cs:List Addr}{H:Hp}(J:∀c∈cs,∃φ,H c=some (.ext φ)){b:Addr}{o:HO}(n:∀φ,o≠ .ext φ)(e:H b=some o):hid cs H b=some o:=by
 unfold hid;rw [if_neg λz=>by obtain ⟨φ,e1⟩:=J b z;rw [e] at e1;exact n φ (Option.some.inj e1)];exact e
theorem Ay {cs:List Addr}{H H2:Hp}(s:aq @ge H2):aq H @dd:=λb o e=>by
 unfold unhid;by_cases z:b∈cs
 ·rw [if_pos z];exact e
 ·rw [if_neg z];rwa[s b o ?_];unfold hid;rw [if_neg z];exact e
def MV (P:Program)(w:World)(f c':Addr)(obj:Obj)(q:Str)(cl:List (Str×Addr))(fs:List Str)(fvs:List V)(m:Nat)(sp:List V->Hp->VK->Prop):Sp:=λvs H Q _=>H f=some (u7 f obj)/\H c'=some @gx/\(∀(i:Nat) x v,fs[i]? =some x->fvs[i]? =some v->∃c,cl.lookup x=some c/\H c=some (Cg c v))/\vs.length=m/\sp vs H Q
theorem LI {P:Program}{w:World}{K:Frag}{mg:Str->Option Value}{base:Heap}{k:Nat}{f c':Addr}{name qual:Str}{j:Arguments}{R:Expr}{scope:Scope}{Y:List (Str×Addr)}{pm ctv:Value}{ps fs:List Str}{fvs:List V}{sp:List V->Hp->VK->Prop}
(S:uC ps fs scope)(ac:∀us:List Value,us.length=ps.length->bindArgs (kla_fn name qual j R scope Y pm (.ref c') ctv) ⟨us,[]⟩=pure @ce)(af:fvs.length=fs.length)
(ag:∀x c,Y.lookup x=some c->x∈fs)(ae:∀x y c,Y.lookup x=some c->Y.lookup y=some c->x=y)
(I:∀(cs:List Addr) (vs:List V) (H:Hp) (Q:VK),(∀c∈cs,∃φ,H c=some (.ext φ))->sp vs H Q->sp vs @ge (λv H2=>(∀c∈cs,H2 c=none)->Q v @dd))
(J:∀(A:Around) (outer:List Env) (s:Shared) (H:Hp) (vs:List V) (Q:VK),bY k (A.deeper @br)->sp vs H Q->∃t,PE (To P w K mg base (ps++fs) qual scope f (.ref c') Y A outer s H) R t/\t ((vs++fvs).map some) H Q):
 uE P w K mg base (k+1) f (MV P w f c' @bK qual Y fs fvs ps.length sp):=by
 rwa[⟨λA outer s H us vs Q E hr W r ⟨hf,Z,U,hl,ad⟩=> ?_,λvs H Q E h ⟨hf,_⟩ aj _=> ?_⟩]
 ·have L:∀x c,Y.lookup x=some c->∃v,H c=some (Cg c v):=λx c e=>by
   obtain ⟨i,hi⟩:=mem_iff_getElem?.mp (ag x c e);have al:i<fs.length:=(List.getElem?_eq_some_iff.mp hi).1;obtain ⟨c2,e2,h2⟩:=U i x _ hi (getElem?_eq_getElem @b);rw [e] at e2;cases e2;exact ⟨_,h2⟩
  have ak:∀c∈Y.map (·.2),(∃x,Y.lookup x=some c)\/∀x,Y.lookup x≠some c:=λc _=>by
   by_cases z:∃x,Y.lookup x=some c
   ·exact .inl z
   ·exact .inr λx e=>z ⟨x,e⟩
  let cs:List Addr:=fs.filterMap λx=>Y.lookup x
  have F:∀c,c∈cs↔∃x,Y.lookup x=some c:=λc=>by
   constructor
   ·intro z;obtain ⟨x,_,e⟩:=mem_filterMap.mp z;exact ⟨x,e⟩
   ·rintro ⟨x,e⟩;exact mem_filterMap.mpr ⟨x,ag x c e,e⟩
  have G:∀c∈cs,∃φ,H c=some (.ext φ):=λc hc=>by
   obtain ⟨x,e⟩:=(F c).mp hc;obtain ⟨v,h⟩:=L x c e;exact ⟨_,h⟩
  have ai:s.heap.get? f=some @bK:=(W.hok f _ hf).1;have aa:s.heap.CodeRec (.ref c') qual:=(W.hok c' _ Z).1
  have ul:us.length=ps.length:=by rw [<-r.length,hl]
  rwa[codeAny_mono (LH (Q:=λv H2=>(∀c∈cs,H2 c=none)->Q v @dd) (E:=E) (fvs:=fvs) S ai aa hr (W.hid G) (ac us ul) r hl af (λi x v h1 h2=> ?_) ag ae (λx c e=> ?_) (λah=>J A outer s _ vs _ ah (I cs vs H Q G ad))) λrr s' O=> ?_]
  ·obtain ⟨c,e,h⟩:=U i x v h1 h2;obtain ⟨u,rv,hc⟩:=(W.hok c _ h).1;exact ⟨c,u,e,rv,hc⟩
  ·unfold hid;rw [if_pos ((F c).mpr ⟨x,e⟩)]
  ·cases rr with
   |error e=>exact False.elim O
   |ok fl=>
    cases fl with
    |ret u=>exact CE.unhid W G O
    |next=>exact False.elim O
    |brk=>exact False.elim O
    |cont=>exact False.elim O
 ·have e:h.get? f=some @bK:=(aj f _ hf).1;exact ⟨.frame,.inl rfl,(Looks.ld (part:=none) e).andThen .now⟩
inductive Oh (P:Addr)(q:Str)(x:Str)(mk:List (Str×Addr)->Addr->Value->Obj)(vs:List V)(H:Hp)(Q:VK)(_e:XK):Prop
 |mk (v:_) (_:vs=[v]) (_:c7 H P q) (_:∀f c' ctv c H',fN P H H'->H f=none->H' f=some (u7 f (mk [(x,c)] c' ctv))->H' c'=some @gx->H' c=some (Cg c v)->c7 H' P q->Q (.ref f) H')
theorem SD {P:Program}{w:World}{K:Frag}{mg:Str->Option Value}{base:Heap}{k:Nat}{f c Z:Addr}{name qual x:Str}{F lp:Arguments}{lb:Expr}{lsc scope:Scope}{R O:Pos}{dV kV ah pm ct oc:Value}{an od:Option Addr}
{au:Array @T}{N:List Str}(lk:K.lookup f=some ⟨oc,od,.func (fnOf name qual F [.Return (some (.Lambda lp lb lsc R)) O] scope dV kV ah pm an (.ref c) ct),au⟩)(ar:codeIn K (.ref c) qual=true)(S:ai N [x] scope)
(C:CodeHd base c Z)(hB:nr base mg)(aj:∀env,defaultsOf lp env=([],[]))(as:∀L,closureFor lsc (envOfC qual scope L f (.ref c))=pure [(x,L+1)])(ae:∀L,(cellsFrom (L+1) scope.names []).lookup x=some (L+1))(aa:scope.names.lookup x=some .cell):
 ax P w K mg base aY (k+1) f (fnOf name qual F [.Return (some (.Lambda lp lb lsc R)) O] scope dV kV ah pm an (.ref c) ct) [x] (Oh Z (qual++".<locals>."++"<lambda>") x λcl c' ctv=>kla_obj "<lambda>" (qual++".<locals>."++"<lambda>") lp lb lsc cl ((mg "__name__").getD .none) c' ctv):=by
 rwa[⟨λvs H Q E ⟨v,e,_,_⟩=>by rw [e];rfl,λA outer s H av us vs Q E hr e0 hb r ak=> ?_⟩];obtain ⟨v,rfl,hT,hq⟩:=ak;have KX:K.In s.heap:=e0.mod.kin.keeps λb o e=>(e0.bs b o e).1;have ao:s.heap.NoLimit:=e0.mod.nolimit.keeps λb o e=>(e0.bs b o e).1
 have W:∀y∈[x].zip us,scope.names.lookup y.1=some .local\/(scope.names.lookup y.1=some .cell/\((cellsFrom (s.heap.objs.size+1) scope.names []).lookup y.1).isSome=true):=λ⟨n,v⟩ hy=>by
  rcases S.par n (of_mem_zip hy).1 with q|q
  ·exact .inl q
  ·exact .inr ⟨q,cellsFrom_some _ _ _ (.inl q)⟩
 rwa[codeAny_call_function hr.depth @gM rfl S.co S.gen rfl (codeRec_of KX ar) @fJ];rwa[wpAny_newFunctionEnv_cells S.kind W λenv he s1 x1=> ?_];subst he;rwa[⟨ao.keeps x1.toInCall.keep,codeAny_func ?_⟩];have I:ay (iR aY P w K mg base N qual scope f (.ref c) A outer s H E) [] (start N [v]) H s1:=oW S hr.hd e0 rfl r x1;rwa[wpAny_mono (Q:=λfl s'=>∃u H',fl= .ret u/\ay (iR aY P w K mg base N qual scope f (.ref c) A outer s H E) [] (start N [v]) H' s'/\∃j c' ctv,u= .ref j/\fN Z H H'/\H j=none/\H' j=some (u7 j (kla_obj "<lambda>" (qual++".<locals>."++"<lambda>") lp lb lsc [(x,s.heap.objs.size+1)] ((mg "__name__").getD .none) c' ctv))/\H' c'=some (vb c' (qual++".<locals>."++"<lambda>"))/\c7 H' Z (qual++".<locals>."++"<lambda>")) ?_ @es λe s' hs=>hs]
 ·rwa[wpAny_execs_cons (wpAny_Return_some (bz (OS (X:=iR aY P w K mg base N qual scope f (.ref c) A outer s H E) (clos:=[(x,s.heap.objs.size+1)]) rfl C hB (aj _) (as _) [] s1 _ H (λv' H'=>∃j c' ctv,v'= .ref j/\fN Z H H'/\H j=none/\H' j=some (u7 j (kla_obj "<lambda>" (qual++".<locals>."++"<lambda>") lp lb lsc [(x,s.heap.objs.size+1)] ((mg "__name__").getD .none) c' ctv))/\H' c'=some (vb c' (qual++".<locals>."++"<lambda>"))/\c7 H' Z (qual++".<locals>."++"<lambda>")) I ⟨hT,λj c' ctv H' a b d e g=>⟨j,c',ctv,rfl,a,b,d,e,g⟩⟩) λu s' ⟨v',H',J,rv,j,c',ctv,ev,cq⟩=> ?_))];subst ev;have rv:u=Value.ref j:=rv;subst rv;exact ⟨_,H',rfl,J,j,c',ctv,rfl,cq⟩
 ·obtain ⟨u,H',rfl,J,j,c',ctv,rfl,a,b,d,e,g⟩:=hs
  have ap:N[0]? =some x:=by
   have:=S.pre
   have h2:(N.take 1)[0]? =some x:=by rw [show N.take 1=[x] from this];rfl
   rw [getElem?_take_of_lt @c] at h2;exact h2
  obtain ⟨m,hn,ac⟩:=J.loc;obtain ⟨u0,al,ad⟩:=ac 0 x v ap rfl (.inr (.inl aa))
  have am:s'.heap.IsCell (s.heap.objs.size+1) (some u0):=by
   rcases ad with ⟨z,_⟩|⟨_,c2,e2,hc⟩
   ·have z:scope.names.lookup x=some .local:=z;rw [aa] at z;cases z
   ·have e2:(cellsFrom (s.heap.objs.size+1) scope.names []).lookup x=some c2:=e2;rw [ae] at e2;cases e2;exact hc
  have nc:H' (s.heap.objs.size+1)=none:=J.freeC x _ (ae _);have G:aq H' (upd H' (s.heap.objs.size+1) (Cg (s.heap.objs.size+1) v)):= .upd nc;have Y:∀ {b:Addr} {o:Obj},s.heap.get? b=some o->b≠s.heap.objs.size+1:=λ{b o} e=>Nat.ne_of_lt (Nat.lt_succ_of_lt @N);have U:=J.base;rwa[⟨.ref j,_,J.os,J.bare,⟨U.keep,U.slot,λb o e n hx=>by rw [ag (Y e)];exact U.free b o e n hx,U.there,λb xs e=>G _ _ (U.tups b xs e),λb o xs e=>G _ _ (U.frzs b o xs e),λb ps e=>let ⟨more,z⟩:=U.tbls b ps e;⟨more,G _ _ z⟩⟩,λb o z=> ?_,rfl,hq j c' ctv (s.heap.objs.size+1) _ (λb o n e=>G _ _ (a b o n e)) b (G _ _ d) (G _ _ e) af (g.same G)⟩];have z:upd H' (s.heap.objs.size+1) (Cg (s.heap.objs.size+1) v) b=some o:=z;by_cases zb:b=s.heap.objs.size+1
  ·rw [zb,af] at z;cases z;rw [zb];exact Ml al am
  ·rw [ag zb] at z;exact (J.hok b o z).stay @cI (λd q=>G _ _ q) λd xs q=>G _ _ q
theorem ax.calm {P:Program}{w:World}{K:Frag}{mg:Str->Option Value}{base:Heap}{k:Nat}{f:Addr}{fd:FuncData}{ps:List Str}{sp:Sp}(F:ax P w K mg base @V k f fd ps sp):ax P w K mg base aY k f fd ps (λvs H Q _=>sp vs H Q E0):=by
 rwa[⟨λvs H Q E h=>F.len _ _ _ _ h,λA outer s H j I vs Q E U O J r h=>codeAny_mono (F.run A outer s H j I vs Q E0 U O J r h) λS s' G=> ?_⟩]
 cases S with
 |ok fl=>cases fl<;>exact G
 |error e=>obtain ⟨a,T,L,dd,H',_,_,_,_,_,_,_,_,_,_,z⟩:=G;exact z.elim
theorem nq.calm {P:Program}{w:World}{K:Frag}{mg:Str->Option Value}{base:Heap}{n:Nat}{x:Str}{ps:List Str}{sp:Sp}(c:nq P w K mg base n x ps sp):bp P w K mg base n x ps (λvs H Q _=>sp vs H Q E0):=by
 obtain ⟨f,fd,F,b,k,j⟩:=c.ex;exact ⟨f,fd,F.calm,b,k,j⟩
section
variable {X:Cx}{pins:List (Addr×Obj)}{σ:St}{H:Hp}{s:Shared}{h':Heap}
theorem ay.sub {j:List (Addr×Obj)}(I:ay X pins σ H s)(h:∀p∈j,p∈pins):ay X j σ H s:=I.pins_of λp G=>I.pin p (mem_append_right _ (h p G))
theorem ay.repin {t':Nat}{a:Addr}{o o':Obj}(I:ay X ((a,o)::pins) σ H s)(L:X.s₀.heap.objs.size<=a)(J:∀p∈X.pn++pins,p.1≠a)(k:∀b u,b≠a->s.heap.get? b=some u->h'.get? b=some u)(R:h'.get? a=some o')(Y:∀v,o'.data≠ .cell v):
 ay X ((a,o')::pins) σ H {s with heap:=h',toks:=t'}:=by
 obtain ⟨W,p2,F,O,S⟩:=I.pin (a,o) @bD;have U:ay X pins σ H s:=I.sub λp G=> .tail _ G
 have j:ay X pins σ H {s with heap:=h',toks:=t'}:=U.turned (it:=a) k p2 F (.inr L) (λx c e z=>by
  obtain ⟨v,Z,h1,h2⟩:=I.cell x c e;rw [z] at h1;have W:s.heap.get? a=some o:=W;rw [W] at h1;cases h1
  exact S v h2) J
 rwa[j.pins_of λp G=> ?_]
 rcases mem_cons.mp G with rfl|G
 ·exact ⟨R,p2,F,O,Y⟩
 ·exact j.pin p (mem_append_right _ G)
theorem ay.pinNew {t':Nat}{a:Addr}{o:Obj}(I:ay X pins σ H s)(j:s.heap.objs.size<=a)(k:∀b u,s.heap.get? b=some u->h'.get? b=some u)(J:h'.get? a=some o)(z:∀v,o.data≠ .cell v):ay X ((a,o)::pins) σ H {s with heap:=h',toks:=t'}:=by
 rwa[(I.kept (t':=t') k).pins_of λp G=> ?_]
 rcases mem_cons.mp G with rfl|G
 ·exact ⟨J,I.hok.fresh j,Nat.ne_of_gt (Nat.lt_of_lt_of_le I.lt j),I.nofs j,z⟩
 ·exact (I.kept (t':=t') k).pin p (mem_append_right _ G)
end
theorem xc {X:Cx}{pins:List (Addr×Obj)}{σ:St}{H:Hp}{s:Shared}{l:Addr}{xs:List V}(I:ay X pins σ H s)(e:H l=some (.lst xs)):∃us:List Value,aO xs us/\s.heap.IsList l us.toArray:=by
 obtain ⟨_,us,n,r,h1⟩:=(show bh X.prog X.w H s.heap l (.lst xs) from I.hok l _ e);exact ⟨us,r,_,h1,rfl,n,rfl⟩
structure LamIn (X:Cx)(fs:List Str)(js:List Nat)(cl:List (Str×Addr)):Prop where
 at_:∀(i:Nat) x,fs[i]? =some x->∃j c,js[i]? =some j/\X.N[j]? =some x/\X.env.scope.names.lookup x=some .cell/\X.env.cells.lookup x=some c/\cl.lookup x=some c
 dom:∀x c,cl.lookup x=some c->x∈fs/\X.env.cells.lookup x=some c
theorem ay.turnLaid {X:Cx}{pins:List (Addr×Obj)}{σ:St}{H:Hp}{s:Shared}{h':Heap}{t':Nat}{ch:List Addr}{a:Addr}{o:HO}(I:ay X pins σ H s)(L:∀b∈ch,jL X pins H b)(k:∀b u,b∉ch->s.heap.get? b=some u->h'.get? b=some u)
(R:s.heap.objs.size<=a)(F:bh X.prog X.w @W h' a o):ay X pins σ @W {s with heap:=h',toks:=t'}:=by
 have Y:H a=none:=I.hok.fresh R;have ne:∀ {b:Addr} {u:Obj},s.heap.get? b=some u->b≠a:=λ{b u} e=>Nat.ne_of_lt (Nat.lt_of_lt_of_le @N R)
 have O:∀ {b:Addr} {u:HO},H b=some u->b∉ch:=λ{b u} e z=>by have:=(L b z).1;rw [e] at this;cases this
 have G:aq H @W:= .upd Y
 refine I.step (g':=s.gens) (d':=s.drawn) (ch:=ch) (λb j=> ?_) (λb u _ _ J e _=>k b u J e) (λb u _ _ J e _=>⟨u.slots,k b u J e⟩) (λb u _ e n=>by rw [ag (ne e)];exact n) (λb u J e=>⟨u,k b u J e⟩)
  (λb xs e=>G _ _ e) (λb u v e=>G _ _ e) (λb ps e=>⟨#[],by rw [G _ _ e];simp⟩) (λm hm=> ?_) (λb u e=> ?_) I.bare
 ·obtain ⟨_,S,_,f3,f4,W⟩:=L b j;exact ⟨f3,S,f4,W⟩
 ·obtain ⟨o,es,Z,U,r⟩:=hm;exact ⟨o,es,Z,k _ o (λz=>(L _ z).2.1 rfl) U,r⟩
 ·by_cases j:b=a
  ·subst j;rw [af] at e;cases e;exact F
  ·rw [ag j] at e;rwa[(I.hok b u e).stay (λc v J q=>k c v ?_ q) (λc q=>G _ _ q) λc xs q=>G _ _ q]
   rcases J with z|z
   ·rw [z];exact O e
   ·exact O z
noncomputable def Tt (K:Fg)(a:Addr):It:=⟨(JK K a).go,λi H x H'=>∃T y,x= .ref T/\H T=none/\H'=upd H T (.tup [.int i,y])/\∀xs,aD K H a xs->xs[i]? =some y,(JK K a).stop⟩
theorem FM {P:Program}{w:World}{K:Fg}{O:List Expr}{k:Nat}{pos:Pos}(a it e:Addr):Ad P w K (.Tuple O k pos) (Tt K a) [e,it] e (λi h=>(∃old,IsEnum h e it i old)/\h.IsListIter it a i) where
 mem:=by simp
 obj:=λi h st b R=>by
  obtain ⟨⟨old,S⟩,o,ho,c,d⟩:=st
  rcases mem_cons.mp R with rfl|R
  ·exact ⟨_,S,λv z=>by cases z⟩
  ·rw [mem_singleton.mp R];exact ⟨o,ho,λv z=>by rw [d] at z;cases z⟩
 keep:=λi h h' st kk=>by
  obtain ⟨⟨old,S⟩,j⟩:=st;exact ⟨⟨old,kk e @e _ S⟩,j.at λo z=>kk it @e o z⟩
 item:=by
  intro X hP hw hK hc i pins s σ H E I hf st hg;subst hP hw hK;obtain ⟨⟨old,S⟩,j⟩:=st;obtain ⟨xs,x,hq,hx⟩:=hg;obtain ⟨its,rv,p,hz⟩:=I.list hq;have hl:s.heap.IsList a its.toArray:=p.isList;obtain ⟨u,hu,ru⟩:=rv.get hx;obtain ⟨oi,J,ci,di⟩:=id j;obtain ⟨ol,G,cl,_⟩:=id hl
  have ae:e≠it:=λz=>by have h1:=J.symm.trans (z▸S);cases h1;exact absurd (Value.type.inj ci) @c
  have ak:e≠a:=λz=>by have h1:=G.symm.trans (z▸S);cases h1;exact absurd @eA @c
  have Z:a≠it:=λz=>by rw [z,J] at G;cases G;rw [ci] at cl;exact absurd @eA @c
  have W:=WalksT.enumerateD (Draws.list (prog:=X.prog) (w:=X.w) (A:=X.A.in1) @bO it a Z its.toArray) e ae (by simp [ae,ak]) @e
  have hi:i<its.toArray.size:=by rw [size_toArray];exact (List.getElem?_eq_some_iff.mp hu).1
  rwa[W.item i s _ _ hi ⟨⟨old,S⟩,j,hl⟩ λT am h' tk hP hT ac U hk=>⟨.ref T,rfl,?_⟩];rwa[W.go O k pos i T _ _ _ U λh2 Y aa=> ?_];obtain ⟨t,u',L,rfl⟩:=hP
  have L:its[i]? =some u':=by simpa using L
  rw [hu] at L;cases L;have af:T∉[e,it]:=W.apart i T h' U;have kk:∀b o,b∉[e,it]->s.heap.get? b=some o->h2.get? b=some o:=λb o nb z=>aa b o nb (hk b o nb z)
  have ad:IsTup h2 T (#[.int i t,u]:Array Value):=by
   obtain ⟨o,ho,c,r⟩:=ac;exact ⟨o,aa T o af ho,c,r⟩
  have ah:bh X.prog X.w (upd H T (.tup [.int i,x])) h2 T (.tup [.int i,x]):=⟨by show 2<=sizeLine;decide,[.int i t,u],.cons ⟨t,rfl⟩ (.cons ru .nil),ad⟩;rwa[⟨.ref T,upd H T (.tup [.int i,x]),I.turnLaid (t':=tk) hf kk hT ah,rfl,⟨T,x,rfl,I.hok.fresh hT,rfl,λys hy=>by rw [I.list_inj hy hq];exact hx⟩,⟨Y.1,Y.2.1⟩,λb R=> ?_⟩];have ne:b≠T:=λz=>af (by rw [<-z];exact R);rw [ag ne];exact (hf b R).1
 done:=by
  intro X hP hw hK hc i pins s σ H E I hf st hg;subst hP hw hK;obtain ⟨⟨old,S⟩,j⟩:=st;obtain ⟨xs,hq,hx⟩:=hg;obtain ⟨its,rv,p,hz⟩:=I.list hq;have hl:s.heap.IsList a its.toArray:=p.isList;have an:=rv.length;obtain ⟨oi,J,ci,di⟩:=id j;obtain ⟨ol,G,cl,_⟩:=id hl
  have Z:a≠it:=λz=>by rw [z,J] at G;cases G;rw [ci] at cl;exact absurd @eA @c
  have D:=Draws.list (prog:=X.prog) (w:=X.w) (A:=X.A.in1) @bO it a Z its.toArray;have hT:s.TypeIs (.ref e) "enumerate":=⟨_,S,rfl⟩;obtain ⟨f0,f1,f2,f3,f4,f5⟩:=hf it @e;unfold pyNext;rwa[wpAny_bind (wpAny_attempt (wpAny_callSpecial?_slot (name:=s!"__next__") hT F.slot_enumerate_next (wpAny_call_entry F.slot_enumerate_next hT F.entry_enumerate_next ?_ (F.args_enumerate_next_1 _))))];show wpAny _ _ (field (.ref e) 2>>=_) _ _ _;rwa[wpAny_bind (wpAny_field S rfl (x:= .ref it) rfl ?_)];rwa[wpAny_bind (wpAny_nextOf_list_end @bO j hl (by simp;lia) λh' x aj ai=> ?_)];obtain ⟨o,ho,al⟩:=ai;rwa[wpAny_bind (wpAny_isInstance (T:="StopIteration") (b:=true) ⟨o,ho,al⟩ isSubtype_stop ?_)];exact wpAny_pure ⟨rfl,I.turned (t':=s.toks) (λb o R e=>aj b o R e) f0 f1 f3 f4 f5⟩
 self:=λ_ _ _ _ _ st h=>let ⟨⟨old,S⟩,_⟩:=st;wpAny_pyIter_enum S h
theorem Jl {K:Fg}{a:Addr}{xs:List V}{pk:List @z}{g:TG}{tt:TT}{te:TE}{σ:St}{H:Hp}{Q:VK}(j:Nat->List V->Hp->Prop)(S:xs.length<=sizeLine)(F:∀i ys H,j i ys H->ys.length<=i)(J:j 0 [] H)(I:∀i ys H,i<=xs.length->j i ys H->aD K H a xs)
(hs:∀(i:Nat) x ys H T H',xs[i]? =some x->j i ys H->aq H H'->H' T=some (.tup [.int i,x])->g (.ref T) @E H' λσ2 H2=>vO @E σ2/\tt σ2 H2 λb H3=>if b=true then te σ2 H3 λv H4=>j (i+1) (ys++[v]) H4 else j (i+1) ys H3)
(R:∀ys H,j @gP ys H->∀p,H p=none->Q (.ref p) @O):
 ug (Tt K a) pk g tt te σ H Q:=by
 rwa[⟨λi m ys H=>m=xs.length - i/\i<=xs.length/\j i ys H,⟨xs.length,by simp,Nat.zero_le _,J⟩,?_⟩];rintro i m ys H ⟨rfl,hi,p⟩;have W:=F _ _ _ p;by_cases G:i<xs.length
 ·rwa[.inr ⟨⟨xs,xs[i],I i ys H hi p,by simp [G]⟩,by lia,j (i+1),λzs H' L=>⟨xs.length - (i+1),by lia,rfl,G,L⟩,λx H' y=> ?_⟩];obtain ⟨T,z,rfl,O,rfl,y⟩:=y;exact hs i z ys _ T _ (y xs (I i ys _ hi p)) p (.upd O) af
 ·have e:i=xs.length:=by lia
  subst e;exact .inl ⟨⟨xs,I _ ys H @f p,Nat.le_refl _⟩,by lia,R ys H p⟩
def UK (K:Fg)(p:Addr)(H:Hp)(R:It->Hp->Prop):Prop:=(∃xs,aD K H p xs/\R (Tt K p) H)\/False
def U8 (K:Fg)(te:TE):TI:=λσ H R=>te σ H λx H1=>match x with| .ref p=>UK K p H1 R|_=>False
theorem vV {X:Cx}{K:Fg}(W:X.K=K){O:List Expr}{k:Nat}{tpos p pos:Pos}{e:Expr}{te:TE}(S:Gl X "enumerate")(Y:X.mg "enumerate"=none)(U:PE X e te)(hs:bu e=true:=by rfl):
 PI X (.Tuple O k tpos) (.Call (.Name "enumerate" p) [e] [] pos) (U8 K te):=by
 subst W;intro pins s σ H R I h;have st:starEach [e] X.env=[(false,eval e X.env)]:=aP hs;rwa[Call_ (ly I S Y boot_enumerate (PyProof.Rows.callWith_type1 ?_ st (br (by rfl))))];rw [st];show wpAny _ _ (spliced ((false,eval e X.env)::backTo pos @cN)) _ _ s;rwa[Calls.spliced_cons (bz @bQ λu L ⟨x,H1,G,F,J⟩=> ?_)];rwa[Calls.spliced_nil ?_]
 cases x with
 |ref a=>
  have F:u=Value.ref a:=F;subst F
  have fp:∀b∈[L.heap.objs.size+1,L.heap.objs.size],jL X pins H1 b:=λb z=>by
   rcases mem_cons.mp z with rfl|z
   ·exact G.fpOk @bC (G.hok.fresh @bC)
   ·rw [mem_singleton.mp z];exact G.fpOk @f @cc
  rcases J with ⟨xs,j,q⟩|q
  ·obtain ⟨its,rv,p,hz⟩:=G.list j;rwa[call_enumerate_list p.isList λh' h1 h2 h3 Z=> ?_];exact wpAny_pyIter_enum h1 ⟨_,[L.heap.objs.size+1,L.heap.objs.size],_,_,H1,rfl,G.kept (t':=L.toks) Z,FM a _ _,⟨⟨_,h1⟩,h2⟩,fp,q⟩
  ·exact q.elim
 |_=>exact False.elim J
section
variable {X:Cx}{K:Fg}
theorem CP {ns:List Int}:∀ {us:List Value},aO @U us->IntsAre us ns:=by
 induction ns with
 |nil=>intro us r;cases r;exact .nil
 |cons a r ih=>
  intro us h
  cases h with
  |cons r1 r2=>
   obtain ⟨t,rfl⟩:=r1;exact .cons _ _ (ih r2)
end
theorem SC {CX:nz}{P:Program}{w:World}{K:Frag}{mg:Str->Option Value}{base:Heap}{f:Addr}{fd:FuncData}{ps:List Str}:ax P w K mg base CX 1 f fd ps (λ_ _ _ _=>False):=⟨λ_ _ _ _ h=>h.elim,λ_ _ _ _ _ _ _ _ _ _ _ _ _ h=>h.elim⟩
theorem cI {X:Cx}{s:Stmt}:PS X s @eT:=λ_ _ _ _ _ _ h=>h.elim
theorem zu {K:Fg}{a:Addr}{xs:List V}{g:TG}{tb:TS}{D:lQ}{σ:St}{H:Hp}(j:Nat->St->Hp->Prop)(I:j 0 σ H)(G:∀i σ H,i<=xs.length->j i σ H->aD K H a xs)
(hs:∀(i:Nat) x σ H T H',xs[i]? =some x->j i σ H->aq H H'->H' T=some (.tup [.int i,x])->g (.ref T) σ H' λσ2 H2=>tb {D with nx:=j (i+1),ct:=j (i+1),bk:=D.nx} σ2 H2)(O:∀σ H,j xs.length σ H->D.nx σ H):BY (Tt K a) g tb D σ H:=by
 rwa[⟨λi m σ H=>m=xs.length - i/\i<=xs.length/\j i σ H,⟨xs.length,by simp,Nat.zero_le _,I⟩,?_⟩];rintro i m σ H ⟨rfl,hi,p⟩;by_cases F:i<xs.length
 ·rwa[.inr ⟨⟨xs,xs[i],G i σ H hi p,by simp [F]⟩,j (i+1),λR H' J=>⟨xs.length - (i+1),by lia,rfl,F,J⟩,λx H' y=> ?_⟩];obtain ⟨T,z,rfl,L,rfl,y⟩:=y;exact hs i z σ _ T _ (y xs (G i σ _ hi p)) p (.upd L) af
 ·have e:i=xs.length:=by lia
  subst e;exact .inl ⟨⟨xs,G _ σ H @f p,Nat.le_refl _⟩,O σ H p⟩
theorem G3 {X:Cx}(i:Nat){x:Str}{pos:Pos}(hi:X.N[i]? =some x:=by rfl)(j:X.N.Nodup:=by (conv=>arg 1;whnf);decide+kernel)(z:Nn X.env.scope x:=by first|exact Or.inl rfl|exact Or.inr rfl)(F:X.fn x=true\/X.env.scope.names.lookup x=some .local:=by first|exact .inl rfl|exact .inr rfl|assumption):PG X (.Name x pos) (qd i):=mz j hi z F
theorem GZ {X:Cx}(i:Nat){x:Str}{e:Expr}{te:TE}{pos pos':Pos}(S:PE X e te)(hi:X.N[i]? =some x:=by rfl)(j:X.N.Nodup:=by (conv=>arg 1;whnf);decide+kernel)(z:Nn X.env.scope x:=by first|exact Or.inl rfl|exact Or.inr rfl)(hs:swapsWith e (some (.Name x pos')) pos.line X.env=pure false:=by rfl)(F:X.fn x=true\/X.env.scope.names.lookup x=some .local:=by first|exact .inl rfl|exact .inr rfl|assumption):PS X (.Assign [.Name x pos'] e pos) (FV te (qd i)):=aZ j hi z S hs F
end L2
local macro_rules|`(tactic|walk_at "l3de")=>`(tactic|first|(show L2.PE _ (.Name _ _) _;first|exact L2.wv 0|exact L2.wv 1|exact L2.wv 2|exact L2.wv 3|exact L2.wv 4|exact L2.wv 5|exact L2.wv 6|exact L2.wv 7|exact L2.wv 8|exact L2.wv 9|exact L2.Cz rfl (by assumption) (by assumption)|exact L2.bN rfl (by assumption))|(show L2.PE _ (.Subscript _ (.Slice _ _ _ _) _) _;exact L2.G7 (L2.QL rfl) (by right) (by right) (by right))|(show L2.PE _ (.Subscript _ _ _) _;exact L2.pQ (L2.yj rfl) (by right) (by right) (fun _ _=>rfl))|(show L2.PE _ (.Constant _ _ _) _;first|exact L2.cE|exact L2.bZ|exact L2.j8|exact L2.wY)|(show L2.PE _ (.Call _ _ _ _) _;walk_at "l3dc")|(show L2.PE _ (.BinOp _ _ _ _) _;walk_at "l3db")|(show L2.PE _ (.Tuple _ _ _) _;exact L2.kB (by right))|(show L2.PE _ (.List _ _) _;exact L2.gO (by right))|(show L2.PE _ (.Attribute _ _ _) _;exact L2.NI rfl (by right))|(show L2.PE _ (.Compare _ _ _ _) _;walk_at "l3dm")|(show L2.PE _ (.IfExp _ _ _ _) _;exact L2.Ci (by right) (by right) (by right))|(show L2.PE _ (.UnaryOp .Not _ _) _;exact L2.Fo rfl (by right))|(show L2.PE _ (.UnaryOp .USub _ _) _;exact L2.G6 L2.FA (by right))|(show L2.PE _ (.BoolOp _ [_] _) _;exact L2.Bn (by right))|(show L2.PE _ (.BoolOp .And _ _) _;exact L2.Ax (by right) (by right))|(show L2.PE _ (.BoolOp .Or _ _) _;exact L2.QK (by right) (by right)))
local macro_rules|`(tactic|walk_at "l3dc")=>Lean.wH "L2.PE _ (.Call (.Name \"len\" _) _ _ _) _~L2.aN (L2.QQ rfl) rfl !a PySem.boot_len !r|L2.PE _ (.Call (.Name _ _) _ _ _) _~L2.b3 !a !a !d rfl !r|L2.PE _ (.Call (.Attribute _ \"append\" _) _ _ _) _~L2.iW rfl PySem.F.plainAttrs_list PySem.F.slot_list_append PySem.F.type_list_append L2.ym !r !r|L2.PE _ (.Call (.Attribute _ \"extend\" _) _ _ _) _~L2.iW rfl PySem.F.plainAttrs_list PySem.F.slot_list_extend PySem.F.type_list_extend L2.qV !r !r|L2.PE _ (.Call (.Attribute _ \"split\" _) _ _ _) _~L2.iW rfl PySem.F.plainAttrs_str PySem.F.slot_str_split PySem.F.type_str_split L2.J5 !r !r|L2.PE _ (.Call (.Attribute _ \"join\" _) _ _ _) _~L2.iW rfl PySem.F.plainAttrs_str PySem.F.slot_str_join PySem.F.type_str_join (L2.vX rfl) !r !r"
local macro_rules|`(tactic|walk_at "l3db")=>Lean.wH "L2.PE _ (.BinOp _ .Add _ _) _~L2.d3 (L2.iY rfl) !r !r|L2.PE _ (.BinOp _ .Sub _ _) _~L2.d3 L2.Cj !r !r|L2.PE _ (.BinOp _ .Mult _ _) _~L2.d3 L2.QO !r !r|L2.PE _ (.BinOp _ .Mod _ _) _~L2.d3 L2.QP !r !r|L2.PE _ (.BinOp _ .FloorDiv _ _) _~L2.d3 L2.NK !r !r|L2.PE _ (.BinOp _ .Pow _ _) _~L2.d3 L2.QN !r !r|L2.PE _ (.BinOp _ .LShift _ _) _~L2.d3 L2.QM !r !r|L2.PE _ (.BinOp _ .BitAnd _ _) _~L2.d3 L2.QW !r !r|L2.PE _ (.BinOp _ .BitOr _ _) _~L2.d3 L2.TM !r !r"
local macro_rules|`(tactic|walk_at "l3dm")=>Lean.wH "L2.PE _ (.Compare _ [.Eq] _ _) _~L2.d4 (L2.yk rfl !a) !r !r (L2.b4 _)|L2.PE _ (.Compare _ [.NotEq] _ _) _~L2.d4 (L2.vd rfl !a) !r !r (L2.b4 _)|L2.PE _ (.Compare _ [.Lt] _ _) _~L2.d4 L2.w_lt !r !r (L2.b4 _)|L2.PE _ (.Compare _ [.Gt] _ _) _~L2.d4 L2.QU !r !r (L2.b4 _)|L2.PE _ (.Compare _ [.LtE] _ _) _~L2.d4 L2.yi !r !r (L2.b4 _)|L2.PE _ (.Compare _ [.GtE] _ _) _~L2.d4 L2.QV !r !r (L2.b4 _)|L2.PE _ (.Compare _ [.In] _ _) _~L2.d4 (L2.QT rfl) !r !r !w|L2.PE _ (.Compare _ [.Is] _ _) _~L2.d4 L2.MM !r !r (L2.b4 _)|L2.PE _ (.Compare _ [.LtE,.Lt] _ _) _~L2.yg L2.yi L2.w_lt !r !r !r|L2.PE _ (.Compare _ [.LtE,.LtE] _ _) _~L2.yg L2.yi L2.yi !r !r !r"
local macro_rules|`(tactic|walk_at "l3dt")=>`(tactic|first|(show L2.PT _ (.Compare _ _ _ _) _;walk_at "l3dn")|(show L2.PT _ (.BoolOp _ _ _) _;exact L2.PW.pt (by right))|(show L2.PT _ (.UnaryOp .Not _ _) _;exact L2.fG (by right))|(show L2.PT _ _ _;exact L2.pH rfl (by right)))
local macro_rules|`(tactic|walk_at "l3dn")=>Lean.wH "L2.PT _ (.Compare _ [.Eq] _ _) _~L2.c8 (L2.yk rfl !a) !r !r (L2.b4 _)|L2.PT _ (.Compare _ [.Lt] _ _) _~L2.c8 L2.w_lt !r !r (L2.b4 _)|L2.PT _ (.Compare _ [.Gt] _ _) _~L2.c8 L2.QU !r !r (L2.b4 _)|L2.PT _ (.Compare _ [.LtE] _ _) _~L2.c8 L2.yi !r !r (L2.b4 _)|L2.PT _ (.Compare _ [.GtE] _ _) _~L2.c8 L2.QV !r !r (L2.b4 _)|L2.PT _ (.Compare _ [.NotEq] _ _) _~L2.c8 (L2.vd rfl !a) !r !r (L2.b4 _)|L2.PT _ (.Compare _ [.In] _ _) _~L2.c8 (L2.QT rfl) !r !r !w|L2.PT _ (.Compare _ [.Is] _ _) _~L2.c8 L2.MM !r !r (L2.b4 _)|L2.PT _ (.Compare _ [.LtE,.Lt] _ _) _~L2.yd L2.yi L2.w_lt !r !r !r|L2.PT _ (.Compare _ [.LtE,.LtE] _ _) _~L2.yd L2.yi L2.yi !r !r !r"
local macro_rules|`(tactic|walk_at "l3dd")=>`(tactic|first|(show L2.PE _ _ _;walk_at "l3de")| (show L2.PA _ _ _;first|exact L2.aj|exact L2.ao (by right) (by right))| (show L2.PT _ _ _;walk_at "l3dt")| (show L2.PS _ (.Assign [.Name _ _] _ _) _;first|(refine' L2.GZ 0 ?_;walk_at "l3dd")|(refine' L2.GZ 1 ?_;walk_at "l3dd")|(refine' L2.GZ 2 ?_;walk_at "l3dd")|(refine' L2.GZ 3 ?_;walk_at "l3dd")|(refine' L2.GZ 4 ?_;walk_at "l3dd")|(refine' L2.GZ 5 ?_;walk_at "l3dd")|(refine' L2.GZ 6 ?_;walk_at "l3dd")|(refine' L2.GZ 7 ?_;walk_at "l3dd")|(refine' L2.GZ 8 ?_;walk_at "l3dd")|(refine' L2.GZ 9 ?_;walk_at "l3dd")|(refine' L2.GZ 10 ?_;walk_at "l3dd"))| (show L2.PW _ (.BoolOp .And [_] _) _;exact L2.Cy (by right))| (show L2.PW _ (.BoolOp .Or [_] _) _;exact L2.Bl (by right))| (show L2.PW _ (.BoolOp .And _ _) _;exact L2.Av (by right) (by right))| (show L2.PW _ (.BoolOp .Or _ _) _;exact L2.yc (by right) (by right))| (show L2.PO _ none _;exact L2.KP)| (show L2.PO _ _ _;exact L2.J4 (by right))| (show L2.PG _ (.Name _ _) _;first|exact L2.G3 0|exact L2.G3 1|exact L2.G3 2|exact L2.G3 3|exact L2.G3 4|exact L2.G3 5|exact L2.G3 6|exact L2.G3 7|exact L2.G3 8|exact L2.G3 9|exact L2.G3 10)| (show L2.PG _ (.Tuple _ _ _) _;exact L2.ff rfl rfl (by right))| (show L2.E6 _ [] _;exact L2.dB)| (show L2.E6 _ _ _;exact L2.aE (by right) (by right))| (show L2.PI _ _ _ _;exact L2.Fn rfl (by right)))
namespace L2
open PySem PySem.Spec PyProof.Rows
section
variable {κ:Type}[DecidableEq κ]
noncomputable def eh (kvs:List (κ×V))(k:κ):Option V:=(kvs.find? λkv=>decide (kv.1=k)).map (·.2)
noncomputable def eG (kvs:List (κ×V))(k:κ)(v:V):List (κ×V):=
 if (kvs.any λkv=>decide (kv.1=k))=true then kvs.map (λkv=>if kv.1=k then (kv.1,v) else kv) else kvs++[(k,v)]
theorem cb {p:κ×V}{r:List (κ×V)}{k:κ}(e:p.1=k):eh (p::r) k=some p.2:=by simp [eh,find?_cons,e]
theorem bK {p:κ×V}{r:List (κ×V)}{k:κ}(e: ¬p.1=k):eh (p::r) k=eh r k:=by simp [eh,find?_cons,e]
theorem gy (k:κ):∀kvs:List (κ×V),(kvs.any λkv=>decide (kv.1=k))=(eh kvs k).isSome
 |[]=>rfl
 |p::r=>by
  rw [any_cons];by_cases e:p.1=k
  ·simp only [cb e,decide_eq_true e,Bool.true_or,Option.isSome_some]
  ·rw [bK e,decide_eq_false e,Bool.false_or];exact gy k r
theorem yo (k j:κ)(y:V):∀kvs:List (κ×V),eh (kvs.map λkv=>if kv.1=k then (kv.1,y) else kv) j=(eh kvs j).map λx=>if j=k then y else x
 |[]=>rfl
 |p::r=>by
  have F:=yo k j y r;rw [map_cons];by_cases h:p.1=k
  ·rw [if_pos h];by_cases e:p.1=j
   ·rw [cb (p:=(p.1,y)) e,cb e,Option.map_some,if_pos (e.symm.trans h)]
   ·rw [bK (p:=(p.1,y)) e,bK e,F]
  ·rw [if_neg h];by_cases e:p.1=j
   ·rw [cb (p:=p) e,cb e,Option.map_some,if_neg (λz=>h (e.trans z))]
   ·rw [bK (p:=p) e,bK e,F]
theorem ve (k j:κ)(y:V):∀kvs:List (κ×V),eh kvs k=none->eh (kvs++[(k,y)]) j=if j=k then some y else eh kvs j
 |[],_=>by
  by_cases e:k=j
  ·rw [if_pos e.symm];exact cb (p:=(k,y)) e
  ·rw [if_neg (λz=>e z.symm)];exact bK (p:=(k,y)) e
 |p::r,hn=>by
  rw [cons_append]
  have S: ¬p.1=k:=λz=>by rw [cb z] at hn;cases hn
  rw [bK S] at hn;have F:=ve k j y r hn;by_cases e:p.1=j
  ·rw [cb e,cb e,if_neg (λz=>S (e.trans z))]
  ·rw [bK e,bK e,F]
theorem FI (kvs:List (κ×V))(k j:κ)(y:V):eh @gy j=if j=k then some y else eh kvs j:=by
 unfold eG;by_cases a:(kvs.any λz=>decide (z.1=k))=true
 ·rw [if_pos a,yo];rw [gy] at a;by_cases e:j=k
  ·obtain ⟨x,F⟩:=Option.isSome_iff_exists.mp a;rw [if_pos e,e,F,Option.map_some,if_pos rfl]
  ·rw [if_neg e]
   cases eh kvs j with
   |none=>rfl
   |some x=>rw [Option.map_some,if_neg e]
 ·rw [if_neg a];rwa[ve k j y kvs ?_];rw [gy] at a
  cases q:eh kvs k with
  |none=>rfl
  |some x=>rw [q] at a;exact (a rfl).elim
theorem dO (kvs:List (κ×V))(k:κ)(v:V):(eG kvs k v).length<=kvs.length+1:=by
 unfold eG;split
 ·rw [length_map];lia
 ·rw [length_append,length_cons,length_nil];lia
theorem yS {kvs:List (κ×V)}{k:κ}(v:V)(h:eh kvs k=none):eG kvs k v=kvs++[(k,v)]:=by
 unfold eG;rw [gy,h];exact if_neg @c
theorem iT.isSome_eq {o:Option V}{u:Option Value}(r:iT o u):o.isSome=u.isSome:=by
 cases o with
 |none=>cases u with
  |none=>rfl
  |some _=>exact (show False from r).elim
 |some _=>cases u with
  |none=>exact (show False from r).elim
  |some _=>rfl
theorem KV.val {kvs:List (κ×V)}{vs:List (κ×Value)}(r:KV kvs vs)(k:κ):iT @ha (valueAt vs k):=by
 unfold KV at r
 induction r with
 |nil=>exact True.intro
 | @cons p q ps qs h t ih=>
   obtain ⟨h1,h2⟩:=h;by_cases e:p.1=k
   ·have j:q.1=k:=h1.symm.trans e
    have b:valueAt (q::qs) k=some q.2:=by simp [valueAt,find?_cons,j]
    rw [cb e,b];exact h2
   ·have j: ¬q.1=k:=λz=>e @fq
    have b:valueAt (q::qs) k=valueAt qs k:=by simp [valueAt,find?_cons,j]
    rw [bK e,b];exact ih
theorem KV.any {kvs:List (κ×V)}{vs:List (κ×Value)}(r:KV kvs vs)(k:κ):(kvs.any λkv=>decide (kv.1=k))=vs.any λkv=>decide (kv.1=k):=by
 unfold KV at r
 induction r with
 |nil=>rfl
 |cons h t ih=>rw [any_cons,any_cons,ih,h.1]
theorem KV.repl {kvs:List (κ×V)}{vs:List (κ×Value)}(r:KV kvs vs)(k:κ){y:V}{u:Value}(L:aL y u):
 KV (kvs.map λkv=>if kv.1=k then (kv.1,y) else kv) (vs.map λkv=>if kv.1=k then (kv.1,u) else kv):=by
 unfold KV at r ⊢
 induction r with
 |nil=>exact .nil
 | @cons p q ps qs h t ih=>
   rw [map_cons,map_cons];rwa[.cons ?_ ih];obtain ⟨h1,h2⟩:=h;by_cases e:p.1=k
   ·rw [if_pos e,if_pos (h1.symm.trans e)];exact ⟨h1,L⟩
   ·rw [if_neg e,if_neg (λz=>e @fq)];exact ⟨h1,h2⟩
theorem KV.put {kvs:List (κ×V)}{vs:List (κ×Value)}(r:KV kvs vs)(k:κ){y:V}{u:Value}(L:aL y u):KV @gy (stored vs k u):=by
 unfold eG stored;rw [r.any k];by_cases e:(vs.any λz=>decide (z.1=k))=true
 ·rw [if_pos e,if_pos e];exact r.repl k L
 ·rw [if_neg e,if_neg e];exact Paired.snoc r ⟨rfl,L⟩
theorem KV.length {kvs:List (κ×V)}{vs:List (κ×Value)}(r:KV kvs vs):kvs.length=vs.length:=Paired.length r
end
theorem za {P:Program}{w:World}{k:cr}{u:Value}(r:aL (kV k) u):(bV P w).is k u=true:=by
 cases k with
 |inl i=>obtain ⟨t,e⟩:=(show ∃t,u=Value.int i t from r);subst e;exact y4 P w i t
 |inr x=>obtain ⟨t,e⟩:=(show ∃t,u=Value.str x t from r);subst e;exact y3 P w x t
theorem vt {P:Program}{w:World}:∀ {ks:List cr} {us:List Value},aO @gQ us->ItemsAre @dn ks us
 |[],_,r=>by rw [map_nil] at r;cases r;exact .nil
 |k::ks,_,r=>by
  rw [map_cons] at r
  cases r with
  |cons h t=>exact .cons (za h) (vt t)
abbrev KT (H:Hp):List (List cr×V)->List (List cr×Addr×Value)->Prop:=Paired λp q=>p.1=q.1/\H q.2.1=some (.tup (p.1.map kV))/\aL p.2 q.2.2
theorem KT.val {H:Hp}{kvs:List (List cr×V)}{xs:List (List cr×Addr×Value)}(r:KT H kvs xs)(k:List cr):iT @ha ((atKey xs k).map (·.2)):=by
 induction r with
 |nil=>exact True.intro
 | @cons p q ps qs h t ih=>
   obtain ⟨h1,_,h2⟩:=h;by_cases e:p.1=k
   ·have j:q.1=k:=h1.symm.trans e
    have b:atKey (q::qs) k=some q.2:=by simp [atKey,find?_cons,j]
    rw [cb e,b];exact h2
   ·have j: ¬q.1=k:=λz=>e @fq
    have b:atKey (q::qs) k=atKey qs k:=by simp [atKey,find?_cons,j]
    rw [bK e,b];exact ih
theorem KT.repl {H:Hp}{kvs:List (List cr×V)}{xs:List (List cr×Addr×Value)}(r:KT H kvs xs)(k:List cr){y:V}{u:Value}(L:aL y u):
 KT H (kvs.map λkv=>if kv.1=k then (kv.1,y) else kv) (xs.map (PySem.putAt k u)):=by
 induction r with
 |nil=>exact .nil
 | @cons p q ps qs h t ih=>
   rw [map_cons,map_cons];rwa[.cons ?_ ih];obtain ⟨h1,h2,G⟩:=h;unfold PySem.putAt;by_cases e:p.1=k
   ·rw [if_pos e,if_pos (h1.symm.trans e)];exact ⟨h1,h2,L⟩
   ·rw [if_neg e,if_neg (λz=>e @fq)];exact ⟨h1,h2,G⟩
theorem KT.put {H:Hp}{kvs:List (List cr×V)}{xs:List (List cr×Addr×Value)}(r:KT H kvs xs)(k:List cr){b:Addr}{y:V}{u:Value}(j:H b=some (.tup (k.map kV)))(L:aL y u):
 KT H @gy (storedH xs k b u):=by
 have e:(kvs.any λz=>decide (z.1=k))=(atKey xs k).isSome:=by
  rw [gy,(r.val k).isSome_eq,Option.isSome_map]
 unfold eG storedH;rw [e];by_cases q:(atKey xs k).isSome=true
 ·rw [if_pos q,if_pos q];exact r.repl k L
 ·rw [if_neg q,if_neg q];exact Paired.snoc r ⟨rfl,j,L⟩
theorem KT.keeps {H H':Hp}{kvs:List (List cr×V)}{xs:List (List cr×Addr×Value)}(r:KT H kvs xs)(O:∀b ys,H b=some (.tup ys)->H' b=some (.tup ys)):KT H' kvs xs:=
 Paired.mapP r λ_ _ z=>⟨z.1,O _ _ z.2.1,z.2.2⟩
section
variable {P:Program}{w:World}{H:Hp}{h:Heap}{a:Addr}
theorem MX {u:HO}(W:gi P w H h)(e:Rd H a u):bh P w H h a u:=e.ok W
theorem zG {kvs:List (cr×V)}(W:gi P w H h)(e:Rd H a (.dK kvs)):kvs.length<=sizeLine/\(a==sysModules)=false/\∃vs,KV kvs vs/\h.DictOf @dn a vs:=
 show bh P w H h a (.dK kvs) from MX W e
theorem Je {kvs:List (cr×V)}(W:gi P w H h)(e:H a=some (.dK kvs)):kvs.length<=sizeLine/\(a==sysModules)=false/\∃vs,KV kvs vs/\h.DictOf @dn a vs:=zG W (.inl e)
theorem xf {ks:List cr}(W:gi P w H h)(e:H a=some (.tup @gQ)):(tupleKind @dn).is h ks a:=by
 obtain ⟨_,its,r,o,h1,h2,n,G⟩:=(show bh P w H h a (.tup @gQ) from W a _ e);exact ⟨o,its.toArray,n,h1,h2,G,by simpa using vt r⟩
theorem zF {kvs:List (List cr×V)}(W:gi P w H h)(e:Rd H a (.dT kvs)):kvs.length<=sizeLine/\(a==sysModules)=false/\
 ∃xs,KT H kvs xs/\h.DictOfH @fF a xs:=by
 obtain ⟨z,y,xs,r,o,es,I,h1,h2,G,F,L⟩:=(show bh P w H h a (.dT kvs) from MX W e);rwa[⟨z,y,xs,r,o,es,I,h1,h2,G,F,λx j=> ?_,L⟩]
 have J:∀ {l:List (List cr×V)} {m:List (List cr×Addr×Value)},KT H l m->∀x∈m,(tupleKind @dn).is h x.1 x.2.1:=by
  intro l m q
  induction q with
  |nil=>intro x j;exact nomatch j
  | @cons p q ps qs hq t ih=>
    intro x j
    rcases mem_cons.mp j with e|j
    ·subst e;exact xf W (by rw [<-hq.1];exact hq.2.1)
    ·exact ih x j
 exact J r x j
theorem SK {kvs:List (List cr×V)}(W:gi P w H h)(e:H a=some (.dT kvs)):kvs.length<=sizeLine/\(a==sysModules)=false/\
 ∃xs,KT H kvs xs/\h.DictOfH @fF a xs:=zF W (.inl e)
end
def va (H:Hp)(a:Addr)(y:V)(r:Option V):Prop:=
 (∃kvs k,Rd H a (.dK kvs)/\y=kV k/\r=eh kvs k)\/∃kvs k b,Rd H a (.dT kvs)/\y= .ref b/\H b=some (.tup (k.map kV))/\r=eh kvs k
def Ai (H:Hp)(a:Addr)(y v:V)(H':Hp):Prop:=
 (∃kvs k,H a=some (.dK kvs)/\y=kV k/\kvs.length<sizeLine/\H'=upd H a (.dK @gz))\/
 ∃kvs k b,H a=some (.dT kvs)/\y= .ref b/\H b=some (.tup (k.map kV))/\kvs.length<sizeLine/\H'=upd H a (.dT @gz)
theorem va.k {H:Hp}{a:Addr}{kvs:List (cr×V)}{k:cr}(e:H a=some (.dK kvs)):va H a (kV k) @ha:= .inl ⟨kvs,k,.inl e,rfl,rfl⟩
theorem Ai.k {H:Hp}{a:Addr}{kvs:List (cr×V)}{k:cr}{v:V}(e:H a=some (.dK kvs))(W:kvs.length<sizeLine):Ai H a (kV k) v (upd H a (.dK @gz)):= .inl ⟨kvs,k,e,rfl,W,rfl⟩
section
variable {X:Cx}{pins:List (Addr×Obj)}{σ:St}{H:Hp}{s:Shared}{a:Addr}{y v:V}{u r:Value}{o:Option V}{A:Around}{E:Value->Shared->Prop}
theorem ay.big (I:ay X pins σ H s):sysModules<s.heap.objs.size:=by
 have h:mainGlobals<s.heap.objs.size:=(I.mod.glob.keeps I.bk).lt;exact Nat.lt_trans @c h
theorem EL {Q:Value->Shared->Prop}(S:A.units+1<cLine)(I:ay X pins σ H s)(g:va H a y @bG)(O:aL y u)(h:∀w' s',ay X pins σ H s'->aL v w'->Q w' s'):
 wpAny @d A (getItem (.ref a) u) Q E s:=by
 rcases g with ⟨J,k,e,L,l⟩|⟨J,k,b,e,L,U,l⟩
 ·subst L;obtain ⟨z,Y,W,j,dd⟩:=zG I.hok e;obtain ⟨w',F,G⟩:=iT.some_of (v:=v) (o:=valueAt W k) (by rw [l];exact j.val k);exact wpAny_getItem_of (za O) dd.mapOf F (h w' _ @fI G)
 ·subst L;cases (show u=Value.ref b from O);obtain ⟨z,Y,xs,j,dd⟩:=zF I.hok e;obtain ⟨w',F,G⟩:=iT.some_of (v:=v) (o:=(atKey xs k).map (·.2)) (by rw [l];exact j.val k);obtain ⟨p,R,aA⟩:=Option.map_eq_some_iff.mp F;rwa[wpAny_getItem_heap (tupleKind_room_in1 S) @gA dd R ?_];rw [aA];exact h w' _ @fI G
theorem UQ {Q:Value->Shared->Prop}(O:A.units+1<cLine)(I:ay X pins σ H s)(g:va H a y o)(J:aL y u)(h:∀s',ay X pins σ H s'->Q (.bool o.isSome) s'):
 wpAny @d A (compareOp .In u (.ref a)) Q E s:=by
 rcases g with ⟨F,k,e,L,l⟩|⟨F,k,b,e,L,U,l⟩
 ·subst L;obtain ⟨z,G,R,j,dd⟩:=zG I.hok e;rwa[wpAny_in_of (za J) G dd.mapOf ?_];rw [<-(j.val k).isSome_eq,<-l];exact h _ @fI
 ·subst L;cases (show u=Value.ref b from J);obtain ⟨z,G,xs,j,dd⟩:=zF I.hok e;rwa[wpAny_in_heap (tupleKind_room_in1 O) @gA G dd ?_];have q:=(j.val k).isSome_eq;rw [Option.isSome_map] at q;rw [<-q,<-l];exact h _ @fI
theorem xD {h':Heap}{t':Nat}{j:HO}(I:ay X pins σ H s)(L:S1 (H a))(hs:Heap.SameBut a s.heap h')(S:∃q,h'.get? a=some q)(F:bh X.prog X.w (upd H a j) h' a j):
 ay X pins σ (upd H a j) {s with heap:=h',toks:=t'}:=
 I.write (x:=a) (e:=a) L (.inl rfl) (λb q G z=>(hs.2 b G).trans z) S F
theorem B3 {P:Program}{w:World}{H':Hp}{h':Heap}{kvs:List (cr×V)}{vs:List (cr×Value)}(z:kvs.length<=sizeLine)(G:(a==sysModules)=false)(j:KV kvs vs)(dd:h'.DictOf @dn a vs):
 bh P w H' h' a (.dK kvs):=⟨z,G,vs,j,dd⟩
theorem EJ {H':Hp}{Q:Unit->Shared->Prop}(hu:A.units+1<cLine)(I:ay X pins σ H s)(g:Ai H a y v H')(Y:aL y u)(Z:aL v r)(h:∀s',ay X pins σ H' s'->Q () s'):
 wpAny @d A (setItem (.ref a) u r) Q E s:=by
 rcases g with ⟨F,k,e,O,l,J⟩|⟨F,k,b,e,O,U,l,J⟩
 ·subst O J;obtain ⟨z,R,vs,j,dd⟩:=Je I.hok e
  have L:vs.length<=sizeLine:=by rw [<-j.length];exact z
  have W:(eG F k v).length<=sizeLine:=by have:=dO F k v;lia
  rwa[wpAny_setItem_pairs (hsz:=L) (za Y) dd λh' dd' hs=>h _ ?_];have he:∃q,h'.get? a=some q:=let ⟨q,_,_,G,_⟩:=dd';⟨q,G⟩;exact xD I (by rw [e];exact True.intro) hs he (B3 W R (j.put k Z) dd')
 ·subst O J;cases (show u=Value.ref b from Y);obtain ⟨z,R,xs,j,dd⟩:=SK I.hok e
  have L:xs.length<=sizeLine:=by rw [<-Paired.length j];exact z
  have W:(eG F k v).length<=sizeLine:=by have:=dO F k v;lia
  rwa[wpAny_setItem_heap (hsz:=L) (tupleKind_room_in1 hu) @gA dd λh' dd' hs=>h _ ?_];obtain ⟨q,es,ep,G,h2,h3,h4,_,h5⟩:=dd';rwa[xD I (by rw [e];exact True.intro) hs ⟨q,G⟩ ⟨W,R,_,(j.put k U Z).keeps λc ys S=> ?_,q,es,ep,G,h2,h3,h4,h5⟩];rw [ag (Sl S e (λz=>nomatch z))];exact S
end
def SZ (i:Expr):Prop:=∀ov iv,subscripted i false ov iv=operate [ov,iv] (getItem ov iv)
theorem Ki {prog:Program}{w:World}{A:Around}{E:Value->Shared->Prop}{s:Shared}{env:Env}{value J:Expr}{pos:Pos}{T id:String}{Q:Value->Shared->Prop}
(W:typeLookup (.type T) "__getitem__"=pure (some (.builtin id)))(hs:SZ J)
(h:wpAny @l A (eval value env) (λo s₁=>wpAny @l A (eval J env) (λi s₂=>s₂.TypeIs o T/\wpAny @l A (getItem o i) Q E s₂) E s₁) E s):
 wpAny @l A (eval (.Subscript value J pos) env) Q E s:=by
 rwa[Subscript_ (wpAny_mono h (λo s₁ G=>wpAny_mono G (λi s₂ j=> ?_) λ_ _ x=>x) λ_ _ x=>x)];obtain ⟨Y,j⟩:=j;unfold subscriptTail;rwa[wpAny_bind ?_];rw [getitemInPython_of_ne Y.not_modules];rwa[wpAny_bind (wpAny_specialOf Y W ?_)]
 have z:wpAny @l A (subscripted J false o i) (λr F=>wpAny @l A (letTemporaryGo value o r>>=λ_=>pure r) Q E F) E s₂:=by
  rw [hs o i];exact wpAny_operating (wpAny_mono j (λr F I=>wpAny_bind (wpAny_letTemporaryGo (wpAny_pure I))) λ_ _ x=>x)
 first
  |exact wpAny_pure (wpAny_bind z)
  |exact wpAny_bind (wpAny_pure (wpAny_bind z))
  |exact wpAny_bind z
theorem zH {X:Cx}{pins:List (Addr×Obj)}{σ:St}{H:Hp}{s:Shared}{a:Addr}{y:V}{o:Option V}(I:ay X pins σ H s)(g:va H a y o):s.TypeIs (.ref a) "dict":=by
 rcases g with ⟨z,k,e,_,_⟩|⟨z,k,b,e,_,_,_⟩
 ·obtain ⟨_,_,L,_,dd⟩:=zG I.hok e;exact dd.typeIs
 ·obtain ⟨_,_,xs,_,dd⟩:=zF I.hok e;exact dd.typeIs
def Ry (td ty:TE):TE:=λσ H Q=>td σ H λx H1=>ty σ H1 λy H2=>∃a v,x= .ref a/\va H2 a y @bG/\Q v H2
def Uq (ty td:TE):TE:=λσ H Q=>ty σ H λy H1=>td σ H1 λx H2=>∃a o,x= .ref a/\va H2 a y o/\Q (.bl o.isSome) H2
def RC (td ty tv:TE):TS:=λD σ H=>tv σ H λv H1=>td σ H1 λx H2=>ty σ H2 λy H3=>∃a H4,x= .ref a/\Ai H3 a y v H4/\D.nx σ H4
section
variable {X:Cx}{o i e value:Expr}{pos pos' tpos:Pos}{td ty tv:TE}
theorem CA (S:X.A.units+1<cLine)(L:PE X o td)(hi:PE X i ty)(hs:SZ i):PE X (.Subscript o i pos) (Ry td ty):=by
 intro pins s σ H Q I h;rwa[Ki PySem.F.slot_dict_getitem.lookup hs (bz @bP λu Y ⟨x,H1,j,J,U⟩=>bz (hi pins Y σ H1 _ j U) λiv s2 ⟨y,H2,O,W,a,v,ex,g,R⟩=> ?_)];subst ex;obtain rfl:u=Value.ref a:=J;exact ⟨zH O g,EL S O g W λw' Z z G=>⟨v,H2,z,G,R⟩⟩
theorem OU (G:X.A.units+1<cLine)(hi:PE X i ty)(F:PE X o td):PC X .In i o (Uq ty td):=by
 intro pins s σ H Q I h;rwa[bz @dX λZ W ⟨y,H1,S,U,L⟩=>bz (F pins W σ H1 _ S L) λu s2 ⟨x,H2,O,j,a,J,ex,g,R⟩=> ?_];subst ex;obtain rfl:u=Value.ref a:=j;exact UQ G O g U λY z=>⟨.bl J.isSome,H2,z,rfl,R⟩
theorem qL (j:X.A.units+1<cLine)(J:PE X o td)(hi:PE X i ty)(U:PE X value tv)(hs:swapsWith value (some (.Subscript o i pos')) pos.line X.env=pure false):
 PS X (.Assign [.Subscript o i pos'] value pos) (RC td ty tv):=by
 intro pins s σ H D I h;rwa[wpAny_Assign_Subscript (bz @bQ λr F ⟨v,H1,I1,W,q1⟩=>bz (J pins F σ H1 _ I1 q1) λu R ⟨x,H2,O,z,Y⟩=>bz (hi pins R σ H2 _ O Y) λiv s3 ⟨y,H3,S,L,a,H4,ex,g,G⟩=> ?_) hs];subst ex;obtain rfl:u=Value.ref a:=z;exact EJ j S g L W λs4 Z=>⟨σ,H4,Z,G⟩
end
theorem Jf {P:Program}{w:World}{H:Hp}(h:Heap)(z:sysModules<h.objs.size):bh P w H (h.push {cls:= .type "dict",data:= .dict #[]}) h.objs.size (.dK []):=
 ⟨Nat.zero_le _,beq_eq_false_iff_ne.mpr (Ne.symm @fx),[],.nil,Heap.DictOf.new h⟩
def N7:TE:=λ_ H Q=>∀p,H p=none->Q (.ref p) (upd H p (.dK []))
section
variable {X:Cx}{pos:Pos}
theorem yT:PE X (.Dict [] [] pos) N7:=λpins s σ H Q I h=>
 wpAny_Dict_empty ⟨.ref s.heap.objs.size,_,I.laid (a:=s.heap.objs.size) (o:= .dK []) (t':=s.toks) (λ_ _ q=>Heap.get?_push_of_some _ q) @f (Jf s.heap I.big),rfl,h _ @bt⟩
end
structure M1 (X:Cx)(o:Expr)(m:Str)(apos:Pos)(e:Expr)(cpos:Pos):Prop where
 base:attributeBase o m X.env @er=eval o X.env
 few:((backTo cpos (starEach [e] X.env)).all (λx=> !x.1)&&(backToKw cpos @cv).all @da
  &&decide (([e]:List Expr).length+([]:List Keyword).length+(if ([]:List Keyword).isEmpty then 0 else 1)<30))=true
 line:(apos.endLine==cpos.line)=true
 trees:backTo cpos (starEach [e] X.env)=[(false,eval e X.env)]
structure M2 (X:Cx)(o:Expr)(m:Str)(apos:Pos)(e f:Expr)(cpos:Pos):Prop where
 base:attributeBase o m X.env @er=eval o X.env
 few:((backTo cpos (starEach [e,f] X.env)).all (λx=> !x.1)&&(backToKw cpos @cv).all @da
  &&decide (([e,f]:List Expr).length+([]:List Keyword).length+(if ([]:List Keyword).isEmpty then 0 else 1)<30))=true
 line:(apos.endLine==cpos.line)=true
 trees:backTo cpos (starEach [e,f] X.env)=[(false,eval e X.env),(false,eval f X.env)]
def Vr (H:Hp)(a:Addr):Prop:=(∃kvs,Rd H a (.dK kvs))\/∃kvs,Rd H a (.dT kvs)
theorem PZ {X:Cx}{pins:List (Addr×Obj)}{σ:St}{H:Hp}{s:Shared}{a:Addr}(I:ay X pins σ H s)(d:Vr H a):
 s.TypeIs (.ref a) "dict"/\(∀b,Value.ref a= .ref b->∃ob,s.heap.get? b=some ob/\ob.dict=none)/\(a==sysModules)=false:=by
 rcases d with ⟨z,e⟩|⟨z,e⟩
 ·obtain ⟨_,G,L,_,dd⟩:=zG I.hok e;rwa[⟨dd.typeIs,λb q=> ?_,G⟩];cases q;obtain ⟨ob,_,_,h1,h2,_⟩:=dd;exact ⟨ob,h1,h2.2.1⟩
 ·obtain ⟨_,G,xs,_,dd⟩:=zF I.hok e;rwa[⟨dd.typeIs,λb q=> ?_,G⟩];cases q;obtain ⟨ob,_,_,h1,h2,_⟩:=dd;exact ⟨ob,h1,h2.2.1⟩
end L2
namespace PySem
namespace F
theorem lk_list_keys:typeLookup (.type "list") "keys"=pure none:=by rw [typeLookup_type,builtinLookup_eq_fast];kernel_rfl
theorem lk_list_hook:typeLookup (.type "list") "__getattr__"=pure none:=by rw [typeLookup_type,builtinLookup_eq_fast];kernel_rfl
theorem sub_attr_attr:isSubtype (.type "AttributeError") (.type "AttributeError")=pure true:=by rw [isSubtype_type];kernel_rfl
theorem attr_first:((Manifest.find? "AttributeError").elim false λt=>t.mro.contains "StopIteration"||t.mro.contains "SystemExit")=false:=by decide+kernel
end F
section
variable {α:Type}{prog:Program}{w:World}{A:Around}{E:Value->Shared->Prop}{s:Shared}
theorem Ei {e:Addr}{o name:Value}{vs:Array Value}{j:Option Addr}{sl:Array @T}{Q:Unit->Shared->Prop}(S:s.heap.get? e=some ⟨.type "AttributeError",j,.fields vs,sl⟩)(L:vs[6]? =some unsetMember)(R:vs[7]? =some unsetMember)
(G:Q () {s with heap:=s.heap.update e (Obj.mapFields λvs=>vs.extract 0 6++ #[name,o])}):wpAny @l A (noteAttr (.ref e) o name) Q E s:=by
 have Y:s.TypeIs (.ref e) "AttributeError":=⟨_,S,rfl⟩;unfold noteAttr lacksNameAndObj;rwa[wpAny_bind ?_];rwa[wpAny_bind (wpAny_isInstance Y F.sub_attr_attr ?_)];simp only [Bool.not_true,Bool.false_eq_true,if_false];rwa[wpAny_bind (wpAny_load S ?_)];simp only [L,R];have e1:unsetMember=Value.int 0 0:=rfl;rw [e1];simp only [Bool.or_self,Bool.false_eq_true,if_false];rw [if_neg @c];rwa[wpAny_pure ?_];simp only [if_true];rwa[wpAny_bind @fK];rwa[wpAny_bind (wpAny_typeOf Y ?_)];exact wpAny_layMembers S rfl G
theorem Bk {o:Value}{name j:Str}{Q:α->Shared->Prop}(O:A.handled=none)(J:j.length<=sizeLine)(I:∀e h' t',(∀b ob,s.heap.get? b=some ob->h'.get? b=some ob)->(∃ob,h'.get? e=some ob/\ob.cls= .type "AttributeError")->E (.ref e) {s with heap:=h',toks:=t'}):
 wpAny @l A (raiseAttrError o name j:Sem α) Q E s:=by
 unfold raiseAttrError;rwa[wpAny_bind (wpAny_mkStr ?_ J)];rwa[wpAny_bind ?_];unfold newExc newTuple;rwa[wpAny_bind (wpAny_newObj_type ?_ (by show (1:Nat)<=sizeLine;exact L2.bw @c))];rwa[wpAny_bind (m:=firstArgMember _ _) (wpAny_of_eq (a:=Value.none) (by simp only [firstArgMember,F.attr_first];rfl) ?_)];rwa[wpAny_newObj_type ?_];rwa[wpAny_bind (wpAny_mkText ?_)];rwa[wpAny_bind ?_];generalize G:(s.heap.push {cls:= .type "tuple",data:= .seq #[Value.str j s.toks]})=h1
 have k1:∀b ob,s.heap.get? b=some ob->h1.get? b=some ob:=λb ob z=>by rw [<-G];exact Heap.get?_push_of_some _ z
 show wpAny @l A (noteAttr (.ref h1.objs.size) o _) _ _ {s with heap:=h1.push {cls:= .type "AttributeError",data:= .fields #[Value.ref s.heap.objs.size,.none,.none,.none,.bool false,.none,unsetMember,unsetMember]},toks:=s.toks+1+1};rwa[Ei (vs:= #[Value.ref s.heap.objs.size,.none,.none,.none,.bool false,.none,unsetMember,unsetMember]) (Heap.get?_push_size _ rfl) rfl rfl ?_];rwa[wpAny_raiseNew_none O ?_];have R:=Heap.SameBut.update (h1.push {cls:= .type "AttributeError",data:= .fields #[Value.ref s.heap.objs.size,.none,.none,.none,.bool false,.none,unsetMember,unsetMember]}) h1.objs.size (Obj.mapFields λL=>L.extract 0 6++ #[Value.str name (s.toks+1),o]);rwa[I h1.objs.size _ _ (λb ob z=> ?_) ?_]
 ·rw [R.2 b (Nat.ne_of_lt (Heap.lt_size (k1 b ob z)))];exact Heap.get?_push_of_some _ (k1 b ob z)
 ·exact ⟨_,Heap.get?_update_self _ (Heap.get?_push_size _ rfl) rfl,rfl⟩
end
section
variable {prog:Program}{w:World}{A:Around}{E:Value->Shared->Prop}{h:Heap}{g:Array GenState}{d:Drawn}{t:Nat}{os:OsState}{a:Addr}{its:Array Value}{n:Nat}{sl:Array @T}
theorem qC {tk:Tok}{Q:Fin->Shared->Prop}(j:A.handled=none)(z:h.get? a=some ⟨.type "list",none,.seq its n,sl⟩)(G:∀e h' t',(∀b ob,h.get? b=some ob->h'.get? b=some ob)->(∃ob,h'.get? e=some ob/\ob.cls= .type "AttributeError")->E (.ref e) ⟨h',g,d,t',os⟩):
 wpAny @l A (Builtin.«object.__getattribute__» ⟨[.ref a,.str "keys" tk],[]⟩) Q E ⟨h,g,d,t,os⟩:=by
 have Y:(⟨h,g,d,t,os⟩:Shared).TypeIs (.ref a) "list":=⟨_,z,rfl⟩;have I:=F.lk_list_keys
 repeat (any_goals (first|assumption|with_reducible refine Bk j ?_ ?_|wp_step))
 all_goals first|exact L2.bw @g|exact G
theorem tf {tk:Tok}{R:Result->Shared->Prop}(j:A.handled=none)(z:h.get? a=some ⟨.type "list",none,.seq its n,sl⟩)(G:∀e h' t',(∀b ob,h.get? b=some ob->h'.get? b=some ob)->(∃ob,h'.get? e=some ob/\ob.cls= .type "AttributeError")->R (.error (.ref e)) ⟨h',g,d,t',os⟩):
 codeAny @l A (.call (.builtin "list.__getattribute__") ⟨[.ref a,.str "keys" tk],[]⟩) R ⟨h,g,d,t,os⟩:=
 codeAny_call_builtin F.slot_list_getattribute.plain F.entry_list_ga (F.slot_list_getattribute.check _ _ _ _ _ _ _ _ (show (⟨h,g,d,t,os⟩:Shared).TypeIs (.ref a) "list" from ⟨_,z,rfl⟩) (F.args_list_getattribute_2 _ _) (qC j z G))
theorem tx {Q:Option Value->Shared->Prop}(J:A.handled=none)(j:h.get? a=some ⟨.type "list",none,.seq its n,sl⟩)(I:∀h' t',(∀b ob,h.get? b=some ob->h'.get? b=some ob)->Q none ⟨h',g,d,t',os⟩):wpAny @l A (getAttr? (.ref a) "keys") Q E ⟨h,g,d,t,os⟩:=by
 have Y:(⟨h,g,d,t,os⟩:Shared).TypeIs (.ref a) "list":=⟨_,j,rfl⟩;have R:=F.slot_list_getattribute.lookup;have Z:=F.slot_list_getattribute.bind (.ref a);have W:=F.lk_list_hook;unfold getAttr? getAttrBy?
 repeat (any_goals (first|assumption|wp_step))
 rwa[tf J j (λe h' t' k x=> ?_)];have G:(⟨h',g,d,t',os⟩:Shared).TypeIs (.ref e) "AttributeError":=x;have L:=F.sub_attr_attr;have z:=I h' t' k;show wpAny _ _ (getattributeRaised _ _ _ _ _ _ _) _ _ _;unfold getattributeRaised;rwa[wpAny_bind (wpAny_isInstance G L ?_)];simp only [if_true]
 have S:hookBehind (.type "list") none=pure none:=by unfold hookBehind;rw [if_neg @c,W]
 rwa[wpAny_bind ?_];show wpAny _ _ (hookBehind (.type "list") none) _ _ _;rw [S];rwa[wpAny_pure ?_];unfold hookOrError attributeErrorLeaves;simp only [Bool.not_false,if_true];rwa[wpAny_throw ?_];rwa[wpAny_bind (wpAny_isInstance G L ?_)];simp only [if_true];exact wpAny_pure z
end
end PySem
namespace PySem
namespace F
theorem entry_dul:entryFor table "dict.update.loop"=some Builtin.«dict.update.loop»:=entryFor_of_tree @o
theorem plain_dul:plainId "dict.update.loop"=true:=by decide+kernel
end F
end PySem
namespace L2
open PySem PySem.Spec PyProof.Rows
noncomputable def gE (kvs ps:List (cr×V)):List (cr×V):=ps.foldl (λa p=>eG a p.1 p.2) kvs
theorem Md {X:Cx}{pins:List (Addr×Obj)}{σ:St}{l It dd:Addr}{xs:List V}{R:Result->Shared->Prop}{A:Around}(hh:A.handled=none)
(aq:X.s₀.heap.objs.size<=It)(ap:∀p∈X.pn++pins,p.1≠It):
 ∀(r j:Nat) (s:Shared) (H:Hp) (kvs ps:List (cr×V)) (t:Tok) (oI:Obj),xs.length - j=r->j<=xs.length->
  ay X ((It,oI)::pins) σ H s->H l=some (.lst xs)->s.heap.IsListIter It l j->H dd=some (.dK kvs)->Paired (λx (p:cr×V)=>∃b,x=V.ref b/\H b=some (.tup [kV p.1,p.2])) (xs.drop j) ps->kvs.length+ps.length<sizeLine->
  (∀s',ay X pins σ (upd H dd (.dK (gE kvs ps))) s'->R (.ok (.ret .none)) s')->
  codeAny @d A (.builtin "dict.update.loop" ⟨[.ref dd,.ref It,.int j t,.none],[]⟩) R s:=by
 intro r
 induction r with
 |zero=>
  intro j s H kvs ps t oI hr hj I Y aa hd Z hz hR
  have ej:j=xs.length:=by lia
  subst ej;rw [drop_length] at Z;cases Z;obtain ⟨us,S,ad⟩:=xc I Y
  have ae:us.toArray.size=xs.length:=by rw [size_toArray,S.length]
  have nI:=I.pin (It,oI) @bD
  have ac:l≠It:=λz=>by have:=nI.2.1;rw [<-z,Y] at this;cases this
  have W:=Walks.list (prog:=X.prog) (w:=X.w) (A:=A.in1) hh It l ac us.toArray;rwa[codeAny_builtin PySem.F.entry_dul ?_];rw [Around.under_plainId PySem.F.plain_dul _];show wpAny _ A.in1 (pyNext (.ref It)>>=_) _ _ _;rwa[wpAny_bind (W.done _ _ _ ⟨by rw [ae];exact aa,ad⟩ λh1 L J=> ?_)];have J:∀b u,b≠It->s.heap.get? b=some u->h1.get? b=some u:=λb u n e=>J b u (by simpa using n) e;have I0:ay X pins σ H s:=I.sub λp Z=> .tail _ Z
  have aE:∀x c,X.env.cells.lookup x=some c->c≠It:=λx c e z=>by
   obtain ⟨v,oc,h1,h2⟩:=I.cell x c e;rw [z,nI.1] at h1;cases h1;exact nI.2.2.2.2 v h2
  have I1:ay X pins σ H {s with heap:=h1,toks:=L}:=I0.turned (it:=It) J nI.2.1 nI.2.2.1 (.inr aq) aE ap
  have eH:upd H dd (.dK (gE kvs []))=H:=by
   funext b
   unfold upd gE;split
   ·rename_i e;rw [e,hd];rfl
   ·rfl
  rw [eH] at hR;exact wpAny_bind (wpAny_pure (wpAny_pure (hR _ I1)))
 |succ r ih=>
  intro j s H kvs ps t oI hr hj I Y aa hd Z hz hR
  have ah:j<xs.length:=by lia
  obtain ⟨us,S,ad⟩:=xc I Y
  have ae:us.toArray.size=xs.length:=by rw [size_toArray,S.length]
  have nI:=I.pin (It,oI) @bD
  have ac:l≠It:=λz=>by have:=nI.2.1;rw [<-z,Y] at this;cases this
  have W:=Walks.list (prog:=X.prog) (w:=X.w) (A:=A.in1) hh It l ac us.toArray;rw [drop_eq_getElem_cons ah] at Z
  obtain ⟨G,U,rfl,⟨b,eb,hb⟩,aC⟩:∃G U,ps=G::U/\(∃b,xs[j]=V.ref b/\H b=some (.tup [kV G.1,G.2]))/\Paired (λx (p:cr×V)=>∃b,x=V.ref b/\H b=some (.tup [kV p.1,p.2])) (xs.drop (j+1)) U:=by
   cases Z with
   |cons a c=>exact ⟨_,_,rfl,a,c⟩
  rwa[codeAny_builtin PySem.F.entry_dul ?_];rw [Around.under_plainId PySem.F.plain_dul _];show wpAny _ A.in1 (pyNext (.ref It)>>=_) _ _ _;rwa[wpAny_bind (W.item j _ _ _ (by rw [ae];exact ah) ⟨aa,ad⟩ λu h1 L hP an J=> ?_)]
  have hu:us[j]? =some u:=by simpa using hP
  have ru:aL (V.ref b) u:=by
   obtain ⟨u',al,ru⟩:=S.get (show xs[j]? =some (V.ref b) by rw [getElem?_eq_getElem ah,eb]);rw [hu] at al;cases al;exact ru
  cases (show u=Value.ref b from ru);obtain ⟨O,ai,az,ao⟩:=id an.1;have J:∀b u,b≠It->s.heap.get? b=some u->h1.get? b=some u:=λb u n e=>J b u (by simpa using n) e
  have I1:ay X ((It,O)::pins) σ H {s with heap:=h1,toks:=L}:=
   I.repin (t':=L) aq ap J ai λv e=>by rw [ao] at e;cases e
  obtain ⟨its,aB,ht,aG⟩:=I1.tuple (aK.of hb)
  obtain ⟨ku,vu,ak,rk,rv⟩:∃ku vu,its=[ku,vu]/\aL (kV G.1) ku/\aL G.2 vu:=by
   cases aB with|cons a t1=>cases t1 with|cons b t2=>cases t2;exact ⟨_,_,rfl,a,b⟩
  subst ak;show wpAny _ A.in1 (holding [Value.ref b] _>>=_) _ _ _;rwa[wpAny_bind (wpAny_holding ?_)];rwa[wpAny_bind (wpAny_tryCatch ?_)];unfold Builtin.Dict.pairItems;rwa[wpAny_bind (wpAny_typeOf ht.typeIs ?_)];rw [if_pos @c];obtain ⟨ot,as,aF,nt,aD⟩:=id ht;rwa[wpAny_bind (wpAny_seqItems as aD @cr)];show wpAny _ A.in1 (holding [ku,vu] (dictSet dd ku vu)) _ _ _;rwa[wpAny_holding ?_];obtain ⟨zk,av,vs,aj,dd'⟩:=Je I1.hok hd
  have aA:vs.length<=sizeLine:=by rw [<-aj.length];exact zk
  have ax:(eG kvs G.1 G.2).length<=sizeLine:=by have:=dO kvs G.1 G.2;rw [length_cons] at hz;lia
  rwa[wpAny_dictSet_pairs (hsz:=aA) (za rk) dd' λh2 am aw=> ?_];have he:∃q,h2.get? dd=some q:=let ⟨q,_,_,hq,_⟩:=am;⟨q,hq⟩;have I2:=xD (t':=L+1) I1 (by rw [hd];exact True.intro) aw he (B3 ax av (aj.put G.1 rv) am);have ar:=I2.pin (It,O) @bD
  have au:l≠dd:=λz=>by rw [z,hd] at Y;cases Y
  rwa[wpAny_pure ⟨plainId_quiet PySem.F.plain_dul _,?_⟩];rwa[ih (j+1) _ (upd H dd (.dK @he)) @he U _ O @b @b I2 (by rw [ag au];exact Y) ⟨O,ar.1,az,ao⟩ af (Paired.imp' (λx p ⟨c,ec,hc⟩=>⟨c,ec,by rw [ag (λz=>by rw [z,hd] at hc;cases hc)];exact hc⟩) aC) ?_ ?_]
  ·have:=dO kvs G.1 G.2;rw [length_cons] at hz;lia
  ·intro s' I';rw [Cm] at I';exact hR s' I'
def Nd (l:Addr)(H:Hp)(Q:VK):Prop:=∃(xs:List V) (ps:List (cr×V)),H l=some (.lst xs)/\Paired (λx (p:cr×V)=>∃b,x=V.ref b/\H b=some (.tup [kV p.1,p.2])) xs ps/\ps.length<sizeLine/\∀d,H d=none->Q (.ref d) (upd H d (.dK (gE [] ps)))
theorem EK {X:Cx}{pins:List (Addr×Obj)}{σ:St}{H:Hp}{s:Shared}{l:Addr}{Q:VK}(hh:X.A.handled=none)(I:ay X pins σ H s)(hP:Nd l H Q){E:Value->Shared->Prop}:
 wpAny @d X.A (call (.type "dict") [.ref l]) @u E s:=by
 obtain ⟨xs,ps,W,S,hz,q⟩:=hP;rwa[callType_codes (Q₁:=λJ s₁=>J= .ref s.heap.objs.size/\s₁= {s with heap:=s.heap.push {cls:= .type "dict",data:= .dict #[]}}) PySem.F.kt_called_dict (PySem.F.kt_typeCall_dict_1 _) PySem.F.entry_dict_init (kt_code_dict_new _ ⟨rfl,rfl⟩) ?_];rintro J s₁ ⟨rfl,rfl⟩;generalize hd:s.heap.objs.size=dd
 have Z:H dd=none:=by rw [<-hd];exact I.hok.fresh @f
 have G:(s.heap.push {cls:= .type "dict",data:= .dict #[]}).DictOf @fH dd []:=by rw [<-hd];exact Heap.DictOf.new s.heap
 have I1:ay X pins σ @cO {s with heap:=s.heap.push {cls:= .type "dict",data:= .dict #[]}}:=by
  have z:=I.laid (a:=s.heap.objs.size) (o:= .dK []) (t':=s.toks) (h':=s.heap.push {cls:= .type "dict",data:= .dict #[]}) (λb q hq=>Heap.get?_push_of_some _ hq) @f (B3 @fM (beq_eq_false_iff_ne.mpr (Ne.symm (Nat.ne_of_lt I.big))) .nil (Heap.DictOf.new s.heap));rw [hd] at z;exact z
 rwa[⟨G.typeIs,PySem.F.args_dict_init_2 _ _,?_⟩];unfold Builtin.«dict.__init__»;rwa[wpAny_bind ?_];unfold Builtin.Dict.selfAndRest;rwa[wpAny_bind (wpAny_notOrdered_dict G.typeIs ?_)];show wpAny _ _ (pure (dd,[Value.ref l])) _ _ _;rwa[wpAny_pure ?_];show wpAny _ _ (Builtin.Dict.updateFrom "dict.__init__" dd (.ref l) [] .none) _ _ _;unfold Builtin.Dict.updateFrom
 have au:l≠dd:=λz=>by rw [z,Z] at W;cases W
 have j:upd H dd (.dK []) l=some (.lst xs):=by rw [ag au];exact W
 obtain ⟨_,us,n,ac,ad⟩:=(show bh X.prog X.w _ _ l (.lst xs) from I1.hok l _ j);have U:({s with heap:=s.heap.push {cls:= .type "dict",data:= .dict #[]}}:Shared).TypeIs (.ref l) "list":=⟨_,ad,rfl⟩;rwa[wpAny_bind (wpAny_typeOf U ?_)];rw [if_pos @c];rwa[wpAny_bind (tx (by exact hh) ad λh' R k=> ?_)];rw [if_pos (show (none:Option Value).isNone=true from rfl)];rwa[wpAny_bind @fK];have O:ay X pins σ @cO {s with heap:=h',toks:=R}:=I1.kept (t':=R) k;obtain ⟨ae,aa,L⟩:=xc O j;rwa[wpAny_bind (wpAny_pyIter_list L ?_)]
 have I3:ay X ((h'.objs.size,{cls:= .type "list_iterator",data:= .fields #[.ref l,.int 0 0]})::pins) σ @cO {s with heap:=h'.push {cls:= .type "list_iterator",data:= .fields #[.ref l,.int 0 0]},toks:=R}:=
  O.pinNew (t':=R) (a:=h'.objs.size) @f (λb u e=>Heap.get?_push_of_some _ e) (Heap.get?_push_size _ rfl) λv e=>by cases e
 rwa[wpAny_pure ⟨plainId_quiet PySem.F.plain_dul _,?_⟩];rwa[Md (A:=X.A.in1) (xs:=xs) (l:=l) (It:=h'.objs.size) (dd:=dd) hh O.sz (λp S=>Nat.ne_of_lt (Heap.lt_size (O.pin p S).1)) _ 0 _ @cO [] ps _ _ rfl @fM I3 j ⟨_,Heap.get?_push_size _ rfl,rfl,rfl⟩ af ?_ ?_ ?_]
 ·exact Paired.imp' (λx p ⟨c,ec,Y⟩=>⟨c,ec,by rw [ag (λz=>by rw [z,Z] at Y;cases Y)];exact Y⟩) S
 ·rw [length_nil,Nat.zero_add];exact hz
 ·intro s' I';rw [Cm] at I';exact ⟨rfl,V.ref dd,_,I',rfl,q dd Z⟩
def NR:List V->Hp->VK->Prop:=λxs H Q=>match xs with|[.ref l]=>Nd l H Q|_=>False
theorem J6 {X:Cx}(J:X.calm=true):bi X (.type "dict") NR:=by
 intro pins s σ H xs j Q I r h
 match xs,h,r with
 |[.ref l],h,r=>
  cases r with
  |cons a t=>
   cases t;cases (show _=Value.ref l from a);exact EK @ez I h
end L2
namespace My
open PySem L2 PyProof.Rows
theorem Mv (a b:Nat):Builtin.bitAnd (a:Int) (b:Int)=((a&&&b:Nat):Int):=by
 unfold Builtin.bitAnd;simp
theorem OV (a b:Nat):Builtin.bitOr (a:Int) (b:Int)=((a|||b:Nat):Int):=by
 unfold Builtin.bitOr Builtin.bitAnd Builtin.bitNot
 have h1: ¬(0:Int)<= -(a:Int) - 1:=by lia
 have h2: ¬(0:Int)<= -(b:Int) - 1:=by lia
 simp only [h1,h2,decide_false]
 have e1:(-(-(a:Int) - 1) - 1).toNat=a:=by lia
 have e2:(-(-(b:Int) - 1) - 1).toNat=b:=by lia
 rw [e1,e2];lia
theorem testBit_and (M k:Nat):decide (M&&&2^k=0)= !M.testBit k:=by
 have e:(M&&&2^k).testBit k=M.testBit k:=by rw [Nat.testBit_and,Nat.testBit_two_pow_self,Bool.and_true]
 cases h:M.testBit k with
 |true=>
  rw [h] at e;rwa[decide_eq_false λz=> ?_];rw [z] at e;simp at e
 |false=>
  rwa[decide_eq_true (Nat.eq_of_testBit_eq λi=> ?_)];rw [Nat.testBit_and,Nat.zero_testBit];by_cases hi:k=i
  ·subst hi;rw [h];rfl
  ·rw [Nat.testBit_two_pow_of_ne hi,Bool.and_false]
noncomputable def kj (M n:Nat):List Nat:=(List.range n).filter λi=>M.testBit i
theorem lK (M n:Nat):kj M (n+1)=kj M n++if M.testBit n then [n] else []:=by
 unfold kj;rw [range_succ,filter_append];congr 1;cases h:M.testBit n<;>simp [h]
theorem vo {M n i:Nat}:i∈kj M n↔i<n/\M.testBit i=true:=by
 unfold kj;rw [mem_filter,mem_range]
noncomputable def L (M:Nat):Nat:=Builtin.Int.intBits (M:Int)
theorem JG (M:Nat):L M=if M=0 then 0 else M.log2+1:=by
 unfold L Builtin.Int.intBits;by_cases h:M=0
 ·subst h;rfl
 ·have:((M:Int)==0)=false:=beq_eq_false_iff_ne.mpr @b;rw [this,if_neg h];simp
theorem S4 (M:Nat):M<2^L M:=by
 rw [JG];split
 ·rename_i h;subst h;decide
 ·exact Nat.lt_log2_self
theorem S5 {M n:Nat}(h:M<2^n):L M<=n:=by
 rw [JG];split
 ·lia
 ·rename_i I;have:=(Nat.log2_lt I).mpr h;lia
theorem Cn {M:Nat}(h:M≠0):M.testBit (L M - 1)=true:=by
 rw [JG,if_neg h];have h1:=Nat.log2_self_le h;have h2:=Nat.lt_log2_self (n:=M);rw [Nat.add_sub_cancel,Nat.testBit_eq_decide_div_mod_eq];rwa[decide_eq_true ?_]
 have e:M / 2^M.log2=1:=by
  rwa[Nat.div_eq_of_lt_le @b ?_];rw [Nat.pow_succ] at h2;lia
 rw [e]
noncomputable def j3 (M:Nat):List Nat:=kj M (L M)
theorem mJ {M i:Nat}:i∈j3 M↔M.testBit i=true:=by
 unfold j3;rw [vo];rwa[⟨λh=>h.2,λh=>⟨?_,h⟩⟩];rwa[Nat.lt_of_not_le λj=> ?_];have:=Nat.testBit_lt_two_pow (Nat.lt_of_lt_of_le (S4 M) (Nat.pow_le_pow_right @c j));rw [this] at h;cases h
theorem Db {M n i:Nat}(h:M<2^n)(hi:i∈j3 M):i<n:=by
 have:=(vo.mp hi).1;have:=S5 h;lia
theorem EZ {M:Nat}(h:M≠0):∃l,j3 M=l++[L M - 1]:=by
 have j:L M=(L M - 1)+1:=by
  have:=JG M;rw [if_neg h] at this;lia
 rwa[⟨kj M (L M - 1),?_⟩]
 have e:j3 M=kj M ((L M - 1)+1):=by rw [<-j];rfl
 rw [e,lK,Cn h];rfl
theorem Jt {M:Nat}:j3 M=[]↔M=0:=by
 constructor
 ·intro h;rwa[Classical.byContradiction λz=> ?_];obtain ⟨l,e⟩:=EZ z;rw [h] at e;simp at e
 ·rintro rfl;rfl
noncomputable def pR (ks:List Nat):Nat:=ks.foldl (λacc k=>acc|||2^k) 0
theorem su:∀(ks:List Nat) (acc i:Nat),(ks.foldl (λacc k=>acc|||2^k) acc).testBit i=(acc.testBit i||decide (i∈ks))
 |[],acc,i=>by simp
 |k::ks,acc,i=>by
  rw [foldl_cons,su ks,Nat.testBit_or];by_cases h:k=i
  ·subst h;simp [Nat.testBit_two_pow_self]
  ·rw [Nat.testBit_two_pow_of_ne h];have h': ¬i=k:=λz=>h z.symm;simp [h']
end My
namespace L2
open PySem PySem.Spec PyProof.Rows
def aM (H H':Hp):Prop:=∀b o,(∀xs,o≠ .lst xs)->(∀C dx fs,o≠ .ins C dx fs)->H b=some o->H' b=some o
theorem aM.refl (H:Hp):aM H H:=λ_ _ _ _ e=>e
theorem aM.trans {H H1 H2:Hp}(a:aM H H1)(b:aM H1 H2):aM H H2:=λc o L Y e=>b c o L Y (a c o L Y e)
theorem aq.st {H H':Hp}(s:aq H H'):aM H H':=λb o _ _ e=>s b o e
theorem aM.updL {H:Hp}{a:Addr}{xs:List V}{o:HO}(h:H a=some (.lst xs)):aM H @W:=λb u L _ e=>by
 rw [ag (λz=>by rw [z,h] at e;cases e;exact L _ rfl)];exact e
theorem aM.updI {H:Hp}{a C dx:Addr}{fs:List (Str×V)}{o:HO}(h:H a=some (.ins C dx fs)):aM H @W:=λb u _ Y e=>by
 rw [ag (λz=>by rw [z,h] at e;cases e;exact Y _ _ _ rfl)];exact e
theorem aM.tup {H H':Hp}(s:aM H H'){a:Addr}{xs:List V}(h:H a=some (.tup xs)):H' a=some (.tup xs):=s a _ (λ_ z=>by cases z) (λ_ _ _ z=>by cases z) h
theorem aM.sqT {K:Fg}{H H':Hp}(s:aM H H'){a:Addr}{xs:List V}(h:aK K H a xs):aK K H' a xs:=by
 rcases h with (h|⟨u,h⟩)|h
 ·exact .inl (.inl (s.tup h))
 ·exact .inl (.inr ⟨u,s _ _ (λ_ z=>by cases z) (λ_ _ _ z=>by cases z) h⟩)
 ·exact .inr h
theorem aM.den {K:Fg}{H H':Hp}(s:aM H H'){x:V}{d:D}(h:bO K H x d)(F:L2.noL d=true):bO K H' x d:=by
 induction h with
 |non=>exact .non
 |bl b=>exact .bl b
 |int i=>exact .int i
 |str z=>exact .str z
 |lst h hl hi ih=>rw [L2.noL] at F;cases F
 |tup h hl hi ih=>
  rw [L2.noL] at F;exact .tup (s.sqT h) hl λi x d h1 h2=>ih i x d h1 h2 @fL
theorem aM.dens {K:Fg}{H H':Hp}(s:aM H H'){xs:List V}{ds:List D}(h:aI K H xs ds)(F:noLs ds=true):aI K H' xs ds:=
 PySem.Paired.of h.len λi x d h1 h2=>by
  obtain ⟨e,G,r⟩:=h.get1 h1;rw [h2] at G;cases G;exact s.den r @fL
theorem none_of {H H':Hp}(s:aq H H'){a:Addr}(h:H' a=none):H a=none:=by
 cases y:H a with
 |none=>rfl
 |some o=>rw [s _ _ y] at h;cases h
theorem Ie {a b:List D}(h1:noLs a=true)(h2:noLs b=true):noLs (a++b)=true:=by
 induction a with
 |nil=>exact h2
 |cons d a ih=>
  rw [noLs,Bool.and_eq_true] at h1;rw [cons_append,noLs,h1.1,ih h1.2];rfl
theorem ss {α β:Type}{R:α->β->Prop}{xs:List α}{ys:List β}{i:Nat}{x:α}{y:β}(h:Paired R xs ys)(r:R x y):Paired R (xs.set i x) (ys.set i y):=by
 have W:=h.len;rwa[PySem.Paired.of (by simp [W]) λj a b e1 e2=> ?_];by_cases F:i=j
 ·subst F
  have hi:i<xs.length:=by
   have:=(List.getElem?_eq_some_iff.mp e1).1;rwa [length_set] at this
  rw [getElem?_set_self hi] at e1;rw [getElem?_set_self @b] at e2;cases e1;cases e2;exact r
 ·rw [getElem?_set_ne F] at e1 e2;obtain ⟨L,h2,z⟩:=h.get1 e1;rw [e2] at h2;cases h2;exact z
theorem aJ.sqT {K:Fg}{H H':Hp}(s:aJ H H'){a:Addr}{xs:List V}(h:aK K H a xs):aK K H' a xs:=by
 rcases h with (h|⟨u,h⟩)|h
 ·exact .inl (.inl (s _ _ (λ_ z=>by cases z) h))
 ·exact .inl (.inr ⟨u,s _ _ (λ_ z=>by cases z) h⟩)
 ·exact .inr h
theorem aJ.sqL {K:Fg}{H H':Hp}(s:aJ H H'){a:Addr}{xs:List V}(h:aD K H a xs):aD K H' a xs:=by
 rcases h with (h|⟨u,h⟩)|h
 ·exact .inl (.inl (s _ _ (λ_ z=>by cases z) h))
 ·exact .inl (.inr ⟨u,s _ _ (λ_ z=>by cases z) h⟩)
 ·exact .inr h
theorem aJ.den {K:Fg}{H H':Hp}(s:aJ H H'){x:V}{d:D}(h:bO K H x d):bO K H' x d:=by
 induction h with
 |non=>exact .non
 |bl b=>exact .bl b
 |int i=>exact .int i
 |str z=>exact .str z
 |lst h hl hi ih=>exact .lst (s.sqL h) hl ih
 |tup h hl hi ih=>exact .tup (s.sqT h) hl ih
theorem aJ.dens {K:Fg}{H H':Hp}(s:aJ H H'){xs:List V}{ds:List D}(h:aI K H xs ds):aI K H' xs ds:=Paired.imp' (λ_ _ z=>s.den z) h
def ez (H H':Hp):Prop:=∀b o,(∀xs,o≠ .lst xs)->(∀C dx fs,o≠ .ins C dx fs)->(∀ps,o≠ .tbl ps)->H b=some o->H' b=some o
theorem ez.refl (H:Hp):ez H H:=λ_ _ _ _ _ e=>e
theorem ez.trans {H H1 H2:Hp}(a:ez H H1)(b:ez H1 H2):ez H H2:=λc o L Y U e=>b c o L Y U (a c o L Y U e)
theorem aM.sx {H H':Hp}(s:aM H H'):ez H H':=λb o L Y _ e=>s b o L Y e
theorem aJ.sx {H H':Hp}(s:aJ H H'):ez H H':=λb o _ _ U e=>s b o U e
theorem ez.sqT {K:Fg}{H H':Hp}(s:ez H H'){a:Addr}{xs:List V}(h:aK K H a xs):aK K H' a xs:=by
 rcases h with (h|⟨u,h⟩)|h
 ·exact .inl (.inl (s _ _ (λ_ z=>by cases z) (λ_ _ _ z=>by cases z) (λ_ z=>by cases z) h))
 ·exact .inl (.inr ⟨u,s _ _ (λ_ z=>by cases z) (λ_ _ _ z=>by cases z) (λ_ z=>by cases z) h⟩)
 ·exact .inr h
theorem ez.den {K:Fg}{H H':Hp}(s:ez H H'){x:V}{d:D}(h:bO K H x d)(F:L2.noL d=true):bO K H' x d:=by
 induction h with
 |non=>exact .non
 |bl b=>exact .bl b
 |int i=>exact .int i
 |str z=>exact .str z
 |lst h hl hi ih=>rw [L2.noL] at F;cases F
 |tup h hl hi ih=>
  rw [L2.noL] at F;exact .tup (s.sqT h) hl λi x d h1 h2=>ih i x d h1 h2 @fL
def GT (G:Hp->Prop):Prop:=∀H H',aM H H'->G H->G H'
def NT (H:Hp):Prop:=∀b ps,H b≠some (.tbl ps)
noncomputable def xV (H:Hp):Hp:=λb=>match H b with|some (.tbl _)=>none|o=>o
theorem Ic (H:Hp):NT (xV H):=λb ps h=>by
 unfold xV at h;split at h
 ·cases h
 ·rename_i x z;rw [h] at z;exact z _ rfl
theorem sI (H:Hp):aq (xV H) H:=λb o h=>by
 unfold xV at h;split at h
 ·cases h
 ·exact h
theorem oQ {H:Hp}{b:Addr}{o:HO}(h:H b=some o)(n:∀ps,o≠ .tbl ps):xV H b=some o:=by
 unfold xV;rw [h]
 cases o<;>first|rfl|exact absurd rfl (n _)
theorem CF (H:Hp):aJ H (xV H):=λ_ _ n h=>oQ h n
theorem Pr {H H':Hp}(s:aq (xV H) H'):aJ H H':=λb o n h=>s _ _ (oQ h n)
theorem aJ.onto {H0 H H':Hp}(j:NT H0)(s:aq H0 H)(s':aJ H H'):aq H0 H':=λb o h=>s' b o (λps z=>j b ps (by rw [h,z])) (s b o h)
theorem mG {H:Hp}{b:Addr}(h:H b=none):xV H b=none:=by unfold xV;rw [h]
open PySem.Calls PySem.W
section
variable {X:Cx}{K:Fg}
def Us (K:Fg)(a:Addr)(H:Hp)(Q:VK):Prop:=∃ns:List Int,aD K H a @U/\Q (.int ns.sum) H
def TR (K:Fg):List V->Hp->VK->Prop:=λxs H Q=>match xs with|[.ref a]=>Us K a H Q|_=>False
theorem ML (O:X.K=K)(R:X.calm=true):bi X (.builtin "sum") (TR K):=by
 subst O;intro pins s σ H xs W Q I r h
 match xs,h with
 |[.ref a],h=>
  obtain ⟨j,J,q⟩:=h;obtain ⟨u,rfl,z⟩:=fW r;have z:u=Value.ref a:=z;subst z;obtain ⟨its,L,pl,Y⟩:=I.list J;have hi:=CP L;obtain ⟨ys,F⟩:=hi.allInts.items;have G:s.heap.IsList a (intItems ys):=F▸pl.isList;rwa[sum_intListG @fG G λh' tk U S=> ?_]
  have e1:j=ys.toList.map (·.1):=by
   rw [<-nums_intItems,<-F];exact (show numsOf its.toArray.toList=j from hi.numsOf).symm
  have e2:preSum (numAt ys) ys.size=j.sum:=by
   rw [preSum_eq,take_of_length_le @e,e1]
  rw [e2];exact ⟨.int j.sum,H,I.kept S,⟨_,rfl⟩,q⟩
end
theorem uE.imp {P:Program}{w:World}{K:Frag}{mg:Str->Option Value}{base:Heap}{n m:Nat}{f:Addr}{sp j:Sp}(c:uE P w K mg base n f sp)(F:n<=m)(h:∀vs H Q E,j vs H Q E->sp vs H Q E):uE P w K mg base m f j:=
 ⟨λA outer s H z vs Q E U I r g=>c.run A outer s H z vs Q E (U.mono F) I r (h _ _ _ _ g),λvs H Q E G g=>c.keep vs H Q E G (h _ _ _ _ g)⟩
end L2
namespace My
open PySem L2 PyProof.Rows
noncomputable def zz:List Nat:=[48,49,50,51,52,53,54,55,56,57]
noncomputable def Fm (x:Str):Bool:=if x.length=0\/9<x.length then false else if x.cps.toList[0]? =some 48/\x≠s!"0" then false else x.cps.toList.all λc=>decide (c∈zz)
noncomputable def Ih (x:Str):Option Nat:=if Fm x=true then some (PySem.NumText.digitsVal x.cps.toList) else none
noncomputable def CD (x:Str):Option Int:=(Ih x).map λn:Nat=>(n:Int)
noncomputable def lk (fl:Nat):List Nat->Nat->Nat->Option Nat
 |[],_,lo=>some lo
 |k::ks,last,lo=>if last<k/\k<fl then lk fl ks k (lo+2^k) else none
abbrev Am:Str:=s!" "
noncomputable def Ta (s:Str):List Str:=Txt.split s Am
theorem Fu {ps:List Str}(I:ps≠[])(G:∀p∈ps,32∉p.cps.toList):Ta (Str.join Am ps)=ps:=AE (c:=32) (ts:=[]) @g @c @g I G
noncomputable def lT (i:Int):Str:=Str.ofString @gu
theorem tY {i:Int}(I:0<=i)(h1:i<=9):Ih (lT i)=some i.toNat/\(lT i).length=1/\∀c∈(lT i).cps.toList,48<=c/\c<=57:=by
 rcases (show i=0\/i=1\/i=2\/i=3\/i=4\/i=5\/i=6\/i=7\/i=8\/i=9 by lia) with rfl|rfl|rfl|rfl|rfl|rfl|rfl|rfl|rfl|rfl<;>decide+kernel
structure iV where
 start:Int
 room:Int
 turns:Int
 kind:Str
noncomputable def iV.ok (fl:Int)(l:iV):Bool:=decide (0<=l.start/\l.start<fl/\1<=l.room/\l.room<=6/\1<=l.turns/\l.turns<=4/\(l.kind=s!"plain"\/l.kind=s!"hasty"\/l.kind=s!"slow"))
noncomputable def Qs (fl:Int)(ls:List iV)(lo:Int)(so:Str):Bool:=decide (2<=fl/\fl<=8)&&decide (1<=ls.length/\ls.length<=3)&&ls.all @dE&&decide (0<=lo/\lo<2^fl.toNat/\lo% 2=0)&&decide (so=s!"free"\/so=s!"way")
theorem BC {fl:Int}{j:List iV}{lo:Int}{so:Str}:Qs fl j lo so=true↔(2<=fl/\fl<=8)/\(1<=j.length/\j.length<=3)/\j.all @dE=true/\(0<=lo/\lo<2^fl.toNat/\lo% 2=0)/\(so=s!"free"\/so=s!"way"):=by
 unfold Qs;simp only [Bool.and_eq_true,decide_eq_true_eq,and_assoc]
theorem Qe {i:Int}(I:0<=i)(h1:i<=9):32∉(lT i).cps.toList/\59∉(lT i).cps.toList:=by
 have:=(tY I h1).2.2;exact ⟨λz=>by have:=this 32 z;lia,λz=>by have:=this 59 z;lia⟩
theorem Ly {i:Int}(I:0<=i)(h1:i<=9):CD (lT i)=some i:=by
 unfold CD;rw [(tY I h1).1];show some ((i.toNat:Nat):Int)=some i;rw [Int.toNat_of_nonneg I]
end My
namespace My
open PySem L2 PyProof.Rows
noncomputable def Ti (bs:List Bool)(first:Int):Nat->Nat->Int
 |_,0=> -1
 |k,r+1=>if bs.getD ((first+k)% bs.length).toNat false=true then (first+k)% bs.length else Ti bs first (k+1) r
noncomputable def sf (bs:List Bool)(first:Int):Int:=Ti bs first 0 bs.length
structure Dm where
 pl:Int
 li:Int
 dr:Int
 mr:Int
 ab:List (Int×Int)
noncomputable def Dm.d (c:Dm):D:= .tup [.int c.pl,.int c.li,.int c.dr,.int c.mr,.tup (c.ab.map λq=> .tup [.int q.1,.int q.2])]
noncomputable def Dm.srv (c:Dm):Bool:=decide (c.mr=0)
structure Rd where
 t:Int
 s:Int
 g:Int
 l:Int
noncomputable def Rd.d (r:Rd):D:= .tup [.int r.t,.int r.s,.int r.g,.int r.l]
noncomputable def mF (w:Str)(is:List Int):Str:=Str.join Am (w::is.map lT)
theorem Ft {w:Str}{j:List Int}(z:32∉w.cps.toList)(h:∀i∈j,0<=i/\i<=9):Ta (mF w j)=w::j.map lT:=Fu @e λp G=>by
 rcases mem_cons.mp G with rfl|G
 ·exact z
 ·obtain ⟨i,hi,rfl⟩:=mem_map.mp G;exact (Qe (h i hi).1 (h i hi).2).1
end My
namespace L2
open PySem PySem.Spec PyProof.Rows
noncomputable def Ut (bs:List Bool)(n:Nat):List Nat:=(List.range n).filter λi=>bs.getD i false
noncomputable abbrev srv (bs:List Bool):List Nat:=Ut bs bs.length
end L2
namespace My
open PySem L2 PyProof.Rows
abbrev d0:Str:=s!"0"
abbrev d1:Str:=s!"1"
abbrev d2:Str:=s!"2"
abbrev Ru:Str:=s!"near"
abbrev N5:Str:=s!"least"
abbrev N2:Str:=s!"turns"
abbrev Rn:Str:=s!"zone"
abbrev dF:Str:=s!"fixed"
inductive Kd where
 |near
 |least
 |turns
 |zone (is:List Int)
 |fixed (is:List Int)
noncomputable def Kd.nm:Kd->Str
 | .near=>Ru
 | .least=>N5
 | .turns=>N2
 | .zone _=>Rn
 | .fixed _=>dF
noncomputable def Kd.is:Kd->List Int
 | .zone is=>is
 | .fixed is=>is
 |_=>[]
def Kd.ok (fl:Int)(n:Nat):Kd->Prop
 | .zone is=>(is.length:Int)=fl/\∀i∈is,0<=i/\i<(n:Int)
 | .fixed is=>1<=is.length/\is.length<=9/\∀i∈is,0<=i/\i<(n:Int)
 |_=>True
noncomputable def wt (ts:List Str):Nat:=(ts.map (·.length)).sum+2*ts.length
end My
namespace L2
open PySem PySem.Spec PySem.Calls PyProof.Rows PySem.W
def Od (K:Fg)(a:Addr)(H:Hp)(Q:VK):Prop:=∃ns:List Int,aD K H a @U/\ns.length<64/\∀l ns',H l=none->List.Perm ns' ns->Q (.ref l) (upd H l (.lst (ns'.map V.int)))
def TU (K:Fg):List V->Hp->VK->Prop:=λxs H Q=>match xs with|[.ref a]=>Od K a H Q|_=>False
theorem Fz {X:Cx}{K:Fg}(L:X.K=K):bi X (.builtin "sorted") (TU K):=by
 subst L;intro pins s σ H xs U Q I r h
 match xs,h with
 |[.ref a],h=>
  obtain ⟨Z,J,Y,q⟩:=h;obtain ⟨u,rfl,F⟩:=fW r;have F:u=Value.ref a:=F;subst F;obtain ⟨its,G,pl,W⟩:=I.list J;have hi:=CP G;have O:=G.length;rw [length_map] at O;rwa[sorted_ints pl.isList hi @b λz j h1 h2 R=> ?_];obtain ⟨e,S⟩:=sortedAll_at s.heap its z;rwa[⟨.ref (s.heap.objs.size+1),_,I.laid (a:=s.heap.objs.size+1) (o:= .lst (j.map V.int)) (t':=s.toks) (λb u=>sortedAll_old) @bC ⟨by rw [length_map,h2.length_eq];show _<=2^_;lia,z.toList,e,nK h1,by rw [Array.toArray_toList];exact S⟩,rfl,q _ j @ff h2⟩]
theorem Uu {K:Fg}{a:Addr}{ns:List Int}{H:Hp}{Q:VK}(h:aD K H a @U)(h2:ns.length<64)(g:∀l ns',H l=none->List.Perm ns' ns->Q (.ref l) (upd H l (.lst (ns'.map V.int)))):Od K a H Q:=⟨ns,h,h2,g⟩
def N6 (td:TE):TE:=λσ H Q=>td σ H λx H1=>∃a kvs,x= .ref a/\H1 a=some (.dK kvs)/\∀p,H1 p=none->Q (.ref p) (upd H1 p (.lst (kvs.map (·.2))))
theorem Dp {kvs:List (cr×V)}{vs:List (cr×Value)}{us:List Value}(r:KV kvs vs)(W:us.length=vs.length)(h:∀(j:Nat) v,us[j]? =some v->∃k,vs[j]? =some (k,v)):aO (kvs.map (·.2)) us:=by
 rwa[PySem.Paired.of (by rw [length_map,W];exact r.length) λj x v e1 e2=> ?_];rw [getElem?_map] at e1;obtain ⟨p,F,rfl⟩:=Option.map_eq_some_iff.mp e1;obtain ⟨k,S⟩:=h j v e2;obtain ⟨q,G,_,z⟩:=Paired.get1 r F;rw [S] at G;cases G;exact z
theorem yf {X:Cx}{o:Expr}{td:TE}{p1 z apos cpos:Pos}(hc:X.calm=true)(S:Gl X "list")(Y:X.mg "list"=none)(ho:PE X o td)
(hb:attributeBase o "values" X.env @er=eval o X.env:=by rfl)
(hf:((backTo cpos @cN).all (λx=> !x.1)&&(backToKw cpos @cv).all @da&&decide (([]:List Expr).length+([]:List Keyword).length+(if ([]:List Keyword).isEmpty then 0 else 1)<30))=true:=by rfl)
(hl:(apos.endLine==cpos.line)=true:=by rfl)(ht:backTo cpos @cN=[]:=by rfl):
 PE X (.Call (.Name "list" p1) [.Call (.Attribute o "values" apos) [] [] cpos] [] z) (N6 td):=by
 intro pins s σ H Q I h;have aq:starEach [Expr.Call (.Attribute o "values" apos) [] [] cpos] X.env=[(false,eval (.Call (.Attribute o "values" apos) [] [] cpos) X.env)]:=aP (by rfl);rwa[wpAny_Call_Name_kw (ly I S Y boot_list ?_)];rwa[PyProof.Rows.callWith_type1 ?_ aq (br (by rfl))];rw [aq];show wpAny _ _ (spliced ((false,eval (.Call (.Attribute o "values" apos) [] [] cpos) X.env)::backTo z @cN)) _ _ s;rwa[Calls.spliced_cons ?_];rwa[wpAny_Call_method hb hf hl PySem.F.plainAttrs_dict PySem.F.slot_dict_values PySem.F.type_dict_values (bz (ho pins s σ H _ I h) λu U ⟨x,H1,R,rx,a,J,ex,Z,q⟩=> ?_)];subst ex;obtain rfl:u=Value.ref a:=rx;obtain ⟨t1,t2,_⟩:=PZ R (.inl ⟨J,.inl Z⟩);rwa[⟨t1,t2,?_⟩];rw [ht];rwa[Calls.callWith_builtin rfl (PySem.evalArgs_none ?_)];obtain ⟨hz,hd,vs,G,dd⟩:=Je R.hok Z;rwa[call_meetsIn PySem.F.slot_dict_values dd.typeIs PySem.F.entry_dict_values (PySem.F.args_dict_values_1 _) (meets_dict_values @fH a hd) ⟨⟨vs,dd⟩,?_⟩];rwa[Calls.spliced_nil ?_];obtain ⟨ep,hm⟩:=dd.dictAt;have aa:=G.length;rwa[W.kdl_call (W.kdl_values (knd:=bV X.prog X.w) (r:=U.heap.objs.size) (d:=a) (kvs:=vs) (ep:=ep)) (R.ok.hd hc) ⟨⟨_,Heap.get?_push_size _ rfl,rfl,rfl⟩,hm.push _⟩ @b λh' tk O c' hk hS ap=> ?_]
 have L:∀o:Obj,U.heap.objs.size<=(U.heap.push o).objs.size:=λo=>by rw [Heap.size_push];lia
 rwa[⟨.ref _,_,R.laid (o:= .lst (J.map (·.2))) (λb o e=>hk b o (Heap.get?_push_of_some _ e)) (L _) ⟨by rw [length_map];exact hz,O.toList,c',?_,by rw [Array.toArray_toList];exact hS⟩,rfl,q _ (R.hok.fresh (L _))⟩];exact Dp G (by rw [Array.length_toList];exact ap.1) λj v e=>ap.2 j v (by rw [<-Array.getElem?_toList];exact e)
def NF (K:Frag)(x:Str)(st:Stmt)(f:Addr):Prop:=nsIn K mainGlobals x=some @J/\∃fd,be K x x st f fd
def MF (K:Frag)(C:Addr)(x q:Str)(st:Stmt)(f:Addr):Prop:=JE K C x f/\∃fd,be K x q st f fd
theorem Sh {K:Frag}{x:Str}{st:Stmt}{f:Addr}{R:Value}{od Z:Option Addr}{ac:Array @T}{W Y F j I:Value}(a:nsIn K mainGlobals x=some @J)(l:K.lookup f=some ⟨R,od,.func (fnOf x x @fh @dN @cf .none W Y F Z j I),ac⟩)(c:codeIn K j x=true)(k:keepIn K (.ref f)=true):NF K x st f:=⟨a,_,BX l c k⟩
theorem Sm {K:Frag}{C:Addr}{x q:Str}{st:Stmt}{f:Addr}{R:Value}{od Z:Option Addr}{ac:Array @T}{W Y F j I:Value}(a:findIn K (.ref C) x=some @J)(l:K.lookup f=some ⟨R,od,.func (fnOf x q @fh @dN @cf .none W Y F Z j I),ac⟩)(c:codeIn K j q=true)(k:keepIn K (.ref f)=true)(n:isFn K (.ref f)=true):MF K C x q st f:=⟨⟨a,n,k⟩,_,BX l c k⟩
structure m9 (P:Program)(w:World)(K:Frag)(mg:Str->Option Value)(base:Heap)(h:Heap):Prop where
 X:K.In h
 G:h.Ns mainGlobals mg
def BA (x q:Str)(st:Stmt)(us:List Value)(ps:List Str):Prop:=∀(kV doc pm:Value) (an:Option Addr) (cdv ct:Value),bindArgs (fnOf x q @fh @dN @cf .none kV doc pm an cdv ct) ⟨us,[]⟩=pure @ce
def Qz (x q:Str)(st:Stmt)(ps0:List Str):List Str->List Value->Prop
 |[],us=>BA x q st us ps0
 |_::ps,us=>∀a,Qz x q st ps0 ps (us++[a])
def BN (x q:Str)(st:Stmt)(ps:List Str):Prop:=Qz x q st ps ps []
theorem Qz.all {x q:Str}{st:Stmt}{j:List Str}:∀ {ps:List Str} {us vs:List Value},Qz x q st j ps us->vs.length=ps.length->BA x q st (us++vs) j
 |[],us,[],h,_=>by rw [append_nil];exact h
 |_::ps,us,v::vs,h,hl=>by
  have z:=Qz.all (h v) (Nat.succ.inj hl);rw [append_assoc] at z;exact z
theorem BN.all {x q:Str}{st:Stmt}{ps:List Str}(h:BN x q st ps)(us:List Value)(W:us.length=ps.length):BA x q st us ps:=Qz.all (us:=[]) h W
section
variable {P:Program}{w:World}{K:Frag}{mg:Str->Option Value}{base h:Heap}{x q:Str}{st:Stmt}{f C:Addr}{fd:FuncData}{ps:List Str}{n:Nat}{sp:Sp}
theorem be.bn (F:be K x q st f fd)(b:BN x q st ps):fv K fd ps []:=F.binds λW Y J Z j I z G=>b.all z G W Y J Z j I
theorem m9.gl (T:m9 P w K mg base h){v:Value}(a:nsIn K mainGlobals x=some @bG):mg x=some v:=mg_of T.X T.G a
theorem m9.no (T:m9 P w K mg base h)(a:nsIn K mainGlobals x=some none):mg x=none:=mg_none_of T.X T.G a
theorem m9.ok {CX:nz}(T:m9 P w K mg base h)(o:ax P w K mg base CX n f fd ps sp):ax P w K mg base CX n f fd ps sp:=o
theorem m9.cal (T:m9 P w K mg base h)(a:nsIn K mainGlobals x=some @J)(F:be K x x st f fd)(o:ax P w K mg base aY n f fd ps sp)(b:BN x x st ps:=by (repeat intro _);rfl):bp P w K mg base n x ps sp:=⟨_,_,o,F.bn b,F.kp,T.gl a⟩
theorem m9.calX (T:m9 P w K mg base h)(a:nsIn K mainGlobals x=some @J)(F:be K x x st f fd)(o:ax P w K mg base @V n f fd ps sp)(b:BN x x st ps:=by (repeat intro _);rfl):nq P w K mg base n x ps sp:=⟨_,_,o,F.bn b,F.kp,T.gl a⟩
theorem m9.calH {sp:Addr->Sp}(T:m9 P w K mg base h)(a:nsIn K mainGlobals x=some @J)(F:be K x x st f fd)(o:Ah P w K mg base n f fd ps sp)(b:BN x x st ps:=by (repeat intro _);rfl):MK P w K mg base n x ps sp:=⟨_,_,o,F.bn b,F.kp,T.gl a⟩
theorem UI {CX:nz}(F:be K x q st f fd)(c:vQ K C)(m:JE K C x f)(o:ax P w K mg base CX n f fd ps sp)(b:BN x q st ps:=by (repeat intro _);rfl):iB P w K mg base CX n x C sp:=⟨_,_,_,c,m,o,F.bn b⟩
theorem m9.mkc {CX:nz}{y:Str}(T:m9 P w K mg base h)(F:be K x q st f fd)(m:Mk K C f)(g:mg y=some (.ref C))(o:ax P w K mg base CX n f fd ps sp)(b:BN x q st ps:=by (repeat intro _);rfl):iM P w K mg base CX n y C sp:=⟨_,_,_,m,o,F.bn b,g⟩
theorem m9.xmk {y fld:Str}(T:m9 P w K mg base h)(F:be K x q st f fd)(m:XI K C f)(g:mg y=some (.ref C))(o:ax P w K mg base aY n f fd ps (FZ C fld))(b:BN x q st ps:=by (repeat intro _);rfl):Tp P w K mg base n y C fld:=⟨_,_,_,m,o,F.bn b,g⟩
theorem m9.cal' (T:m9 P w K mg base h)(a:NF K x st f)(o:∀ {fd},be K x x st f fd->ax P w K mg base aY n f fd ps sp)(b:BN x x st ps:=by (repeat intro _);rfl):bp P w K mg base n x ps sp:=let ⟨a,_,F⟩:=a;T.cal a F (o F) b
theorem m9.calX' (T:m9 P w K mg base h)(a:NF K x st f)(o:∀ {fd},be K x x st f fd->ax P w K mg base @V n f fd ps sp)(b:BN x x st ps:=by (repeat intro _);rfl):nq P w K mg base n x ps sp:=let ⟨a,_,F⟩:=a;T.calX a F (o F) b
theorem m9.calH' {sp:Addr->Sp}(T:m9 P w K mg base h)(a:NF K x st f)(o:∀ {fd},be K x x st f fd->Ah P w K mg base n f fd ps sp)(b:BN x x st ps:=by (repeat intro _);rfl):MK P w K mg base n x ps sp:=let ⟨a,_,F⟩:=a;T.calH a F (o F) b
theorem m9.mcal' {D:Addr}{CX:nz}(T:m9 P w K mg base h)(a:MF K D x q st f)(c:vQ K C)(m:JE K C x f)(o:∀ {fd},be K x q st f fd->ax P w K mg base CX n f fd ps sp)(b:BN x q st ps:=by (repeat intro _);rfl):iB P w K mg base CX n x C sp:=let ⟨_,_,F⟩:=a;UI F c m (o F) b
theorem m9.mkc' {D:Addr}{CX:nz}{y:Str}(T:m9 P w K mg base h)(a:MF K D x q st f)(m:Mk K C f)(g:mg y=some (.ref C))(o:∀ {fd},be K x q st f fd->ax P w K mg base CX n f fd ps sp)(b:BN x q st ps:=by (repeat intro _);rfl):iM P w K mg base CX n y C sp:=let ⟨_,_,F⟩:=a;T.mkc F m g (o F) b
theorem m9.xmk' {D:Addr}{y fld:Str}(T:m9 P w K mg base h)(a:MF K D x q st f)(m:XI K C f)(g:mg y=some (.ref C))(o:∀ {fd},be K x q st f fd->ax P w K mg base aY n f fd ps (FZ C fld))(b:BN x q st ps:=by (repeat intro _);rfl):Tp P w K mg base n y C fld:=let ⟨_,_,F⟩:=a;T.xmk F m g (o F) b
theorem be.law {y:Str}(F:be K x q st f fd)(b:BN x q st [y]:=by (repeat intro _);rfl)(s:Shared)(v:Value):BindsTo s fd ⟨[v],[]⟩ [(y,v)]:=by
 obtain ⟨R,L,W,Y,G,Z,j,I,ac,rfl,J,z⟩:=F.ex;exact .of_eq (b v W Y G Z j I)
end
theorem Vi {p:Prop}(h:p):p:=h
end L2
namespace My
open PySem L2 PyProof.Rows
seal PE PT PS uG PA PI PG E6 JB PW PO dz Qu bi E9 Ao Ql JC
seal vv jf pK wq Mm rE CQ lC rD vi zc Mt Mx y7 Ds zd setL FK BY ug uF E7 Ch iF CW Kh zB
seal Jq lD BM L2.zw L2.putAt L2.xa gD LY iP Tl Tn Mn Mu FT
def top (i:Nat):Stmt:=PySem.Challenge.pw_liftcourt_k70_dealt.main.body.getD i (.Pass ⟨0,0,0,0⟩)
abbrev OC:Stmt:=top 1
theorem RB:ai ["k"] ["k"] (ae OC):=by ac_rfl
abbrev OB:Stmt:=top 2
theorem RA:ai ["mask","k"] ["mask","k"] (ae OB):=by ac_rfl
abbrev rM:Stmt:=top 3
theorem DD:ai ["mask","k"] ["mask","k"] (ae rM):=by ac_rfl
abbrev Bg:Stmt:=top 5
theorem Ky:ai ["mask","k"] ["mask","k"] (ae Bg):=by ac_rfl
abbrev Bh:Stmt:=top 6
theorem Kz:ai ["mask","k"] ["mask","k"] (ae Bh):=by ac_rfl
abbrev wJ:Stmt:=top 7
theorem Gs:ai ["numbers","mask","k"] ["numbers"] (ae wJ):=by ac_rfl
abbrev wL:Stmt:=top 8
theorem Gv:ai ["mask"] ["mask"] (ae wL):=by ac_rfl
abbrev wK:Stmt:=top 9
theorem Gu:ai ["mask","numbers"] ["mask"] (ae wK):=by ac_rfl
abbrev rY:Stmt:=top 10
theorem DL:ai ["mask"] ["mask"] (ae rY):=by ac_rfl
abbrev se:Stmt:=top 12
theorem DS:ai ["lift"] ["lift"] (ae se):=by ac_rfl
abbrev rZ:Stmt:=top 13
theorem DM:ai ["cabin"] ["cabin"] (ae rZ):=by ac_rfl
abbrev ia:Stmt:=top 14
theorem uX:ai ["cabin"] ["cabin"] (ae ia):=by ac_rfl
abbrev Ba:Stmt:=top 15
theorem Ku:ai ["start","goal"] ["start","goal"] (ae Ba):=by ac_rfl
abbrev rP:Stmt:=top 16
theorem DG:ai ["room","cabin","riders","goals"] ["room","cabin","riders"] (ae rP):=by ac_rfl
abbrev k9:Stmt:=top 17
theorem pO:ai ["floor","light","riders","ways"] ["floor","light","riders"] (ae k9):=by ac_rfl
abbrev wR:Stmt:=top 18
theorem GE:ai ["sort","cabin","tasks","riders","floor","light"] ["sort","cabin","tasks","riders"] (ae wR):=by ac_rfl
abbrev GM:Stmt:=top 19
theorem Ov:ai ["sort","room","cabin","riders","floor","tasks","next_up","next_down","up","down"] ["sort","room","cabin","riders"] (ae GM):=by ac_rfl
abbrev wD:Stmt:=top 20
theorem Go:ai ["sort","cabin","word","goals","light"] ["sort","cabin","word"] (ae wD):=by ac_rfl
abbrev sh:Stmt:=top 21
theorem DT:ai ["floors","cabin","word"] ["floors","cabin","word"] (ae sh):=by ac_rfl
abbrev g9:Stmt:=top 22
theorem uR:ai ["cabin","place","light","door"] ["cabin","place","light","door"] (ae g9):=by ac_rfl
abbrev rQ:Stmt:=top 23
theorem DH:ai ["sort","floors","turns","cabin","word","place","light","door","done"] ["sort","floors","turns","cabin","word"] (ae rQ):=by ac_rfl
abbrev kY:Stmt:=top 24
theorem yJ:ai ["sort","light","start","goal"] ["sort","light","start","goal"] (ae kY):=by ac_rfl
abbrev lj:Stmt:=top 25
theorem dM:ai ["sort","room","cabin","riders","floor","light","outs","ins","aboard","tag","start","goal","lift"] ["sort","room","cabin","riders"] (ae lj):=by ac_rfl
abbrev gj:Stmt:=top 43
theorem rF:ai ["text"] ["text"] (ae gj):=by ac_rfl
abbrev oy:Stmt:=top 44
theorem A2:ai ["text"] ["text"] (ae oy):=by ac_rfl
abbrev k6:Stmt:=top 48
theorem yL:ai ["cabin"] ["cabin"] (ae k6):=by ac_rfl
abbrev hJ:Stmt:=top 50
theorem uU:ai ["cabins","first","many","step","lift"] ["cabins","first"] (ae hJ):=by ac_rfl
abbrev Ct:Stmt:=top 54
abbrev cu:Stmt:=top 55
theorem DN:ai ["lifts"] ["lifts"] (ae cu):=by ac_rfl
abbrev kT:Stmt:=top 56
theorem pM:ai ["words","house","lifts"] ["words","house"] (ae kT):=by ac_rfl
abbrev oK:Stmt:=top 57
theorem A9:ai ["text","house","words","lifts"] ["text","house"] (ae oK):=by ac_rfl
abbrev kU:Stmt:=top 59
theorem yI:ai ["house","floor"] ["house","floor"] (ae kU):=by ac_rfl
abbrev oz:Stmt:=top 61
theorem A3:ai ["house","start","goal"] ["house","start","goal"] (ae oz):=by ac_rfl
abbrev oA:Stmt:=top 62
theorem A4:ai ["house","deed"] ["house","deed"] (ae oA):=by ac_rfl
abbrev wT:Stmt:=top 67
theorem GH:ai ["kind","turns"] ["kind","turns"] (ae wT):=by ac_rfl
abbrev oF:Stmt:=top 76
theorem A6:ai ["floors","start","room","turns","kind"] ["floors","start","room","turns","kind"] (ae oF):=by ac_rfl
abbrev lh:Stmt:=top 77
theorem yN:ai ["floors","lifts"] ["floors","lifts"] (ae lh):=by ac_rfl
abbrev jm:Stmt:=top 78
theorem wA:ai ["floors","locked"] ["floors","locked"] (ae jm):=by ac_rfl
abbrev kZ:Stmt:=top 79
theorem yK:ai ["floors","lifts","locked","sort"] ["floors","lifts","locked","sort"] (ae kZ):=by ac_rfl
abbrev wH:Stmt:=top 80
theorem Gr:ai ["house","lift"] ["house","lift"] (ae wH):=by ac_rfl
abbrev rO:Stmt:=top 81
theorem DF:ai ["house","lift"] ["house","lift"] (ae rO):=by ac_rfl
abbrev wQ:Stmt:=top 82
theorem Gz:ai ["house","lift"] ["house","lift"] (ae wQ):=by ac_rfl
abbrev rR:Stmt:=top 87
theorem DI:ai ["moment"] ["moment"] (ae rR):=by ac_rfl
abbrev wE:Stmt:=top 88
theorem yF:ai ["state","tags","place","light","door","marks","aboard"] ["state"] (ae wE):=by ac_rfl
abbrev kW:Stmt:=top 89
theorem pN:ai ["house","state","deeds","taken","deed"] ["house","state","deeds"] (ae kW):=by ac_rfl
abbrev wV:Stmt:=top 90
theorem GJ:ai ["moment","tag","start","goal","key"] ["moment","tag","start","goal","key"] (ae wV):=by ac_rfl
abbrev r9:Stmt:=top 91
theorem DO:ai ["rider","lift"] ["rider","lift"] (ae r9):=by ac_rfl
abbrev wU:Stmt:=top 98
theorem GI:ai ["moment","deed","name"] ["moment","deed"] (ae wU):=by ac_rfl
abbrev Cu:Stmt:=top 99
theorem GK:ai ["moment","dealer","place","rider","told"] ["moment","dealer","place","rider"] (ae Cu):=by ac_rfl
abbrev mx:Stmt:=top 100
theorem DP:ai ["moment","dealer","place","rider"] ["moment","dealer"] (ae mx):=by ac_rfl
abbrev oB:Stmt:=top 101
theorem A5:ai ["moment","word","tags","lift","floor"] ["moment","word","tags","lift"] (ae oB):=by ac_rfl
abbrev oG:Stmt:=top 104
theorem rL:ai ["moment","lift","riders","house","told","cabin","outs","ins","door","count"] ["moment","lift","riders"] (ae oG):=by ac_rfl
abbrev oE:Stmt:=top 105
theorem rK:ai ["moment","rule","lift","riders","house","cabin","word"] ["moment","rule","lift","riders"] (ae oE):=by ac_rfl
abbrev fF:Stmt:=top 106
theorem iI:ai ["moment","rule","lift","cabin","riders"] ["moment","rule","lift"] (ae fF):=by ac_rfl
abbrev Uw:Stmt:=top 107
theorem Uv:ai ["moment","rule","lift"] ["moment","rule","lift"] (ae Uw):=by ac_rfl
abbrev sd:Stmt:=top 110
theorem DQ:ai ["deeds"] ["deeds"] (ae sd):=by ac_rfl
abbrev Oy:Stmt:=top 111
theorem MW:ai ["court","state","day","steps","before","deeds","step"] ["court","state","day"] (ae Oy):=by ac_rfl
abbrev wS:Stmt:=top 112
theorem GF:ai ["entry","goal"] ["entry","goal"] (ae wS):=by ac_rfl
abbrev Be:Stmt:=top 113
theorem mv:ai ["day","steps","goals","told","number","step","name","tag","start","goal","key","entry"] ["day","steps"] (ae Be):=by ac_rfl
abbrev wB:Stmt:=top 114
theorem Gn:ai ["came","fate","at","turns"] ["came","fate","at","turns"] (ae wB):=by ac_rfl
abbrev rN:Stmt:=top 115
theorem DE:ai ["fates_told","turns"] ["fates_told","turns"] (ae rN):=by ac_rfl
abbrev jh:Stmt:=top 117
theorem wr:ai ["house","riders","came","start","goal"] ["house","riders"] (ae jh):=by ac_rfl
abbrev lq:Stmt:=top 118
theorem yP:ai ["riders","turn"] ["riders","turn"] (ae lq):=by ac_rfl
abbrev jg:Stmt:=top 119
theorem g8:ai ["house","rule","dealer","riders","turns","court","day"] ["house","rule","dealer","riders","turns"] (ae jg):=by ac_rfl
abbrev Bf:Stmt:=top 120
theorem Kx:ai ["house","rule","riders","dealing","turns"] ["house","rule","riders","dealing","turns"] (ae Bf):=by ac_rfl
abbrev rT:Stmt:=top 126
theorem DK:ai ["house","rule","riders","turns","lifts","waits","dealing","cuts","bounds","kept"] ["house","rule","riders","turns"] (ae rT):=by ac_rfl
abbrev Bb:Stmt:=top 131
theorem Kv:ai ["light","here","up","down"] ["light","here","up","down"] (ae Bb):=by ac_rfl
abbrev rS:Stmt:=top 132
theorem DJ:ai ["here","up","down"] ["here","up","down"] (ae rS):=by ac_rfl
abbrev oq:Stmt:=top 133
theorem AZ:ai ["top","floor","light","here","at_end"] ["top","floor","light","here"] (ae oq):=by ac_rfl
abbrev gk:Stmt:=top 134
theorem rH:ai ["light","here","up","down"] ["light","here","up","down"] (ae gk):=by ac_rfl
abbrev wF:Stmt:=top 135
theorem Gp:ai ["place"] ["place"] (ae wF):=by ac_rfl
abbrev si:Stmt:=top 141
theorem DU:ai ["rule"] ["rule"] (ae si):=by ac_rfl
abbrev wG:Stmt:=top 142
theorem Gq:ai ["text","floors"] ["text","floors"] (ae wG):=by ac_rfl
abbrev Bd:Stmt:=top 144
theorem Kw:ai ["_law_script","_law_k","_law_many","_law_cell"] ["_law_script","_law_k","_law_many"] (ae Bd):=by ac_rfl
abbrev Bc:Stmt:=top 145
theorem wy:ai ["_law_script","_law_floors","_law_way","_law_letters","_law_at"] ["_law_script","_law_floors"] (ae Bc):=by ac_rfl
abbrev wO:Stmt:=top 146
theorem Gx:ai ["_law_script","_law_floors","_law_lifts","_law_k","_law_door","_law_room","_law_locked"] ["_law_script"] (ae wO):=by ac_rfl
abbrev rX:Stmt:=top 147
theorem jM:ai ["_law_e","_law_some"] ["_law_e"] (ae rX):=by ac_rfl
abbrev wM:Stmt:=top 148
theorem Gw:ai ["_law_thing"] ["_law_thing"] (ae wM):=by ac_rfl
abbrev rW:Stmt:=top 149
theorem vk:ai ["_law_script","_law_floors","_law_turns","_law_many","_law_turns_of","_law_riders_here","_law_k","_law_start"] ["_law_script","_law_floors","_law_turns"] (ae rW):=by ac_rfl
abbrev wN:Stmt:=top 150
theorem rJ:ai ["_law_court","_law_riders_here","_law_turns","_law_state","_law_waits_here","_law_turn","_law_deeds","_law_tag","_law_log","_law_row"] ["_law_court","_law_riders_here","_law_turns"] (ae wN):=by ac_rfl
abbrev rV:Stmt:=top 151
theorem fB:ai ["_law_script","_law_riders_here","_law_floors","_law_some","_law_k","_law_at","_law_came","_law_start","_law_goal","_law_way","_law_far"] ["_law_script","_law_riders_here","_law_floors"] (ae rV):=by ac_rfl
abbrev GN:Stmt:=top 152
theorem Ow:ai ["_law_riders_here","_law_floors","_law_came","_law_start","_law_goal","_law_floor"] ["_law_riders_here","_law_floors"] (ae GN):=by ac_rfl
abbrev wP:Stmt:=top 153
theorem Gy:ai ["_law_way","_law_house_here","_law_rule_here","_law_riders_here","_law_dealing","_law_turns"] ["_law_way","_law_house_here","_law_rule_here","_law_riders_here","_law_dealing","_law_turns"] (ae wP):=by ac_rfl
abbrev oC:Stmt:=top 154
theorem dH:ai ["_law_way","_law_house_here","_law_rule_here","_law_riders_here","_law_dealing","_law_turns","_law_others_here","_law_field","_law_e","_law_due_here"] ["_law_way","_law_house_here","_law_rule_here","_law_riders_here","_law_dealing","_law_turns"] (ae oC):=by ac_rfl
abbrev Oz:Stmt:=top 155
theorem vj:ai ["_law_script","_law_house_here","_law_rule_here","_law_turns","_law_riders_here","_law_dealing","_law_dealer","_law_due_here","_law_way","_law_handed","_law_given","_law_told"] ["_law_script"] (ae Oz):=by ac_rfl
noncomputable abbrev hV:Stmt:=fu (top 36) 0
theorem uV:ai ["self","floor"] ["self","floor"] (ae hV):=by ac_rfl
noncomputable abbrev oJ:Stmt:=fu (top 64) 0
theorem A8:ai ["self","turns"] ["self","turns"] (ae oJ):=by ac_rfl
noncomputable abbrev oH:Stmt:=fu (top 64) 1
theorem A7:ai ["self","count","blocked","stepped"] ["self","count","blocked","stepped"] (ae oH):=by ac_rfl
noncomputable abbrev k7:Stmt:=fu (top 65) 0
theorem yM:ai ["self","count","blocked","stepped"] ["self","count","blocked","stepped"] (ae k7):=by ac_rfl
noncomputable abbrev oo:Stmt:=fu (top 66) 0
theorem AY:ai ["self","count","blocked","stepped"] ["self","count","blocked","stepped"] (ae oo):=by ac_rfl
noncomputable abbrev ji:Stmt:=fu (top 86) 0
theorem ww:ai ["self","house","state"] ["self","house","state"] (ae ji):=by ac_rfl
noncomputable abbrev lm:Stmt:=fu (top 108) 0
theorem yO:ai ["self","house","rule","dealer"] ["self","house","rule","dealer"] (ae lm):=by ac_rfl
noncomputable abbrev jo:Stmt:=fu (top 108) 1
theorem mw:ai ["self","cabins"] ["self"] (ae jo):=by ac_rfl
noncomputable abbrev ib:Stmt:=fu (top 108) 2
theorem pP:ai ["self","state","deeds","moment","deed","lift"] ["self","state","deeds"] (ae ib):=by ac_rfl
noncomputable abbrev ow:Stmt:=fu (top 136) 0
theorem A1:ai ["self","seen"] ["self","seen"] (ae ow):=by ac_rfl
noncomputable abbrev jj:Stmt:=fu (top 137) 0
theorem wz:ai ["self","seen","told"] ["self","seen"] (ae jj):=by ac_rfl
noncomputable abbrev hZ:Stmt:=fu (top 138) 0
theorem uW:ai ["self","seen"] ["self","seen"] (ae hZ):=by ac_rfl
noncomputable abbrev hI:Stmt:=fu (top 139) 0
theorem uT:ai ["self","top"] ["self","top"] (ae hI):=by ac_rfl
noncomputable abbrev hG:Stmt:=fu (top 139) 1
theorem uS:ai ["self","seen"] ["self","seen"] (ae hG):=by ac_rfl
noncomputable abbrev kQ:Stmt:=fu (top 140) 0
theorem yH:ai ["self","letters"] ["self","letters"] (ae kQ):=by ac_rfl
noncomputable abbrev kP:Stmt:=fu (top 140) 1
theorem yG:ai ["self","seen"] ["self","seen"] (ae kP):=by ac_rfl
section
variable {P:Program}{w:World}{K:Fg}{mg:Str->Option Value}{base:Heap}{f:Addr}{fd:FuncData}
theorem AD {n:Nat}(h:n<1000000):n<sizeLine:=by rw [sizeLine_eq];lia
inductive j6 (K:Fg)(vs:List V)(H:Hp)(Q:VK)(_e:XK):Prop
 |mk (a ns k many:_) (_:vs=[.ref a,.int k,.int many]) (_:E8 K H a ns) (_:0<=k) (_:k<100000) (_:0<many) (_:∀i:Int,0<=i->i<many->Q (.int i) H)
abbrev Z0:=λK n s f fd=>be K n n s f fd
theorem UG (F:Z0 K "_law_draw" Bd f fd)(bR:mg "len"=none):ax P w K mg base aY 1 f fd ["_law_script","_law_k","_law_many"] (j6 K):=by
 rwa[F.ok Kw (by symm) (λL A outer s H vs Q E hr h=> ?_)];obtain ⟨a,I,k,j,rfl,⟨R,Y⟩,O,S,J,q⟩:=h;have G:uF 31 k:=uf @c @c;have z:uF (31*k) k:=Jm @b @b;rwa[⟨_,(aa @a (dZ @dh @h)),?_⟩];rwa[ub (λσ H'=>H'=H/\∃i:Int,σ=[some (.ref a),some (.int k),some (.int j),some (.int i)]/\0<=i/\i<2147483629) ?_ ?_]
 ·ext;erw[eQ R ?_];rw [length_map];rwa[fD @dZ @dZ]
  ·have U:0<I.length:=by lia
   have h1:=Int.emod_nonneg k (show (I.length:Int)≠0 by lia);have h2:=Int.emod_lt_of_pos k (show (0:Int)<I.length by lia);erw[eQ R ?_];rw [length_map];rwa[⟨W,bP R (Jv h1 h2) ⟨by decide,rfl,_,rfl,Int.emod_nonneg _ @c,Int.emod_lt_of_pos _ @c⟩⟩]
  ·exact ⟨rfl,_,rfl,by decide,by decide⟩
 ·rintro σ' H' ⟨rfl,i,rfl,Z,h1⟩;rwa[⟨G,z,uf @b @b,by decide,Jm @c @c,by decide,J,?_⟩];exact q _ (Int.emod_nonneg _ @b) (Int.emod_lt_of_pos _ J)
inductive v8 (vs:List V)(H:Hp)(Q:VK)(_e:XK):Prop
 |mk (i:Int) (_:vs=[.int i]) (_:Q (.bl true) H)
theorem Hi (F:Z0 K "_law_whole" wM f fd)(j:mg "isinstance"=none)(G:mg "int"=none)(I:mg "bool"=none):ax P w K mg base aY 1 f fd ["_law_thing"] v8:=by
 rwa[F.ok Gw (by symm) @ch];obtain ⟨i,rfl,q⟩:=h;rwa[⟨_,(ac (am (Ax (aN @bM rfl j boot_isinstance (ao (wv 0) (ao (wZ (v:= .ty "int") rfl G boot_int rfl) aj))) (Bn (Fo rfl (aN @bM rfl j boot_isinstance (ao (wv 0) (ao (wZ (v:= .ty "bool") rfl I boot_bool rfl) aj)))))))),?_⟩];rwa[⟨rfl,b6 rfl ⟨rfl,q⟩⟩]
noncomputable def vN (ks:List Nat):List V:=ks.map λk:Nat=>V.int (k:Int)
noncomputable def RR:Option Nat->V
 |none=> .non
 |some n=> .int (n:Int)
theorem KO (n:Nat):(1:Int)*2^((n:Int)).toNat=((2^n:Nat):Int):=by rw [Int.toNat_natCast,Int.natCast_pow];simp
inductive mj (vs:List V)(H:Hp)(Q:VK)(_e:XK):Prop
 |mk (n:Nat) (_:vs=[.int (n:Int)]) (_:n<=1000) (_:Q (.int ((2^n:Nat):Int)) H)
theorem Pp (F:Z0 K "bit" OC f fd):ax P w K mg base aY 1 f fd ["k"] mj:=by
 rwa[F.ok RB (by symm) @j];obtain ⟨n,rfl,z,q⟩:=h;rwa[⟨_,@h,?_⟩];rwa[⟨Ji @b @b @c,?_⟩];rw [<-KO] at q;exact q
inductive fX (vs:List V)(H:Hp)(Q:VK)(_e:XK):Prop
 |mk (M n:Nat) (_:vs=[.int (M:Int),.int (n:Int)]) (_:n<=1000) (_:Q (.bl (M.testBit n)) H)
theorem Pk (F:Z0 K "has" OB f fd)(G:bp P w K mg base 1 "bit" ["k"] mj):ax P w K mg base aY 2 f fd ["mask","k"] fX:=by
 rwa[F.ok RA (by symm) @j];obtain ⟨M,n,rfl,z,q⟩:=h;rwa[⟨_,@h,?_⟩];rwa[oX @b ?_];rwa[mj.mk _ rfl z ?_];show Q (.bl (!decide (Builtin.bitAnd (M:Int) ((2^n:Nat):Int)=0))) H;rw [Mv]
 have e:decide (((M&&&2^n:Nat):Int)=0)= !M.testBit n:=by
  rw [<-testBit_and];exact decide_eq_decide.mpr @b
 rw [e,Bool.not_not];exact q
inductive v7 (vs:List V)(H:Hp)(Q:VK)(_e:XK):Prop
 |mk (M n:Nat) (_:vs=[.int (M:Int),.int (n:Int)]) (_:n<=1000) (_:Q (.int ((M|||2^n:Nat):Int)) H)
theorem Hh (F:Z0 K "with_bit" rM f fd)(G:bp P w K mg base 1 "bit" ["k"] mj):ax P w K mg base aY 2 f fd ["mask","k"] v7:=by
 rwa[F.ok DD (by symm) @j];obtain ⟨M,n,rfl,z,q⟩:=h;rwa[⟨_,@h,?_⟩];rwa[mj.mk _ rfl z ?_];rw [<-OV] at q;exact q
inductive mm (vs:List V)(H:Hp)(Q:VK)(_e:XK):Prop
 |mk (M n:Nat) (_:vs=[.int (M:Int),.int (n:Int)]) (_:n<=1000) (_:Q (.int ((M% 2^n:Nat):Int)) H)
theorem HR (F:Z0 K "below" Bg f fd)(G:bp P w K mg base 1 "bit" ["k"] mj):ax P w K mg base aY 2 f fd ["mask","k"] mm:=by
 rwa[F.ok Ky (by symm) @j];obtain ⟨M,n,rfl,z,q⟩:=h;rwa[⟨_,(aa (az @a @gs av) @h),?_⟩];rwa[fI @b ?_];rwa[mj.mk _ rfl z ⟨?_,?_⟩]
 ·have:=Nat.two_pow_pos n;lia
 ·rw [Int.natCast_emod] at q;exact q
inductive wm (vs:List V)(H:Hp)(Q:VK)(_e:XK):Prop
 |mk (M n:Nat) (_:vs=[.int (M:Int),.int (n:Int)]) (_:n<1000) (_:Q (.int ((M - M% 2^(n+1):Nat):Int)) H)
theorem Ia (F:Z0 K "above" Bh f fd)(G:bp P w K mg base 2 "below" ["mask","k"] mm):ax P w K mg base aY 3 f fd ["mask","k"] wm:=by
 rwa[F.ok Kz (by symm) @j];obtain ⟨M,n,rfl,z,q⟩:=h;rwa[⟨_,@h,?_⟩];rwa[mm.mk _ (n+1) rfl z ?_]
 have e:((M - M% 2^(n+1):Nat):Int)=(M:Int) - ((M% 2^(n+1):Nat):Int):=by
  have:=Nat.mod_le M (2^(n+1));lia
 rw [e] at q;exact q
inductive mf (K:Fg)(vs:List V)(H:Hp)(Q:VK)(_e:XK):Prop
 |mk (p:Addr) (ks:List Nat) (_:vs=[.ref p]) (_:aD K H p (vN ks)) (_:(∀k∈ks,k<=1000)) (_:Q (.int (pR ks:Int)) H)
theorem NV {ks:List Nat}{i:Nat}{x:V}(h:(vN ks)[i]? =some x):∃k,ks[i]? =some k/\x=V.int (k:Int):=by
 unfold vN at h;rw [getElem?_map] at h
 cases e:ks[i]? with
 |none=>rw [e] at h;cases h
 |some k=>rw [e] at h;exact ⟨k,rfl,(Option.some.inj h).symm⟩
theorem FJ (ks:List Nat):(vN ks).length=ks.length:=length_map _
theorem Eb (F:Z0 K "mask_of" wJ f fd)(I:bp P w K mg base 2 "with_bit" ["mask","k"] v7):ax P w K mg base aY 3 f fd ["numbers"] (mf K):=by
 rwa[F.ok Gs (by symm) @ch];obtain ⟨p,ks,rfl,R,S,q⟩:=h;rwa[⟨_,(aa @a (aa (bJ PassesOwn.never rfl @a @a (ac @a)) (ac (am (wv 1))))),?_⟩];rwa[bD R ?_];rwa[bS (xs:=vN ks) (λi σ H'=>H'=H/\∃o,σ=[some (.ref p),some (.int (pR (ks.take i):Int)),o]) ⟨rfl,_,by rfl⟩ (λi σ H' _ h=>by rw [h.1];exact R) ?_ ?_]
 ·rintro i x σ H' G ⟨rfl,o,rfl⟩;obtain ⟨k,j,rfl⟩:=NV G;rwa[v7.mk _ _ rfl (S k (mem_of_getElem? j)) ⟨rfl,some (.int (k:Int)),?_⟩]
  have e:pR (ks.take (i+1))=pR (ks.take i)|||2^k:=by
   unfold pR;rw [take_add_one,j,foldl_append];rfl
  rw [e];rfl
 ·rintro σ H' ⟨rfl,o,rfl⟩;rw [FJ,take_of_length_le @f];exact q
inductive AL (vs:List V)(H:Hp)(Q:VK)(_e:XK):Prop
 |mk (M:Nat) (_:vs=[.int (M:Int)]) (_:M<2^200) (_:∀p,H p=none->Q (.ref p) (upd H p (.lst (vN (j3 M)))))
abbrev Z04:=λP w K mg base=>bp P w K mg base 2 "has" ["mask","k"] fX
theorem Ed (F:Z0 K "listed" wL f fd)(z:mg "range"=none)(S:Z04 P w K mg base):ax P w K mg base aY 3 f fd ["mask"] AL:=by
 rwa[F.ok Gv (by symm) @bp];obtain ⟨M,rfl,J,q⟩:=h;have O:=S5 J;have I:=sizeLine_eq;rwa[⟨_,(ac (am (bF rfl (aC (N':=["k","mask"]) (pk:=[none,some 0]) @o) (bA rfl z (ao (Fs rfl PySem.F.plainAttrs_int PySem.F.slot_int_bit_length PySem.F.type_int_bit_length FC (wv 0)) aj)) @i @X @R))),?_⟩];rwa[⟨rfl,⟨by show -4611686018427387904<=((L M:Nat):Int);lia,by show ((L M:Nat):Int)<4611686018427387904;lia⟩,?_⟩];show ug (MI 0 (L M)) _ _ _ _ _ _ _
 refine eK (λi ys H'=>H'=H/\ys=vN (kj M i)) @b (λi ys H' p=>by
  rw [p.2,FJ];unfold kj;exact Nat.le_trans @Z @e) ⟨rfl,rfl⟩ ?_ ?_
 ·rintro i ys H' hi ⟨rfl,rfl⟩;erw[⟨Rz,?_⟩];show fX [.int (M:Int),.int (0+(i:Int))] _ _ _;rw [Int.zero_add];rwa[fX.mk _ _ rfl @b ?_];show if M.testBit i=true then _ else _
  cases h:M.testBit i with
  |true=>
   rw [if_pos rfl];rwa[⟨rfl,?_⟩];rw [lK,h];unfold vN;rw [map_append];rfl
  |false=>
   rw [if_neg Bool.false_ne_true];rwa[⟨rfl,?_⟩];rw [lK,h];simp
 ·rintro ys H' ⟨rfl,rfl⟩ p G;exact q p G
inductive rq (vs:List V)(H:Hp)(Q:VK)(_e:XK):Prop
 |mk (M:Nat) (_:vs=[.int (M:Int)]) (_:M<2^200) (_:∀H',aq H H'->Q (RR (j3 M)[0]?) H')
theorem GL {H:Hp}{p:Addr}(h:H p=none)(o:HO):aq H @db:=λb u q=>by rw [ag (bq q h)];exact q
theorem Ec (F:Z0 K "lowest" wK f fd)(O:bp P w K mg base 3 "listed" ["mask"] AL):ax P w K mg base aY 4 f fd ["mask"] rq:=by
 rwa[F.ok Gu (by symm) (λI A outer s H R Q E U h=> ?_)];obtain ⟨M,rfl,L,q⟩:=h;rwa[⟨_,(aa @a @h),?_⟩];erw[AL.mk _ rfl L λp J=> ?_];have z:=q _ (GL J (.lst (vN (j3 M))));rwa[Kt @ej ?_]
 cases G:j3 M with
 |nil=>
  rw [G] at z;exact bG rfl z
 |cons k ks=>
  rw [G] at z;rwa[b6 rfl ?_];exact bP @ej (bx (j:=0) (v:=V.int (k:Int)) rfl) z
inductive oh (vs:List V)(H:Hp)(Q:VK)(_e:XK):Prop
 |mk (M:Nat) (_:vs=[.int (M:Int)]) (_:Q (RR (if M=0 then none else some (L M - 1))) H)
theorem Bx (F:Z0 K "highest" rY f fd):ax P w K mg base aY 1 f fd ["mask"] oh:=by
 rwa[F.ok DL (by symm) (λj A outer s H z Q E U h=> ?_)];obtain ⟨M,rfl,q⟩:=h;rwa[⟨_,(ac (am (Ci @a (d3 Cj (Fs rfl PySem.F.plainAttrs_int PySem.F.slot_int_bit_length PySem.F.type_int_bit_length FC (wv 0)) cE) wY))),?_⟩];rwa[fD @bE @bE]
 ·rwa[⟨rfl,?_⟩]
  have I:M≠0:=by lia
  rw [if_neg I] at q
  have e:((L M - 1:Nat):Int)=((L M:Nat):Int) - 1:=by
   have:=JG M;rw [if_neg I] at this;lia
  show Q (.int (((L M:Nat):Int) - 1)) H;rw [<-e];exact q
 ·have I:M=0:=by lia
  rw [if_pos I] at q;exact q
noncomputable def mE (p:Int×Int):D:= .tup [.int p.1,.int p.2]
noncomputable def SO (pl li dr mk:Int)(ps:List (Int×Int)):List D:=[.int pl,.int li,.int dr,.int mk,.tup @fN]
inductive b7 (K:Fg)(H:Hp)(t:Addr)(pl li dr mk:Int)(ps:List (Int×Int)):Prop
 |mk (b xs:_) (_:H t=some (.tup [.int pl,.int li,.int dr,.int mk,.ref b])) (_:H b=some (.tup xs)) (_:aI K H xs @fN)
theorem b7.same {H H':Hp}{t:Addr}{pl li dr j:Int}{ps:List (Int×Int)}(h:b7 K H t pl li dr j ps)(s:aq H H'):b7 K H' t pl li dr j ps:=by
 obtain ⟨b,xs,e1,e2,d⟩:=h;exact ⟨b,xs,s.get e1,s.get e2,aI.same d s⟩
theorem b7.den {H:Hp}{t:Addr}{pl li dr j:Int}{ps:List (Int×Int)}(h:b7 K H t pl li dr j ps):bO K H (.ref t) (.tup (SO pl li dr j ps)):=by
 obtain ⟨b,xs,e1,e2,d⟩:=h;exact iQ @fi (.cons (.int _) (.cons (.int _) (.cons (.int _) (.cons (.int _) (.cons (iQ (aK.of e2) d) .nil)))))
theorem Th:5<=sizeLine:=by rw [sizeLine_eq];lia
noncomputable def cg (so:Str)(pl li:Int)(ps:List (Int×Int))(wd:Str):Str:=
 if so=s!"free"\/ps=[] then wd else if ps.any (λp=>decide (2*p.2=pl))=true then s!"o" else if wd=s!"x" then s!"o" else
 if (wd=s!"u"/\li<0)\/(wd=s!"d"/\0<li) then s!"s" else wd
noncomputable def cf:List Str:=[s!"o",s!"x",s!"u",s!"d",s!"s"]
theorem SE {x:Str}(h:x∈cf):x=s!"o"\/x=s!"x"\/x=s!"u"\/x=s!"d"\/x=s!"s":=by
 simpa [cf] using h
theorem pJ {so:Str}{pl li:Int}{ps:List (Int×Int)}{j:Str}(h:j∈cf):cg so pl li ps j∈cf:=by
 unfold cg;split
 ·exact h
 split
 ·exact .head _
 split
 ·exact .head _
 split
 ·exact .tail _ (.tail _ (.tail _ (.tail _ (.head _))))
 ·exact h
noncomputable def fA (fl tu pl li dr:Int)(ps:List (Int×Int))(x:Str):Int×Int×Int:=
 if x=s!"o" then (pl,li,tu) else if x=s!"x" then (pl,0,tu) else if x=s!"u"/\pl / 2<fl - 1 then (pl+1,1,dr) else if x=s!"d"/\0<pl then (pl - 1,-1,dr) else (pl,if ps=[] then 0 else li,dr)
section
variable {fl tu pl li dr:Int}{ps:List (Int×Int)}
theorem Nc:fA fl tu pl li dr ps "o"=(pl,li,tu):=if_pos rfl
theorem Na:fA fl tu pl li dr ps "x"=(pl,0,tu):=by unfold fA;rw [if_neg @c,if_pos rfl]
theorem IZ (h:pl / 2<fl - 1):fA fl tu pl li dr ps "u"=(pl+1,1,dr):=by unfold fA;rw [if_neg @c,if_neg @c,if_pos ⟨rfl,h⟩]
theorem I9 (h: ¬pl / 2<fl - 1):fA fl tu pl li dr ps "u"=(pl,if ps=[] then 0 else li,dr):=by unfold fA;rw [if_neg @c,if_neg @c,if_neg @eu,if_neg @v]
theorem Ja (h:0<pl):fA fl tu pl li dr ps "d"=(pl - 1,-1,dr):=by unfold fA;rw [if_neg @c,if_neg @c,if_neg @v,if_pos ⟨rfl,h⟩]
theorem Jb (h: ¬0<pl):fA fl tu pl li dr ps "d"=(pl,if ps=[] then 0 else li,dr):=by unfold fA;rw [if_neg @c,if_neg @c,if_neg @v,if_neg @eu]
theorem Nb:fA fl tu pl li dr ps "s"=(pl,if ps=[] then 0 else li,dr):=by unfold fA;rw [if_neg @c,if_neg @c,if_neg @v,if_neg @v]
end
def qQ (ps:List (Int×Int)):Prop:=ps.length<=100/\∀p∈ps,0<=p.2/\p.2<100
inductive cG (K:Fg)(vs:List V)(H:Hp)(Q:VK)(_e:XK):Prop
 |mk (c pl li dr mk ps:_) (_:vs=[.ref c]) (_:b7 K H c pl li dr mk ps) (_:Q (.int (pl / 2)) H)
theorem Hz (F:Z0 K "floor_of" rZ f fd):ax P w K mg base aY 1 f fd ["cabin"] (cG K):=by
 rwa[F.ok DM (by symm) (λj A outer s H L Q E z h=> ?_)];obtain ⟨c,pl,li,dr,G,ps,rfl,J,q⟩:=h;obtain ⟨b,xs,S,U,dx⟩:=id J;rwa[⟨_,@h,?_⟩];left;exact q
noncomputable def eI (ps:List (Int×Int)):List V:=ps.map λp=>V.int p.2
inductive gR (K:Fg)(vs:List V)(H:Hp)(Q:VK)(_e:XK):Prop
 |mk (c pl li dr mk ps:_) (_:vs=[.ref c]) (_:b7 K H c pl li dr mk ps) (_:ps.length<=100) (_:∀p H',aq H H'->H p=none->H' p=some (.lst (eI ps))->Q (.ref p) H')
theorem Hy (F:Z0 K "goals_aboard" ia f fd):ax P w K mg base aY 1 f fd ["cabin"] (gR K):=by
 rwa[F.ok uX (by symm) (λI A outer s H vs Q E W h=> ?_)];obtain ⟨c,pl,li,dr,mk,ps,rfl,L,Z,q⟩:=h;obtain ⟨b,xs,S,U,dx⟩:=id L;have hx:=aH dx;rwa[⟨_,(ac (am (bF rfl (aC (N':=["tag","goal"]) (pk:=[none,none]) @o) @a @x @r (λC s H ex=>(wv 1))))),?_⟩];left;rwa[jw @ci ?_];rwa[fM (xs:=xs) (λi ys H'=>H'=H/\ys=(eI ps).take i) @bs (λi ys H' p=>by rw [p.2,length_take];exact Nat.min_le_left _ _) ⟨rfl,rfl⟩ (λi ys H' _ p=>by rw [p.1];exact aK.of U) (λi x ys H' j p=> ?_) @co]
 ·obtain ⟨rfl,rfl⟩:=p;obtain ⟨pr,z,J⟩:=bj dx j;obtain ⟨u,R,rfl,O,G⟩:=J.outT
  cases G with|cons q0 t0=>cases t0 with|cons q1 t1=>
  cases t1;cases q0.isInt;cases q1.isInt;left;rwa[⟨jb,?_⟩];left;rwa[⟨rfl,?_⟩];rw [take_succ];congr 1;unfold eI;rw [getElem?_map,z];rfl
 ·obtain ⟨rfl,rfl⟩:=p;rwa[q l2 _ (.upd Y) Y ?_];rw [af,take_of_length_le (by unfold eI;rw [length_map];lia)]
structure bo where
 tag:Int
 start:Int
 goal:Int
 lift:Int
noncomputable def bo.d (r:bo):D:= .tup [.int r.tag,.int r.start,.int r.goal,.int r.lift]
def Qm (rs:List bo):Prop:=rs.length<=64/\∀r∈rs,r.start≠r.goal
theorem ig (rs:List bo):noLs @bj=true:=by
 induction rs with
 |nil=>rfl
 |cons r rs ih=>rw [map_cons,noLs,ih];rfl
theorem oO (ps:List (Int×Int)):noLs @fN=true:=by
 induction ps with
 |nil=>rfl
 |cons r rs ih=>rw [map_cons,noLs,ih];rfl
theorem aq.updF {H0 H1:Hp}{o:Addr}{x:HO}(s:aq H0 H1)(h:H0 o=none):aq H0 (upd H1 o x):=λb u z=>by
 rw [ag (λe=>by rw [e,h] at z;cases z)];exact s b u z
noncomputable def vW (s g:Int):Int:=if s<g then 1 else -1
inductive rn (vs:List V)(H:Hp)(Q:VK)(_e:XK):Prop
 |mk (s g:Int) (_:vs=[.int s,.int g]) (_:Q (.int (vW s g)) H)
theorem O5 (F:Z0 K "way_of" Ba f fd):ax P w K mg base aY 1 f fd ["start","goal"] rn:=by
 rwa[F.ok Ku (by symm) @j];obtain ⟨s,g,rfl,q⟩:=h;rwa[⟨_,@h,?_⟩];unfold vW at q;by_cases h:s<g
 ·rw [if_pos h] at q;left;exact q
 ·rw [if_neg h] at q;left;exact q
noncomputable def tk (room:Int)(ps:List (Int×Int))(rs:List bo)(f:Int):Bool:=ps.any (λp=>decide (p.2=f))||(decide ((ps.length:Int)<room)&&rs.any (λr=>decide (r.start=f)))
def xO (t:Int->Bool)(f u:Int):Prop:=(u=0/\∀j:Int,1<=j->j<=7->t (f+j)=false)\/(1<=u/\u<=7/\t (f+u)=true/\∀j:Int,1<=j->j<u->t (f+j)=false)
def xP (t:Int->Bool)(f d:Int):Prop:=(d=0/\∀j:Int,1<=j->j<=7->j<=f->t (f - j)=false)\/(1<=d/\d<=7/\d<=f/\t (f - d)=true/\∀j:Int,1<=j->j<d->t (f - j)=false)
theorem xO.uniq {t:Int->Bool}{f u v:Int}(h:xO t f u)(k:xO t f v):u=v:=by
 rcases h with ⟨h1,h2⟩|⟨h1,h2,G,j⟩<;>rcases k with ⟨k1,k2⟩|⟨k1,k2,k3,J⟩
 ·lia
 ·rw [h2 v k1 k2] at k3;cases k3
 ·rw [k2 u h1 h2] at G;cases G
 ·rcases Int.lt_trichotomy u v with l|l|l
  ·rw [J u h1 l] at G;cases G
  ·exact l
  ·rw [j v k1 l] at k3;cases k3
theorem xP.uniq {t:Int->Bool}{f u v:Int}(h:xP t f u)(k:xP t f v):u=v:=by
 rcases h with ⟨h1,h2⟩|⟨h1,h2,W,G,j⟩<;>rcases k with ⟨k1,k2⟩|⟨k1,k2,k5,k3,J⟩
 ·lia
 ·rw [h2 v k1 k2 k5] at k3;cases k3
 ·rw [k2 u h1 h2 W] at G;cases G
 ·rcases Int.lt_trichotomy u v with l|l|l
  ·rw [J u h1 l] at G;cases G
  ·exact l
  ·rw [j v k1 l] at k3;cases k3
noncomputable def Nk (ps:List (Int×Int))(f:Int):Bool:=ps.any λp=>decide (p.2=f)
noncomputable def Mz (rs:List bo)(f li:Int):Bool:=rs.any λr=>decide (r.start=f)&&decide (vW r.start r.goal=li)
noncomputable def iJ (so:Str)(li:Int)(t0 ab al:Bool):Int:=if t0=false then 0 else if so=s!"free"\/li=0 then 2 else if ab=true\/al=true then 2 else 1
def Ts (ps:List (Int×Int))(rs:List bo):Prop:=(∀p∈ps,0<=p.2/\p.2<8)/\(∀r∈rs,0<=r.start/\r.start<8)/\ps.length<=64/\rs.length<=64
theorem oP (ks:List Nat)(i:Nat):(pR ks).testBit i=decide (i∈ks):=by
 unfold pR;rw [su];simp
theorem yW {ks:List Nat}(h:∀k∈ks,k<8):pR ks<2^8:=Nat.lt_pow_two_of_testBit _ λi hi=>by
 rw [oP]
 exact decide_eq_false λz=>by have:=h i z;lia
theorem IJ {ps:List (Int×Int)}(h:∀p∈ps,0<=p.2/\p.2<8):eI ps=vN @ds:=by
 unfold eI vN;rw [map_map];rwa[map_congr_left λp G=> ?_];show V.int p.2=V.int ((p.2.toNat:Nat):Int);rw [Int.toNat_of_nonneg (h p G).1]
noncomputable def dW (rs:List bo):List V:=rs.map λr=>V.int r.start
theorem Dx {rs:List bo}(h:∀r∈rs,0<=r.start/\r.start<8):dW rs=vN (rs.map λr=>r.start.toNat):=by
 unfold dW vN;rw [map_map];rwa[map_congr_left λp G=> ?_];show V.int p.start=V.int ((p.start.toNat:Nat):Int);rw [Int.toNat_of_nonneg (h p G).1]
theorem vn {ps:List (Int×Int)}(h:∀p∈ps,0<=p.2/\p.2<8)(i:Nat):decide (i∈ps.map λp=>p.2.toNat)=ps.any λp=>decide (p.2=(i:Int)):=by
 rw [Bool.eq_iff_iff,decide_eq_true_eq,mem_map,any_eq_true];constructor
 ·rintro ⟨p,G,e⟩;exact ⟨p,G,decide_eq_true (by have:=h p G;lia)⟩
 ·rintro ⟨p,G,e⟩;exact ⟨p,G,by have:=of_decide_eq_true e;lia⟩
theorem BE {rs:List bo}(h:∀r∈rs,0<=r.start/\r.start<8)(i:Nat):decide (i∈rs.map λr=>r.start.toNat)=rs.any λr=>decide (r.start=(i:Int)):=by
 rw [Bool.eq_iff_iff,decide_eq_true_eq,mem_map,any_eq_true];constructor
 ·rintro ⟨p,G,e⟩;exact ⟨p,G,decide_eq_true (by have:=h p G;lia)⟩
 ·rintro ⟨p,G,e⟩;exact ⟨p,G,by have:=of_decide_eq_true e;lia⟩
theorem oZ (ps:List (Int×Int)):(eI ps).length=ps.length:=by unfold eI;rw [length_map]
inductive wb (K:Fg)(vs:List V)(H:Hp)(Q:VK)(_e:XK):Prop
 |mk (room c p pl li dr mk ps xs:_) (rs:List bo) (_:vs=[.int room,.ref c,.ref p]) (_:b7 K H c pl li dr mk ps) (_:H p=some (.lst xs)) (_:aI K H xs @bj) (_:Ts ps rs) (_:∀(M:Nat) H',aq H H'->(∀i:Nat,M.testBit i=tk room ps rs i)->M<2^8->Q (.int (M:Int)) H')
theorem Hm (F:Z0 K "tasks_of" rP f fd)(bR:mg "len"=none)(cA:bp P w K mg base 1 "goals_aboard" ["cabin"] (gR K))(um:bp P w K mg base 3 "mask_of" ["numbers"] (mf K)):ax P w K mg base aY 4 f fd ["room","cabin","riders"] (wb K):=by
 rwa[F.ok DG (by symm) @G];obtain ⟨I,c,p,pl,li,dr,mk,ps,xs,z,rfl,hc,ep,Y,j,q⟩:=h;have xl:=aH Y;have ae:=j.2.2.2;have ag:=j.2.2.1;rwa[⟨_,(aa @a (aa @bk (ac (am (b3 um hr @c rfl (ao (d3 @eV (wv 3) (bF rfl (aC (N':=["tag","start","goal","lift"]) (pk:=[none,none,none,none]) @o) @a @s @r (λC s H ex=>(wv 1)))) aj)))))),?_⟩];left;rwa[gR.mk _ _ _ _ _ _ rfl hc @b λg H1 O n1 e1=> ?_];have Z:=IJ j.1;left;rw [oZ];rwa[fD @cL @cL]
 ·left
  refine mf.mk _ @ds rfl (aD.of (by rw [<-Z];exact e1)) (λk S=>by
   obtain ⟨p,G,rfl⟩:=mem_map.mp S
   have:=j.1 p G;lia) ?_
  refine q _ H1 O (λi=> ?_) (yW λk S=>by
   obtain ⟨p,G,rfl⟩:=mem_map.mp S
   have:=j.1 p G;lia)
  rw [oP,vn j.1];unfold tk;rw [decide_eq_false (show ¬(ps.length:Int)<I by lia),Bool.false_and,Bool.or_false]
 ·left;rwa[bD @ci ?_];rwa[bI (xs:=xs) (λi ys H'=>H'=H1/\ys=(dW z).take i) @bs (λi ys H' p=>by rw [p.2,length_take];exact Nat.min_le_left _ _) ⟨rfl,rfl⟩ (λi ys H' _ p=>by rw [p.1];exact O.seq (aD.of ep)) @dC (λys H' p l2 n2=> ?_)]
  ·obtain ⟨rfl,rfl⟩:=p;obtain ⟨r,ah,U⟩:=bj Y J;obtain ⟨u,us,rfl,hu,L⟩:=U.outT
   cases L with|cons q0 r0=>cases r0 with|cons q1 r1=>cases r1 with|cons q2 r2=>cases r2 with|cons q3 r3=>
   cases r3;cases q0.isInt;cases q1.isInt;cases q2.isInt;cases q3.isInt;left;rwa[⟨ja,?_⟩];left;rwa[⟨rfl,?_⟩];rw [take_succ];congr 1;unfold dW;rw [getElem?_map,ah];rfl
  ·obtain ⟨rfl,rfl⟩:=p
   have e2:upd H' l2 (.lst ((dW z).take xs.length)) l2=some (.lst (dW z)):=by rw [af,take_of_length_le (by unfold dW;rw [length_map];lia)]
   have R:aq H' (upd H' l2 (.lst ((dW z).take xs.length))):= .upd n2;generalize upd H' l2 (.lst ((dW z).take xs.length))=H2 at e2 R ⊢
   have sl:(dW z).length=z.length:=by unfold dW;rw [length_map]
   erw[C5 (R.get e1) e2 (bw (by rw [oZ,sl];lia)) λl3 H3 s3 n3 e3=> ?_];have W:=Dx j.2.1
   refine mf.mk _ (@ds++z.map λr=>r.start.toNat) rfl (aD.of (by rw [e3,Z,W];unfold vN;rw [map_append])) (λk S=>by
    rcases mem_append.mp S with S|S
    ·obtain ⟨p,G,rfl⟩:=mem_map.mp S;have:=j.1 p G;lia
    ·obtain ⟨p,G,rfl⟩:=mem_map.mp S
     have:=j.2.1 p G;lia) ?_
   refine q _ H3 ((O.trans R).trans s3) (λi=> ?_) (yW λk S=>by
    rcases mem_append.mp S with S|S
    ·obtain ⟨p,G,rfl⟩:=mem_map.mp S;have:=j.1 p G;lia
    ·obtain ⟨p,G,rfl⟩:=mem_map.mp S
     have:=j.2.1 p G;lia)
   rw [oP];unfold tk;rw [decide_eq_true (show (ps.length:Int)<I by lia),Bool.true_and,<-vn j.1,<-BE j.2.1,<-Bool.decide_or];exact decide_eq_decide.mpr mem_append
inductive wk (K:Fg)(vs:List V)(H:Hp)(Q:VK)(_e:XK):Prop
 |mk (f li p xs:_) (rs:List bo) (_:vs=[.int f,.int li,.ref p]) (_:H p=some (.lst xs)) (_:aI K H xs @bj) (_:rs.length<=64) (_:∀H',aq H H'->Q (.bl (Mz rs f li)) H')
noncomputable def iX (rs:List bo)(f:Int):List V:=(rs.filter λr=>decide (r.start=f)).map λr=>V.int (vW r.start r.goal)
theorem LN {rs:List bo}{f li:Int}:xi (.int li) (iX rs f)=Mz rs f li:=by
 unfold xi iX Mz;rw [any_map,any_filter];rfl
theorem HW (F:Z0 K "goes_along" k9 f fd)(iz:bp P w K mg base 1 "way_of" ["start","goal"] rn):ax P w K mg base aY 2 f fd ["floor","light","riders"] (wk K):=by
 rwa[F.ok pO (by symm) (λO A outer s H vs Q E hr h=> ?_)];obtain ⟨f,li,p,xs,j,rfl,L,J,ae,q⟩:=h;have xl:=aH J;rwa[⟨_,(aa (fw (i:=3) rfl pO.nd rfl @n (aC (N':=["tag","start","goal","lift","floor"]) (pk:=[none,none,none,none,some 0]) @o) @a @s @X @i) @h),?_⟩];rwa[bD (aD.of L) ?_]
 refine bI (xs:=xs) (λi ys H'=>H'=H/\ys=iX (j.take i) f) @bs (λi ys H' p=>by
  rw [p.2];unfold iX;rw [length_map];have:=length_filter_le (λr:bo=>decide (r.start=f)) (j.take i);rw [length_take] at this;lia) ⟨rfl,rfl⟩ (λi ys H' _ p=>by rw [p.1];exact aD.of L) (λi x ys H' G p=> ?_) @co
 ·obtain ⟨rfl,rfl⟩:=p;obtain ⟨r,ah,U⟩:=bj J G;obtain ⟨u,Z,rfl,W,I⟩:=U.outT
  cases I with|cons q0 r0=>cases r0 with|cons q1 r1=>cases r1 with|cons q2 r2=>cases r2 with|cons q3 r3=>
  cases r3;cases q0.isInt;cases q1.isInt;cases q2.isInt;cases q3.isInt;left;rwa[⟨ja,?_⟩];show if decide (r.start=f)=true then _ else _
  have e:iX (j.take (i+1)) f=iX (j.take i) f++if decide (r.start=f)=true then [V.int (vW r.start r.goal)] else []:=by
   unfold iX;rw [take_succ,ah,filter_append,map_append];congr 1;cases z:decide (r.start=f)<;>simp [z]
  by_cases h1:r.start=f
  ·rw [if_pos @eB];rwa[rn.mk _ _ rfl ?_];rw [e,if_pos @eB];exact ⟨rfl,rfl⟩
  ·rw [if_neg (by rw [decide_eq_false h1];decide),e,if_neg (by rw [decide_eq_false h1];decide),append_nil];exact ⟨rfl,rfl⟩
 ·obtain ⟨rfl,rfl⟩:=p
  have e2:upd H' l2 (.lst @dk) l2=some (.lst (iX j f)):=by rw [af,take_of_length_le @b]
  have R:aq H' (upd H' l2 (.lst @dk)):= .upd Y;generalize upd H' l2 (.lst @dk)=H2 at e2 R ⊢;rwa[AX @cR rfl ?_ ?_]
  ·rwa[all_eq_true.mpr λx S=> ?_];obtain ⟨r,_,rfl⟩:=mem_map.mp S;rfl
  ·rw [LN];exact q H2 R
inductive AN (K:Fg)(vs:List V)(H:Hp)(Q:VK)(_e:XK):Prop
 |mk (so c p pl li dr mk ps xs:_) (rs:List bo) (M f0:Nat) (_:vs=[.str so,.ref c,.int (M:Int),.ref p]) (_:b7 K H c pl li dr mk ps) (_:H p=some (.lst xs)) (_:aI K H xs @bj) (_:Ts ps rs) (_:pl=2*(f0:Int)) (_:f0<8) (_:∀H',aq H H'->Q (.int (iJ so li (M.testBit f0) (Nk ps f0) (Mz rs f0 li))) H')
theorem IF {f:Int}{ps:List (Int×Int)}:xi (.int f) (eI ps)=Nk ps f:=by
 unfold xi eI Nk;rw [any_map];rfl
theorem tV (ps:List (Int×Int)):(eI ps).all c4=true:=by
 rwa[all_eq_true.mpr λx z=> ?_];obtain ⟨p,_,rfl⟩:=mem_map.mp z;rfl
abbrev Z01:=λP w K mg base=>bp P w K mg base 1 "floor_of" ["cabin"] (cG K)
theorem Li (F:Z0 K "here_of" wR f fd)(bT:Z01 P w K mg base)(qG:Z04 P w K mg base)(cA:bp P w K mg base 1 "goals_aboard" ["cabin"] (gR K))(qk:bp P w K mg base 2 "goes_along" ["floor","light","riders"] (wk K)):ax P w K mg base aY 3 f fd ["sort","cabin","tasks","riders"] (AN K):=by
 rwa[F.ok GE (by symm) (λU A outer s H vs Q E hr h=> ?_)];obtain ⟨so,c,p,pl,li,dr,mk,ps,xs,rs,M,G,rfl,J,ep,Z,I,Y,ad,q⟩:=h;obtain ⟨b,bs,ec,eb,db⟩:=id J;have ae:=I.2.2.2;have ag:=I.2.2.1;rwa[⟨_,(aa @a (aa @a (aa (az (fG @a) @gs av) (aa (az @a @gs av) @h)))),?_⟩]
 have W:pl / 2=(G:Int):=by lia
 left;rwa[cG.mk _ _ _ _ _ _ rfl J ?_];rw [W];left;rwa[fX.mk _ _ rfl @b ?_];unfold iJ at q
 cases O:M.testBit G with
 |false=>rw [O,if_pos rfl] at q;left;exact q H (.refl _)
 |true=>
  rw [O,if_neg @c] at q;left;by_cases h1:so=s!"free"
  ·rw [if_pos (.inl h1)] at q;left;exact q H (.refl _)
  ·by_cases h2:li=0
   ·rw [if_pos (.inr h2)] at q;left;exact q H (.refl _)
   ·rw [if_neg (λz=>z.elim h1 h2)] at q;left;rwa[gR.mk _ _ _ _ _ _ rfl J @b λg H1 L n1 e1=> ?_];rwa[AX @dF rfl (tV ps) ?_];rw [IF]
    cases R:Nk ps G with
    |true=>rw [R,if_pos (.inl rfl)] at q;left;exact q H1 L
    |false=>
     rw [R] at q;left;rwa[wk.mk _ _ _ _ _ rfl (L.get ep) (aI.same Z L) @b λH2 S=> ?_]
     cases j:Mz rs G li with
     |true=>rw [j,if_pos (.inr rfl)] at q;left;exact q H2 @gN
     |false=>rw [j,if_neg @c] at q;left;exact q H2 @gN
theorem Aa (M:Nat):(j3 M).Pairwise (· < ·):=List.Pairwise.filter _ pairwise_lt_range
theorem pB (M n i:Nat):(M - M% 2^(n+1)).testBit i=(M.testBit i&&decide (n<i)):=by
 have e:M - M% 2^(n+1)=2^(n+1)*(M / 2^(n+1)):=by have:=Nat.div_add_mod M (2^(n+1));lia
 rw [e,Nat.testBit_two_pow_mul,Nat.testBit_div_two_pow];by_cases h:n<i
 ·rw [decide_eq_true h,decide_eq_true (show i≥n+1 from h),Nat.sub_add_cancel h,Bool.true_and,Bool.and_true]
 ·rw [decide_eq_false h,decide_eq_false (show ¬i≥n+1 by lia),Bool.false_and,Bool.and_false]
theorem Ri {M n:Nat}{t:Int->Bool}(O:∀i:Nat,M.testBit i=t i)(U:M<2^8):xO t n (match ((j3 (M - M% 2^(n+1)))[(0:Nat)]? :Option Nat) with|none=>0|some k=>(k:Int) - n):=by
 cases G:j3 (M - M% 2^(n+1)) with
 |nil=>
  rwa[.inl ⟨rfl,λj R Z=> ?_⟩];have L:=Jt.mp G;have:=pB M n (n+j.toNat);rw [L,Nat.zero_testBit,decide_eq_true @b,Bool.and_true,O] at this;rw [<-this.symm];congr 1;lia
 |cons k ks=>
  have hs:=Aa (M - M% 2^(n+1));rw [G] at hs
  have S:k∈j3 (M - M% 2^(n+1)):=by rw [G];exact .head _
  have F:=mJ.mp S;rw [pB,Bool.and_eq_true] at F;have Y:=of_decide_eq_true F.2;have k8:k<8:=Db (M:=M) U (mJ.mpr F.1);rwa[.inr ⟨by show 1<=(k:Int) - n;lia,by show (k:Int) - n<=7;lia,?_,λj R J=> ?_⟩]
  ·show t ((n:Int)+((k:Int) - n))=true;rw [show (n:Int)+((k:Int) - n)=(k:Int) by lia,<-O];exact F.1
  ·have J:j<(k:Int) - n:=J
   cases z:t ((n:Int)+j) with
   |false=>rfl
   |true=>
    have W:M.testBit (n+j.toNat)=true:=by rw [O,<-z];congr 1;lia
    have I:n+j.toNat∈j3 (M - M% 2^(n+1)):=mJ.mpr (by rw [pB,W,decide_eq_true @b];rfl);rw [G] at I
    rcases mem_cons.mp I with e|I
    ·lia
    ·have:=rel_of_pairwise_cons hs I;lia
theorem SL {M n:Nat}{t:Int->Bool}(U:n<8)(O:∀i:Nat,M.testBit i=t i)(G:M<2^8):xP t n (match (if M% 2^n=0 then none else some (L (M% 2^n) - 1):Option Nat) with|none=>0|some k=>(n:Int) - k):=by
 by_cases I:M% 2^n=0
 ·rw [if_pos I];rwa[.inl ⟨rfl,λj F Z jn=> ?_⟩];have:=Nat.testBit_mod_two_pow M n (n - j.toNat);rw [I,Nat.zero_testBit,decide_eq_true @b,Bool.true_and,O] at this;rw [<-this.symm];congr 1;lia
 ·rw [if_neg I];have S:=Cn I;have W:=S4 (M% 2^n);rw [Nat.testBit_mod_two_pow,Bool.and_eq_true] at S;have Y:=of_decide_eq_true S.1;have k8:L (M% 2^n) - 1<8:=Db (M:=M) G (mJ.mpr S.2);rwa[.inr ⟨by show 1<=(n:Int) - ((L (M% 2^n) - 1:Nat):Int);lia,?_,by show (n:Int) - ((L (M% 2^n) - 1:Nat):Int)<=n;lia,?_,λj F J=> ?_⟩]
  ·show (n:Int) - ((L (M% 2^n) - 1:Nat):Int)<=7;lia
  ·show t ((n:Int) - ((n:Int) - ((L (M% 2^n) - 1:Nat):Int)))=true;rw [show (n:Int) - ((n:Int) - ((L (M% 2^n) - 1:Nat):Int))=((L (M% 2^n) - 1:Nat):Int) by lia,<-O];exact S.2
  ·have J:j<(n:Int) - ((L (M% 2^n) - 1:Nat):Int):=J
   cases z:t ((n:Int) - j) with
   |false=>rfl
   |true=>
    have R:(M% 2^n).testBit (n - j.toNat)=true:=by rw [Nat.testBit_mod_two_pow,decide_eq_true @b,O,Bool.true_and,<-z];congr 1;lia
    have:=Nat.testBit_lt_two_pow (Nat.lt_of_lt_of_le W (Nat.pow_le_pow_right @c (show L (M% 2^n)<=n - j.toNat by lia)));rw [R] at this;cases this
noncomputable def MP (room:Int)(so:Str)(li:Int)(ps:List (Int×Int))(rs:List bo)(f0:Nat)(u d:Int):List V:=[.int (f0:Int),.int li,.int (iJ so li (tk room ps rs f0) (Nk ps f0) (Mz rs f0 li)),.int u,.int d]
inductive AG (K:Fg)(vs:List V)(H:Hp)(Q:VK)(_e:XK):Prop
 |mk (so room c p pl li dr mk ps xs:_) (rs:List bo) (f0:Nat) (_:vs=[.str so,.int room,.ref c,.ref p]) (_:b7 K H c pl li dr mk ps) (_:H p=some (.lst xs)) (_:aI K H xs @bj) (_:Ts ps rs) (_:pl=2*(f0:Int)) (_:f0<8) (_:∀r u d H',aq H H'->xO (tk room ps rs) f0 u->xP (tk room ps rs) f0 d->H' r=some (.tup (MP room so li ps rs f0 u d))->Q (.ref r) H')
theorem So {M n:Nat}(h:M<2^8):M - n<2^200:=Nat.lt_of_le_of_lt (Nat.sub_le _ _) (Nat.lt_trans h @c)
theorem K8 (F:Z0 K "view" GM f fd)(bT:Z01 P w K mg base)(vE:bp P w K mg base 4 "tasks_of" ["room","cabin","riders"] (wb K))(Js:bp P w K mg base 3 "above" ["mask","k"] wm)(C8:bp P w K mg base 4 "lowest" ["mask"] rq)(xK:bp P w K mg base 2 "below" ["mask","k"] mm)(zW:bp P w K mg base 1 "highest" ["mask"] oh)(zX:bp P w K mg base 3 "here_of" ["sort","cabin","tasks","riders"] (AN K)):ax P w K mg base aY 5 f fd ["sort","room","cabin","riders"] (AG K):=by
 rwa[F.ok Ov (by symm) (λag A outer s H vs Q E hr h=> ?_)];obtain ⟨so,I,c,p,pl,li,dr,mk,ps,xs,rs,R,rfl,z,ep,dp,hf,Y,ad,q⟩:=h;obtain ⟨b,bs,ec,eb,db⟩:=id z;rwa[⟨_,(aa @a (aa @a (aa @a (aa @a (aa @a (aa @a @h)))))),?_⟩]
 have e0:pl / 2=(R:Int):=by lia
 rwa[cG.mk _ _ _ _ _ _ rfl z ?_];rw [e0];rwa[wb.mk _ _ _ _ _ _ _ _ _ _ rfl z ep dp hf λM H1 s1 hM Z=> ?_];rwa[wm.mk _ _ rfl @b ?_];rwa[rq.mk _ rfl (So Z) λH2 s2=> ?_];have U:=Ri (n:=R) hM Z;generalize ((j3 (M - M% 2^(R+1)))[(0:Nat)]? :Option Nat)=ou at U ⊢;rwa[mm.mk _ _ rfl @b ?_];rwa[oh.mk _ rfl ?_];have D:=SL (n:=R) ad hM Z;generalize (if M% 2^R=0 then none else some (L (M% 2^R) - 1):Option Nat)=od at D ⊢;have G:=s1.trans s2;have J:=z.same G;have ae:∀u d:Int,xO (tk I ps rs) R u->xP (tk I ps rs) R d->∀r O j,aq H2 O->aq O j->j r=some (.tup (MP I so li ps rs R u d))->Q (.ref r) j:=λu d U D r O j s5 s6 S=>q r u d j ((G.trans s5).trans s6) U D S;obtain ⟨b2,af,W,_⟩:=id J;cases ou<;>cases od
 all_goals
  ext
  first|refine b6 rfl ?_|refine bG rfl ?_
  ext
  first|refine b6 rfl ?_|refine bG rfl ?_
  rwa[ar (aK.of W) rfl ?_];rwa[AN.mk _ _ _ _ _ _ _ _ _ _ _ _ rfl J (G.get ep) (aI.same dp G) hf Y ad λO s5=> ?_];rw [hM];exact cj Th λr j s6 _ S=>ae _ _ U D r _ _ s5 s6 S
theorem EA {pl:Int}{f0:Int}{ps:List (Int×Int)}(h:pl=2*f0):xi (.int (pl / 2)) (eI ps)=ps.any (λp=>decide (2*p.2=pl)):=by
 unfold xi eI;rw [any_map];congr 1
 funext p
 show (p.2==pl / 2)=decide (2*p.2=pl);by_cases e:p.2=pl / 2
 ·rw [decide_eq_true @b,beq_iff_eq];exact e
 ·rw [decide_eq_false @b,beq_eq_false_iff_ne];exact e
inductive nU (K:Fg)(vs:List V)(H:Hp)(Q:VK)(_e:XK):Prop
 |mk (so c wd pl li dr mk ps f0:_) (_:vs=[.str so,.ref c,.str wd]) (_:b7 K H c pl li dr mk ps) (_:qQ ps) (_:pl=2*f0) (_: -1<=li) (_:li<=1) (_:∀H',aq H H'->Q (.str @de) H')
theorem Bv (F:Z0 K "turned" wD f fd)(bR:mg "len"=none)(bT:Z01 P w K mg base)(cA:bp P w K mg base 1 "goals_aboard" ["cabin"] (gR K)):ax P w K mg base aY 2 f fd ["sort","cabin","word"] (nU K):=by
 rwa[F.ok Go (by symm) @S];obtain ⟨so,c,O,pl,li,dr,mk,ps,f0,rfl,J,hg,j,Z,ad,q⟩:=h;obtain ⟨b,xs,ec,eb,dx⟩:=id J;rwa[⟨_,(aa @a (aa @a (aa (az @a @dH av) (aa @y (aa @y @dH))))),?_⟩];unfold cg at q;left;rwa[gR.mk _ _ _ _ _ _ rfl J hg.1 λp H1 L n1 e1=> ?_];left;rwa[fD @cL @cL]
 ·rw [if_pos (.inl h1)] at q;left;exact q H1 L
 left;rw [oZ];rwa[fD @bU @bU]
 ·rw [if_pos (.inr (length_eq_zero_iff.mp @b))] at q;left;exact q H1 L
 rw [if_neg (λz=>z.elim h1 λz=>h2 (by rw [z];rfl))] at q;left;rwa[cG.mk _ _ _ _ _ _ rfl @cS ?_];left;rwa[AX @dF rfl (tV ps) ?_];rw [EA j];rwa[xj (λI=> ?_) (λI=> ?_)]
 ·rw [if_pos I] at q;left;exact q H1 L
 rw [if_neg (by rw [I];decide)] at q;left;rwa[fD (λG=> ?_) (λG=> ?_)]
 ·rw [if_pos G] at q;left;exact q H1 L
 rw [if_neg G] at q;by_cases W:O=s!"u"
 ·have R: ¬O=s!"d":=by rw [W];decide
  by_cases Y:li= -1
  ·rw [if_pos (.inl ⟨W,by lia⟩)] at q;left;exact q H1 L
  ·rw [if_neg (λz=>z.elim (λz=>Y @b) @ev)] at q;left;exact q H1 L
 ·by_cases R:O=s!"d"
  ·by_cases U:li=1
   ·rw [if_pos (.inr ⟨R,by lia⟩)] at q;left;exact q H1 L
   ·rw [if_neg (λz=>z.elim (λz=>W z.1) (λz=>U @b))] at q;left;exact q H1 L
  ·rw [if_neg (λz=>z.elim (λz=>W z.1) @ev)] at q;left;exact q H1 L
noncomputable def bd (fl pl:Int)(x:Str):Str:=if x=s!"u"/\pl / 2=fl - 1 then s!"s" else if x=s!"d"/\pl / 2=0 then s!"s" else x
inductive oj (K:Fg)(vs:List V)(H:Hp)(Q:VK)(_e:XK):Prop
 |mk (fl c wd pl li dr mk ps:_) (_:vs=[.int fl,.ref c,.str wd]) (_:b7 K H c pl li dr mk ps) (_:Q (.str (bd fl pl wd)) H)
theorem By (F:Z0 K "bounded" sh f fd)(I:Z01 P w K mg base):ax P w K mg base aY 2 f fd ["floors","cabin","word"] (oj K):=by
 rwa[F.ok DT (by symm) @bq];obtain ⟨fl,c,j,pl,li,dr,O,ps,rfl,J,q⟩:=h;rwa[⟨_,(aa @y (aa @y @dH)),?_⟩];unfold bd at q;by_cases h1:j=s!"u"
 ·have R: ¬j=s!"d":=by rw [h1];decide
  left;rwa[cG.mk _ _ _ _ _ _ rfl J ?_];rwa[fD @bU @bU]
  ·rw [if_pos ⟨h1,h2⟩] at q;left;exact q
  ·rw [if_neg (λz=>h2 z.2),if_neg @ev] at q;left;exact q
 ·by_cases R:j=s!"d"
  ·left;rwa[cG.mk _ _ _ _ _ _ rfl J ?_];rwa[fD @bU @bU]
   ·rw [if_neg @df,if_pos ⟨R,h2⟩] at q;left;exact q
   ·rw [if_neg @df,if_neg (λz=>h2 z.2)] at q;left;exact q
  ·rw [if_neg @df,if_neg @ev] at q;left;exact q
inductive fg (K:Fg)(vs:List V)(H:Hp)(Q:VK)(_e:XK):Prop
 |mk (c p l d pl li dr mk ps:_) (_:vs=[.ref c,.int p,.int l,.int d]) (_:b7 K H c pl li dr mk ps) (_:∀r H',aq H H'->b7 K H' r p l d mk ps->Q (.ref r) H')
theorem K6 (F:Z0 K "with_changes" g9 f fd):ax P w K mg base aY 1 f fd ["cabin","place","light","door"] (fg K):=by
 rwa[F.ok uR (by symm) (λj A outer s H I Q E z h=> ?_)];obtain ⟨c,p,l,d,pl,li,dr,G,ps,rfl,J,q⟩:=h;obtain ⟨b,xs,S,U,dx⟩:=id J;rwa[⟨_,@h,?_⟩];left;exact cj Th λr H1 L _ e1=>q r H1 L ⟨b,xs,e1,L.get U,aI.same dx L⟩
theorem UT {fl pl:Int}:bd fl pl "o"=s!"o":=by unfold bd;rw [if_neg @v,if_neg @v]
theorem UR {fl pl:Int}:bd fl pl "x"=s!"x":=by unfold bd;rw [if_neg @v,if_neg @v]
theorem US {fl pl:Int}:bd fl pl "s"=s!"s":=by unfold bd;rw [if_neg @v,if_neg @v]
theorem SQ {fl pl:Int}(h:pl / 2=fl - 1):bd fl pl "u"=s!"s":=by unfold bd;rw [if_pos ⟨rfl,h⟩]
theorem SR {fl pl:Int}(h: ¬pl / 2=fl - 1):bd fl pl "u"=s!"u":=by unfold bd;rw [if_neg @eu,if_neg @v]
theorem SS {fl pl:Int}(h:pl / 2=0):bd fl pl "d"=s!"s":=by unfold bd;rw [if_neg @v,if_pos ⟨rfl,h⟩]
theorem SU {fl pl:Int}(h: ¬pl / 2=0):bd fl pl "d"=s!"d":=by unfold bd;rw [if_neg @v,if_neg @eu]
inductive nR (K:Fg)(vs:List V)(H:Hp)(Q:VK)(_e:XK):Prop
 |mk (so fl tu c wd pl li dr mk ps f0:_) (_:vs=[.str so,.int fl,.int tu,.ref c,.str wd]) (_:b7 K H c pl li dr mk ps) (_:wd∈cf) (_:qQ ps) (_:pl=2*f0) (_:0<=f0) (_:f0<fl) (_: -1<=li) (_:li<=1) (_:∀r H',aq H H'->b7 K H' r (fA fl tu pl li dr ps @de).1 (fA fl tu pl li dr ps @de).2.1 (fA fl tu pl li dr ps @de).2.2 mk ps->Q (.ref r) H')
theorem FX {H:Hp}{so:Str}{fl tu:Int}{c:Addr}{j:Str}{pl li dr z:Int}{ps:List (Int×Int)}{f0:Int}{Q:VK}{E:XK}(h1:b7 K H c pl li dr z ps)(h2:j∈cf)(G:qQ ps)(F:pl=2*f0)(W:0<=f0)(L:f0<fl)(R: -1<=li)(I:li<=1)
(g:∀r H',aq H H'->b7 K H' r (fA fl tu pl li dr ps @eW).1 (fA fl tu pl li dr ps @eW).2.1 (fA fl tu pl li dr ps @eW).2.2 z ps->Q (.ref r) H'):nR K [.str so,.int fl,.int tu,.ref c,.str j] H Q E:=⟨so,fl,tu,c,j,pl,li,dr,z,ps,f0,rfl,h1,h2,G,F,W,L,R,I,g⟩
theorem Qc {fl tu pl li dr:Int}{ps:List (Int×Int)}{z:Str}(I:0<=pl)(h1:pl / 2<fl)(h2:pl% 2=0)(F:z∈cf):fA fl tu pl li dr ps z=if bd fl pl z=s!"o" then (pl,li,tu) else if bd fl pl z=s!"x" then (pl,0,tu) else if bd fl pl z=s!"u" then (pl+1,1,dr) else if bd fl pl z=s!"d" then (pl - 1,-1,dr) else (pl,if ps=[] then 0 else li,dr):=by
 have j: ¬s!"s"=s!"o":=by decide+kernel
 have R: ¬s!"s"=s!"x":=by decide+kernel
 have O: ¬s!"s"=s!"u":=by decide+kernel
 have L: ¬s!"s"=s!"d":=by decide+kernel
 rcases SE F with rfl|rfl|rfl|rfl|rfl
 ·rw [UT,Nc,if_pos rfl]
 ·rw [UR,Na,if_neg @g,if_pos rfl]
 ·by_cases h:pl / 2=fl - 1
  ·rw [SQ h,I9 @b,if_neg j,if_neg R,if_neg O,if_neg L]
  ·rw [SR h,IZ @b,if_neg @g,if_neg @g,if_pos rfl]
 ·by_cases h:pl / 2=0
  ·rw [SS h,Jb @b,if_neg j,if_neg R,if_neg O,if_neg L]
  ·rw [SU h,Ja @b,if_neg @g,if_neg @g,if_neg @g,if_pos rfl]
 ·rw [US,Nb,if_neg j,if_neg R,if_neg O,if_neg L]
abbrev Z03:=λP w K mg base=>bp P w K mg base 1 "with_changes" ["cabin","place","light","door"] (fg K)
theorem Bu (F:Z0 K "steered" rQ f fd)(bR:mg "len"=none)(C7:bp P w K mg base 2 "turned" ["sort","cabin","word"] (nU K))(z6:bp P w K mg base 2 "bounded" ["floors","cabin","word"] (oj K))(cy:Z03 P w K mg base):ax P w K mg base aY 3 f fd ["sort","floors","turns","cabin","word"] (nR K):=by
 rwa[F.ok DH (by symm) (λae A outer s H vs Q E hr h=> ?_)];obtain ⟨so,fl,tu,c,wd,pl,li,dr,mk,ps,f0,rfl,J,hw,hg,Z,af,ag,Y,ad,q⟩:=h;obtain ⟨b,xs,ec,eb,dx⟩:=id J;have hx:=aH dx;rwa[⟨_,(aa @a (aa @a (aa @a (aa @a (aa @bk (aa @bk (aa @bk @fO))))))),?_⟩];left;rwa[nU.mk _ _ _ _ _ _ _ _ _ rfl J hg Z Y ad λH1 L=> ?_];rwa[oj.mk _ _ _ _ _ _ _ _ rfl @cS ?_];have R:=pJ (so:=so) (pl:=pl) (li:=li) (ps:=ps) hw;generalize cg so pl li ps wd=w' at R q ⊢;have j:=Qc (fl:=fl) (tu:=tu) (li:=li) (dr:=dr) (ps:=ps) (pl:=pl) @b @b @b R
 have O:∀I G U,fA fl tu pl li dr ps w'=(I,G,U)->∀r H',aq H1 H'->b7 K H' r I G U mk ps->Q (.ref r) H':=λI G U e r H' s2 er=>by
  rwa[q r H' (L.trans s2) ?_];rw [e];exact er
 generalize bd fl pl w'=x at j ⊢;rwa[fD @k @fj]
 ·ext;exact fg.mk _ _ _ _ _ _ _ _ _ rfl @cS (O _ _ _ (by rw [j,if_pos z]))
 rwa[fD @k @dZ]
 ·ext;exact fg.mk _ _ _ _ _ _ _ _ _ rfl @cS (O _ _ _ (by rw [j,if_neg S,if_pos z]))
 rwa[fD @k (λz3=> ?_)]
 ·ext;exact fg.mk _ _ _ _ _ _ _ _ _ rfl @cS (O _ _ _ (by rw [j,if_neg S,if_neg W,if_pos z]))
 rwa[fD @k (λz4=> ?_)]
 ·ext;exact fg.mk _ _ _ _ _ _ _ _ _ rfl @cS (O _ _ _ (by rw [j,if_neg S,if_neg W,if_neg z3,if_pos z]))
 rw [if_neg S,if_neg W,if_neg z3,if_neg z4] at j;rwa[ar (aK.of (L _ _ ec)) rfl ?_];rwa[gW (aK.of (L _ _ eb)) ?_];rwa[fD @k @k]
 ·ext;exact fg.mk _ _ _ _ _ _ _ _ _ rfl @cS (O _ _ _ (by rw [j,if_neg (λy=>by subst y;rw [hx] at z;exact absurd z @c)]))
 ·ext;exact fg.mk _ _ _ _ _ _ _ _ _ rfl @cS (O _ _ _ (by rw [j,if_pos (length_eq_zero_iff.mp @b)]))
noncomputable def yh (r:bo):Int:=if r.start<r.goal then 1 else -1
structure E3 where
 light:Int
 kept:List (Int×Int)
 ins:List Int
noncomputable def iq (so:Str)(room pl:Int)(s:E3)(r:bo):Bool:=decide (2*r.start=pl)&&decide ((s.kept.length:Int)<room)&&decide (so=s!"free"\/s.light=0\/s.light=yh r)
noncomputable def cW (so:Str)(room pl:Int)(s:E3)(r:bo):E3:=if iq so room pl s r=true then ⟨if so=s!"way" then yh r else s.light,s.kept++[(r.tag,r.goal)],s.ins++[r.tag]⟩ else s
noncomputable def bB (so:Str)(room pl:Int)(s:E3)(rs:List bo):E3:=rs.foldl (cW so room pl) s
theorem dS {so:Str}{room pl:Int}{s:E3}{rs:List bo}{i:Nat}{r:bo}(h:rs[i]? =some r):bB so room pl s (rs.take (i+1))=cW so room pl (bB so room pl s @dP) r:=by
 rw [take_succ,h];unfold bB;rw [foldl_append];rfl
theorem FW {so:Str}{room pl:Int}(s:E3)(r:bo):(cW so room pl s r).kept.length<=s.kept.length+1/\(cW so room pl s r).ins.length<=s.ins.length+1:=by
 unfold cW;split<;>simp
theorem nQ {so:Str}{room pl:Int}:∀(rs:List bo) (s:E3),(bB so room pl s rs).kept.length<=s.kept.length+rs.length/\(bB so room pl s rs).ins.length<=s.ins.length+rs.length
 |[],s=>⟨Nat.le_refl _,Nat.le_refl _⟩
 |r::rs,s=>by
  have h1:=nQ (so:=so) (room:=room) (pl:=pl) rs @bo;have h2:=FW (so:=so) (room:=room) (pl:=pl) s r;show (bB so room pl @bo rs).kept.length<=_/\(bB so room pl @bo rs).ins.length<=_;rw [length_cons];lia
noncomputable def dP (pl:Int)(ps:List (Int×Int)):List (Int×Int):=ps.filter λp=> !decide (2*p.2=pl)
noncomputable def cX (pl:Int)(ps:List (Int×Int)):List Int:=(ps.filter λp=>decide (2*p.2=pl)).map (·.1)
noncomputable def xz (so:Str)(room pl li:Int)(ps:List (Int×Int))(rs:List bo):E3:=bB so room pl ⟨li,dP pl ps,[]⟩ rs
theorem jO {α:Type}(f:α->Bool){xs:List α}{i:Nat}{x:α}(h:xs[i]? =some x):(xs.take (i+1)).filter f=(xs.take i).filter f++if f x=true then [x] else []:=by
 rw [take_succ,h,filter_append];congr 1;cases e:f x<;>simp [e]
def u8 (K:Fg)(H0 H:Hp)(n k:Addr)(ins:List Int)(kept:List (Int×Int)):Prop:=aq H0 H/\H0 n=none/\H0 k=none/\n≠k/\H n=some (.lst (ins.map V.int))/\∃ks,H k=some (.lst ks)/\aI K H ks (kept.map mE)
theorem u8.pushN {H0 H:Hp}{n k:Addr}{z:List Int}{j:List (Int×Int)}(g:u8 K H0 H n k z j)(t:Int):u8 K H0 (upd H n (.lst (z.map V.int++[.int t]))) n k (z++[t]) j:=by
 obtain ⟨s,F,S,I,G,ks,L,J⟩:=g;rwa[⟨aq.updF s F,F,S,I,by rw [af,map_append];rfl,ks,by rw [ag (Ne.symm I)];exact L,jB J (oO j) G⟩]
theorem u8.same {H0 H H':Hp}{n k:Addr}{z:List Int}{j:List (Int×Int)}(g:u8 K H0 H n k z j)(s':aq H H'):u8 K H0 H' n k z j:=by
 obtain ⟨s,F,S,I,G,ks,L,J⟩:=g;exact ⟨s.trans s',F,S,I,s'.get G,ks,s'.get L,aI.same J s'⟩
theorem u8.pushK {H0 H:Hp}{n k l:Addr}{F:List Int}{j:List (Int×Int)}{ks:List V}{t g:Int}(G:u8 K H0 H n k F j)(L:H k=some (.lst ks))(W:H l=some (.tup [.int t,.int g])):u8 K H0 (upd H k (.lst (ks++[.ref l]))) n k F (j++[(t,g)]):=by
 obtain ⟨s,J,S,I,U,R,z,O⟩:=G;rw [L] at z;cases z;rwa[⟨aq.updF s S,J,S,I,by rw [ag I];exact U,_,af,?_⟩];rw [map_append];exact Paired.app (jB O (oO j) L) (.cons (bO.noL (d:=mE (t,g)) (iQ (aK.of W) (.cons (.int _) (.cons (.int _) .nil))) rfl L) .nil)
def Jw (K:Fg)(H0 H:Hp)(r:Addr)(pl li dr mk:Int)(kept:List (Int×Int))(outs ins:List Int):Prop:=∃c o n,H r=some (.tup [.ref c,.ref o,.ref n])/\b7 K H c pl li dr mk kept/\H o=some (.lst (outs.map V.int))/\H n=some (.lst (ins.map V.int))/\H0 o=none/\H0 n=none/\o≠n
inductive F4 (vs:List V)(H:Hp)(Q:VK)(_e:XK):Prop
 |mk (so:_) (li s g:Int) (_:vs=[.str so,.int li,.int s,.int g]) (_:Q (.bl (decide (so=s!"free"\/li=0\/li=vW s g))) H)
theorem Pc (F:Z0 K "may_step_in" kY f fd)(I:bp P w K mg base 1 "way_of" ["start","goal"] rn):ax P w K mg base aY 2 f fd ["sort","light","start","goal"] F4:=by
 rwa[F.ok yJ (by symm) @bq];obtain ⟨j,li,s,g,rfl,q⟩:=h;rwa[⟨_,@h,?_⟩];by_cases h1:j=s!"free"
 ·rw [decide_eq_true (.inl h1)] at q;left;exact q
 ·by_cases h2:li=0
  ·rw [decide_eq_true (.inr (.inl h2))] at q;left;exact q
  ·left;rwa[rn.mk _ _ rfl ?_];have e:decide (j=s!"free"\/li=0\/li=vW s g)=decide (vW s g=li):=decide_eq_decide.mpr ⟨λz=>by rcases z with z|z|z;exact absurd z h1;exact absurd z h2;exact z.symm,λz=> .inr (.inr z.symm)⟩;rw [e] at q;exact q
inductive AS (K:Fg)(vs:List V)(H:Hp)(Q:VK)(_e:XK):Prop
 |mk (so room c p pl li dr mk ps xs:_) (rs:List bo) (f0:Int) (_:vs=[.str so,.int room,.ref c,.ref p]) (_:b7 K H c pl li dr mk ps) (_:ps.length<=64) (_:H p=some (.lst xs)) (_:aI K H xs @bj) (_:Qm rs) (_:pl=2*f0) (_:∀r H',aq H H'->Jw K H H' r pl (xz so room pl li ps rs).light dr mk (xz so room pl li ps rs).kept (cX pl ps) (xz so room pl li ps rs).ins->Q (.ref r) H')
theorem SH {H:Hp}{so:Str}{room:Int}{c p:Addr}{pl li dr j:Int}{ps:List (Int×Int)}{xs:List V}{rs:List bo}{f0:Int}{Q:VK}{E:XK}(h1:b7 K H c pl li dr j ps)(h2:ps.length<=64)(G:H p=some (.lst xs))(z:aI K H xs @bj)(W:Qm rs)(L:pl=2*f0)
(g:∀r H',aq H H'->Jw K H H' r pl (xz so room pl li ps rs).light dr j (xz so room pl li ps rs).kept (cX pl ps) (xz so room pl li ps rs).ins->Q (.ref r) H'):AS K [.str so,.int room,.ref c,.ref p] H Q E:=⟨so,room,c,p,pl,li,dr,j,ps,xs,rs,f0,rfl,h1,h2,G,z,W,L,g⟩
theorem Ln (F:Z0 K "exchanged" lj f fd)(bR:mg "len"=none)(bQ:mg "tuple"=none)(bT:Z01 P w K mg base)(iz:bp P w K mg base 1 "way_of" ["start","goal"] rn)(iA:bp P w K mg base 2 "may_step_in" ["sort","light","start","goal"] F4):ax P w K mg base aY 3 f fd ["sort","room","cabin","riders"] (AS K):=by
 rwa[F.ok dM (by symm) (λaM A outer s H vs Q E hr h=> ?_)];obtain ⟨J,I,c,p,pl,li,dr,mk,ps,xs,rs,f0,rfl,hc,aJ,ep,dp,aA,hf,q⟩:=h;obtain ⟨b,bs,ec,eb,db⟩:=id hc;have bl:=aH db;have xl:=aH dp;rwa[⟨_,(aa @a (aa @a (aa (fw (i:=6) rfl dM.nd rfl @n (aC (N':=["tag","goal","floor"]) (pk:=[none,none,some 4]) @o) @a @x @X @R) (aa @a (aa (fw (i:=8) rfl dM.nd rfl @n (aC (N':=["tag","goal","floor"]) (pk:=[none,none,some 4]) @o) @a @x @X @i) (aa (bJ PassesOwn.never rfl @a (ff (K:=K) (n:=4) rfl rfl (aE @a (aE @a (aE (mz (i:=11) dM.nd rfl @n) (aE (mz (i:=12) dM.nd rfl @n) dB))))) (ac (az (PW.pt (Av (c8 @gR @eC (wv 4) (b4 _)) (Av @a (Cy (pH rfl (b3 iA hr @c rfl (ao (wv 0) (ao (wv 5) (ao @eC @dY))))))))) (aa @gl (aa (aS (iW rfl PySem.F.plainAttrs_list PySem.F.slot_list_append PySem.F.type_list_append ym (wv 8) (ao (kB (ao (wv 9) @dY)) aj))) (ac (aZ (i:=5) dM.nd rfl @n (Ci @a (b3 iz hr @c rfl (ao @eC @dY)) (wv 5)))))) av))) (ac (am (kB (ao (kB (ao @a (ao (wv 5) (ao @a (ao @a (ao (aV @ek rfl bQ boot_tuple (ao (wv 8) aj)) aj)))))) (ao (wv 6) (ao (wv 7) aj)))))))))))),?_⟩];left;rwa[cG.mk _ _ _ _ _ _ rfl hc ?_];left;rwa[jw @ci ?_]
 refine fM (xs:=bs) (λi ys H'=>H'=H/\ys=(cX pl @fP).map V.int) @bs (λi ys H' p=>by
  rw [p.2,length_map];unfold cX;rw [length_map];have:=length_filter_le (λp=>decide (2*p.2=pl)) @fP;rw [length_take] at this;lia) ⟨rfl,rfl⟩ (λi ys H' _ p=>by rw [p.1];exact aK.of eb) (λi x ys H' ad p=> ?_) (λys H' p o n1=> ?_)
 ·obtain ⟨rfl,rfl⟩:=p;obtain ⟨U,ak,ae⟩:=bj db ad;obtain ⟨u,us,rfl,hu,O⟩:=ae.outT
  cases O with|cons q0 r0=>cases r0 with|cons q1 r1=>
  cases r1;cases q0.isInt;cases q1.isInt;left;rwa[⟨jb,?_⟩];show if decide (U.2=pl / 2)=true then _ else _;unfold cX;rw [jO _ ak];by_cases h1:U.2=pl / 2
  ·rw [if_pos @eB,if_pos (decide_eq_true (show 2*U.2=pl by lia)),map_append,map_append];exact ⟨rfl,rfl⟩
  ·rw [if_neg (by rw [decide_eq_false h1];decide),if_neg (by rw [decide_eq_false (show ¬2*U.2=pl by lia)];decide),append_nil];exact ⟨rfl,rfl⟩
 obtain ⟨rfl,rfl⟩:=p;rw [take_of_length_le (show ps.length<=bs.length by lia)];have e1:upd H' o (.lst ((cX pl ps).map V.int)) o=some (.lst ((cX pl ps).map V.int)):=af;have s1:aq H' (upd H' o (.lst ((cX pl ps).map V.int))):= .upd n1;generalize upd H' o (.lst ((cX pl ps).map V.int))=H1 at e1 s1 ⊢;left;rwa[ju (bw (by first|decide|simp)) λn H2 s2 n2 e2=> ?_]
 have no:n≠o:=λz=>by rw [z,e1] at n2;cases n2
 have nH:H' n=none:=s1.free n2;left;rwa[jw @ci ?_]
 refine fM (xs:=bs) (λi ys j=>aq H2 j/\aI K j ys ((dP pl @fP).map mE)) @bs (λi ys j p=>by
  rw [aH p.2];unfold dP;have:=length_filter_le (λp=> !decide (2*p.2=pl)) @fP;rw [length_take] at this;lia) ⟨.refl _,.nil⟩ (λi ys j _ p=>p.1.seqT (s2.seqT (s1.seqT (aK.of eb)))) (λi x ys j ad p=> ?_) (λys j p k Y=> ?_)
 ·obtain ⟨W,dy⟩:=p;obtain ⟨U,ak,ae⟩:=bj db ad;obtain ⟨u,us,rfl,hu,O⟩:=ae.outT
  cases O with|cons q0 r0=>cases r0 with|cons q1 r1=>
  cases r1;cases q0.isInt;cases q1.isInt;left;rwa[⟨jb,?_⟩];show if (!decide (U.2=pl / 2))=true then _ else _;unfold dP;rw [jO _ ak];by_cases h1:U.2=pl / 2
  ·rw [if_neg (by rw [decide_eq_true h1];decide),if_neg (by rw [decide_eq_true (show 2*U.2=pl by lia)];decide),append_nil];exact ⟨W,dy⟩
  ·rw [if_pos (by rw [decide_eq_false h1];rfl),if_pos (by rw [decide_eq_false (show ¬2*U.2=pl by lia)];rfl)];rwa[cj (bw (by first|decide|simp)) λl HY sy ny ey=> ?_];rwa[⟨W.trans sy,?_⟩];rw [map_append];exact Paired.app (aI.same dy sy) (.cons (iQ (aK.of ey) (.cons (.int _) (.cons (.int _) .nil))) .nil)
 obtain ⟨W,dy⟩:=p;rw [take_of_length_le (show ps.length<=bs.length by lia)] at dy
 have nk:n≠k:=λz=>by rw [<-z,W.get e2] at Y;cases Y
 have ok:o≠k:=λz=>by rw [<-z,W.get @gS] at Y;cases Y
 have kH:H' k=none:=s1.free (s2.free (W.free Y));have ai:aq H' (upd j k (.lst ys)):=((s1.trans s2).trans W).trans (.upd Y);have e3:upd j k (.lst ys) n=some (.lst []):=(aq.upd Y).get (W.get e2);have Z:upd j k (.lst ys) o=some (.lst ((cX pl ps).map V.int)):=(aq.upd Y).get (W.get @gS);have al:upd j k (.lst ys) k=some (.lst ys):=af;have ar:aI K (upd j k (.lst ys)) ys ((dP pl ps).map mE):=aI.same dy (.upd Y);generalize upd j k (.lst ys)=H3 at ai e3 Z al ar ⊢;left;rwa[bD (ai.seq (aD.of ep)) ?_];rwa[bS (xs:=xs) (λi σ j=>u8 K H' j n k (bB J I pl ⟨li,dP pl ps,[]⟩ @dP).ins (bB J I pl ⟨li,dP pl ps,[]⟩ @dP).kept/\j o=some (.lst ((cX pl ps).map V.int))/\∃t1 t2 t3 t4,σ=[some (.str J),some (.int I),some (.ref c),some (.ref p),some (.int (pl / 2)),some (.int (bB J I pl ⟨li,dP pl ps,[]⟩ @dP).light),some (.ref o),some (.ref n),some (.ref k),t1,t2,t3,t4]) ⟨⟨ai,nH,kH,nk,e3,ys,al,ar⟩,Z,_,_,_,_,rfl⟩ (λi σ j _ pv=>by obtain ⟨⟨sm,_⟩,_⟩:=pv;exact sm.seq (aD.of ep)) (λi x σ j hx pv=> ?_) (λσ j pv=> ?_)]
 ·obtain ⟨G,Z,t1,t2,t3,t4,rfl⟩:=pv;obtain ⟨r,L,ay⟩:=bj dp hx;obtain ⟨u,us,rfl,hu,O⟩:=ay.outT
  cases O with|cons q0 r0=>cases r0 with|cons q1 r1=>cases r1 with|cons q2 r2=>cases r2 with|cons q3 r3=>
  cases r3;cases q0.isInt;cases q1.isInt;cases q2.isInt;cases q3.isInt;have sm:=G.1
  have lp:i<rs.length:=by have:=(List.getElem?_eq_some_iff.mp L).1;lia
  have ll:=nQ (so:=J) (room:=I) (pl:=pl) @dP ⟨li,dP pl ps,[]⟩;rw [length_take] at ll;have aL:=aA.1;have kp:(dP pl ps).length<=ps.length:=length_filter_le _ _;generalize hS:bB J I pl ⟨li,dP pl ps,[]⟩ @dP=S at *;simp only [length_nil] at ll
  have R:iq J I pl S r=false->cW J I pl S r=S:=λe=>by unfold cW;rw [e];rfl
  obtain ⟨ks,ek,dk⟩:=G.2.2.2.2.2;have kl:=aH dk;left;rwa[fD @cL @cL]
  ·have aB:2*r.start=pl:=by lia
   left;rw [kl];rwa[fD @bU @bU]
   ·left;rwa[F4.mk _ _ _ _ rfl ?_]
    have as:(J=s!"free"\/S.light=0\/S.light=vW r.start r.goal)->cW J I pl S r=⟨if J=s!"way" then yh r else S.light,S.kept++[(r.tag,r.goal)],S.ins++[r.tag]⟩:=λz=>by
     unfold cW iq;rw [if_pos (by rw [decide_eq_true aB,decide_eq_true h2,decide_eq_true (show J=s!"free"\/S.light=0\/S.light=yh r from z)];rfl)]
    have aO:=G.2.2.2.2.1;rwa[fD (λh4=> ?_) (λh4=> ?_)]
    ·left;rwa[iL G.2.2.2.2.1 (Cr (by rw [length_map];lia)) ?_];have GB:=G.pushN r.tag
     have an:upd j n (.lst (S.ins.map V.int++[.int r.tag])) o=some (.lst ((cX pl ps).map V.int)):=by rw [ag (Ne.symm no)];exact Z
     generalize upd j n (.lst (S.ins.map V.int++[.int r.tag]))=HB at GB an ⊢;obtain ⟨aG,aF,aN⟩:=GB.2.2.2.2.2;left;erw[cj (bw (by first|decide|simp)) λlA HA sA nA eA=> ?_];have GA:=GB.same sA;obtain ⟨ap,au,aw⟩:=GA.2.2.2.2.2;rwa[iL au (Cr (by rw [aH aw];lia)) ?_];have GC:=GA.pushK au eA
     have ah:upd HA k (.lst (ap++[.ref lA])) o=some (.lst ((cX pl ps).map V.int)):=by rw [ag ok];exact sA.get an
     generalize upd HA k (.lst (ap++[.ref lA]))=HC at GC ah ⊢;ext;by_cases h5:J=s!"way"
     ·left;erw[rn.mk _ _ rfl ?_];rw [dS L,hS,as h4,if_pos h5];exact ⟨GC,ah,_,_,_,_,rfl⟩
     ·left;rw [dS L,hS,as h4,if_neg h5];exact ⟨GC,ah,_,_,_,_,rfl⟩
    ·left;rw [dS L,hS,R (by unfold iq;rw [decide_eq_false (show ¬(J=s!"free"\/S.light=0\/S.light=yh r) from h4),Bool.and_false])];exact ⟨G,Z,_,_,_,_,rfl⟩
   ·left;rw [dS L,hS,R (by unfold iq;rw [decide_eq_false h2,Bool.and_false];rfl)];exact ⟨G,Z,_,_,_,_,rfl⟩
  ·left;rw [dS L,hS,R (by unfold iq;rw [decide_eq_false (show ¬2*r.start=pl by lia)];rfl)];exact ⟨G,Z,_,_,_,_,rfl⟩
 ·obtain ⟨G,Z,t1,t2,t3,t4,rfl⟩:=pv;rw [take_of_length_le (show rs.length<=xs.length by lia)] at G ⊢;obtain ⟨ks,ek,dk⟩:=G.2.2.2.2.2;have sm:=G.1;left;rwa[iZ (aD.of ek) λl HA sA nA eA=> ?_];left;rwa[cj Th λc' HB sB nB eB=> ?_];left;rwa[cj (bw (by first|decide|simp)) λr' HC sC nC eC=> ?_];exact q r' HC (((G.1.trans sA).trans sB).trans sC) ⟨c',o,n,eC,⟨l,ks,sC.get eB,sC.get (sB.get eA),by walk_at "l3sq"⟩,by walk_at "l3sq",sC.get (sB.get (sA.get G.2.2.2.2.1)),n1,nH,Ne.symm no⟩
abbrev OO:Str:=s!"plain"
abbrev hst:Str:=s!"hasty"
abbrev Ko:Str:=s!"slow"
def sV (k:Str):Prop:=k=OO\/k=hst\/k=Ko
noncomputable def kc (kD kH kS:Addr)(k:Str):Addr:=if k=hst then kH else if k=Ko then kS else kD
theorem PP {j z F:Addr}:kc j z F OO=j:=by unfold kc;rw [if_neg @c,if_neg @c]
theorem PQ {j z F:Addr}:kc j z F hst=z:=by unfold kc;rw [if_pos rfl]
theorem PN {j z F:Addr}:kc j z F Ko=F:=by unfold kc;rw [if_neg @c,if_pos rfl]
noncomputable def ir (k:Str)(t n:Int)(b s:Bool):Int:=if (k=OO/\b=true)\/(k=Ko/\(b=true\/s=true)) then t else if k=hst/\b=true then n else n - 1
abbrev Me (C dx:Addr)(t:Int):HO:= .ins C dx [(s!"turns",.int t)]
inductive kN (K:Fg)(vs:List V)(H:Hp)(Q:VK)(_e:XK):Prop
 |mk (a t C dx:_) (_:vs=[.ref a,.int t]) (_:H a=some (.ins C dx [])) (_:vQ K C) (_:aT K C "turns") (_:Q .non (upd H a @gT))
theorem Lg (F:be K "__init__" "Door.__init__" oJ f fd):ax P w K mg base aY 1 f fd ["self","turns"] (kN K):=by
 rwa[F.ok A8 (by symm) @j];obtain ⟨a,t,C,dx,rfl,G,Y,z,q⟩:=h;rwa[⟨_,(ac @bJ),?_⟩];exact dI G Y z @c q
inductive je (K:Fg)(k:Str)(vs:List V)(H:Hp)(Q:VK)(_e:XK):Prop
 |mk (a n b s t C dx:_) (_:vs=[.ref a,.int n,.bl b,.bl s]) (_:H a=some @gT) (_:vQ K C) (_:aT K C "turns") (_:Q (.int (ir k t n b s)) H)
theorem Hx (F:be K "left" "Door.left" oH f fd):ax P w K mg base aY 1 f fd ["self","count","blocked","stepped"] (je K OO):=by
 rwa[F.ok A7 (by symm) @j];obtain ⟨a,n,b,s,t,C,dx,rfl,G,Y,z,q⟩:=h;rwa[⟨_,@h,?_⟩];cases b
 ·rw [show ir OO t n false s=n - 1 from by unfold ir;rw [if_neg (by cases s<;>decide),if_neg @c]] at q;left;exact q
 ·rw [show ir OO t n true s=t from by unfold ir;rw [if_pos (.inl ⟨rfl,rfl⟩)]] at q;left;exact fh G Y z rfl q
theorem Hw (F:be K "left" "Hasty.left" k7 f fd):ax P w K mg base aY 1 f fd ["self","count","blocked","stepped"] (je K hst):=by
 rwa[F.ok yM (by symm) @j];obtain ⟨a,n,b,s,t,C,dx,rfl,G,Y,z,q⟩:=h;rwa[⟨_,@h,?_⟩];cases b
 ·rw [show ir hst t n false s=n - 1 from by unfold ir;rw [if_neg (by cases s<;>decide),if_neg @c]] at q;left;exact q
 ·rw [show ir hst t n true s=n from by unfold ir;rw [if_neg (by cases s<;>decide),if_pos ⟨rfl,rfl⟩]] at q;left;exact q
theorem Hv (F:be K "left" "Slow.left" oo f fd):ax P w K mg base aY 1 f fd ["self","count","blocked","stepped"] (je K Ko):=by
 rwa[F.ok AY (by symm) @bq];obtain ⟨a,n,b,s,t,C,dx,rfl,z,Y,j,q⟩:=h;rwa[⟨_,@h,?_⟩];cases b
 ·cases s
  ·rw [show ir Ko t n false false=n - 1 from by unfold ir;rw [if_neg @c,if_neg @c]] at q;left;exact q
  ·rw [show ir Ko t n false true=t from by unfold ir;rw [if_pos (.inr ⟨rfl,.inr rfl⟩)]] at q;left;exact fh z Y j rfl q
 ·rw [show ir Ko t n true s=t from by unfold ir;rw [if_pos (.inr ⟨rfl,.inl rfl⟩)]] at q;left;exact fh z Y j rfl q
structure Nr (K:Fg)(C:Addr):Prop where
 i:gJ K C
 n:aT K C "turns"
unseal gD in
theorem Ps {C:Addr}{E:XK}{t:Int}{H:Hp}{Q:VK}(c:Nr K C)(g:∀a dx H',aq H H'->H a=none->H' a=some @gT->Q (.ref a) H'):gD C (kN K) E [.int t] H Q:=by
 show ∀a dx,H a=none->H dx=none->dx≠a->kN K (.ref a::([.int t]++[])) @p (λv H2=>v= .non/\Q (.ref a) H2) E;intro a dx h1 h2 G;rwa[kN.mk _ _ _ _ rfl af c.i.cl c.n ⟨rfl,g a dx _ ?_ h1 af⟩];intro b u z;rw [ag (λe=>by rw [e,h1] at z;cases z)];exact fC h1 h2 b u z
inductive rz (K:Fg)(kD kH kS:Addr)(vs:List V)(H:Hp)(Q:VK)(_e:XK):Prop
 |mk (k t:_) (_:vs=[.str k,.int t]) (_:sV k) (_:∀a dx H',aq H H'->H a=none->H' a=some (Me @hg dx t)->Q (.ref a) H')
theorem Ef (F:Z0 K "door_of" wT f fd)(J:Nr K u3)(L:Nr K mL)(I:Nr K xg)(O:iM P w K mg base aY 1 "Door" u3 (kN K))(j:iM P w K mg base aY 1 "Hasty" mL (kN K))(G:iM P w K mg base aY 1 "Slow" xg (kN K)):ax P w K mg base aY 3 f fd ["kind","turns"] (rz K u3 mL xg):=by
 rwa[F.ok GH (by symm) (λz A outer s H R Q E U h=> ?_)];obtain ⟨k,t,rfl,S,q⟩:=h;rwa[⟨_,(aa (az @a (ac (am (fU j fH U @c rfl @K))) av) (aa (az @a (ac (am (fU G fH U @c rfl @K))) av) (ac (am (fU O fH U @c rfl @K))))),?_⟩]
 rcases S with rfl|rfl|rfl
 ·rw [PP] at q;left;exact Ps J q
 ·rw [PQ] at q;left;exact Ps L q
 ·rw [PN] at q;left;exact Ps I q
seal tH qS qT
structure Lf where
 st:Int
 rm:Int
 tn:Int
 kd:Str
structure Hs where
 fl:Int
 ls:List Lf
 lo:Nat
 so:Str
structure Hs.ok (h:Hs):Prop where
 f2:2<=h.fl
 f8:h.fl<=8
 l1:1<=h.ls.length
 l3:h.ls.length<=3
 lf:∀l∈h.ls,1<=l.rm/\l.rm<=6/\1<=l.tn/\l.tn<=4/\sV l.kd
 so:h.so=s!"free"\/h.so=s!"way"
def Qn (K:Fg)(H:Hp)(x:V)(l:Lf):Prop:=∃b,x= .ref b/\aK K H b [.int l.st,.int l.rm,.int l.tn,.str l.kd]
def lU (K:Fg)(H:Hp)(a:Addr)(h:Hs):Prop:=h.ok/\∃p xs,aK K H a [.int h.fl,.ref p,.int (h.lo:Int),.str h.so]/\aK K H p xs/\Paired (Qn K H) xs h.ls
theorem lU.keep {H H':Hp}{a:Addr}{h:Hs}(c:lU K H a h)(s:aM H H'):lU K H' a h:=by
 obtain ⟨o,p,xs,h1,h2,G⟩:=c;exact ⟨o,p,xs,s.sqT h1,s.sqT h2,Paired.imp' (λx l ⟨b,e,z⟩=>⟨b,e,s.sqT z⟩) G⟩
theorem lU.same {H H':Hp}{a:Addr}{h:Hs}(c:lU K H a h)(s:aq H H'):lU K H' a h:=c.keep s.st
theorem lU.at {H:Hp}{a:Addr}{h:Hs}(c:lU K H a h){i:Int}{l:Lf}(I:0<=i)(W:h.ls[i.toNat]? =some l):∃p xs b,aK K H a [.int h.fl,.ref p,.int (h.lo:Int),.str h.so]/\aK K H p xs/\xs.length=h.ls.length/\uy xs i=some (.ref b)/\aK K H b [.int l.st,.int l.rm,.int l.tn,.str l.kd]:=by
 obtain ⟨o,p,xs,h1,h2,F⟩:=c;obtain ⟨j,rfl⟩:=Int.eq_ofNat_of_zero_le I;rw [show ((j:Int)).toNat=j by lia] at W
 have R:j<xs.length:=by rw [F.len];exact (List.getElem?_eq_some_iff.mp W).1
 obtain ⟨J,G,b,U,z⟩:=F.get1 (getElem?_eq_getElem R);rw [W] at G;cases G;exact ⟨p,xs,b,h1,h2,F.len,by rw [bx (getElem?_eq_getElem R),U],z⟩
inductive nV (K:Fg)(g:Lf->V)(vs:List V)(H:Hp)(Q:VK)(_e:XK):Prop
 |mk (a h i l:_) (_:vs=[.ref a,.int i]) (_:lU K H a h) (_:0<=i) (_:h.ls[i.toNat]? =some l) (_:Q (g l) H)
theorem Lb (F:Z0 K "room_of" wH f fd):ax P w K mg base aY 1 f fd ["house","lift"] @dz:=by
 rwa[F.ok Gr (by symm) @cj];obtain ⟨a,h,i,l,rfl,J,z,G,q⟩:=h;obtain ⟨p,xs,b,h1,h2,L,I,W⟩:=J.at z G;rwa[⟨_,@h,?_⟩];rwa[ar h1 rfl ?_];rwa[ar h2 I ?_];exact ar W rfl q
theorem Bt (F:Z0 K "turns_of" rO f fd):ax P w K mg base aY 1 f fd ["house","lift"] @dA:=by
 rwa[F.ok DF (by symm) @cj];obtain ⟨a,h,i,l,rfl,J,z,G,q⟩:=h;obtain ⟨p,xs,b,h1,h2,L,I,W⟩:=J.at z G;rwa[⟨_,@h,?_⟩];rwa[ar h1 rfl ?_];rwa[ar h2 I ?_];exact ar W rfl q
theorem Ee (F:Z0 K "kind_of" wQ f fd):ax P w K mg base aY 1 f fd ["house","lift"] (nV K λl=> .str l.kd):=by
 rwa[F.ok Gz (by symm) @cj];obtain ⟨a,h,i,l,rfl,J,z,G,q⟩:=h;obtain ⟨p,xs,b,h1,h2,L,I,W⟩:=J.at z G;rwa[⟨_,@h,?_⟩];rwa[ar h1 rfl ?_];rwa[ar h2 I ?_];exact ar W rfl q
structure Cb where
 pl:Int
 li:Int
 dr:Int
 mr:Int
 ps:List (Int×Int)
def fk (K:Fg)(H:Hp)(x:V)(c:Cb):Prop:=∃t,x= .ref t/\b7 K H t c.pl c.li c.dr c.mr c.ps
theorem b7.keep {H H':Hp}{t:Addr}{pl li dr j:Int}{ps:List (Int×Int)}(h:b7 K H t pl li dr j ps)(s:aM H H'):b7 K H' t pl li dr j ps:=by
 obtain ⟨b,xs,e1,e2,d⟩:=h;exact ⟨b,xs,s.tup e1,s.tup e2,s.dens d (oO ps)⟩
theorem fk.keep {H H':Hp}{x:V}{c:Cb}(h:fk K H x c)(s:aM H H'):fk K H' x c:=let ⟨t,e,z⟩:=h;⟨t,e,z.keep s⟩
structure MS where
 cs:List Cb
 ws:List bo
 last:Int
 fire:Bool
 bl:Nat
 log:List D
abbrev u2 (h lc lw:Addr)(last:Int)(fire:Bool)(bl:Nat)(ll:Addr):List (Str×V):=[(s!"house",.ref h),(s!"cabins",.ref lc),(s!"waiting",.ref lw),(s!"last",.int last),(s!"fire",.bl fire),(s!"blocked",.int (bl:Int)),(s!"log",.ref ll)]
structure Aj (K:Fg)(C:Addr):Prop where
 i:gJ K C
 house:aT K C "house"
 cabins:aT K C "cabins"
 waiting:aT K C "waiting"
 last:aT K C "last"
 fire:aT K C "fire"
 blocked:aT K C "blocked"
 log:aT K C "log"
structure dJ (K:Fg)(C:Addr)(H0 H:Hp)(m h dx lc lw ll:Addr)(xs ys zs:List V)(M:MS):Prop where
 s:aq H0 H
 nm:H0 m=none
 nc:H0 lc=none
 nw:H0 lw=none
 nl:H0 ll=none
 cw:lc≠lw
 cl:lc≠ll
 wl:lw≠ll
 em:H m=some (.ins C dx @eI)
 ec:H lc=some (.lst xs)
 ew:H lw=some (.lst ys)
 el:H ll=some (.lst zs)
 dc:Paired (fk K H) xs M.cs
 dw:aI K H ys (M.ws.map bo.d)
 dl:aI K H zs M.log
 ln:noLs M.log=true
inductive iU (K:Fg)(C:Addr)(H0 H:Hp)(m h:Addr)(M:MS):Prop
 |mk (dx lc lw ll xs ys zs:_) (_:dJ K C H0 H m h dx lc lw ll xs ys zs M)
section
variable {C:Addr}{H0 H H':Hp}{m h dx lc lw ll:Addr}{xs ys zs:List V}{M:MS}
theorem dJ.same (a:dJ K C H0 H m h dx lc lw ll xs ys zs M)(s':aq H H'):dJ K C H0 H' m h dx lc lw ll xs ys zs M:=
 ⟨a.s.trans s',a.nm,a.nc,a.nw,a.nl,a.cw,a.cl,a.wl,s' _ _ a.em,s' _ _ a.ec,s' _ _ a.ew,s' _ _ a.el,Paired.imp' (λx c z=>fk.keep z s'.st) a.dc,aI.same a.dw s',aI.same a.dl s',a.ln⟩
theorem iU.same (a:iU K C H0 H m h M)(s':aq H H'):iU K C H0 H' m h M:=let ⟨dx,lc,lw,ll,xs,ys,zs,z⟩:=a;⟨dx,lc,lw,ll,xs,ys,zs,z.same s'⟩
theorem fk.nt {H H':Hp}(s:aJ H H'){v:V}{c:Cb}(h:fk K H v c):fk K H' v c:=by
 obtain ⟨t,e,b,bs,h1,h2,G⟩:=h;exact ⟨t,e,b,bs,s _ _ (λ_ z=>by cases z) h1,s _ _ (λ_ z=>by cases z) h2,s.dens G⟩
theorem dJ.sameN (a:dJ K C H0 H m h dx lc lw ll xs ys zs M)(j:NT H0)(s':aJ H H'):dJ K C H0 H' m h dx lc lw ll xs ys zs M:=
 ⟨aJ.onto j a.s s',a.nm,a.nc,a.nw,a.nl,a.cw,a.cl,a.wl,s' _ _ (λ_ z=>by cases z) a.em,s' _ _ (λ_ z=>by cases z) a.ec,s' _ _ (λ_ z=>by cases z) a.ew,s' _ _ (λ_ z=>by cases z) a.el,Paired.imp' (λx c z=>fk.nt s' z) a.dc,s'.dens a.dw,s'.dens a.dl,a.ln⟩
theorem dJ.setC (a:dJ K C H0 H m h dx lc lw ll xs ys zs M){i:Nat}{v:V}{c:Cb}(U:fk K H v c):dJ K C H0 (upd H lc (.lst @fr)) m h dx lc lw ll @fr ys zs {M with cs:=M.cs.set i c}:=by
 have st:aM H (upd H lc (.lst @fr)):= .updL a.ec;rwa[⟨λb u z=> ?_,a.nm,a.nc,a.nw,a.nl,a.cw,a.cl,a.wl,?_,af,?_,?_,ss (Paired.imp' @bz a.dc) (U.keep st),st.dens a.dw (ig _),st.dens a.dl a.ln,a.ln⟩]
 ·rw [ag (λe=>by rw [e,a.nc] at z;cases z)];exact a.s b u z
 ·rw [ag (λe=>by have:=a.em;rw [e,a.ec] at this;cases this)];exact a.em
 ·rw [ag a.cw.symm];exact a.ew
 ·rw [ag a.cl.symm];exact a.el
theorem dJ.setL (a:dJ K C H0 H m h dx lc lw ll xs ys zs M){vs:List V}{ds:List D}(U:aI K H vs ds)(F:noLs ds=true):dJ K C H0 (upd H ll (.lst (zs++vs))) m h dx lc lw ll xs ys (zs++vs) {M with log:=M.log++ds}:=by
 have st:aM H (upd H ll (.lst (zs++vs))):= .updL a.el;rwa[⟨λb u z=> ?_,a.nm,a.nc,a.nw,a.nl,a.cw,a.cl,a.wl,?_,?_,?_,af,Paired.imp' @bz a.dc,st.dens a.dw (ig _),Paired.app (st.dens a.dl a.ln) (st.dens U F),Ie a.ln F⟩]
 ·rw [ag (λe=>by rw [e,a.nl] at z;cases z)];exact a.s b u z
 ·rw [ag (λe=>by have:=a.em;rw [e,a.el] at this;cases this)];exact a.em
 ·rw [ag a.cl];exact a.ec
 ·rw [ag a.wl];exact a.ew
theorem dJ.setW (a:dJ K C H0 H m h dx lc lw ll xs ys zs M){vs:List V}{rs:List bo}(U:aI K H vs @bj):dJ K C H0 (upd H lw (.lst vs)) m h dx lc lw ll xs vs zs {M with ws:=rs}:=by
 have st:aM H (upd H lw (.lst vs)):= .updL a.ew;rwa[⟨λb u z=> ?_,a.nm,a.nc,a.nw,a.nl,a.cw,a.cl,a.wl,?_,?_,af,?_,Paired.imp' @bz a.dc,st.dens U (ig _),st.dens a.dl a.ln,a.ln⟩]
 ·rw [ag (λe=>by rw [e,a.nw] at z;cases z)];exact a.s b u z
 ·rw [ag (λe=>by have:=a.em;rw [e,a.ew] at this;cases this)];exact a.em
 ·rw [ag a.cw];exact a.ec
 ·rw [ag a.wl.symm];exact a.el
theorem dJ.putW (a:dJ K C H0 H m h dx lc lw ll xs ys zs M){l:Addr}{vs:List V}{rs:List bo}(F:H0 l=none)(j:lc≠l)(G:l≠ll)(e:H l=some (.lst vs))(U:aI K H vs @bj):dJ K C H0 (upd H m (.ins C dx (u2 h lc l M.last M.fire M.bl ll))) m h dx lc l ll xs vs zs {M with ws:=rs}:=by
 have st:aM H (upd H m (.ins C dx (u2 h lc l M.last M.fire M.bl ll))):= .updI a.em
 have nm:∀ {p:Addr} {I:List V},H p=some (.lst I)->p≠m:=λ{p I} e z=>by rw [z,a.em] at e;cases e
 rwa[⟨λb u z=> ?_,a.nm,a.nc,F,a.nl,j,a.cl,G,af,?_,?_,?_,Paired.imp' @bz a.dc,st.dens U (ig _),st.dens a.dl a.ln,a.ln⟩]
 ·rw [ag (λe=>by rw [e,a.nm] at z;cases z)];exact a.s b u z
 ·rw [ag (nm a.ec)];exact a.ec
 ·rw [ag (nm e)];exact e
 ·rw [ag (nm a.el)];exact a.el
theorem dJ.putF (a:dJ K C H0 H m h dx lc lw ll xs ys zs M)(j:Int)(F:Bool)(G:Nat):dJ K C H0 (upd H m (.ins C dx (u2 h lc lw j F G ll))) m h dx lc lw ll xs ys zs {M with last:=j,fire:=F,bl:=G}:=by
 have st:aM H (upd H m (.ins C dx (u2 h lc lw j F G ll))):= .updI a.em
 have nm:∀ {p:Addr} {I:List V},H p=some (.lst I)->p≠m:=λ{p I} e z=>by rw [z,a.em] at e;cases e
 rwa[⟨λb u z=> ?_,a.nm,a.nc,a.nw,a.nl,a.cw,a.cl,a.wl,af,?_,?_,?_,Paired.imp' @bz a.dc,st.dens a.dw (ig _),st.dens a.dl a.ln,a.ln⟩]
 ·rw [ag (λe=>by rw [e,a.nm] at z;cases z)];exact a.s b u z
 ·rw [ag (nm a.ec)];exact a.ec
 ·rw [ag (nm a.ew)];exact a.ew
 ·rw [ag (nm a.el)];exact a.el
end
inductive Dd where
 |come (t s g:Int) (k:Bool)
 |lf (x:Str) (n:Int)
 |sg (x:Str)
abbrev rg:Str:=s!"come"
noncomputable def Dd.v:Dd->List V
 | .come t s g k=>[.str rg,.int t,.int s,.int g,.bl k]
 | .lf x n=>[.str x,.int n]
 | .sg x=>[.str x]
def Dd.ok:Dd->Prop
 | .come _ _ _ _=>True
 | .lf x _=>x=s!"block"\/x=s!"stick"\/x=s!"free"\/x=s!"goods"\/x=s!"back"
 | .sg x=>x=s!"fire"\/x=s!"calm"
def u9 (H:Hp)(a:Addr)(d:Dd):Prop:=H a=some (.tup d.v)/\d.ok
theorem u9.keep {H H':Hp}{a:Addr}{d:Dd}(h:u9 H a d)(s:aM H H'):u9 H' a d:=⟨s.tup h.1,h.2⟩
theorem u9.same {H H':Hp}{a:Addr}{d:Dd}(h:u9 H a d)(s:aq H H'):u9 H' a d:=⟨s _ _ h.1,h.2⟩
noncomputable def RD (t:Int):D:= .tup [.str "barred",.int t]
noncomputable def OG (t:Int):D:= .tup [.str "sent",.int t]
noncomputable def fb (lo:Nat)(M:MS)(t s g:Int)(k:Bool):MS:=if lo.testBit g.toNat=true/\k=false then {M with log:=M.log++[RD t]} else if M.fire=true then {M with log:=M.log++[OG t]} else {M with ws:=M.ws++[⟨t,s,g,-1⟩]}
theorem cN {C:Addr}{H0 H:Hp}{m h dx lc lw ll:Addr}{xs ys zs:List V}{M:MS}{j:Str}{v:V}{Q:VK}(a:dJ K C H0 H m h dx lc lw ll xs ys zs M)(c:vQ K C)(n:aT K C j)(e:(u2 h lc lw M.last M.fire M.bl ll).lookup j=some v)(g:Q v H):zw K j m H Q:=fh a.em c n e g
inductive AU (K:Fg)(C:Addr)(vs:List V)(H:Hp)(Q:VK)(_e:XK):Prop
 |mk (m t s g k h hs H0 M:_) (_:vs=[.ref m,.int t,.int s,.int g,.bl k]) (_:lU K H h hs) (_:iU K C H0 H m h M) (_:M.ws.length<=1000) (_:M.log.length<=1000) (_:0<=g) (_:g<1000) (_:∀H',aM H H'->iU K C H0 H' m h (fb hs.lo M t s g k)->Q .non H')
theorem Lq {C:Addr}{t1:Tok}(F:Z0 K "do_come" wV f fd)(j:Aj K C)(cx:mg "NO_LIFT"=some (.int (-1) t1))(qG:Z04 P w K mg base):ax P w K mg base aY 3 f fd ["moment","tag","start","goal","key"] (AU K C):=by
 have sj:aL (.int (-1)) (.int (-1) t1):=⟨_,rfl⟩;rwa[F.ok GJ (by symm) @bZ];obtain ⟨m,t,s,g,k,h,hs,H0,M,rfl,S,U,wl,W,Z,g1,q⟩:=h;obtain ⟨dx,lc,lw,ll,xs,ys,zs,a⟩:=U;obtain ⟨o,p,ps,h1,h2,h3⟩:=S;obtain ⟨I,rfl⟩:=Int.eq_ofNat_of_zero_le Z;have yl:=aH a.dw;have zl:zs.length=M.log.length:=a.dl.len;have Y:=j.i.cl;rwa[⟨_,(ac (az @a @Q (ac (az @a @Q @Q)))),?_⟩];rwa[cN a Y j.house rfl ?_];rwa[ar h1 rfl ?_];rwa[fX.mk _ _ rfl @b ?_];unfold fb at q;rw [show ((I:Int)).toNat=I by lia] at q;ext;by_cases O:hs.lo.testBit I=true
 ·rwa[b6 O ?_]
  cases k with
  |false=>
   rw [if_pos ⟨O,rfl⟩] at q;rwa[b6 rfl ?_];rwa[cN a Y j.log (v:= .ref ll) rfl ?_];rwa[⟨.inl ⟨rfl,_,aD.of a.el⟩,?_⟩];rwa[cj (bw (by show 2<=1000000;decide)) λr H1 L J e1=> ?_];rwa[iL @gB @dQ ?_];exact q _ @cl ⟨dx,lc,lw,ll,xs,ys,_,(a.same L).setL (ds:=[RD t]) (.cons @bf .nil) rfl⟩
  |true=>
   rw [if_neg (λz=>by cases z.2)] at q;rwa[bG rfl ?_];erw[cN a Y j.fire (v:= .bl M.fire) rfl ?_]
   cases G:M.fire with
   |true=>
    rw [if_pos G] at q;rwa[b6 rfl ?_];rwa[cN a Y j.log (v:= .ref ll) rfl ?_];rwa[⟨.inl ⟨rfl,_,aD.of a.el⟩,?_⟩];rwa[cj (bw (by show 2<=1000000;decide)) λr H1 L J e1=> ?_];rwa[iL @gB @dQ ?_];exact q _ @cl ⟨dx,lc,lw,ll,xs,ys,_,(a.same L).setL (ds:=[OG t]) (.cons @bf .nil) rfl⟩
   |false=>
    rw [if_neg (by rw [G];decide)] at q;rwa[bG rfl ?_];rwa[cN a Y j.waiting (v:= .ref lw) rfl ?_];rwa[⟨.inl ⟨rfl,_,aD.of a.ew⟩,?_⟩];rwa[cj (bw (by show 4<=1000000;decide)) λr H1 L J e1=> ?_];rwa[iL @fs @dQ ?_];rwa[q _ (L.st.trans (.updL @fs)) ⟨dx,lc,lw,ll,xs,_,zs,(a.same L).setW (rs:=M.ws++[⟨t,s,(I:Int),-1⟩]) ?_⟩];rw [map_append];exact Paired.app (aI.same a.dw L) (.cons (iQ @fi (.cons (.int _) (.cons (.int _) (.cons (.int _) (.cons (.int _) .nil))))) .nil)
 ·rwa[bG (by simpa using O) ?_];rwa[bG rfl ?_];rw [if_neg (λz=>O z.1)] at q;erw[cN a Y j.fire (v:= .bl M.fire) rfl ?_]
  cases G:M.fire with
  |true=>
   rw [if_pos G] at q;rwa[b6 rfl ?_];rwa[cN a Y j.log (v:= .ref ll) rfl ?_];rwa[⟨.inl ⟨rfl,_,aD.of a.el⟩,?_⟩];rwa[cj (bw (by show 2<=1000000;decide)) λr H1 L J e1=> ?_];rwa[iL @gB @dQ ?_];exact q _ @cl ⟨dx,lc,lw,ll,xs,ys,_,(a.same L).setL (ds:=[OG t]) (.cons @bf .nil) rfl⟩
  |false=>
   rw [if_neg (by rw [G];decide)] at q;rwa[bG rfl ?_];rwa[cN a Y j.waiting (v:= .ref lw) rfl ?_];rwa[⟨.inl ⟨rfl,_,aD.of a.ew⟩,?_⟩];rwa[cj (bw (by show 4<=1000000;decide)) λr H1 L J e1=> ?_];rwa[iL @fs @dQ ?_];rwa[q _ (L.st.trans (.updL @fs)) ⟨dx,lc,lw,ll,xs,_,zs,(a.same L).setW (rs:=M.ws++[⟨t,s,(I:Int),-1⟩]) ?_⟩];rw [map_append];exact Paired.app (aI.same a.dw L) (.cons (iQ @fi (.cons (.int _) (.cons (.int _) (.cons (.int _) (.cons (.int _) .nil))))) .nil)
theorem ie {H:Hp}{x:V}{r:bo}(h:bO K H x r.d):∃a,x= .ref a/\aK K H a [.int r.tag,.int r.start,.int r.goal,.int r.lift]:=by
 obtain ⟨a,xs,rfl,h1,h2⟩:=h.outT
 cases h2 with|cons q0 t0=>cases t0 with|cons q1 t1=>cases t1 with|cons q2 t2=>cases t2 with|cons q3 t3=>
 cases t3;cases q0.isInt;cases q1.isInt;cases q2.isInt;cases q3.isInt;exact ⟨a,rfl,h1⟩
inductive qI (K:Fg)(vs:List V)(H:Hp)(Q:VK)(_e:XK):Prop
 |mk (x r i:_) (_:vs=[x,.int i]) (_:bO K H x (bo.d r)) (_:∀v H',aq H H'->bO K H' v (bo.d {r with lift:=i})->Q v H')
theorem HJ (F:Z0 K "dealt_to" r9 f fd):ax P w K mg base aY 1 f fd ["rider","lift"] (qI K):=by
 rwa[F.ok DO (by symm) @j];obtain ⟨x,r,i,rfl,G,q⟩:=h;obtain ⟨a,rfl,Y⟩:=ie G;rwa[⟨_,@h,?_⟩];rwa[ar Y rfl ?_];rwa[ar Y rfl ?_];rwa[ar Y rfl ?_];exact cj (bw (by show 4<=1000000;decide)) λb H2 R z e2=>q _ H2 R (iQ (aK.of e2) (.cons (.int _) (.cons (.int _) (.cons (.int _) (.cons (.int _) .nil)))))
noncomputable def Sw (M n:Nat):Nat:=if M.testBit n=true then M - 2^n else M
def atC (M:MS)(i:Int)(c:Cb):Prop:=0<=i/\M.cs[i.toNat]? =some c
theorem dJ.atC {C:Addr}{H0 H:Hp}{m h dx lc lw ll:Addr}{xs ys zs:List V}{M:MS}(a:dJ K C H0 H m h dx lc lw ll xs ys zs M){i:Int}{c:Cb}(J:atC M i c):∃t,xs[i.toNat]? =some (.ref t)/\uy xs i=some (.ref t)/\b7 K H t c.pl c.li c.dr c.mr c.ps/\i.toNat<xs.length:=by
 obtain ⟨F,J⟩:=J;obtain ⟨j,rfl⟩:=Int.eq_ofNat_of_zero_le F;rw [show ((j:Int)).toNat=j by lia] at J ⊢
 have R:j<xs.length:=by rw [a.dc.len];exact (List.getElem?_eq_some_iff.mp J).1
 obtain ⟨G,ac,t,z,O⟩:=a.dc.get1 (getElem?_eq_getElem R);rw [J] at ac;cases ac;exact ⟨t,by rw [getElem?_eq_getElem R,z],by rw [bx (getElem?_eq_getElem R),z],O,R⟩
theorem ID {xs:List V}{i:Int}(I:0<=i)(h1:i.toNat<xs.length):An xs.length i=some i.toNat:=by
 unfold An;rw [if_pos @b,if_pos @b]
noncomputable def zt (i:Int)(ws:List bo):List bo:=ws.map λr=>if r.lift=i then {r with lift:= -1} else r
noncomputable def MY (i:Int)(k:Nat)(c:Cb)(M:MS):MS:= {M with cs:=M.cs.set i.toNat {c with mr:=((c.mr.toNat|||2^k:Nat):Int)},ws:=zt i M.ws}
noncomputable def Iu (i:Int)(k:Nat)(c:Cb)(M:MS):MS:= {M with cs:=M.cs.set i.toNat {c with mr:=((Sw c.mr.toNat k:Nat):Int)}}
noncomputable def zq (M:MS)(i:Int):Cb:=M.cs.getD i.toNat ⟨0,0,0,0,[]⟩
noncomputable def fL (lo:Nat)(M:MS):Dd->MS
 | .come t s g k=>fb lo M t s g k
 | .lf x i=>if x=s!"block" then {M with bl:=M.bl|||2^i.toNat} else if x=s!"stick" then MY i 0 @gX M else if x=s!"goods" then MY i 1 @gX M else if x=s!"free" then Iu i 0 @gX M else Iu i 1 @gX M
 | .sg _=>M
def Dd.fit (fl:Int)(n:Nat):Dd->Prop
 | .come _ s g _=>0<=s/\s<fl/\0<=g/\g<fl/\s≠g
 | .lf _ _=>False
 | .sg _=>False
inductive Kn (K:Fg)(C:Addr)(vs:List V)(H:Hp)(Q:VK)(_e:XK):Prop
 |mk (m a d h hs H0 M:_) (_:vs=[.ref m,.ref a]) (_:lU K H h hs) (_:u9 H a d) (_:d.fit hs.fl hs.ls.length) (_:iU K C H0 H m h M) (_:M.ws.length<=1000) (_:M.log.length<=1000) (_:M.cs.length=hs.ls.length) (_:(∀c∈M.cs,0<=c.mr)) (_:∀H',aM H H'->iU K C H0 H' m h (fL hs.lo M d)->Q .non H')
theorem Sb {C:Addr}{t1 t2:Tok}(F:Z0 K "do_deed" wU f fd)(cM:Aj K C)(zZ:bp P w K mg base 3 "do_come" ["moment","tag","start","goal","key"] (AU K C)):ax P w K mg base aY 5 f fd ["moment","deed"] (Kn K C):=by
 rwa[F.ok GI (by symm) (λG A outer s H vs Q E hr h=> ?_)];obtain ⟨m,U,d,h,hs,H0,M,rfl,J,⟨W,ok⟩,j,L,R,O,cn,I,q⟩:=h;have S:=J.1.f8;have l3:=J.1.l3;rwa[⟨_,(aa @a (ac (az @a @Q (ac (az @a @bS (ac (az @a @bS (ac (az @a @bS (ac (az @a @bS (ac (az @a @bS (ac (az @a @bS @bS))))))))))))))),?_⟩]
 cases d with
 |come t s' g k=>
  have Y:aK K H U [.str rg,.int t,.int s',.int g,.bl k]:=aK.of W;have S:=J.1.f8;obtain ⟨_,_,Z,g1,_⟩:=j;rwa[ar Y rfl ?_];rwa[b6 rfl ?_];rwa[ar Y rfl ?_];rwa[ar Y rfl ?_];rwa[ar Y rfl ?_];rwa[ar Y rfl ?_];exact AU.mk _ _ _ _ _ _ _ _ _ rfl J L R O Z @b λH' st z=>q H' st z
 |lf x i=>exact False.elim j
 |sg x=>exact False.elim j
abbrev uH:=List Cb->List bo->bo->Int->Int×Int
inductive yC (K:Fg)(GG LB:Hp->Prop)(pre:List Cb->List bo->bo->Int->Prop)(dl:uH)(vs:List V)(H:Hp)(Q:VK)(_e:XK):Prop
 |mk (tc tw x cs ws r last xs ys:_) (_:vs=[.ref tc,.ref tw,x,.int last]) (_:H tc=some (.tup xs)) (_:Paired (fk K H) xs cs) (_:H tw=some (.tup ys)) (_:aI K H ys (ws.map bo.d)) (_:bO K H x (bo.d r)) (_:GG H) (_:LB H) (_:pre cs ws r last) (_:∀t H',aJ H H'->GG H'->H' t=some (.tup [.int (dl cs ws r last).1,.int (dl cs ws r last).2])->Q (.ref t) H')
noncomputable def OH (t i:Int):D:= .tup [.str "deal",.int t,.int i]
noncomputable def fq (dl:uH)(M:MS)(p:Nat)(r:bo):MS:=if (dl M.cs M.ws r M.last).1= -1 then {M with last:=(dl M.cs M.ws r M.last).2} else {M with last:=(dl M.cs M.ws r M.last).2,ws:=M.ws.set p {r with lift:=(dl M.cs M.ws r M.last).1},log:=M.log++[OH r.tag (dl M.cs M.ws r M.last).1]}
inductive rA (P:Program)(w:World)(K:Fg)(mg:Str->Option Value)(base:Heap)(C:Addr)(GG LB:Hp->Prop)(pre:List Cb->List bo->bo->Int->Prop)(dl:uH)(vs:List V)(H:Hp)(Q:VK)(_e:XK):Prop
 |mk (m df x h H0 M r:_) (p:Nat) (_:vs=[.ref m,.ref df,.int (p:Int),x]) (_:uE P w K mg base 5 df @eD) (_:GG H) (_:NT H0) (_:LB H0) (_:iU K C H0 H m h M) (_:bO K H x (bo.d r)) (_:p<M.ws.length) (_:M.ws.length<=1000) (_:M.log.length<=1000) (_:M.cs.length<=10) (_:pre M.cs M.ws r M.last) (_:∀H',ez H H'->GG H'->iU K C H0 H' m h @gm->Q .non H')
theorem Lo {C:Addr}{GG LB:Hp->Prop}{af:List Cb->List bo->bo->Int->Prop}{dl:uH}{t1:Tok}(F:Z0 K "deal" Cu f fd)(gT:GT GG)(lN:∀H H',aJ H H'->LB H->LB H')(L:Aj K C)(bQ:mg "tuple"=none)(cx:mg "NO_LIFT"=some (.int (-1) t1))(jT:bp P w K mg base 1 "dealt_to" ["rider","lift"] (qI K)):ax P w K mg base aY 6 f fd ["moment","dealer","place","rider"] (rA P w K mg base C GG LB af dl):=by
 have sj:aL (.int (-1)) (.int (-1) t1):=⟨_,rfl⟩;rwa[F.ok GK (by symm) (λam A outer s H vs Q E hr h=> ?_)];obtain ⟨m,df,x,h,H0,M,r,p,rfl,ae,hg,nt,lb,⟨dx,lc,lw,ll,xs,ys,zs,a⟩,hx,pw,wl,gl,an,W,q⟩:=h;have U:=L.i.cl;have yl:ys.length=M.ws.length:=aH a.dw;have zl:zs.length=M.log.length:=a.dl.len;obtain ⟨ra,rfl,hT⟩:=ie hx;rwa[⟨_,(aa (aZ (i:=4) GK.nd rfl @n (G9 1 hr rfl @n (ao (aV @ek rfl bQ boot_tuple @H) (ao (aV @ek rfl bQ boot_tuple @H) (ao (wv 3) @H))))) (aa @eE (ac (az @a (aa @di @Q) av)))),?_⟩];rwa[⟨df,5,_,rfl,by decide,ae,?_⟩];rwa[cN a U L.cabins (v:= .ref lc) rfl ?_];rwa[iZ @cD λtc H1 s1 n1 e1=> ?_];have a1:=a.same s1;rwa[cN a1 U L.waiting (v:= .ref lw) rfl ?_];rwa[iZ (aD.of a1.ew) λtw H2 s2 n2 e2=> ?_];have a2:=a1.same s2;have O:=s1.trans s2;rwa[cN a2 U L.last (v:= .int M.last) rfl ?_];rwa[⟨tc,tw,.ref ra,M.cs,M.ws,r,M.last,xs,ys,rfl,s2 _ _ e1,a2.dc,e2,a2.dw,bO.same hx O,gT _ _ O.st hg,lN _ _ a2.s.nt lb,W,λt H3 s3 g3 e3=> ?_⟩];have Z:=a2.sameN nt s3;have ag:ez H H3:=O.st.sx.trans s3.sx;unfold fq at q;generalize al:(dl M.cs M.ws r M.last).1=d1 at *;generalize ak:(dl M.cs M.ws r M.last).2=Y at *;rwa[ar (aK.of e3) rfl ?_];rwa[dI Z.em U L.last (by show 7<1000;decide) ?_];have a4:=Z.putF Y M.fire M.bl;have e0:putF "last" (.int Y) @eI=u2 h lc lw Y M.fire M.bl ll:=rfl;rw [e0];generalize G:upd H3 m (.ins C dx (u2 h lc lw Y M.fire M.bl ll))=H4 at a4 ⊢
 have J:ez H H4:=by rw [<-G];exact ag.trans (aM.updI Z.em).sx
 have g4:GG H4:=by rw [<-G];exact gT _ _ (aM.updI Z.em) g3
 have S:aK K H4 t [.int d1,.int Y]:=by rw [<-G];exact (aM.updI Z.em).sqT (aK.of e3)
 clear G;erw[ar S rfl ?_];by_cases z:d1= -1
 ·rw [if_pos z] at q;rwa[bG (by simp [z]) ?_];exact q _ J g4 ⟨dx,lc,lw,ll,xs,ys,zs,a4⟩
 ·rw [if_neg z] at q;rwa[b6 (by simp [z]) ?_];rwa[ar S rfl ?_];rwa[qI.mk _ _ _ rfl (J.den hx rfl) λv H5 s5 dv=> ?_];have R:=a4.same s5;rwa[cN R U L.waiting (v:= .ref lw) rfl ?_];rwa[rC (j:=p) R.ew (by unfold An;rw [if_pos @b,if_pos @b];congr 1) ?_]
  have ah:aI K H5 (ys.set p v) ((M.ws.set p {r with lift:=d1}).map bo.d):=by
   rw [map_set];exact ss R.dw dv
  have a6:=R.setW ah;generalize I:upd H5 lw (.lst (ys.set p v))=H6 at a6 ⊢
  have ad:ez H H6:=by rw [<-I];exact (J.trans s5.st.sx).trans (aM.updL R.ew).sx
  have g6:GG H6:=by rw [<-I];exact gT _ _ (s5.st.trans (.updL R.ew)) g4
  have ai:aK K H6 t [.int d1,.int Y]:=by rw [<-I];exact (aM.updL R.ew).sqT (s5.seqT S)
  clear I;rwa[cN a6 U L.log (v:= .ref ll) rfl ?_];rwa[⟨.inl ⟨rfl,_,aD.of a6.el⟩,?_⟩];rwa[ar (ad.sqT hT) rfl ?_];rwa[ar ai rfl ?_];rwa[cj (bw (by show 3<=1000000;decide)) λg7 H7 s7 n7 e7=> ?_];have a7:=a6.same s7;rwa[iL a7.el @dQ ?_];exact q _ ((ad.trans s7.st.sx).trans (aM.updL a7.el).sx) (gT _ _ (s7.st.trans (.updL a7.el)) g6) ⟨dx,lc,lw,ll,xs,_,_,a7.setL (ds:=[OH r.tag d1]) (.cons (iQ (aK.of e7) (.cons (.str _) (.cons (.int _) (.cons (.int _) .nil)))) .nil) rfl⟩
noncomputable def aR (dl:uH)(W:List bo):Nat->MS->MS
 |0,M=>M
 |i+1,M=>match W[i]? with
  |some r=>if r.lift= -1 then fq dl @gn i r else aR dl W i M
  |none=>aR dl W i M
inductive mi (P:Program)(w:World)(K:Fg)(mg:Str->Option Value)(base:Heap)(C:Addr)(GG LB:Hp->Prop)(pre:List Cb->List bo->bo->Int->Prop)(dl:uH)(vs:List V)(H:Hp)(Q:VK)(_e:XK):Prop
 |mk (m df h H0 M:_) (_:vs=[.ref m,.ref df]) (_:uE P w K mg base 5 df @eD) (_:GG H) (_:NT H0) (_:LB H0) (_:iU K C H0 H m h M) (_:M.ws.length<=500) (_:M.log.length<=400) (_:M.cs.length<=10) (_:(∀i r,M.ws[i]? =some r->r.lift= -1->pre (aR dl M.ws i M).cs (aR dl M.ws i M).ws r (aR dl M.ws i M).last)) (_:∀H',ez H H'->GG H'->iU K C H0 H' m h (aR dl M.ws M.ws.length M)->Q .non H')
theorem EI {dl:uH}{M:MS}{p:Nat}{r:bo}:(fq dl M p r).ws.length=M.ws.length/\(fq dl M p r).cs=M.cs/\(fq dl M p r).log.length<=M.log.length+1:=by
 unfold fq;split
 ·exact ⟨rfl,rfl,Nat.le_succ _⟩
 ·exact ⟨length_set,rfl,by simp⟩
theorem eJ {dl:uH}{W:List bo}{M:MS}:∀i,(aR dl W i M).ws.length=M.ws.length/\(aR dl W i M).cs=M.cs/\(aR dl W i M).log.length<=M.log.length+i
 |0=>⟨rfl,rfl,by simp [aR]⟩
 |i+1=>by
  have h:=eJ (dl:=dl) (W:=W) (M:=M) i;unfold aR;split
  ·rename_i r _;split
   ·have g:=EI (dl:=dl) (M:=aR dl W i M) (p:=i) (r:=r);exact ⟨g.1.trans h.1,g.2.1.trans h.2.1,by have:=g.2.2;lia⟩
   ·exact ⟨h.1,h.2.1,by lia⟩
  ·exact ⟨h.1,h.2.1,by lia⟩
theorem gf {dl:uH}{W:List bo}{M:MS}:∀i,(aR dl W i M).fire=M.fire
 |0=>rfl
 |i+1=>by
  have j:=gf (dl:=dl) (W:=W) (M:=M) i;unfold aR;split
  ·split
   ·unfold fq;split
    ·exact j
    ·exact j
   ·exact j
  ·exact j
noncomputable def jD (H:Hp)(m lc lw ll:Addr):Hp:=λb=>if b=m\/b=lc\/b=lw\/b=ll then none else H b
theorem EN {H:Hp}{m lc lw ll:Addr}:aq @cz H:=λb u z=>by
 unfold jD at z;split at z
 ·cases z
 ·exact z
theorem jQ {H:Hp}{m lc lw ll b:Addr}{u:HO}(h:H b=some u)(h1:b≠m)(h2:b≠lc)(G:b≠lw)(j:b≠ll):jD H m lc lw ll b=some u:=by
 unfold jD;rw [if_neg (λz=>by rcases z with z|z|z|z;exact h1 z;exact h2 z;exact G z;exact j z)];exact h
theorem dJ.wide {C:Addr}{H0 H:Hp}{m h dx lc lw ll:Addr}{xs ys zs:List V}{M:MS}(a:dJ K C H0 H m h dx lc lw ll xs ys zs M):dJ K C @cz H m h dx lc lw ll xs ys zs M/\aq H0 @cz:=by
 rwa[⟨⟨EN,if_pos (.inl rfl),if_pos (.inr (.inl rfl)),if_pos (.inr (.inr (.inl rfl))),if_pos (.inr (.inr (.inr rfl))),a.cw,a.cl,a.wl,a.em,a.ec,a.ew,a.el,a.dc,a.dw,a.dl,a.ln⟩,λb u z=> ?_⟩];exact jQ (a.s _ _ z) (λe=>by rw [e,a.nm] at z;cases z) (λe=>by rw [e,a.nc] at z;cases z) (λe=>by rw [e,a.nw] at z;cases z) (λe=>by rw [e,a.nl] at z;cases z)
theorem dJ.wideN {C:Addr}{H0 H:Hp}{m h dx lc lw ll:Addr}{xs ys zs:List V}{M:MS}(j:NT H0)(a:dJ K C H0 H m h dx lc lw ll xs ys zs M):dJ K C (xV @cz) H m h dx lc lw ll xs ys zs M/\aq H0 (xV @cz):=by
 obtain ⟨b,s⟩:=a.wide;rwa[⟨⟨(sI _).trans b.s,mG b.nm,mG b.nc,mG b.nw,mG b.nl,a.cw,a.cl,a.wl,a.em,a.ec,a.ew,a.el,a.dc,a.dw,a.dl,a.ln⟩,λx u z=> ?_⟩];exact oQ (s _ _ z) (λps e=>j x ps (by rw [z,e]))
theorem iU.onto {C:Addr}{H0 j H:Hp}{m h:Addr}{M:MS}(s:aq H0 j)(z:iU K C j H m h M):iU K C H0 H m h M:=by
 obtain ⟨dx,lc,lw,ll,xs,ys,zs,a⟩:=z;exact ⟨dx,lc,lw,ll,xs,ys,zs,s.trans a.s,none_of s a.nm,none_of s a.nc,none_of s a.nw,none_of s a.nl,a.cw,a.cl,a.wl,a.em,a.ec,a.ew,a.el,a.dc,a.dw,a.dl,a.ln⟩
theorem iU.s {C:Addr}{H0 H:Hp}{m h:Addr}{M:MS}(z:iU K C H0 H m h M):aq H0 H:=let ⟨_,_,_,_,_,_,_,a⟩:=z;a.s
theorem HP {C:Addr}{GG Z:Hp->Prop}{af:List Cb->List bo->bo->Int->Prop}{dl:uH}{t1:Tok}(F:Z0 K "deal_all" mx f fd)(gT:GT GG)(lN:∀H H',aJ H H'->Z H->Z H')(cM:Aj K C)(dN:mg "list"=none)(bL:mg "enumerate"=none)(cx:mg "NO_LIFT"=some (.int (-1) t1))(Da:bp P w K mg base 6 "deal" ["moment","dealer","place","rider"] (rA P w K mg base C GG Z af dl)):ax P w K mg base aY 7 f fd ["moment","dealer"] (mi P w K mg base C GG Z af dl):=by
 have sj:aL (.int (-1)) (.int (-1) t1):=⟨_,rfl⟩;rwa[F.ok DP (by symm) (λal A outer s H vs Q E hr h=> ?_)];obtain ⟨m,df,h,H0,M,rfl,ae,hg,nt,lb,⟨dx,lc,lw,ll,xs,ys,zs,a⟩,wl,gl,an,R,q⟩:=h;have cl:=cM.i.cl;have yl:ys.length=M.ws.length:=aH a.dw;rwa[⟨_,(ac (bJ PassesOwn.never rfl (vV rfl rfl bL @cm) @a (ac (az @a @Q av)))),?_⟩];rwa[cN a cl cM.waiting (v:= .ref lw) rfl ?_];rwa[ip (.inl @gC) λlk H1 s1 n1 e1=> ?_];have a1:=a.same s1;have ak:H0 lk=none:=none_of a.s n1;erw[.inl ⟨ys,aD.of e1,?_⟩];obtain ⟨aw,sw⟩:=a1.wideN nt;have aa:NT (xV @eX):=Ic _;have U:Z (xV @eX):=lN _ _ sw.nt lb;generalize ai:xV @eX=Hc at aw sw aa U
 have kk:∀ {p:Addr} {us:List V},H1 p=some (.lst us)->p≠m:=λ{p us} e z=>by rw [z,a1.em] at e;cases e
 have I:∀ {p:Addr} {o:HO},H p=some o->lk≠p:=λ{p o} e z=>by rw [<-z,n1] at e;cases e
 have ek:Hc lk=some (.lst ys):=by rw [<-ai];exact oQ (jQ e1 (kk e1) (I a.ec) (I a.ew) (I a.el)) (λ_ z=>by cases z)
 have dy:∀ {i:Nat} {x:V},ys[i]? =some x->∃r b,M.ws[i]? =some r/\x= .ref b/\bO K H1 (.ref b) r.d:=λ{i x} G=>by
  obtain ⟨r,ah,dr⟩:=bj (f:=bo.d) a1.dw G;obtain ⟨b,rfl,_⟩:=ie dr;exact ⟨r,b,ah,rfl,dr⟩
 rwa[zu (xs:=ys) (λi σ L=>ez H1 L/\iU K C Hc L m h @fz/\GG L/\∃o2 o3,σ=[some (.ref m),some (.ref df),o2,o3]) ⟨.refl _,⟨dx,lc,lw,ll,xs,ys,zs,aw⟩,gT _ _ s1.st hg,_,_,rfl⟩ (λi σ L _ Y=>aD.of (Y.2.1.s _ _ ek)) (λi x σ L T HY G Y sT eT=> ?_) (λσ L Y=> ?_)]
 ·obtain ⟨st,hM,gX,o2,o3,rfl⟩:=Y;have gY:=gT _ _ sT.st gX;obtain ⟨r,b,ah,rfl,dr⟩:=dy G;have hi:i<M.ws.length:=(List.getElem?_eq_some_iff.mp ah).1;have hl:=eJ (dl:=dl) (W:=M.ws) (M:=M) i;have j:=st.trans sT.st.sx;have J:=hM.same sT;have S:bO K HY (.ref b) r.d:=j.den dr rfl;obtain ⟨b',ad,hT⟩:=ie S;cases ad
  have nx:aR dl M.ws (i+1) M=if r.lift= -1 then fq dl @fz i r else aR dl M.ws i M:=by
   show (match M.ws[i]? with|some r=>_|none=>_)=_;rw [ah]
  rwa[gz (aK.of eT) rfl ?_];erw[ar hT rfl ?_];by_cases z:r.lift= -1
  ·rw [if_pos z] at nx;rwa[b6 @dt ?_];rwa[rA.mk _ _ _ _ _ _ _ _ rfl ae gY aa U J S @b @b @b (by rw [hl.2.1];lia) (R i r ah z) λHZ ag gZ O=> ?_];rw [<-nx] at O;exact ⟨j.trans ag,O,gZ,_,_,rfl⟩
  ·rw [if_neg z] at nx;rwa[bG (decide_eq_false z) ?_];rw [<-nx] at J;exact ⟨j,J,gY,_,_,rfl⟩
 ·obtain ⟨st,hM,gX,o2,o3,rfl⟩:=Y;rw [yl] at hM;exact q _ (s1.st.sx.trans st) gX (hM.onto sw)
noncomputable def KG (wd:Str)(t i fl:Int):D:= .tup [.str wd,.int t,.int i,.int fl]
theorem GR (j:Str)(i fl:Int)(ts:List Int):noLs (ts.map λt=>KG j t i fl)=true:=by
 induction ts with
 |nil=>rfl
 |cons r rs ih=>rw [map_cons,noLs,ih];rfl
noncomputable def y6 (M:MS)(wd:Str)(ts:List Int)(i:Int)(c:Cb):MS:= {M with log:=M.log++ts.map λt=>KG wd t i (c.pl / 2)}
inductive AK (K:Fg)(C:Addr)(vs:List V)(H:Hp)(Q:VK)(_e:XK):Prop
 |mk (m wd tg i h H0 M c:_) (ts:List Int) (_:vs=[.ref m,.str wd,.ref tg,.int i]) (_:iU K C H0 H m h M) (_:atC M i c) (_:(∃us,aD K H0 tg us/\us=ts.map V.int)) (_:ts.length<=1000) (_:M.log.length<=3000) (_:∀H',aM H H'->iU K C H0 H' m h (y6 M wd ts i c)->Q .non H')
theorem M6 {C:Addr}{H H0:Hp}{m tg h:Addr}{j:Str}{i:Int}{M:MS}{c:Cb}{ts:List Int}{Q:VK}{E:XK}(h1:iU K C H0 H m h M)(h2:atC M i c)(G:aD K H0 tg (ts.map V.int))(z:ts.length<=1000)(W:M.log.length<=3000)(q:∀H',aM H H'->iU K C H0 H' m h (y6 M j ts i c)->Q .non H'):AK K C [.ref m,.str j,.ref tg,.int i] H Q E:=⟨m,j,tg,i,h,H0,M,c,ts,rfl,h1,h2,⟨_,G,rfl⟩,z,W,q⟩
theorem Le {C:Addr}(F:Z0 K "log_steps" oB f fd)(U:Aj K C)(bT:Z01 P w K mg base):ax P w K mg base aY 2 f fd ["moment","word","tags","lift"] (AK K C):=by
 rwa[F.ok A5 (by symm) @G];obtain ⟨m,wd,tg,i,h,H0,M,c,Y,rfl,⟨dx,lc,lw,ll,xs,ys,zs,a⟩,hc,⟨z,S,rfl⟩,tl,gl,q⟩:=h;obtain ⟨t,hx,hi,ht,ae⟩:=a.atC hc;have cl:=U.i.cl;have zl:zs.length=M.log.length:=a.dl.len;rwa[⟨_,(aa @a (ac (aS (iW rfl PySem.F.plainAttrs_list PySem.F.slot_list_extend PySem.F.type_list_extend qV @a (ao (bF rfl (aC (N':=["tag","word","lift","floor"]) (pk:=[none,some 1,some 3,some 4]) @o) @a @i @r @i) aj))))),?_⟩];rwa[cN a cl U.cabins (v:= .ref lc) rfl ?_];rwa[bP @cD hi ?_];rwa[cG.mk _ _ _ _ _ _ rfl ht ?_];rwa[cN a cl U.log (v:= .ref ll) rfl ?_];erw[⟨.inl ⟨rfl,_,aD.of a.el⟩,?_⟩];have hL:=a.s.seq S;rwa[bD hL ?_];rwa[bI (xs:=Y.map V.int) (λj z G=>aq H G/\z.length=j/\aI K G z ((Y.take j).map λt=>KG wd t i (c.pl / 2))) (bw (by rw [length_map];lia)) (λj z G h=>Nat.le_of_eq h.2.1) ⟨.refl _,rfl,.nil⟩ (λj z G _ h=>h.1.seq hL) (λj y z G hy R=> ?_) (λz G R l n=> ?_)]
 ·obtain ⟨W,I,L⟩:=R;rw [getElem?_map] at hy;obtain ⟨v,hv,rfl⟩:=Option.map_eq_some_iff.mp hy;rwa[⟨bU,?_⟩];rwa[cj (bw (by show 4<=1000000;decide)) λb H3 O n3 J=>⟨W.trans O,by simp [I],?_⟩];rw [take_add_one,hv,map_append];exact Paired.app (aI.same L O) (.cons (iQ (aK.of J) (.cons (.str _) (.cons (.int _) (.cons (.int _) (.cons (.int _) .nil))))) .nil)
 obtain ⟨W,I,L⟩:=R;rw [length_map,take_of_length_le @f] at L;rw [length_map] at I;have aX:=a.same W;have O:aq G (upd G l (.lst z)):= .upd n;have Z:=aX.same O;have J:upd G l (.lst z) l=some (.lst z):=af;generalize ag:upd G l (.lst z)=H3 at O Z J ⊢;rwa[M9 Z.el J @bs ?_];exact q _ ((W.trans O).st.trans (.updL Z.el)) ⟨dx,lc,lw,ll,xs,ys,_,Z.setL (aI.same L O) (GR wd i _ Y)⟩
noncomputable def iG (M:MS)(i:Int)(c:Cb):MS:= {M with cs:=M.cs.set i.toNat c}
theorem He {H:Hp}{bs:List V}{ps:List (Int×Int)}(d:aI K H bs @fN){j:Nat}{y:V}(S:bs[j]? =some y):∃p t,ps[j]? =some p/\y= .ref t/\aK K H t [.int p.1,.int p.2]:=by
 obtain ⟨p,G,J⟩:=bj (f:=mE) d S;obtain ⟨t,xs,rfl,h1,h2⟩:=J.outT
 cases h2 with|cons q0 t0=>cases t0 with|cons q1 t1=>
 cases t1;cases q0.isInt;cases q1.isInt;exact ⟨p,t,G,rfl,h1⟩
theorem LO {a:Int}{bs:List Int}:xi (.int a) (bs.map V.int)=decide (a∈bs):=by
 unfold xi;rw [any_map,Bool.eq_iff_iff,any_eq_true,decide_eq_true_eq];constructor
 ·rintro ⟨x,j,z⟩;have z:(x==a)=true:=z;rw [<-eq_of_beq z];exact j
 ·intro h;exact ⟨a,h,beq_self_eq_true a⟩
theorem EG (bs:List Int):(bs.map V.int).all c4=true:=by
 rw [all_map,all_eq_true];intro x _;rfl
noncomputable def c5 (hs:Hs)(c:Cb)(l:Lf)(rs:List bo):E3:=xz hs.so l.rm c.pl c.li c.ps rs
noncomputable def qe (hs:Hs)(M:MS)(i:Int)(c:Cb)(l:Lf)(rs:List bo):MS:=
 {iG (y6 (y6 M "out" (cX c.pl c.ps) i c) (s!"in") (c5 hs c l rs).ins i c) i ⟨c.pl,(c5 hs c l rs).light,ir l.kd l.tn c.dr (M.bl.testBit i.toNat) (decide (((cX c.pl c.ps).length:Int)+((c5 hs c l rs).ins.length:Int)>0)),c.mr,(c5 hs c l rs).kept⟩ with ws:=M.ws.filter λr=> !decide (r.tag∈(c5 hs c l rs).ins)}
structure Nq (P:Program)(w:World)(K:Fg)(mg:Str->Option Value)(base:Heap)(kD kH kS:Addr):Prop where
 c:∀k,sV k->Nr K @hg
 m:∀k,sV k->iB P w K mg base aY 1 "left" (kc kD kH kS k) (je K k)
theorem zE {hs:Hs}{c:Cb}{l:Lf}{rs:List bo}:(c5 hs c l rs).ins.length<=rs.length:=by
 have:=(nQ (so:=hs.so) (room:=l.rm) (pl:=c.pl) rs ⟨c.li,dP c.pl c.ps,[]⟩).2;simpa [c5,xz] using this
theorem yV {pl:Int}{ps:List (Int×Int)}:(cX pl ps).length<=ps.length:=by
 unfold cX;rw [length_map];exact length_filter_le _ _
inductive Gc (K:Fg)(C:Addr)(vs:List V)(H:Hp)(Q:VK)(_e:XK):Prop
 |mk (m i rl h hs l H0 M c xr rs:_) (_:vs=[.ref m,.int i,.ref rl]) (_:lU K H0 h hs) (_:hs.ls[i.toNat]? =some l) (_:iU K C H0 H m h M) (_:atC M i c) (_:i<1000) (_:c.ps.length<=64) (_:M.log.length<=2000) (_:M.ws.length<=1000) (_:(∃f0,c.pl=2*f0)) (_:H0 rl=some (.lst xr)) (_:aI K H0 xr @bj) (_:Qm rs) (_:∀H',aM H H'->iU K C H0 H' m h (qe hs M i c l rs)->Q .non H')
theorem Pm {C kD kH kS:Addr}(F:Z0 K "exchange" oG f fd)(cM:Aj K C)(D:Nq P w K mg base kD kH kS)(bR:mg "len"=none)(mY:bp P w K mg base 1 "room_of" ["house","lift"] @dz)(jR:bp P w K mg base 1 "turns_of" ["house","lift"] @dA)(zV:bp P w K mg base 1 "kind_of" ["house","lift"] (nV K λl=> .str l.kd))(uv:bp P w K mg base 3 "exchanged" ["sort","room","cabin","riders"] (AS K))(uo:bp P w K mg base 2 "log_steps" ["moment","word","tags","lift"] (AK K C))(zY:bp P w K mg base 3 "door_of" ["kind","turns"] (rz K kD kH kS))(qG:Z04 P w K mg base)(cy:Z03 P w K mg base):ax P w K mg base aY 4 f fd ["moment","lift","riders"] (Gc K C):=by
 rwa[F.ok rL (by symm) (λbq A outer s H vs Q E hr h=> ?_)];obtain ⟨m,i,rl,h,hs,l,H0,M,c,xr,rs,rfl,hH,hl,⟨dx,lc,lw,ll,xs,ys,zs,a⟩,L,i1,ae,gl,wl,⟨f0,aW⟩,er,dr,aA,q⟩:=h;obtain ⟨t,hx,hi,ht,bk⟩:=a.atC L;have cl:=cM.i.cl;obtain ⟨j,hj⟩:=Int.eq_ofNat_of_zero_le L.1;obtain ⟨ph,bg,pb,aL,bi,bb,bf,bd⟩:=(hH.same a.s).at L.1 hl;have R:sV l.kd:=(hH.1.lf l (mem_of_getElem? hl)).2.2.2.2;rwa[⟨_,(aa @a (aa @a (aa @a (aa @a (aa @a (aa @gl (aa @gl (aa @a (aa (aZ (i:=9) rL.nd rfl @n (lW (n:=1) fH hr @c (wv 8) (ao @a (ao @a @H)))) (aa (ij @a (lr @a (wv 1) qU)) (ac (dE rfl (wv 0) (bF rfl (aC (N':=["rider","ins"]) (pk:=[none,some 7]) @o) @a @i (λC s H ex=>(fz (c8 (qH rfl) @a (wv 1) @Y))) @R))))))))))))),?_⟩];rwa[cN a cl cM.house (v:= .ref h) rfl ?_];rwa[ar aL rfl ?_];rwa[nV.mk (g:=λl=> .int l.rm) _ _ _ _ rfl (hH.same a.s) L.1 hl ?_];rwa[cN a cl cM.cabins (v:= .ref lc) rfl ?_];rwa[bP @cD hi ?_];rwa[SH ht ae (a.s _ _ er) (aI.same dr a.s) aA aW λr H1 s1 au=> ?_];obtain ⟨cn,co,ci,aP,aB,eo,ei,no,ni,bu⟩:=au;have e1:xz hs.so l.rm c.pl c.li c.ps rs=c5 hs c l rs:=rfl;rw [e1] at aB ei;generalize hE:c5 hs c l rs=Z at *;generalize hO:cX c.pl c.ps=O at *
 have el:Z.ins.length<=rs.length:=by rw [<-hE];exact zE
 have ol:O.length<=64:=by rw [<-hO];exact Nat.le_trans yV ae
 have ba:rs.length<=64:=aA.1;have a1:=a.same s1;obtain ⟨aw,sw⟩:=a1.wide
 have Y:∀ {p q:Addr} {o:HO},H p=none->H q=some o->p≠q:=λ{p q o} h1 h2 z=>by rw [z,h2] at h1;cases h1
 have ak:jD H1 m lc lw ll co=some (.lst (O.map V.int)):=jQ eo (Y no a.em) (Y no a.ec) (Y no a.ew) (Y no a.el);have U:jD H1 m lc lw ll ci=some (.lst (Z.ins.map V.int)):=jQ ei (Y ni a.em) (Y ni a.ec) (Y ni a.ew) (Y ni a.el);generalize bh:jD H1 m lc lw ll=Hc at aw sw ak U;have I:=aK.of (K:=K) aP;rwa[ar I rfl ?_];rwa[ar I rfl ?_];erw[ar I rfl ?_];have aF:iU K C Hc H1 m h M:=⟨dx,lc,lw,ll,xs,ys,zs,aw⟩;rwa[M6 (ts:=O) aF L (aD.of ak) @b @b λH2 aV a7=> ?_];rwa[M6 (ts:=Z.ins) (c:=c) a7 L (aD.of U) @b (by show (M.log++_).length<=_;rw [length_append,length_map];lia) λH3 aN aJ=> ?_];have av:=aV.trans aN;obtain ⟨aG,S,a0,az,as,ap,aU,a3⟩:=aJ;have aE:=hH.same (sw.trans a3.s);rwa[nV.mk (g:=λl=> .str l.kd) _ _ _ _ rfl aE L.1 hl ?_];rwa[nV.mk (g:=λl=> .int l.tn) _ _ _ _ rfl aE L.1 hl ?_];rwa[rz.mk _ _ rfl R λda bt H4 s4 n4 e4=> ?_];have a4:=a3.same s4;have ad:=av.trans s4.st;have ag:b7 K H4 cn c.pl Z.light c.dr c.mr Z.kept:=aB.keep ad;obtain ⟨nb,bc,aR,br,bv⟩:=id ag;have ai:=aK.of (K:=K) aR;rwa[im e4 rfl (D.m _ R) ?_];rwa[ar ai rfl ?_];erw[cN a4 cl cM.blocked (v:= .int (M.bl:Int)) rfl ?_];rw [hj];rwa[fX.mk _ _ rfl @b ?_];rwa[eQ (aD.of (a4.s _ _ ak)) ?_];rw [length_map];rwa[eQ (aD.of (a4.s _ _ U)) ?_];rw [length_map];rwa[je.mk _ _ _ _ _ _ _ rfl e4 (D.c _ R).i.cl (D.c _ R).n ?_];rwa[ar ai rfl ?_];rwa[ar ai rfl ?_];rwa[fg.mk _ _ _ _ _ _ _ _ _ rfl ag λt5 H5 s5 aT=> ?_];have a5:=a4.same s5;obtain ⟨_,_,_,_,am⟩:=a3.atC (c:=c) L;erw[cN a5 cl cM.cabins (v:= .ref S) rfl ?_];rw [<-hj];rwa[rC (j:=i.toNat) a5.ec (ID L.1 am) ?_];have a6:=a5.setC (i:=i.toNat) (c:=⟨c.pl,Z.light,ir l.kd l.tn c.dr (M.bl.testBit j) (decide ((O.length:Int)+(Z.ins.length:Int)>0)),c.mr,Z.kept⟩) ⟨t5,rfl,aT⟩;generalize al:upd H5 S (.lst (as.set i.toNat (.ref t5)))=H6 at a6 ⊢
 have an:aM H1 H6:=by rw [<-al];exact (ad.trans s5.st).trans (.updL a5.ec)
 clear al;have yl:ap.length=M.ws.length:=aH a3.dw;rwa[cN a6 cl cM.waiting (v:= .ref a0) rfl ?_];rwa[bD (aD.of a6.ew) ?_];rwa[bI (xs:=ap) (λj G J=>aq H6 J/\G.length<=j/\aI K J G (((M.ws.take j).filter λr=> !decide (r.tag∈Z.ins)).map bo.d)) @bs (λj G J h=>h.2.1) ⟨.refl _,Nat.le_refl _,.nil⟩ (λj G J _ h=>h.1.seq (aD.of a6.ew)) (λj y G J hy hP=> ?_) (λG J hP l7 n7=> ?_)]
 ·obtain ⟨W,a2,hd⟩:=hP;obtain ⟨r,ah,ay⟩:=bj (f:=bo.d) a6.dw hy;have ah:M.ws[j]? =some r:=ah;obtain ⟨ra,rfl,hT⟩:=ie (bO.same ay W);have nx:=jO (λr:bo=> !decide (r.tag∈Z.ins)) ah;rwa[⟨bU,?_⟩];rwa[ar hT rfl ?_];rwa[DB (aD.of (W _ _ (a6.s _ _ U))) rfl (EG _) ?_];rw [LO];show if (!decide (r.tag∈Z.ins))=true then _ else _
  cases hb:(!decide (r.tag∈Z.ins)) with
  |true=>
   rw [if_pos rfl];rwa[⟨W,by rw [length_append];show _+1<=_;lia,?_⟩];rw [nx,hb,if_pos rfl,map_append];exact Paired.app hd (.cons (bO.same ay W) .nil)
  |false=>
   rw [if_neg @c];rwa[⟨W,by lia,?_⟩];rw [nx,hb,if_neg @c,append_nil];exact hd
 obtain ⟨W,a2,hd⟩:=hP;rw [yl,take_of_length_le @f] at hd;have aX:=a6.same W;have s8:aq J (upd J l7 (.lst G)):= .upd n7;have a8:=aX.same s8;have e8:upd J l7 (.lst G) l7=some (.lst G):=af;generalize bn:upd J l7 (.lst G)=H8 at s8 a8 e8 ⊢
 have aO:S≠l7:=λz=>by rw [<-z,aX.ec] at n7;cases n7
 have aQ:l7≠az:=λz=>by rw [z,aX.el] at n7;cases n7
 rwa[dI a8.em cl cM.waiting (by show 7<1000;decide) ?_];have a9:=a8.putW (rs:=M.ws.filter λr=> !decide (r.tag∈Z.ins)) (none_of aX.s n7) aO aQ e8 (aI.same hd s8);rwa[q _ ((s1.st.trans an).trans (((W.trans s8).st).trans (.updI a8.em))) (iU.onto sw ⟨aG,S,l7,az,as.set i.toNat (.ref t5),G,aU,?_⟩)]
 have ee:qe hs M i c l rs= {iG (y6 (y6 M "out" O i c) (s!"in") Z.ins i c) i ⟨c.pl,Z.light,ir l.kd l.tn c.dr (M.bl.testBit j) (decide ((O.length:Int)+(Z.ins.length:Int)>0)),c.mr,Z.kept⟩ with ws:=M.ws.filter λr=> !decide (r.tag∈Z.ins)}:=by
  unfold qe;rw [hE,hO,hj,show ((j:Int)).toNat=j by lia]
 rw [ee];exact a9
structure gu (li he up dn:Int):Prop where
 l0: -1<=li
 l1:li<=1
 h0:0<=he
 h1:he<=2
 u0:0<=up
 d0:0<=dn
abbrev Wf:=Int->Int->Int->Int->Int->Str
inductive E5 (P:Program)(w:World)(K:Fg)(mg:Str->Option Value)(base:Heap)(H:Hp)(a:Addr)(wf:Wf):Prop
 |mk (C dx fs sp:_) (_:H a=some (.ins C dx fs)) (_:fs.lookup (s!"word")=none) (_:iB P w K mg base aY 2 "word" C sp) (_:(∀fl li he up dn,gu li he up dn->wf fl li he up dn∈cf)) (_:∀(H':Hp) (sa:Addr) (fl li he up dn:Int) (Q:VK) (E:XK),H' a=some (.ins C dx fs)->aK K H' sa [.int fl,.int li,.int he,.int up,.int dn]->gu li he up dn->Q (.str (wf fl li he up dn)) H'->sp [.ref a,.ref sa] H' Q E)
theorem E5.same {H H':Hp}{a:Addr}{wf:Wf}(r:E5 P w K mg base H a wf)(s:aq H H'):E5 P w K mg base H' a wf:=by
 obtain ⟨C,dx,fs,sp,h1,h2,G,j,W⟩:=r;exact ⟨C,dx,fs,sp,s _ _ h1,h2,G,j,W⟩
noncomputable def yz (hs:Hs)(l:Lf)(c:Cb)(wd:Str):Cb:=⟨(fA hs.fl l.tn c.pl c.li c.dr c.ps @cP).1,(fA hs.fl l.tn c.pl c.li c.dr c.ps @cP).2.1,(fA hs.fl l.tn c.pl c.li c.dr c.ps @cP).2.2,c.mr,c.ps⟩
def Qy (hs:Hs)(wf:Wf)(M:MS)(i:Int)(c:Cb)(l:Lf)(rs:List bo)(M':MS):Prop:=∃(f0:Nat) (u d:Int),c.pl=2*(f0:Int)/\xO (tk l.rm c.ps rs) f0 u/\xP (tk l.rm c.ps rs) f0 d/\M'=iG M i (yz hs l c (wf f0 c.li (iJ hs.so c.li (tk l.rm c.ps rs f0) (Nk c.ps f0) (Mz rs f0 c.li)) u d))
structure nj (fl:Int)(c:Cb):Prop where
 p0:0<=c.pl
 p1:c.pl<=2*(fl - 1)
 l0: -1<=c.li
 l1:c.li<=1
 m0:0<=c.mr
 ev:0<c.dr->c.pl% 2=0
 len:c.ps.length<=64
 gs:∀p∈c.ps,0<=p.2/\p.2<fl
structure pC (fl:Int)(r:bo):Prop where
 s0:0<=r.start
 s1:r.start<fl
 g0:0<=r.goal
 g1:r.goal<fl
 ne:r.start≠r.goal
theorem CT {so:Str}{li:Int}{a b c:Bool}:0<=iJ so li a b c/\iJ so li a b c<=2:=by
 unfold iJ;split
 ·decide
 split
 ·decide
 split
 ·decide
 ·decide
theorem xO.nn {t:Int->Bool}{f u:Int}(h:xO t f u):0<=u:=by rcases h with ⟨h,_⟩|⟨h,_⟩<;>lia
theorem xP.nn {t:Int->Bool}{f u:Int}(h:xP t f u):0<=u:=by rcases h with ⟨h,_⟩|⟨h,_⟩<;>lia
inductive Gh (P:Program)(w:World)(K:Fg)(mg:Str->Option Value)(base:Heap)(C:Addr)(vs:List V)(H:Hp)(Q:VK)(_e:XK):Prop
 |mk (m ru i rl h hs l H0 M c xr rs wf:_) (_:vs=[.ref m,.ref ru,.int i,.ref rl]) (_:lU K H0 h hs) (_:hs.ls[i.toNat]? =some l) (_:E5 P w K mg base H0 ru wf) (_:iU K C H0 H m h M) (_:atC M i c) (_:nj hs.fl c) (_:c.pl% 2=0) (_:H0 rl=some (.lst xr)) (_:aI K H0 xr @bj) (_:(∀r∈rs,pC hs.fl r)) (_:rs.length<=64) (_:∀M' H',Qy hs wf M i c l rs M'->aM H H'->iU K C H0 H' m h M'->Q .non H')
theorem Po {C:Addr}(F:Z0 K "go_by_rule" oE f fd)(Z:Aj K C)(mY:bp P w K mg base 1 "room_of" ["house","lift"] @dz)(jR:bp P w K mg base 1 "turns_of" ["house","lift"] @dA)(Ng:bp P w K mg base 5 "view" ["sort","room","cabin","riders"] (AG K))(zS:bp P w K mg base 3 "steered" ["sort","floors","turns","cabin","word"] (nR K)):ax P w K mg base aY 6 f fd ["moment","rule","lift","riders"] (Gh P w K mg base C):=by
 rwa[F.ok rK (by symm) (λaq A outer s H vs Q E U h=> ?_)];obtain ⟨m,ru,i,rl,h,hs,l,H0,M,c,xr,S,wf,rfl,Y,hl,am,⟨dx,lc,lw,ll,xs,ys,zs,a⟩,J,W,ev,er,dr,aA,ba,q⟩:=h;obtain ⟨t,hx,hi,ht,ai⟩:=a.atC J;have cl:=Z.i.cl;have f8:=Y.1.f8;obtain ⟨ph,bg,pb,G,bi,bb,bf,bd⟩:=(Y.same a.s).at J.1 hl;obtain ⟨kC,ap,an,as,kr,ae,kM,kw,ks⟩:=am;obtain ⟨R,ad⟩:∃R:Nat,c.pl=2*(R:Int):=⟨(c.pl / 2).toNat,by have:=W.p0;lia⟩
 have ak:(R:Int)<hs.fl:=by have:=W.p1;lia
 have al:Ts c.ps S:=⟨λp z=>⟨(W.gs p z).1,by have:=(W.gs p z).2;lia⟩,λr U=>⟨(aA r U).s0,by have:=(aA r U).s1;lia⟩,W.len,ba⟩;have ag:qQ c.ps:=⟨by have:=W.len;lia,λp z=>⟨(W.gs p z).1,by have:=(W.gs p z).2;lia⟩⟩;rwa[⟨_,(aa @a (aa @a (aa (aZ (i:=6) rK.nd rfl @n (lW (n:=2) fH U @c (wv 1) @H)) (ac @di)))),?_⟩];rwa[cN a cl Z.house (v:= .ref h) rfl ?_];rwa[cN a cl Z.cabins (v:= .ref lc) rfl ?_];rwa[bP @cD hi ?_];rwa[im (a.s _ _ kr) ae kM ?_];rwa[ar G rfl ?_];rwa[nV.mk (g:=λl=> .int l.rm) _ _ _ _ rfl (Y.same a.s) J.1 hl ?_];rwa[AG.mk _ _ _ _ _ _ _ _ _ _ _ _ rfl ht (a.s _ _ er) (aI.same dr a.s) al ad @b λv u d H1 L hu hd af=> ?_];have a1:=a.same L;have sn:gu c.li (iJ hs.so c.li (tk l.rm c.ps S R) (Nk c.ps R) (Mz S R c.li)) u d:=⟨W.l0,W.l1,CT.1,CT.2,hu.nn,hd.nn⟩;rwa[ks H1 v R c.li _ u d _ _ (a1.s _ _ kr) (aK.of af) sn ?_];have O:=kw R _ _ _ _ sn;generalize I:wf R c.li (iJ hs.so c.li (tk l.rm c.ps S R) (Nk c.ps R) (Mz S R c.li)) u d=wd at O ⊢;rwa[ar (L.seqT G) rfl ?_];rwa[ar (L.seqT G) rfl ?_];rwa[nV.mk (g:=λl=> .int l.tn) _ _ _ _ rfl (Y.same a1.s) J.1 hl ?_];rwa[FX (f0:=(R:Int)) (ht.same L) O ag ad @b ak W.l0 W.l1 λr H2 s2 ah=> ?_];have a2:=a1.same s2;rwa[cN a2 cl Z.cabins (v:= .ref lc) rfl ?_];rwa[rC (j:=i.toNat) a2.ec (ID J.1 ai) ?_];rwa[q (iG M i (yz hs l c wd)) _ ⟨R,u,d,ad,hu,hd,by rw [I]⟩ ((L.trans s2).st.trans (.updL a2.ec)) ⟨dx,lc,lw,ll,_,ys,zs,a2.setC (i:=i.toNat) (c:=yz hs l c wd) ⟨r,rfl,ah⟩⟩]
noncomputable def bt (i:Int)(M:MS):List bo:=M.ws.filter λr=>decide (r.lift=i)
def Ap (hs:Hs)(wf:Wf)(M:MS)(i:Int)(c:Cb)(l:Lf)(M':MS):Prop:=if 0<c.dr then M'=qe hs M i c l @ba else if c.pl% 2=1 then M'=iG M i ⟨c.pl+c.li,c.li,0,c.mr,c.ps⟩ else Qy hs wf M i c l @ba M'
section
variable {hs:Hs}{wf:Wf}{M M':MS}{i:Int}{c:Cb}{l:Lf}
theorem Vo (z:0<c.dr):Ap hs wf M i c l (qe hs M i c l @ba):=by unfold Ap;rw [if_pos z]
theorem Vn (z: ¬0<c.dr)(S:c.pl% 2=1):Ap hs wf M i c l (iG M i ⟨c.pl+c.li,c.li,0,c.mr,c.ps⟩):=by unfold Ap;rw [if_neg z,if_pos S]
theorem Vm (z: ¬0<c.dr)(S: ¬c.pl% 2=1)(h:Qy hs wf M i c l @ba M'):Ap hs wf M i c l M':=by unfold Ap;rw [if_neg z,if_neg S];exact h
end
inductive Gb (P:Program)(w:World)(K:Fg)(mg:Str->Option Value)(base:Heap)(C:Addr)(vs:List V)(H:Hp)(Q:VK)(_e:XK):Prop
 |mk (m ru i h hs l H0 M c wf:_) (_:vs=[.ref m,.ref ru,.int i]) (_:lU K H0 h hs) (_:hs.ls[i.toNat]? =some l) (_:E5 P w K mg base H0 ru wf) (_:iU K C H0 H m h M) (_:atC M i c) (_:nj hs.fl c) (_:i<1000) (_:(∀r∈M.ws,pC hs.fl r)) (_:M.ws.length<=64) (_:M.log.length<=2000) (_:∀M' H',Ap hs wf M i c l M'->aM H H'->iU K C H0 H' m h M'->Q .non H')
theorem Pl {C:Addr}(F:Z0 K "go_without_fire" fF f fd)(cM:Aj K C)(vH:bp P w K mg base 4 "exchange" ["moment","lift","riders"] (Gc K C))(cy:Z03 P w K mg base)(ql:bp P w K mg base 6 "go_by_rule" ["moment","rule","lift","riders"] (Gh P w K mg base C)):ax P w K mg base aY 7 f fd ["moment","rule","lift"] (Gb P w K mg base C):=by
 rwa[F.ok iI (by symm) (λan A outer s H vs Q E hr h=> ?_)];obtain ⟨m,ru,i,h,hs,l,H0,M,c,wf,rfl,hH,hl,am,⟨dx,lc,lw,ll,xs,ys,zs,a⟩,hc,ok,i1,ae,wl,gl,q⟩:=h;obtain ⟨t,hx,hi,ht,aj⟩:=a.atC hc;obtain ⟨b,bs,et,eb,db⟩:=id ht;have hT:=aK.of (K:=K) et;have cl:=cM.i.cl;have yl:ys.length=M.ws.length:=aH a.dw;rwa[⟨_,(aa @a (aa (fw (i:=4) rfl iI.nd rfl @n (aC (N':=["rider","lift"]) (pk:=[none,some 2]) @o) @a @i @X @R) (ac (az @a @Q (ac (az @a (ac @di) @Q)))))),?_⟩];rwa[cN a cl cM.cabins (v:= .ref lc) rfl ?_];rwa[bP @cD hi ?_];rwa[cN a cl cM.waiting (v:= .ref lw) rfl ?_];rwa[bD @gC ?_];rwa[bI (xs:=ys) (λj G I=>aq H I/\G.length<=j/\aI K I G (((M.ws.take j).filter λr=>decide (r.lift=i)).map bo.d)) @bs (λj G I h=>h.2.1) ⟨.refl _,Nat.le_refl _,.nil⟩ (λj G I _ h=>h.1.seq @gC) (λj y G I hy hP=> ?_) (λG I hP Z n1=> ?_)]
 ·obtain ⟨W,ak,hd⟩:=hP;obtain ⟨r,ah,ad⟩:=bj (f:=bo.d) a.dw hy;obtain ⟨ra,rfl,ag⟩:=ie (bO.same ad W);have nx:=jO (λr:bo=>decide (r.lift=i)) ah;rwa[⟨bU,?_⟩];rwa[ar ag rfl ?_];show if decide (r.lift=i)=true then _ else _
  cases hb:decide (r.lift=i) with
  |true=>
   rw [if_pos rfl];rwa[⟨W,by rw [length_append];show _+1<=_;lia,?_⟩];rw [nx,hb,if_pos rfl,map_append];exact Paired.app hd (.cons (bO.same ad W) .nil)
  |false=>
   rw [if_neg @c];rwa[⟨W,by lia,?_⟩];rw [nx,hb,if_neg @c,append_nil];exact hd
 obtain ⟨W,ak,hd⟩:=hP;rw [yl,take_of_length_le @f] at hd;have O:aq I (upd I Z (.lst G)):= .upd n1;have e2:upd I Z (.lst G) Z=some (.lst G):=af;have d2:=aI.same hd O;generalize al:upd I Z (.lst G)=H2 at O e2 d2 ⊢;have R:=W.trans O;have Y:=a.same R;obtain ⟨aw,U⟩:=Y.wide
 have nk:∀ {p:Addr} {o:HO},H p=some o->Z≠p:=λ{p o} e z=>by rw [<-z] at e;rw [W _ _ e] at n1;cases n1
 have L:jD H2 m lc lw ll Z=some (.lst G):=jQ e2 (nk a.em) (nk a.ec) (nk a.ew) (nk a.el)
 have dC:aI K (jD H2 m lc lw ll) G ((bt i M).map bo.d):=by
  rwa[aM.dens (λb o z1 S e=> ?_) d2 (ig _)];exact jQ e (λz=>by rw [z,Y.em] at e;cases e;exact S _ _ _ rfl) (λz=>by rw [z,Y.ec] at e;cases e;exact z1 _ rfl) (λz=>by rw [z,Y.ew] at e;cases e;exact z1 _ rfl) (λz=>by rw [z,Y.el] at e;cases e;exact z1 _ rfl)
 generalize ao:jD H2 m lc lw ll=Hc at aw U L dC;have a7:iU K C Hc H2 m h M:=⟨dx,lc,lw,ll,xs,ys,zs,aw⟩;have aA:∀r∈bt i M,pC hs.fl r:=λr hr=>ae r ((mem_filter.mp hr).1);have ba:(bt i M).length<=64:=Nat.le_trans @Z wl;rwa[ar @eF rfl ?_];rwa[fD @k @k]
 ·have z:0<c.dr:=z;exact Gc.mk _ _ _ _ _ _ _ _ _ _ _ rfl (hH.same U) hl a7 hc i1 ok.len gl @b ⟨c.pl / 2,by have:=ok.ev z;lia⟩ L dC ⟨ba,λr hr=>(aA r hr).ne⟩ λH' st J=>q _ H' (Vo z) (R.st.trans st) (J.onto U)
 have z: ¬0<c.dr:=z;rwa[ar @eF rfl ?_];rwa[⟨by decide,?_⟩];rwa[fD @fj @fj]
 ·have S:c.pl% 2=1:=S;rwa[ar @eF rfl ?_];rwa[ar @eF rfl ?_];rwa[ar @eF rfl ?_];rwa[fg.mk _ _ _ _ _ _ _ _ _ rfl (ht.same R) λr H3 s3 ah=> ?_];have a3:=Y.same s3;rwa[cN a3 cl cM.cabins (v:= .ref lc) rfl ?_];rwa[rC (j:=i.toNat) a3.ec (ID hc.1 aj) ?_];exact q _ _ (Vn z S) ((R.trans s3).st.trans (.updL a3.ec)) ⟨dx,lc,lw,ll,_,ys,zs,a3.setC (i:=i.toNat) (c:=⟨c.pl+c.li,c.li,0,c.mr,c.ps⟩) ⟨r,rfl,ah⟩⟩
 ·have S: ¬c.pl% 2=1:=S;exact Gh.mk _ _ _ _ _ _ _ _ _ _ _ _ _ rfl (hH.same U) hl (am.same U) a7 hc ok @b L dC aA ba λM' H' ai st J=>q M' H' (Vm z S ai) (R.st.trans st) (J.onto U)
def JT (hs:Hs)(wf:Wf)(M:MS)(i:Int)(c:Cb)(l:Lf)(M':MS):Prop:=(c.mr.toNat.testBit 0=true/\M'=M)\/(c.mr.toNat.testBit 0=false/\M.fire=true/\M'=M)\/(c.mr.toNat.testBit 0=false/\M.fire=false/\Ap hs wf M i c l M')
inductive Km (P:Program)(w:World)(K:Fg)(mg:Str->Option Value)(base:Heap)(C:Addr)(vs:List V)(H:Hp)(Q:VK)(_e:XK):Prop
 |mk (m ru i h hs l H0 M c wf:_) (_:vs=[.ref m,.ref ru,.int i]) (_:lU K H0 h hs) (_:hs.ls[i.toNat]? =some l) (_:E5 P w K mg base H0 ru wf) (_:iU K C H0 H m h M) (_:atC M i c) (_:nj hs.fl c) (_:i<1000) (_:(∀r∈M.ws,pC hs.fl r)) (_:M.ws.length<=64) (_:M.log.length<=2000) (_:M.fire=false) (_:∀M' H',JT hs wf M i c l M'->aM H H'->iU K C H0 H' m h M'->Q .non H')
theorem R9 {C:Addr}{t1:Tok}(F:Z0 K "go" Uw f fd)(L:Aj K C)(IR:mg "STUCK"=some (.int 0 t1))(qG:Z04 P w K mg base)(gH:bp P w K mg base 7 "go_without_fire" ["moment","rule","lift"] (Gb P w K mg base C)):ax P w K mg base aY 8 f fd ["moment","rule","lift"] (Km P w K mg base C):=by
 have j:aL (.int 0) (.int 0 t1):=⟨_,rfl⟩;rwa[F.ok Uv (by symm) @G];obtain ⟨m,ru,i,h,hs,l,H0,M,c,wf,rfl,hH,hl,am,W,Y,ok,i1,ae,wl,gl,U,q⟩:=h;have I:=W;obtain ⟨dx,lc,lw,ll,xs,ys,zs,a⟩:=W;obtain ⟨t,hx,hi,ht,af⟩:=a.atC Y;obtain ⟨b,bs,et,eb,db⟩:=id ht;have Z:=L.i.cl;obtain ⟨O,z⟩:=Int.eq_ofNat_of_zero_le ok.m0;rwa[⟨_,(aa (az @a (ac KN) av) (ac (az @a @bS @Q))),?_⟩];rwa[cN a Z L.cabins (v:= .ref lc) rfl ?_];rwa[bP @cD hi ?_];rwa[ar (aK.of et) rfl ?_];rw [z]
 have S:c.mr.toNat=O:=by rw [z];rfl
 erw[fX.mk _ 0 rfl @c ?_];by_cases R:O.testBit 0=true
 ·rwa[b6 R ?_];exact q M H (.inl ⟨by rw [S];exact R,rfl⟩) (.refl _) I
 ·have G:O.testBit 0=false:=by simpa using R
  rwa[bG G ?_];rwa[cN a Z L.fire (v:= .bl M.fire) rfl ?_];rwa[bG U ?_];exact Gb.mk _ _ _ _ _ _ _ _ _ _ rfl hH hl am I Y ok i1 ae wl gl λM' H' hg st J=>q M' H' (.inr (.inr ⟨by rw [S];exact G,U,hg⟩)) st J
inductive fj (K:Fg)(H:Hp)(st:Addr)(cs:List Cb)(ws:List bo)(last:Int)(fire:Bool):Prop
 |mk (tc tw xs ys:_) (_:aK K H st [.ref tc,.ref tw,.int last,.bl fire]) (_:aK K H tc xs) (_:aK K H tw ys) (_:Paired (fk K H) xs cs) (_:aI K H ys (ws.map bo.d))
theorem fj.keep {H H':Hp}{st:Addr}{cs:List Cb}{ws:List bo}{j:Int}{F:Bool}(h:fj K H st cs ws j F)(s:aM H H'):fj K H' st cs ws j F:=by
 obtain ⟨tc,J,xs,ys,h1,h2,G,I,W⟩:=h;exact ⟨tc,J,xs,ys,s.sqT h1,s.sqT h2,s.sqT G,Paired.imp' (λx c z=>fk.keep z s) I,s.dens W (ig _)⟩
inductive F5 (K:Fg)(vs:List V)(H:Hp)(Q:VK)(_e:XK):Prop
 |mk (a h st C dx tc tw xs ys last fire:_) (_:vs=[.ref a,.ref h,.ref st]) (_:H a=some (.ins C dx [])) (_:Aj K C) (_:aK K H st [.ref tc,.ref tw,.int last,.bl fire]) (_:aK K H tc xs) (_:aK K H tw ys) (_:∀lc lw ll H',fN a H H'->H lc=none->H lw=none->H ll=none->lc≠lw->lc≠ll->lw≠ll->H' a=some (.ins C dx (u2 h lc lw last fire 0 ll))->H' lc=some (.lst xs)->H' lw=some (.lst ys)->H' ll=some (.lst [])->Q .non H')
theorem gB {a:Addr}{H H':Hp}{C dx:Addr}{fs:List (Str×V)}(s:fN a H H')(e:H a=some (.ins C dx fs)){p:Addr}{xs:List V}(h:aK K H p xs):aK K H' p xs:=by
 rcases h with (h|⟨u,h⟩)|h
 ·exact .inl (.inl (s _ _ (λz=>by rw [z,e] at h;cases h) h))
 ·exact .inl (.inr ⟨u,s _ _ (λz=>by rw [z,e] at h;cases h) h⟩)
 ·exact .inr h
theorem Hu (F:be K "__init__" "Moment.__init__" ji f fd)(dN:mg "list"=none):ax P w K mg base aY 1 f fd ["self","house","state"] (F5 K):=by
 rwa[F.ok ww (by symm) (λaD A outer s H vs Q E hr h=> ?_)];obtain ⟨a,h,st,C,dx,tc,tw,xs,ys,L,S,rfl,Z,R,h1,h2,h3,q⟩:=h;have Y:=R.i.cl;rwa[⟨_,(aa @bJ (aa (dE rfl (wv 0) @cm) (aa (dE rfl (wv 0) @cm) (aa @eE (aa @eE (aa (dE rfl (wv 0) cE) (ac (dE rfl (wv 0) (gO aj))))))))),?_⟩];rwa[dI Z Y R.house @c ?_];generalize W:upd H a _=H1
 have p1:fN a H H1:=by rw [<-W];exact λb o n e=>by rw [ag n];exact e
 have ah:H1 a=some (.ins C dx [(s!"house",.ref h)]):=by rw [<-W];exact af
 clear W;rwa[ar (gB p1 Z h1) rfl ?_];rwa[ip (.inr (gB p1 Z h2)) λlc H2 s2 n2 e2=> ?_];have am:=s2 _ _ ah;rwa[dI am Y R.cabins (by show 1<1000;decide) ?_];generalize O:upd H2 a _=H3
 have p3:fN a H H3:=by rw [<-O];exact λb o n e=>by rw [ag n];exact s2 _ _ (p1 b o n e)
 have ai:H3 a=some (.ins C dx [(s!"house",.ref h),(s!"cabins",.ref lc)]):=by rw [<-O];exact af
 have aO:lc≠a:=λz=>by rw [z,ah] at n2;cases n2
 have e3:H3 lc=some (.lst xs):=by rw [<-O,ag aO];exact e2
 have aC:H lc=none:=by
  cases y:H lc with
  |none=>rfl
  |some o=>rw [p1 _ _ aO y] at n2;cases n2
 clear O;rwa[ar (gB p3 Z h1) rfl ?_];rwa[ip (.inr (gB p3 Z h3)) λlw H4 s4 n4 e4=> ?_];have aA:=s4 _ _ ai;rwa[dI aA Y R.waiting (by show 2<1000;decide) ?_];generalize I:upd H4 a _=H5
 have p5:fN a H H5:=by rw [<-I];exact λb o n e=>by rw [ag n];exact s4 _ _ (p3 b o n e)
 have an:H5 a=some (.ins C dx [(s!"house",.ref h),(s!"cabins",.ref lc),(s!"waiting",.ref lw)]):=by rw [<-I];exact af
 have j:lw≠a:=λz=>by rw [z,ai] at n4;cases n4
 have az:lc≠lw:=λz=>by rw [<-z,e3] at n4;cases n4
 have e5:H5 lw=some (.lst ys):=by rw [<-I,ag j];exact e4
 have al:H5 lc=some (.lst xs):=by rw [<-I,ag aO];exact s4 _ _ e3
 have ap:H lw=none:=by
  cases y:H lw with
  |none=>rfl
  |some o=>rw [p3 _ _ j y] at n4;cases n4
 clear I;rwa[ar (gB p5 Z h1) rfl ?_];rwa[dI an Y R.last (by show 3<1000;decide) ?_];generalize J:upd H5 a _=H6
 have p6:fN a H H6:=by rw [<-J];exact λb o n e=>by rw [ag n];exact p5 b o n e
 have av:H6 a=some (.ins C dx [(s!"house",.ref h),(s!"cabins",.ref lc),(s!"waiting",.ref lw),(s!"last",.int L)]):=by rw [<-J];exact af
 have e6:H6 lw=some (.lst ys):=by rw [<-J,ag j];exact e5
 have ay:H6 lc=some (.lst xs):=by rw [<-J,ag aO];exact al
 clear J;rwa[ar (gB p6 Z h1) rfl ?_];rwa[dI av Y R.fire (by show 4<1000;decide) ?_];generalize G:upd H6 a _=H7
 have p7:fN a H H7:=by rw [<-G];exact λb o n e=>by rw [ag n];exact p6 b o n e
 have aB:H7 a=some (.ins C dx [(s!"house",.ref h),(s!"cabins",.ref lc),(s!"waiting",.ref lw),(s!"last",.int L),(s!"fire",.bl S)]):=by rw [<-G];exact af
 have e7:H7 lw=some (.lst ys):=by rw [<-G,ag j];exact e6
 have aq:H7 lc=some (.lst xs):=by rw [<-G,ag aO];exact ay
 clear G;rwa[dI aB Y R.blocked (by show 5<1000;decide) ?_];generalize bn:upd H7 a _=H8
 have p8:fN a H H8:=by rw [<-bn];exact λb o n e=>by rw [ag n];exact p7 b o n e
 have ae:H8 a=some (.ins C dx [(s!"house",.ref h),(s!"cabins",.ref lc),(s!"waiting",.ref lw),(s!"last",.int L),(s!"fire",.bl S),(s!"blocked",.int 0)]):=by rw [<-bn];exact af
 have e8:H8 lw=some (.lst ys):=by rw [<-bn,ag j];exact e7
 have ak:H8 lc=some (.lst xs):=by rw [<-bn,ag aO];exact aq
 clear bn;rwa[ju (bw (by show 0<=1000000;decide)) λll H9 s9 U e9=> ?_];have aw:=s9 _ _ ae;rwa[dI aw Y R.log (by show 6<1000;decide) ?_]
 have ad:ll≠a:=λz=>by rw [z,ae] at U;cases U
 have as:lc≠ll:=λz=>by rw [<-z,ak] at U;cases U
 have au:lw≠ll:=λz=>by rw [<-z,e8] at U;cases U
 rwa[q lc lw ll _ (λb o n e=> ?_) aC ap ?_ az as au af ?_ ?_ ?_]
 ·rw [ag n];exact s9 _ _ (p8 b o n e)
 ·cases y:H ll with
  |none=>rfl
  |some o=>rw [p8 _ _ ad y] at U;cases U
 ·rw [ag aO];exact s9 _ _ ak
 ·rw [ag j];exact s9 _ _ e8
 ·rw [ag ad];exact e9
unseal gD in
theorem UH {C:Addr}{E:XK}{H:Hp}{h st:Addr}{cs:List Cb}{ws:List bo}{j:Int}{F:Bool}{Q:VK}(cM:Aj K C)(hs:fj K H st cs ws j F)(g:∀m H',iU K C H H' m h ⟨cs,ws,j,F,0,[]⟩->Q (.ref m) H'):gD C (F5 K) E [.ref h,.ref st] H Q:=by
 show ∀a dx,H a=none->H dx=none->dx≠a->F5 K (.ref a::([.ref h,.ref st]++[])) @p (λv H2=>v= .non/\Q (.ref a) H2) E;intro a dx h1 h2 h3;have G:aq H @p:=fC h1 h2;obtain ⟨tc,tw,xs,ys,R,i2,Z,Y,i5⟩:=hs;rwa[⟨a,h,st,C,dx,tc,tw,xs,ys,j,F,rfl,af,cM,G.seqT R,G.seqT i2,G.seqT Z,λlc lw ll H' sp L nw nl W J wl S U O el=>⟨rfl,g a H' ?_⟩⟩];have I:aq H H':=λb o e=>sp b o (λz=>by rw [z,h1] at e;cases e) (G b o e);exact ⟨dx,lc,lw,ll,xs,ys,[],I,h1,none_of G L,none_of G nw,none_of G nl,W,J,wl,S,U,O,el,Paired.imp' (λx c z=>fk.keep z I.st) Y,aI.same i5 I,.nil,rfl⟩
inductive Cp (K:Fg)(C:Addr)(vs:List V)(H:Hp)(Q:VK)(_e:XK):Prop
 |mk (m h H0 M:_) (_:vs=[.ref m]) (_:iU K C H0 H m h M) (_:∀st H',aq H H'->fj K H' st M.cs M.ws M.last M.fire->Q (.ref st) H')
theorem O6 {C:Addr}(F:Z0 K "state_of" rR f fd)(j:Aj K C)(I:mg "tuple"=none):ax P w K mg base aY 1 f fd ["moment"] (Cp K C):=by
 rwa[F.ok DI (by symm) (λJ A outer s H vs Q E hr h=> ?_)];obtain ⟨m,h,H0,M,rfl,⟨dx,lc,lw,ll,xs,ys,zs,a⟩,q⟩:=h;have Y:=j.i.cl;rwa[⟨_,(ac (am (kB (ao (aV @ek rfl I boot_tuple @H) (ao (aV @ek rfl I boot_tuple @H) (ao @a @H)))))),?_⟩];rwa[cN a Y j.cabins (v:= .ref lc) rfl ?_];rwa[iZ @cD λtc H1 L n1 e1=> ?_];have z:=a.same L;rwa[cN z Y j.waiting (v:= .ref lw) rfl ?_];rwa[iZ (aD.of z.ew) λU H2 R n2 e2=> ?_];have G:=z.same R;rwa[cN G Y j.last (v:= .int M.last) rfl ?_];rwa[cN G Y j.fire (v:= .bl M.fire) rfl ?_];rwa[cj (bw (by show 4<=1000000;decide)) λst W O n3 S=> ?_];have Z:=G.same O;exact q st W (L.trans (R.trans O)) ⟨tc,U,xs,ys,aK.of S,aK.of (O _ _ (R _ _ e1)),aK.of (O _ _ e2),Z.dc,Z.dw⟩
structure uB (hs:Hs)(n:Nat)(M:MS):Prop where
 len:M.cs.length=hs.ls.length
 cs:∀c∈M.cs,nj hs.fl c
 ws:∀r∈M.ws,pC hs.fl r
 sum:M.log.length+M.ws.length<=n
theorem mem_set {α:Type}{l:List α}{i:Nat}{x y:α}(h:y∈l.set i x):y∈l\/y=x:=mem_or_eq_of_mem_set h
theorem uB.deed {hs:Hs}{n:Nat}{M:MS}(o:uB hs n M){d:Dd}(G:d.ok)(F:d.fit hs.fl hs.ls.length):uB hs (n+1) (fL hs.lo M d):=by
 have J:∀ {M':MS},uB hs n M'->uB hs (n+1) M':=λz=>⟨z.len,z.cs,z.ws,by have:=z.sum;lia⟩
 cases d with
 |come t s g k=>
  obtain ⟨W,L,Z,O,I⟩:=F;show uB hs (n+1) (fb hs.lo M t s g k);unfold fb;have j:=o.sum;split
  ·exact ⟨o.len,o.cs,o.ws,by show (M.log++_).length+M.ws.length<=_;rw [length_append];simp;lia⟩
  split
  ·exact ⟨o.len,o.cs,o.ws,by show (M.log++_).length+M.ws.length<=_;rw [length_append];simp;lia⟩
  ·rwa[⟨o.len,o.cs,λr U=> ?_,by show M.log.length+(M.ws++_).length<=_;rw [length_append];simp;lia⟩]
   rcases mem_append.mp U with z|z
   ·exact o.ws r z
   ·rw [mem_singleton.mp z];exact ⟨W,L,Z,O,I⟩
 |lf x i=>exact False.elim F
 |sg x=>exact False.elim F
theorem uB.dealt {hs:Hs}{n:Nat}{M:MS}(o:uB hs n M){dl:uH}{p:Nat}{r:bo}(U:pC hs.fl r):uB hs (n+1) @gm:=by
 unfold fq;have G:=o.sum;split
 ·exact ⟨o.len,o.cs,o.ws,by show M.log.length+M.ws.length<=_;lia⟩
 ·rwa[⟨o.len,o.cs,λs j=> ?_,by show (M.log++_).length+(M.ws.set _ _).length<=_;rw [length_append,length_set];simp;lia⟩]
  rcases mem_set j with z|z
  ·exact o.ws s z
  ·rw [z];exact ⟨U.s0,U.s1,U.g0,U.g1,U.ne⟩
theorem uB.deals {hs:Hs}{n:Nat}{M:MS}(o:uB hs n M){dl:uH}{W:List bo}(z:∀r∈W,pC hs.fl r):∀i,uB hs (n+i) @gn
 |0=>o
 |i+1=>by
  have h:=uB.deals (dl:=dl) o z i;unfold aR;split
  ·rename_i r U;split
   ·exact h.dealt (z r (mem_of_getElem? U))
   ·exact ⟨h.len,h.cs,h.ws,by have:=h.sum;lia⟩
  ·exact ⟨h.len,h.cs,h.ws,by have:=h.sum;lia⟩
def vP (hs:Hs)(wf:Wf):Nat->MS->MS->Prop
 |0,M,M'=>M'=M
 |i+1,M,M''=>∃M' c l,vP hs wf i M M'/\atC M' (i:Int) c/\hs.ls[i]? =some l/\JT hs wf M' (i:Int) c l M''
structure ky (hs:Hs)(M0:MS)(i:Nat)(M:MS):Prop where
 len:M.cs.length=M0.cs.length
 cs:∀j,i<=j->M.cs[j]? =M0.cs[j]?
 ws:∀r∈M.ws,r∈M0.ws
 wl:M.ws.length<=M0.ws.length
 log:M.log.length<=M0.log.length+128*i
 fire:M.fire=M0.fire
theorem ky.set {hs:Hs}{z M:MS}{i:Nat}(o:ky hs z i M){c:Cb}{lg:List D}{ws:List bo}(F:∀r∈ws,r∈M.ws)(W:ws.length<=M.ws.length)(S:lg.length<=M.log.length+128):ky hs z (i+1) {M with cs:=M.cs.set i c,ws:=ws,log:=lg}:=by
 rwa[⟨by rw [length_set];exact o.len,λj R=> ?_,λr U=>o.ws r (F r U),Nat.le_trans W o.wl,by have:=o.log;show lg.length<=_;lia,o.fire⟩];rw [getElem?_set_ne @b];exact o.cs j @b
theorem ky.go {hs:Hs}{wf:Wf}{G M M':MS}{i:Nat}{c:Cb}{l:Lf}(o:ky hs G i M)(J:c.ps.length<=64)(L:M.ws.length<=64)(h:JT hs wf M (i:Int) c l M'):ky hs G (i+1) M':=by
 have z:ky hs G (i+1) M:=⟨o.len,λj R=>o.cs j @b,o.ws,o.wl,by have:=o.log;lia,o.fire⟩
 have e:((i:Int)).toNat=i:=by lia
 have F:∀I,ky hs G (i+1) (iG M (i:Int) I):=λI=>by
  have:=o.set (c:=I) (lg:=M.log) (ws:=M.ws) (λr h=>h) @f @b;unfold iG;rw [e];exact this
 rcases h with ⟨_,rfl⟩|⟨_,_,rfl⟩|⟨_,_,h⟩
 ·exact z
 ·exact z
 ·unfold Ap at h;split at h
  ·rw [h];unfold qe iG y6;rw [e];rwa[o.set (λr h=>(mem_filter.mp h).1) @Z ?_];rw [length_append,length_append,length_map,length_map];have h1:=yV (pl:=c.pl) (ps:=c.ps);have h2:=zE (hs:=hs) (c:=c) (l:=l) (rs:=bt (i:Int) M);have O:(bt (i:Int) M).length<=M.ws.length:=length_filter_le _ _;lia
  split at h
  ·rw [h];exact F _
  ·obtain ⟨S,u,d,_,_,_,rfl⟩:=h;exact F _
noncomputable def cJ:Dd->List Int
 | .come t _ _ _=>[t]
 |_=>[]
def xo (fl:Int)(n:Nat):List Int->List Dd->Prop
 |_,[]=>True
 |ts,d::ds=>d.fit fl n/\(∀t∈cJ d,t∉ts)/\xo fl n (ts++cJ d) ds
theorem tM {fl:Int}{n:Nat}:∀ {ds:List Dd} {ts:List Int},xo fl n ts ds->∀d∈ds,d.fit fl n
 |[],_,_,d,G=>by cases G
 |e::ds,ts,h,d,G=>by
  rcases mem_cons.mp G with rfl|G
  ·exact h.1
  ·exact tM h.2.2 d G
noncomputable def eE (cs:List Cb)(ws:List bo):List Int:=ws.map (·.tag)++cs.flatMap λc=>c.ps.map (·.1)
def kx (K:Fg)(H:Hp)(p:Addr)(ds:List Dd):Prop:=∃xs,aD K H p xs/\Paired (λx d=>∃a,x=V.ref a/\u9 H a d) xs ds
inductive Cq (K:Fg)(vs:List V)(H:Hp)(Q:VK)(_e:XK):Prop
 |mk (h st dl hs cs ws last fire ds:_) (_:vs=[.ref h,.ref st,.ref dl]) (_:lU K H h hs) (_:fj K H st cs ws last fire) (_:kx K H dl ds) (_:ws.length<=64) (_:(∀c∈cs,c.ps.length<=64)) (_:cs.length<=10) (_:ds.length<=100) (_:xo (Hs.fl hs) hs.ls.length @hb ds) (_:∀H',aq H H'->Q .non H')
structure JP (K:Fg)(C:Addr):Prop where
 i:gJ K C
 house:aT K C "house"
 rule:aT K C "rule"
 dealer:aT K C "dealer"
abbrev uc (h ru df:Addr):List (Str×V):=[(s!"house",.ref h),(s!"rule",.ref ru),(s!"dealer",.ref df)]
noncomputable def aB (lo:Nat)(M:MS)(ds:List Dd):MS:=ds.foldl (fL lo) M
noncomputable def jX (dl:uH)(M:MS):MS:=aR dl M.ws M.ws.length M
theorem Mh {lo:Nat}{M:MS}{d:Dd}:(fL lo M d).fire=M.fire:=by
 cases d with
 |come t s g k=>
  show (fb lo M t s g k).fire=M.fire;unfold fb;split
  ·rfl
  ·split<;>rfl
 |lf x i=>
  unfold fL;dsimp only;split
  ·rfl
  split
  ·rfl
  split
  ·rfl
  split<;>rfl
 |sg x=>rfl
theorem ge {lo:Nat}:∀ {ds:List Dd} {M:MS},(aB lo M ds).fire=M.fire
 |[],M=>rfl
 |d::ds,M=>(ge (ds:=ds) (M:=fL lo M d)).trans Mh
inductive AH (P:Program)(w:World)(K:Fg)(mg:Str->Option Value)(base:Heap)(GG LB:Hp->Prop)(pre:List Cb->List bo->bo->Int->Prop)(dl:uH)(vs:List V)(H:Hp)(Q:VK)(_e:XK):Prop
 |mk (a st dp C dx h ru df hs wf cs ws last ds:_) (_:vs=[.ref a,.ref st,.ref dp]) (_:H a=some (.ins C dx @ft)) (_:JP K C) (_:lU K H h hs) (_:E5 P w K mg base H ru wf) (_:uE P w K mg base 5 df @eD) (_:GG H) (_:LB H) (_:fj K H st cs ws last false) (_:kx K H dp ds) (_:uB hs ws.length ⟨cs,ws,last,false,0,[]⟩) (_:ws.length+ds.length<=64) (_:xo (Hs.fl hs) hs.ls.length @hb ds) (_:(∀i r,(aB hs.lo ⟨cs,ws,last,false,0,[]⟩ ds).ws[i]? =some r->r.lift= -1->pre (aR dl (aB hs.lo ⟨cs,ws,last,false,0,[]⟩ ds).ws i @bb).cs (aR dl (aB hs.lo ⟨cs,ws,last,false,0,[]⟩ ds).ws i @bb).ws r (aR dl (aB hs.lo ⟨cs,ws,last,false,0,[]⟩ ds).ws i @bb).last)) (_:(∀r st' ll zs M' H',aJ H H'->GG H'->H' r=some (.tup [.ref st',.ref ll])->fj K H' st' M'.cs M'.ws M'.last M'.fire->H' ll=some (.lst zs)->aI K H' zs M'.log->(∀b zs0,H b=some (.lst zs0)->b≠ll)->vP hs wf hs.ls.length (jX dl @bb) M'->M'.log.length<=2000->Q (.ref r) H'))
theorem t6 {lo:Nat}{M:MS}{ds:List Dd}{i:Nat}{d:Dd}(h:ds[i]? =some d):aB lo M (ds.take (i+1))=fL lo (aB lo M @fQ) d:=by
 unfold aB;rw [take_add_one,h,foldl_append];rfl
theorem uB.deeds {hs:Hs}{n:Nat}{M:MS}(o:uB hs n M):∀ {ds:List Dd},(∀d∈ds,d.ok/\d.fit hs.fl hs.ls.length)->∀i,uB hs (n+i) (aB hs.lo M @fQ)
 |ds,h,0=>by
  rw [take_zero];exact o
 |ds,h,i+1=>by
  have z:=uB.deeds o h i
  cases e:ds[i]? with
  |none=>
   rw [take_add_one,e];simp only [Option.toList_none,append_nil];exact ⟨z.len,z.cs,z.ws,by have:=z.sum;lia⟩
  |some d=>
   rw [t6 e];have:=h d (mem_of_getElem? e);exact z.deed this.1 this.2
theorem zh {H H':Hp}(s:aJ H H'){a:Addr}{h:Hs}(c:lU K H a h):lU K H' a h:=by
 obtain ⟨o,p,xs,h1,h2,G⟩:=c;exact ⟨o,p,xs,s.sqT h1,s.sqT h2,Paired.imp' (λx l ⟨b,e,z⟩=>⟨b,e,s.sqT z⟩) G⟩
theorem Cw {H H':Hp}(s:aJ H H'){a:Addr}{wf:Wf}(r:E5 P w K mg base H a wf):E5 P w K mg base H' a wf:=by
 obtain ⟨C,dx,fs,sp,h1,h2,G,j,W⟩:=r;exact ⟨C,dx,fs,sp,s _ _ (λ_ z=>by cases z) h1,h2,G,j,W⟩
theorem K9 {kM:Addr}{GG LB:Hp->Prop}{aC:List Cb->List bo->bo->Int->Prop}{dl:uH}(gT:GT GG)(lN:∀H H',aJ H H'->LB H->LB H')(F:be K "turn" "Court.turn" ib f fd)(cM:Aj K kM)(bR:mg "len"=none)(aQ:mg "range"=none)(gh:bp P w K mg base 7 "need_deeds" ["house","state","deeds"] (Cq K))(mK:iM P w K mg base aY 1 "Moment" kM (F5 K))(m4:bp P w K mg base 5 "do_deed" ["moment","deed"] (Kn K kM))(jU:bp P w K mg base 7 "deal_all" ["moment","dealer"] (mi P w K mg base kM GG LB aC dl))(bq:bp P w K mg base 8 "go" ["moment","rule","lift"] (Km P w K mg base kM))(jS:bp P w K mg base 1 "state_of" ["moment"] (Cp K kM)):ax P w K mg base aY 9 f fd ["self","state","deeds"] (AH P w K mg base GG LB aC dl):=by
 rwa[F.ok pP (by symm) (λbI A outer s H vs Q E hr h=> ?_)];obtain ⟨a,st,dp,C,dx,h,ru,df,hs,wf,cs,ws,aH,ds,rfl,ea,cC,hH,bd,a0,a3,a9,a1,aL,af,bM,ai,S,q⟩:=h;have O:=cC.i.cl;have cl:=cM.i.cl;have l3:=hH.1.l3
 have aE:cs.length<=10:=by have:=af.len;have:cs.length=hs.ls.length:=this;lia
 have aO:∀c∈cs,c.ps.length<=64:=λc hc=>(af.cs c hc).len;rwa[⟨_,(aa @gl (aa (aZ (i:=3) pP.nd rfl @n (fU mK fH hr @c rfl (ao @a @K))) (aa (bJ PassesOwn.never rfl @a @a @Q) (dZ (az (fG @a) @Q av) (aa (bJ PassesOwn.never rfl @dB @a @Q) @h))))),?_⟩];rwa[fh ea O cC.house (v:= .ref h) rfl ?_];rwa[Cq.mk _ _ _ _ _ _ _ _ _ rfl hH a1 aL @b aO aE @b ai λH1 R=> ?_];have bf:=tM ai;obtain ⟨xd,bh,pd⟩:=aL
 have aF:∀d∈ds,d.ok/\d.fit hs.fl hs.ls.length:=λd hd=>by
  obtain ⟨i,hi⟩:=mem_iff_getElem?.mp hd;obtain ⟨x,hx,ad,_,ap⟩:=pd.get2 hi;exact ⟨ap.2,bf d hd⟩
 have I:=R _ _ ea;rwa[fh I O cC.house (v:= .ref h) rfl ?_];rwa[UH cM (a1.keep R.st) λm H2 a7=> ?_];have bk:=gT _ _ (R.trans a7.s).st a3;have bc:=a7.s.st;have a7:=a7.onto (sI H1);have aU:=Ic H1;have aP:LB (xV H1):=lN _ _ (R.nt.trans (CF H1)) a9;have s2:=a7.s;have I:=oQ I (λ_ z=>by cases z);generalize aR:(⟨cs,ws,aH,false,0,[]⟩:MS)=M0 at a7 af S q
 have bj:M0.fire=false:=by rw [<-aR]
 have bv:M0.ws.length=ws.length:=by rw [<-aR]
 have as:=(CF H1).sqL (R.seq bh);rwa[bD (s2.seq as) ?_];have xl:xd.length=ds.length:=pd.len;have al:=zh (CF H1) (hH.same R);have ag:=Cw (CF H1) (bd.same R);have a5:aM (xV H1) H1:=(sI H1).st;generalize aN:xV H1=Hb at a7 aU aP s2 I as al ag a5;have aV:∀i,uB hs (ws.length+i) (aB hs.lo M0 @fQ):=λi=>af.deeds aF i;rwa[bS (xs:=xd) (λi σ J=>iU K kM Hb J m h (aB hs.lo M0 @fQ)/\aM H1 J/\GG J/\∃Y W,σ=[some (.ref a),some (.ref st),some (.ref dp),some (.ref m),Y,W]) ⟨by rw [take_zero];exact a7,bc,bk,_,_,rfl⟩ (λi σ J _ pv=>pv.1.s.seq as) (λi x σ J hx pv=> ?_) @eJ]
 ·obtain ⟨hM,Z,gX,Y,W,rfl⟩:=pv;obtain ⟨d,hd,ad,rfl,ap⟩:=pd.get1 hx;have il:i<ds.length:=(List.getElem?_eq_some_iff.mp hd).1;have U:=aV i;have sm:=U.sum;rwa[Kn.mk _ _ _ _ _ _ _ rfl ((hH.same R).keep Z) ((ap.same R).keep Z) (aF d (mem_of_getElem? hd)).2 hM @b @b U.len (λc hc=>(U.cs c hc).m0) λH' G j=> ?_];rw [<-t6 hd] at j;exact ⟨j,Z.trans G,gT _ _ G gX,_,_,rfl⟩
 obtain ⟨hM,Z,gX,Y,W,rfl⟩:=pv;rw [xl,take_of_length_le @f] at hM;have U:=aV ds.length;rw [take_of_length_le @f] at U;have au:(aB hs.lo M0 ds).fire=false:=ge.trans bj;generalize bt:aB hs.lo M0 ds=M1 at hM U S q au;have bE:=U.sum;have ay:=hM;obtain ⟨bK,bH,bu,br,bL,bC,bB,ma⟩:=hM;rwa[ub (λσ H3=>iU K kM Hb H3 m h (jX dl M1)/\GG H3/\∃Y W,σ=[some (.ref a),some (.ref st),some (.ref dp),some (.ref m),Y,W]) ?_ ?_]
 ·ext;rwa[cN ma cl cM.fire (v:= .bl M1.fire) rfl ?_];rwa[b6 (by rw [au];rfl) ?_];rwa[fh (ay.s _ _ I) O cC.dealer (v:= .ref df) rfl ?_];exact mi.mk _ _ _ _ _ rfl a0 gX aU aP ay @b @b (by rw [U.len];lia) S λH' G gY j=>⟨j,gY,_,_,rfl⟩
 rintro σ' H3 ⟨ak,g3,Y,W,rfl⟩;have L:uB hs (ws.length+ds.length+M1.ws.length) (jX dl M1):=U.deals U.ws M1.ws.length;have h1:(jX dl M1).ws.length=M1.ws.length:=(eJ _).1;have aA:(jX dl M1).fire=false:=(gf _).trans au;generalize bn:jX dl M1=M2 at ak L q h1 aA
 have bG:M2.ws.length<=64:=by lia
 have bx:=L.sum;have s3:=ak.s;rwa[fh (s3 _ _ I) O cC.house (v:= .ref h) rfl ?_];obtain ⟨_,ph,bz,a6,bi,bb⟩:=al.same s3;rwa[ar a6 rfl ?_];rwa[gW bi ?_];rw [bb.len];rwa[⟨⟨by lia,by lia⟩,?_⟩];rwa[cL (λi σ J=>∃M',iU K kM Hb J m h M'/\vP hs wf i M2 M'/\ky hs M2 i M'/\GG J/\∃Y W,σ=[some (.ref a),some (.ref st),some (.ref dp),some (.ref m),Y,W]) ⟨M2,ak,rfl,⟨rfl,λ_ _=>rfl,λ_ h=>h,Nat.le_refl _,by lia,rfl⟩,g3,_,_,rfl⟩ (λi σ J hi pv=> ?_) @eJ]
 ·obtain ⟨M',j,hg,ah,aw,Y,W,rfl⟩:=pv
  have i0:(0:Int)+(i:Nat)=((i:Nat):Int):=by lia
  rw [i0]
  have il:i<hs.ls.length:=by lia
  have hl:hs.ls[i]? =some hs.ls[i]:=getElem?_eq_getElem il
  have ic:i<M2.cs.length:=by rw [L.len];exact il
  have hc:M'.cs[i]? =some M2.cs[i]:=by rw [ah.cs i @f];exact getElem?_eq_getElem ic
  have ae:nj hs.fl M2.cs[i]:=L.cs _ (getElem_mem ic);have aW:atC M' (i:Int) M2.cs[i]:=⟨by lia,by rw [show ((i:Int)).toNat=i by lia];exact hc⟩
  have aX:M'.ws.length<=64:=by have:=ah.wl;lia
  rwa[fh (j.s _ _ I) O cC.rule (v:= .ref ru) rfl ?_];rwa[Km.mk _ _ _ _ _ _ _ _ _ _ rfl al (by rw [show ((i:Int)).toNat=i by lia];exact hl) ag j aW ae @b (λr hr=>L.ws r (ah.ws r hr)) aX (by have:=ah.log;lia) (ah.fire.trans aA) λM'' H' aI G aD=> ?_];exact ⟨M'',aD,⟨M',_,_,hg,aW,hl,aI⟩,ah.go ae.len aX aI,gT _ _ G aw,_,_,rfl⟩
 obtain ⟨M',j,hg,ah,aw,Y,W,rfl⟩:=pv;rw [show ((hs.ls.length:Int)).toNat=hs.ls.length by lia] at hg;obtain ⟨a4,ba,bg,aq,a2,a8,aG,fa⟩:=j;rwa[Cp.mk _ _ _ _ rfl ⟨a4,ba,bg,aq,a2,a8,aG,fa⟩ λG H4 s4 aK=> ?_];have aT:=fa.same s4;rwa[cN aT cl cM.log (v:= .ref aq) rfl ?_];rwa[cj (bw (by show 2<=1000000;decide)) λr H5 s5 n5 e5=> ?_];have an:=aT.same s5;exact q r G aq aG M' H5 (R.nt.trans (Pr (by rw [aN];exact an.s))) (gT _ _ (s4.trans s5).st aw) e5 (aK.keep s5.st) an.el an.dl (λb bF e z=>by subst z;have y:=fa.nl;rw [<-aN,oQ (R _ _ e) (λ_ z=>by cases z)] at y;cases y) hg (by have:=ah.log;lia)
def Ag (K:Fg)(H:Hp)(a:Addr)(fl:Int)(n:Nat):Prop:=∃p c0 so ls,aK K H a [.int fl,.ref p,c0,so]/\aK K H p ls/\ls.length=n/\2<=fl/\fl<=8/\1<=n/\n<=3
theorem Ag.same {H H':Hp}{a:Addr}{fl:Int}{n:Nat}(h:Ag K H a fl n)(s:aq H H'):Ag K H' a fl n:=by
 obtain ⟨p,Z,z,j,h1,h2,r⟩:=h;exact ⟨p,Z,z,j,s.seqT h1,s.seqT h2,r⟩
theorem lU.at' {H:Hp}{h:Addr}{hs:Hs}(c:lU K H h hs):Ag K H h hs.fl hs.ls.length:=by
 obtain ⟨o,p,xs,h1,h2,G⟩:=c;exact ⟨p,_,_,xs,h1,h2,G.len,o.f2,o.f8,o.l1,o.l3⟩
abbrev AC:Str:=s!"floor"
inductive Du where
 |floor (i:Int)
 |ride
 |good
def due (fl:Int)(n:Nat):Dd->Du
 | .come _ s g _=>if s<0\/fl<=s then .floor s else if g<0\/fl<=g then .floor g else if s=g then .ride else .good
 | .lf _ _=> .good
 | .sg _=> .good
unseal tH in
theorem LM {K:Fg}{a:Addr}{v:V}{C:Addr}{H:Hp}{R:Hp->Prop}(h1:H a=some @C)(h2:mT K C E2 "ValueError.__new__"=true)(g:R H):tH K [.ref a,v] H R:=⟨a,v,C,rfl,h1,h2,g⟩
unseal qS in
theorem QH {K:Fg}{fl:Str}{a C:Addr}{y:V}{H:Hp}{R:Hp->Prop}(h1:H a=some @C)(h2:mT K C E2 "ValueError.__new__"=true)(G:W.findIn K (.ref C) "__setattr__"=some (some (.builtin "object.__setattr__")))(j:W.findIn K (.ref C) fl=some none)(z:W.mroIn K C (.type "object")=some true)
(g:∀d,H d=none->d≠a->R (upd @fp d (.xd [(fl,y)]))):qS K fl a y H R:=⟨C,h1,h2,G,j,z,g⟩
theorem D5 {j G:Addr}(F:be K "__init__" "NoFloor.__init__" hV f fd)(S:JQ K G)(O:mg "CourtError"=some (.ref G))(z:mT K j E2 "ValueError.__new__"=true)(Y:W.findIn K (.ref j) "__setattr__"=some (some (.builtin "object.__setattr__")))(U:W.findIn K (.ref j) "floor"=some none)(L:W.mroIn K j (.type "object")=some true):ax P w K mg base aY 1 f fd ["self","floor"] (FZ j "floor"):=by
 rwa[F.ok uV (by symm) (λJ A outer s H vs Q E hr h=> ?_)];obtain ⟨a,v,rfl,I,q⟩:=h;rwa[⟨_,(aa (aS (Hd rfl S rfl O (ao (wv 0) (ao bZ aj)))) (ac (KL rfl (wv 0) (wv 1)))),?_⟩];rwa[LM I z ?_];exact QH I z Y U L λd Z R=>q d Z R
inductive me (K:Fg)(C:Addr)(vs:List V)(H:Hp)(Q:VK)(E:XK):Prop
 |mk (h fl n i:_) (_:vs=[.ref h,.int i]) (_:Ag K H h fl n) (_:(¬(i<0\/fl<=i)->Q .non H)) (_:((i<0\/fl<=i)->∀d H',aq H H'->H' d=some (.xd [(AC,.int i)])->E (.ref C) @dr H'))
theorem Ea {G:Addr}(F:Z0 K "need_floor" kU f fd)(J:Tp P w K mg base 1 "NoFloor" G "floor"):ax P w K mg base @V 3 f fd ["house","floor"] (me K G):=by
 rwa[F.okX yI (by symm) (λI A outer s H vs Q E U h=> ?_)];obtain ⟨h,fl,n,i,rfl,⟨p,c0,so,R,hh,O,W,f2,f8,Y,n3⟩,q,j⟩:=h;rwa[⟨_,(ac (az (fG @a) (ac (DY dD rfl J U @c rfl @K)) av)),?_⟩];by_cases L:i<0
 ·left;exact ⟨_,rfl,λd Z=>j (.inl L) d _ (.upd Z) af⟩
 by_cases S:fl<=i
 ·left;exact ⟨_,rfl,λd Z=>j (.inr S) d _ (.upd Z) af⟩
 ·left;exact q λz=>z.elim L S
def fe (kF kR:Addr)(H:Hp)(Q:VK)(E:XK):Du->Prop
 | .good=>∀H',aq H H'->Q .non H'
 | .floor i=>∀d H',aq H H'->H' d=some (.xd [(AC,.int i)])->E (.ref kF) @dr H'
 | .ride=>∀H',aq H H'->E (.ref kR) none H'
inductive md (K:Fg)(kF kR:Addr)(vs:List V)(H:Hp)(Q:VK)(E:XK):Prop
 |mk (h fl n st go:_) (_:vs=[.ref h,.int st,.int go]) (_:Ag K H h fl n) (_:fe kF kR H Q E (due fl n (.come 0 st go false)))
theorem Ht {z j:Addr}(F:Z0 K "need_ride" oz f fd)(J:nq P w K mg base 3 "need_floor" ["house","floor"] (me K z))(jN:mg "NoRide"=some (.ref j))(qN:W.excIn K j [.type "ValueError",.type "Exception",.type "BaseException",.type "object"] "ValueError.__new__"=true):ax P w K mg base @V 4 f fd ["house","start","goal"] (md K z j):=by
 rwa[F.okX A3 (by symm) (λY A outer s H vs Q E U h=> ?_)];obtain ⟨h,fl,n,st,O,rfl,R,T⟩:=h;rwa[⟨_,(aa (aS (ik dD J U @c rfl (ao (wv 0) @K))) (aa (aS (ik dD J U @c rfl @fA)) (ac (az @a (ac (GY dD rfl qN PySem.F.excBase_ValueError rfl jN (ao bZ aj))) av)))),?_⟩];rwa[me.mk _ _ _ _ rfl R (λL=> ?_) (λL d H' G Z=> ?_)]
 ·ext;rwa[me.mk _ _ _ _ rfl R @fj (λS d H' G Z=> ?_)]
  ·by_cases I:st=O
   ·have e:due fl n (.come 0 st O false)= .ride:=(if_neg L).trans ((if_neg S).trans (if_pos I));rw [e] at T;left;exact ⟨bw (by show 1<=1000000;decide),T _ (.refl _)⟩
   ·have e:due fl n (.come 0 st O false)= .good:=(if_neg L).trans ((if_neg S).trans (if_neg I));rw [e] at T;left;exact T _ (.refl _)
  ·have e:due fl n (.come 0 st O false)= .floor O:=(if_neg L).trans (if_pos S);rw [e] at T;exact T d H' G Z
 ·have e:due fl n (.come 0 st O false)= .floor st:=if_pos L;rw [e] at T;exact T d H' G Z
inductive AJ (K:Fg)(vs:List V)(H:Hp)(Q:VK)(_e:XK):Prop
 |mk (h fl n a d:_) (_:vs=[.ref h,.ref a]) (_:Ag K H h fl n) (_:u9 H a d) (_:Dd.fit fl n d) (_:∀H',aq H H'->Q .non H')
theorem Lc {J I:Addr}(F:Z0 K "need_deed" oA f fd)(L:bp P w K mg base 4 "need_ride" ["house","start","goal"] (λvs H Q _=>md K J I vs H Q E0)):ax P w K mg base aY 5 f fd ["house","deed"] (AJ K):=by
 rwa[F.ok A4 (by symm) (λz A outer s H vs Q E U h=> ?_)];obtain ⟨h,fl,n,a,d,rfl,G,⟨R,W⟩,j,q⟩:=h;have Y:=aK.of (K:=K) R;rwa[⟨_,(ac (az @a (ac (aS (b3 L U @c rfl (ao (wv 0) (ao @a @H))))) (ac (az (c8 (qH rfl) @a @a @Y) @bS av)))),?_⟩]
 cases d with
 |come t s g k=>
  have Y:aK K H a [.str rg,.int t,.int s,.int g,.bl k]:=Y;obtain ⟨S,s1,g0,Z,O⟩:=j;rwa[ar Y rfl ?_];rwa[b6 rfl ?_];left;rwa[md.mk _ _ _ _ _ rfl G ?_];rw [show due fl n (.come 0 s g false)= .good from (if_neg @b).trans ((if_neg @b).trans (if_neg O))];exact q
 |lf x i=>exact False.elim j
 |sg x=>exact False.elim j
inductive AI (K:Fg)(vs:List V)(H:Hp)(Q:VK)(_e:XK):Prop
 |mk (st cs ws last fire:_) (_:vs=[.ref st]) (_:fj K H st cs ws last fire) (_:ws.length<=64) (_:(∀c∈cs,c.ps.length<=64)) (_:cs.length<=10) (_:∀l H',aq H H'->H' l=some (.lst ((eE cs ws).map V.int))->Q (.ref l) H')
theorem zx {cs:List Cb}(h:∀c∈cs,c.ps.length<=64):(cs.flatMap λc=>c.ps.map (·.1)).length<=64*cs.length:=by
 induction cs with
 |nil=>simp
 |cons c cs ih=>
  rw [flatMap_cons,length_append,length_map,length_cons];have:=h c (.head _);have:=ih λc J=>h c (.tail _ J);lia
theorem La (F:Z0 K "tags_in" wE f fd):ax P w K mg base aY 1 f fd ["state"] (AI K):=by
 rwa[F.ok yF (by symm) (λan A outer s H vs Q E hr h=> ?_)];obtain ⟨st,R,I,ai,ag,rfl,⟨tc,tw,xs,ys,h1,h2,h3,h4,h5⟩,wl,Z,cl,q⟩:=h;have yl:ys.length=I.length:=aH h5;have xl:xs.length=R.length:=h4.len;rwa[⟨_,(aa (fw (i:=1) rfl yF.nd rfl @n (aC (N':=["tag","start","goal","lift"]) (pk:=[none,none,none,none]) @o) @a @s @r @R) (aa (bJ PassesOwn.never rfl @a @a (ac (aS (iW rfl PySem.F.plainAttrs_list PySem.F.slot_list_extend PySem.F.type_list_extend qV (wv 1) (ao (bF rfl (aC (N':=["tag","goal"]) (pk:=[none,none]) @o) @a @x @r @R) aj))))) (ac (am (wv 1))))),?_⟩];rwa[ar h1 rfl ?_];rwa[jw h3 ?_];rwa[fM (xs:=ys) (λj G z=>aq H z/\G=((I.take j).map (·.tag)).map V.int) @bs (λj G z h=>by rw [h.2,length_map,length_map,length_take];exact Nat.min_le_left _ _) ⟨.refl _,rfl⟩ (λj G z _ h=>h.1.seqT h3) (λj y G z hy L=> ?_) (λG z L l n=> ?_)]
 ·obtain ⟨W,rfl⟩:=L;obtain ⟨r,ah,dr⟩:=bj (f:=bo.d) h5 hy;obtain ⟨ra,rfl,hT⟩:=ie (bO.same dr W);rwa[gz hT rfl ?_];rwa[⟨ja,?_⟩];rwa[⟨W,?_⟩];rw [take_add_one,ah,map_append,map_append];rfl
 obtain ⟨W,rfl⟩:=L;rw [yl,take_of_length_le @f];have s2:aq z (upd z l (.lst ((I.map (·.tag)).map V.int))):= .upd n;have e2:upd z l (.lst ((I.map (·.tag)).map V.int)) l=some (.lst ((I.map (·.tag)).map V.int)):=af;generalize al:upd z l (.lst ((I.map (·.tag)).map V.int))=H2 at s2 e2 ⊢;have n0:H l=none:=none_of W n;have O:=W.trans s2;rwa[ar (O.seqT h1) rfl ?_];rwa[jw (O.seqT h2) ?_];rwa[IU (xs:=xs) (λi σ J=>aq H J/\J l=some (.lst ((I.map (·.tag)++(R.take i).flatMap λc=>c.ps.map (·.1)).map V.int))/\∃o2 o3 o4 o5 o6,σ=[some (.ref st),some (.ref l),o2,o3,o4,o5,o6]) ⟨O,by rw [take_zero,flatMap_nil,append_nil];exact e2,_,_,_,_,_,rfl⟩ (λi σ J _ Y=>Y.1.seqT h2) (λi x σ J hx Y=> ?_) @fa]
 ·obtain ⟨sY,S,o2,o3,o4,o5,o6,rfl⟩:=Y;obtain ⟨c,hc,t,rfl,ad⟩:=h4.get1 hx;obtain ⟨b,bs,et,eb,db⟩:=ad.keep sY.st;have bl:bs.length=c.ps.length:=aH db;have ak:=Z c (mem_of_getElem? hc);rwa[gz (aK.of et) rfl ?_];rwa[⟨.inl ⟨rfl,_,aD.of S⟩,?_⟩];rwa[jw (aK.of eb) ?_];rwa[fM (xs:=bs) (λj G z=>aq J z/\G=((c.ps.take j).map (·.1)).map V.int) @bs (λj G z h=>by rw [h.2,length_map,length_map,length_take];exact Nat.min_le_left _ _) ⟨.refl _,rfl⟩ (λj G z _ h=>h.1.seqT (aK.of eb)) (λj y G z hy L=> ?_) (λG HZ L l3 n3=> ?_)]
  ·obtain ⟨W,rfl⟩:=L;obtain ⟨p,pt,hp,rfl,ae⟩:=He db hy;rwa[gz (W.seqT ae) rfl ?_];rwa[⟨jb,?_⟩];rwa[⟨W,?_⟩];rw [take_add_one,hp,map_append,map_append];rfl
  obtain ⟨W,rfl⟩:=L;rw [bl,take_of_length_le @f];have s3:aq HZ (upd HZ l3 (.lst ((c.ps.map (·.1)).map V.int))):= .upd n3;have e3:upd HZ l3 (.lst ((c.ps.map (·.1)).map V.int)) l3=some (.lst ((c.ps.map (·.1)).map V.int)):=af;generalize ap:upd HZ l3 (.lst ((c.ps.map (·.1)).map V.int))=H3 at s3 e3 ⊢;have U:=W.trans s3;rwa[M9 (U _ _ S) e3 (bw ?_) ?_]
  ·have h1:((R.take i).flatMap λc=>c.ps.map (·.1)).length<=64*(R.take i).length:=zx λc hc=>Z c (mem_of_mem_take hc)
   have h2:(R.take i).length<=10:=by rw [length_take];lia
   simp only [length_map,length_append];lia
  ·rwa[⟨aq.updF (sY.trans U) n0,?_,_,_,_,_,_,rfl⟩];rw [af,take_add_one,hc];simp only [Option.toList_some,flatMap_append,flatMap_cons,flatMap_nil,append_nil,map_append,append_assoc]
 obtain ⟨sY,S,o2,o3,o4,o5,o6,rfl⟩:=Y;rw [xl,take_of_length_le @f] at S;exact q l J sY S
def j5 (ts:List Int)(kvs:List (cr×V)):Prop:=∀t:Int,(eh kvs @eG).isSome=decide (t∈ts)
theorem j5.nil:j5 [] []:=λt=>by
 show (none:Option V).isSome=_;simp
theorem j5.put {ts:List Int}{kvs:List (cr×V)}(h:j5 ts kvs)(t:Int)(v:V):j5 (ts++[t]) (eG kvs @eG v):=λu=>by
 rw [FI];by_cases e:u=t
 ·subst e;rw [if_pos rfl];simp
 ·rw [if_neg (λz=>e (by cases z;rfl)),h u];simp [e]
theorem EF {ts:List Int}:∀ {us:List Int} {kvs:List (cr×V)},j5 us kvs->j5 (us++ts) (gE kvs (ts.map λt=>(Sum.inl t,V.bl true))):=by
 induction ts with
 |nil=>intro us kvs h;rw [append_nil];exact h
 |cons t ts ih=>
  intro us kvs h;have:=ih (h.put t (V.bl true));rw [append_assoc] at this;exact this
theorem Pb (F:Z0 K "need_deeds" kW f fd)(Io:mg "dict"=none)(zR:bp P w K mg base 1 "tags_in" ["state"] (AI K))(uk:bp P w K mg base 5 "need_deed" ["house","deed"] (AJ K)):ax P w K mg base aY 7 f fd ["house","state","deeds"] (Cq K):=by
 rwa[F.ok pN (by symm) (λaJ A outer s H vs Q E hr h=> ?_)];obtain ⟨h,st,dl,hs,cs,ws,aF,aB,ds,rfl,hH,aA,⟨xd,bh,pd⟩,wl,ak,aE,am,gd,q⟩:=h;have xl:xd.length=ds.length:=pd.len;rwa[⟨_,(aa (aZ (i:=3) pN.nd rfl @n (aV (J6 rfl) rfl Io boot_dict (ao (bF rfl (aC (N':=["tag"]) (pk:=[none]) @o) @a @i @r @i) aj))) (ac (bJ PassesOwn.never rfl @a @a (aa @gl (ac (az @a (aa (az (OM (OU @fR @a (wv 3))) @bS av) (ac (qL @fR (wv 3) @a j8 rfl))) av)))))),?_⟩];rwa[AI.mk _ _ _ _ _ rfl aA wl ak aE λl H1 s1 e1=> ?_]
 have tl:(eE cs ws).length<=1000:=by
  unfold eE;rw [length_append,length_map];have:=zx ak;lia
 generalize aI:eE cs ws=I at e1 gd tl;rwa[bD @dF ?_];rwa[bI (xs:=I.map V.int) (λj L O=>aq H1 O/\Paired (λx (p:cr×V)=>∃b,x=V.ref b/\O b=some (.tup [kV p.1,p.2])) L ((I.take j).map λt=>(Sum.inl t,V.bl true))) (bw (by rw [length_map];lia)) (λj L O h=>by have:=h.2.len;rw [length_map,length_take] at this;lia) ⟨.refl _,.nil⟩ (λj L O _ h=>h.1.seq @dF) (λj y L O hy hP=> ?_) (λL O hP l2 n2=> ?_)]
 ·obtain ⟨sx,hp⟩:=hP;rw [getElem?_map] at hy;obtain ⟨v,hv,rfl⟩:=Option.map_eq_some_iff.mp hy;rwa[⟨bU,?_⟩];rwa[cj (bw (by show 2<=1000000;decide)) λb H3 s3 n3 e3=>⟨sx.trans s3,?_⟩];rw [take_add_one,hv,map_append];exact Paired.app (Paired.imp' (λx p ⟨c,ec,hc⟩=>⟨c,ec,s3 _ _ hc⟩) hp) (.cons ⟨b,rfl,e3⟩ .nil)
 obtain ⟨sx,hp⟩:=hP;rw [length_map,take_of_length_le @f] at hp;have s2:aq O (upd O l2 (.lst L)):= .upd n2;have e2:upd O l2 (.lst L) l2=some (.lst L):=af;generalize aG:upd O l2 (.lst L)=H2 at s2 e2 ⊢;have ai:=s1.trans (sx.trans s2);rwa[⟨L,I.map λt=>(Sum.inl t,V.bl true),e2,Paired.imp' (λx p ⟨c,ec,hc⟩=>⟨c,ec,s2 _ _ hc⟩) hp,AD (by rw [length_map];lia),λd nd=> ?_⟩];have s3:aq H2 (upd H2 d (.dK (gE [] (I.map λt=>(Sum.inl t,V.bl true))))):= .upd nd;have e3:upd H2 d (.dK (gE [] (I.map λt=>(Sum.inl t,V.bl true)))) d=some (.dK (gE [] (I.map λt=>(Sum.inl t,V.bl true)))):=af;generalize aL:upd H2 d (.dK (gE [] (I.map λt=>(Sum.inl t,V.bl true))))=H3 at s3 e3 ⊢;have ay:H d=none:=none_of ai nd
 have k0:j5 I (gE [] (I.map λt=>(Sum.inl t,V.bl true))):=by
  have:=EF (ts:=I) j5.nil;rw [nil_append] at this;exact this
 have ap:∀(W:List (cr×V)) (a:List (cr×V)),(gE a W).length<=a.length+W.length:=by
  intro W
  induction W with
  |nil=>intro a;exact Nat.le_refl _
  |cons p W ih=>
   intro a;have h1:=ih (eG a p.1 p.2);have h2:=dO a p.1 p.2;show (gE (eG a p.1 p.2) W).length<=_;rw [length_cons];lia
 have l0:=ap (I.map λt=>(Sum.inl t,V.bl true)) [];rw [length_map,length_nil] at l0;have ag:=ai.trans s3;generalize aH:gE [] (I.map λt=>((Sum.inl t:cr),V.bl true))=as at e3 k0 l0;rwa[bD (ag.seq bh) ?_];rwa[bS (xs:=xd) (λi σ Y=>aq H Y/\∃z G o4,Y d=some (.dK G)/\j5 z G/\G.length<=1000+i/\xo hs.fl hs.ls.length z (ds.drop i)/\σ=[some (.ref h),some (.ref st),some (.ref dl),some (.ref d),o4]) ⟨ag,I,as,_,e3,k0,by lia,gd,rfl⟩ (λi σ Y _ pv=>pv.1.seq bh) (λi x σ Y S pv=> ?_) (λσ Y pv=> ?_)]
 ·obtain ⟨Z,z,G,o4,eY,kk,kl,J,rfl⟩:=pv;obtain ⟨dd,U,ad,rfl,al⟩:=pd.get1 S;have il:i<ds.length:=(List.getElem?_eq_some_iff.mp U).1;have R:=al.same Z
  have aw:ds.drop i=dd::ds.drop (i+1):=by
   rw [drop_eq_getElem_cons il];rw [getElem?_eq_getElem il] at U;cases U;rfl
  rw [aw] at J;obtain ⟨g1,g2,g3⟩:=J;rwa[AJ.mk _ _ _ _ _ rfl ((hH.same Z).at') R g1 λHZ sZ=> ?_];have ae:=Z.trans sZ;have eZ:=sZ _ _ eY;obtain ⟨ah,an⟩:=R.same sZ
  cases dd with
  |come t' s' g' k'=>
   have hT:aK K HZ ad [.str rg,.int t',.int s',.int g',.bl k']:=aK.of ah;rwa[ar hT rfl ?_];rwa[b6 rfl ?_];rwa[ar hT rfl ?_];rwa[⟨d,_,rfl,va.k (k:=Sum.inl t') eZ,?_⟩];rwa[⟨_,rfl,?_⟩];rwa[bG (by rw [kk t'];exact decide_eq_false (g2 t' (.head _))) ?_];rwa[ar hT rfl ?_];rwa[⟨d,_,rfl,Ai.k (k:=Sum.inl t') eZ @dQ,?_⟩];exact ⟨aq.updF ae ay,z++[t'],_,_,af,kk.put t' (.bl true),by have:=dO G (Sum.inl t') (V.bl true);lia,g3,rfl⟩
  |lf x' i'=>
   have hT:aK K HZ ad [.str x',.int i']:=aK.of ah;have g3:xo hs.fl hs.ls.length (z++[]) (ds.drop (i+1)):=g3;rw [append_nil] at g3;erw[ar hT rfl ?_];have au:x'=s!"block"\/x'=s!"stick"\/x'=s!"free"\/x'=s!"goods"\/x'=s!"back":=an;rwa[fI (by rcases au with S|S|S|S|S<;>rw [S]<;>decide+kernel) ?_];exact ⟨ae,z,G,_,eZ,kk,by lia,g3,rfl⟩
  |sg x'=>exact False.elim g1
 ·obtain ⟨Z,z,G,o4,eY,kk,kl,J,rfl⟩:=pv;exact q Y Z
abbrev wo:Str:=s!"o"
abbrev wx:Str:=s!"x"
abbrev wu:Str:=s!"u"
abbrev wd:Str:=s!"d"
abbrev ws:Str:=s!"s"
noncomputable def i8 (li he up dn:Int):Str:=if he=2 then wo else if he=1/\((li=1/\up=0)\/(li= -1/\dn=0)) then wx else if li= -1/\0<dn then wd else if 0<up then wu else if 0<dn then wd else ws
noncomputable def Sg (he up dn:Int):Str:=if 0<he then (if he=2 then wo else wx) else if 0<up/\(dn=0\/up<=dn) then wu else if 0<dn then wd else ws
noncomputable def yD (top fl li he:Int):Str:=if he=2 then wo else if he=1/\((fl=top/\li=1)\/(fl=0/\li= -1)) then wx else if li= -1 then (if fl≠0 then wd else wu) else if fl≠top then wu else wd
noncomputable def zg (fl li he up dn:Int):Str:=if i8 li he up dn=ws/\fl≠0 then wd else i8 li he up dn
theorem gu.li {li S J G:Int}(s:gu li S J G):li= -1\/li=0\/li=1:=by have:=s.l0;have:=s.l1;lia
theorem gu.he {li S J G:Int}(s:gu li S J G):S=0\/S=1\/S=2:=by have:=s.h0;have:=s.h1;lia
inductive l9 (vs:List V)(H:Hp)(Q:VK)(_e:XK):Prop
 |mk (li he up dn:Int) (_:vs=[.int li,.int he,.int up,.int dn]) (_:gu li he up dn) (_:Q (.str (i8 li he up dn)) H)
theorem Ob {H:Hp}{Q:VK}{x y:Str}(q:Q (.str x) H)(e:x=y):Q (.str y) H:=e▸q
set_option maxHeartbeats 0 in
theorem Ho (F:Z0 K "swept" Bb f fd):ax P w K mg base aY 1 f fd ["light","here","up","down"] l9:=by
 rwa[F.ok Kv @el @j]
 ·obtain ⟨li,S,J,G,rfl,_⟩:=h;rfl
 obtain ⟨li,S,J,G,rfl,sn,q⟩:=h;rwa[⟨_,(aa @y (aa @y (aa @y (aa @y @h)))),?_⟩];have W:=sn.u0;have R:=sn.d0;have I:=sn.li;have O:=sn.he;clear sn
 iterate 16 (all_goals (try ((ext);first|refine b6 rfl ?_|refine bG rfl ?_|refine oX @b ?_|refine fI @b ?_|refine fD @k @k)))
 all_goals
  rwa[Ob q ?_];unfold i8
  repeat (first|rw [if_pos @b]|rw [if_neg @b])
inductive nX (vs:List V)(H:Hp)(Q:VK)(_e:XK):Prop
 |mk (he up dn:Int) (_:vs=[.int he,.int up,.int dn]) (_:0<=he) (_:he<=2) (_:0<=up) (_:0<=dn) (_:Q (.str (Sg he up dn)) H)
set_option maxHeartbeats 0 in
theorem Bw (F:Z0 K "nearest" rS f fd):ax P w K mg base aY 1 f fd ["here","up","down"] nX:=by
 rwa[F.ok DJ @el @j]
 ·obtain ⟨S,J,G,rfl,_⟩:=h;rfl
 obtain ⟨S,J,G,rfl,I,h1,W,R,q⟩:=h;rwa[⟨_,(aa @bk (aa @y @h)),?_⟩]
 iterate 16 (all_goals (try ((ext);first|refine b6 rfl ?_|refine bG rfl ?_|refine oX @b ?_|refine fI @b ?_|refine fD @k @k)))
 all_goals
  rwa[Ob q ?_];unfold Sg
  repeat (first|rw [if_pos @b]|rw [if_neg @b])
inductive kL (vs:List V)(H:Hp)(Q:VK)(_e:XK):Prop
 |mk (top fl li he:Int) (_:vs=[.int top,.int fl,.int li,.int he]) (_: -1<=li) (_:li<=1) (_:0<=he) (_:he<=2) (_:0<top) (_:Q (.str (yD top fl li he)) H)
set_option maxHeartbeats 0 in
theorem yZ (F:Z0 K "shuttled" oq f fd):ax P w K mg base aY 1 f fd ["top","floor","light","here"] kL:=by
 rwa[F.ok AZ @el @bq]
 ·obtain ⟨j,fl,li,S,rfl,_⟩:=h;rfl
 obtain ⟨j,fl,li,S,rfl,l0,l1,I,h1,J,q⟩:=h;rwa[⟨_,(aa @a (aa @y (aa @y @fO))),?_⟩]
 iterate 16 (all_goals (try ((ext);first|refine b6 rfl ?_|refine bG rfl ?_|refine oX @b ?_|refine fI @b ?_|refine fD @k @k|refine P2 @b ?_|refine EB @b ?_|refine UM @k @k)))
 all_goals
  rwa[Ob q ?_];unfold yD
  repeat (first|rw [if_pos @b]|rw [if_neg @b])
noncomputable def qB:List Nat:=[111,120,117,100,115]
theorem Es:(s!"oxuds").cps.toList=qB:=by decide+kernel
unseal iF CW in
theorem Dv (c:Nat):iF ⟨#[c]⟩ @gt=decide (c∈qB):=by
 unfold iF;rw [PySem.StrLaws.found_one,Es]
def Bz (s:Str):Prop:=s.length=36/\∀c∈s.cps.toList,c∈qB
noncomputable instance (s:Str):Decidable (Bz s):=by unfold Bz;infer_instance
inductive lZ (K:Fg)(_:Addr)(vs:List V)(H:Hp)(Q:VK)(_e:XK):Prop
 |mk (a s C dx:_) (_:vs=[.ref a,.str s]) (_:H a=some (.ins C dx [])) (_:vQ K C) (_:aT K C "letters") (_:Bz s) (_:∀H',(∀b o,b≠a->H b=some o->H' b=some o)->H' a=some (.ins C dx [(s!"letters",.str s)])->Q .non H')
theorem Hn {dh:Addr}{t1 t2:Tok}(F:be K "__init__" "Table.__init__" kQ f fd)(bR:mg "len"=none)(S:mg "any"=none)(gb:mg "TABLE_SIZE"=some (.int 36 t1))(IP:mg "WORDS"=some (.str "oxuds" t2)):ax P w K mg base @V 1 f fd ["self","letters"] (lZ K dh):=by
 have yR:aL (.int 36) (.int 36 t1):=⟨_,rfl⟩;have G:aL (.str "oxuds") (.str "oxuds" t2):=⟨_,rfl⟩;rwa[F.okX yH (by symm) @bZ];obtain ⟨a,z,C,dx,rfl,Z,Y,U,W,q⟩:=h;rwa[⟨_,(aa (az (PW.pt (yc @a (Bl (pH rfl (aN (MN rfl rfl) rfl S boot_any (ao (bF rfl (aC (N':=["letter"]) (pk:=[none]) @o) @a @i @r (λC s H ex=>(d4 (qH rfl) (wv 0) @a @Y))) aj)))))) @bS av) (ac @bJ)),?_⟩];have j:z.length<=sizeLine:=bw (by rw [W.1];decide);rwa[⟨j,?_⟩];rwa[EB (by rw [W.1];rfl) ?_];rwa[zL (λi ys H'=>H'=H/\ys=(z.cps.toList.take i).map λc=>V.bl (!decide (c∈qB))) (by show z.length<=sizeLine;exact j) (λi ys H' p=>by rw [p.2,length_map,length_take];exact Nat.min_le_left _ _) ⟨rfl,rfl⟩ (λi c ys H' J p=> ?_) (λys H' p l n=> ?_)]
 ·obtain ⟨rfl,rfl⟩:=p;rwa[⟨bU,?_⟩]
  have L:z.cps.toList[i]? =some c:=by rw [Array.getElem?_toList];exact J
  rwa[⟨rfl,?_⟩];show _++[V.bl (!iF ⟨#[c]⟩ @gt)]=_;rw [Dv,take_add_one,L,map_append];rfl
 ·obtain ⟨rfl,rfl⟩:=p
  have e1:upd H' l (.lst ((z.cps.toList.take z.cps.size).map λc=>V.bl (!decide (c∈qB)))) l=some (.lst (List.map V.bl (z.cps.toList.map λc=> !decide (c∈qB)))):=by
   rw [af,take_of_length_le @e,map_map];rfl
  have O:aq H' (upd H' l (.lst ((z.cps.toList.take z.cps.size).map λc=>V.bl (!decide (c∈qB))))):= .upd n;generalize upd H' l (.lst ((z.cps.toList.take z.cps.size).map λc=>V.bl (!decide (c∈qB))))=H1 at e1 O ⊢;rwa[Ni @dF ?_];rw [any_map];rwa[bG (any_eq_false.mpr λc J=>by simp [W.2 c J]) ?_];rwa[dI (O.get Z) Y U @c ?_];rwa[q _ (λb o I e=> ?_) af];rw [ag I];exact O b o e
noncomputable def uZ (li he up dn:Int):Int:=12*(li+1)+4*he+2*(if 0<up then 1 else 0)+(if 0<dn then 1 else 0)
theorem sv {li S J G:Int}(s:gu li S J G):0<=uZ li S J G/\uZ li S J G<36:=by
 have:=s.l0;have:=s.l1;have:=s.h0;have:=s.h1;unfold uZ;split<;>split<;>lia
inductive wc (vs:List V)(H:Hp)(Q:VK)(_e:XK):Prop
 |mk (li he up dn:Int) (_:vs=[.int li,.int he,.int up,.int dn]) (_:Q (.int (uZ li he up dn)) H)
theorem Hr (F:Z0 K "place_in_table" gk f fd):ax P w K mg base aY 1 f fd ["light","here","up","down"] wc:=by
 rwa[F.ok rH (by symm) @j];obtain ⟨li,S,J,I,rfl,q⟩:=h;rwa[⟨_,@h,?_⟩];unfold uZ at q;by_cases z:0<J<;>by_cases G:0<I
 ·rw [if_pos z,if_pos G] at q;left;exact q
 ·rw [if_pos z,if_neg G] at q;left;exact q
 ·rw [if_neg z,if_pos G] at q;left;exact q
 ·rw [if_neg z,if_neg G] at q;left;exact q
inductive Rk where
 |sw|ho|ne
 |ba (top:Int)
 |ta (s:Str)
noncomputable def Rk.ix:Rk->Nat
 | .sw=>0| .ho=>1| .ne=>2| .ba _=>3| .ta _=>4
noncomputable def Sv (s:Str)(k:Int):Str:=⟨#[s.cps.toList.getD k.toNat 0]⟩
noncomputable def Rk.word (r:Rk)(fl li he up dn:Int):Str:=match r with
 | .sw=>i8 li he up dn
 | .ho=>zg fl li he up dn
 | .ne=>Sg he up dn
 | .ba top=>yD top fl li he
 | .ta s=>Sv s (uZ li he up dn)
noncomputable def Rk.fs:Rk->List (Str×V)
 | .ba top=>[(s!"top",.int top)]
 | .ta s=>[(s!"letters",.str s)]
 |_=>[]
def Rk.ok:Rk->Prop
 | .ba top=>0<top
 | .ta s=>Bz s
 |_=>True
structure Ks where
 r:Addr
 h:Addr
 n:Addr
 s:Addr
 t:Addr
noncomputable def Rk.cl (k:Ks):Rk->Addr
 | .sw=>k.r| .ho=>k.h| .ne=>k.n| .ba _=>k.s| .ta _=>k.t
structure Qx (K:Fg)(C:Addr):Prop where
 i:gJ K C
 n:aT K C "top"
 l:aT K C "letters"
inductive dY (K:Fg)(i:Nat)(vs:List V)(H:Hp)(Q:VK)(_e:XK):Prop
 |mk (rk:Rk) (a s C dx:Addr) (fl li he up dn:Int) (_:vs=[.ref a,.ref s]) (_:rk.ix=i) (_:rk.ok) (_:H a=some (.ins C dx rk.fs)) (_:Qx K C) (_:aK K H s [.int fl,.int li,.int he,.int up,.int dn]) (_:gu li he up dn) (_:Q (.str (rk.word fl li he up dn)) H)
theorem Hk (F:be K "word" "Rule.word" ow f fd)(L:bp P w K mg base 1 "swept" ["light","here","up","down"] l9):ax P w K mg base aY 2 f fd ["self","seen"] (dY K 0):=by
 rwa[F.ok A1 (by symm) @bp];obtain ⟨G,a,z,C,dx,fl,li,S,O,J,rfl,I,Z,W,Y,hs,sn,q⟩:=h;cases G<;>cases I;rwa[⟨_,@h,?_⟩];left;exact l9.mk _ _ _ _ rfl sn q
theorem Bs (F:be K "word" "Homing.word" jj f fd)(O:bp P w K mg base 1 "swept" ["light","here","up","down"] l9):ax P w K mg base aY 2 f fd ["self","seen"] (dY K 1):=by
 rwa[F.ok wz (by symm) @bp];obtain ⟨I,a,z,C,dx,fl,li,S,J,G,rfl,L,Z,W,Y,hs,sn,q⟩:=h;cases I<;>cases L;rwa[⟨_,(aa @a @h),?_⟩];have q:Q (.str (zg fl li S J G)) H:=q;unfold zg at q;left;rwa[l9.mk _ _ _ _ rfl sn ?_];by_cases h1:i8 li S J G=ws
 ·by_cases h2:fl=0
  ·rw [if_neg (λz=>z.2 h2)] at q;left;exact q
  ·rw [if_pos ⟨h1,h2⟩] at q;left;exact q
 ·rw [if_neg @df] at q;left;exact q
theorem yY (F:be K "word" "Nearest.word" hZ f fd)(J:bp P w K mg base 1 "nearest" ["here","up","down"] nX):ax P w K mg base aY 2 f fd ["self","seen"] (dY K 2):=by
 rwa[F.ok uW (by symm) @bp];obtain ⟨G,a,z,C,dx,fl,li,S,O,L,rfl,I,Z,W,Y,hs,sn,q⟩:=h;cases G<;>cases I;rwa[⟨_,@h,?_⟩];left;exact nX.mk _ _ _ rfl sn.h0 sn.h1 sn.u0 sn.d0 q
theorem yX (F:be K "word" "Shuttle.word" hG f fd)(L:bp P w K mg base 1 "shuttled" ["top","floor","light","here"] kL):ax P w K mg base aY 2 f fd ["self","seen"] (dY K 3):=by
 rwa[F.ok uS (by symm) (λj A outer s H Z Q E U h=> ?_)];obtain ⟨G,a,z,C,dx,fl,li,S,R,O,rfl,I,W,J,Y,hs,sn,q⟩:=h;cases G<;>cases I;rwa[⟨_,@h,?_⟩];left;rwa[fh J Y.i.cl Y.n rfl ?_];left;exact kL.mk _ _ _ _ rfl sn.l0 sn.l1 sn.h0 sn.h1 W q
theorem D6 (F:be K "word" "Table.word" kP f fd)(iK:bp P w K mg base 1 "place_in_table" ["light","here","up","down"] wc):ax P w K mg base aY 2 f fd ["self","seen"] (dY K 4):=by
 rwa[F.ok yG (by symm) (λj A outer s H vs Q E hr h=> ?_)];obtain ⟨Z,a,z,C,dx,fl,li,S,J,G,rfl,R,W,O,Y,hs,sn,q⟩:=h;cases Z<;>cases R;rename_i t;rwa[⟨_,@h,?_⟩];have W:Bz t:=W;obtain ⟨I,L⟩:=sv sn;left;rwa[fh O Y.i.cl Y.l rfl ?_];left;erw[wc.mk _ _ _ _ rfl ?_]
 have U:t.cps.toList.length=36:=by rw [aU];exact W.1
 rwa[qK (bw (by rw [W.1];decide)) (c:=t.cps.toList.getD (uZ li S J G).toNat 0) ?_ q];unfold uy An;rw [if_pos I,if_pos (by rw [U];exact L)];show t.cps.toList[(uZ li S J G).toNat]? =_;rw [getElem?_eq_getElem @b,getD_eq_getElem?_getD,getElem?_eq_getElem @b];rfl
theorem CV (G:Rk):G.fs.lookup (s!"word")=none:=by cases G<;>rfl
structure Tq (K:Fg)(P:Program)(w:World)(mg:Str->Option Value)(base:Heap)(k:Ks):Prop where
 c:∀rk:Rk,Qx K @gD
 m:∀rk:Rk,iB P w K mg base aY 2 "word" (rk.cl k) (dY K rk.ix)
unseal gD in
theorem Si {C j:Addr}{E:XK}{s:Str}{H:Hp}{Q:VK}(c:Qx K C)(W:Bz s)(g:∀a dx H',aq H H'->H a=none->H' a=some (.ins C dx [(s!"letters",.str s)])->Q (.ref a) H'):gD C (lZ K j) E [.str s] H Q:=by
 show ∀a dx,H a=none->H dx=none->dx≠a->lZ K j (.ref a::([.str s]++[])) @p (λv H2=>v= .non/\Q (.ref a) H2) E;intro a dx h1 h2 G;rwa[lZ.mk _ _ _ _ rfl af c.i.cl c.l W (λH' J F=>⟨rfl,g a dx H' (λL o e=> ?_) h1 F⟩)];exact J L o (λz=>by rw [z,h1] at e;cases e) (fC h1 h2 L o e)
inductive F0 (K:Fg)(vs:List V)(H:Hp)(Q:VK)(_e:XK):Prop
 |mk (a t C dx:_) (_:vs=[.ref a,.int t]) (_:H a=some (.ins C dx [])) (_:vQ K C) (_:aT K C "top") (_:Q .non (upd H a (.ins C dx [(s!"top",.int t)])))
theorem Hq (F:be K "__init__" "Shuttle.__init__" hI f fd):ax P w K mg base aY 1 f fd ["self","top"] (F0 K):=by
 rwa[F.ok uT (by symm) @j];obtain ⟨a,t,C,dx,rfl,G,Y,z,q⟩:=h;rwa[⟨_,(ac @bJ),?_⟩];exact dI G Y z @c q
unseal gD in
theorem Sj {C:Addr}{E:XK}{t:Int}{H:Hp}{Q:VK}(c:Qx K C)(g:∀a dx H',aq H H'->H a=none->H' a=some (.ins C dx [(s!"top",.int t)])->Q (.ref a) H'):gD C (F0 K) E [.int t] H Q:=by
 show ∀a dx,H a=none->H dx=none->dx≠a->F0 K (.ref a::([.int t]++[])) @p (λv H2=>v= .non/\Q (.ref a) H2) E;intro a dx h1 h2 G;rwa[F0.mk _ _ _ _ rfl af c.i.cl c.n ⟨rfl,g a dx _ ?_ h1 af⟩];intro b u z;rw [ag (λe=>by rw [e,h1] at z;cases z)];exact fC h1 h2 b u z
theorem GQ {jY dj b9 bX eW:Addr}(ad:iB P w K mg base aY 2 "word" jY (dY K 0))(S:iB P w K mg base aY 2 "word" dj (dY K 1))(z:iB P w K mg base aY 2 "word" b9 (dY K 2))(L:iB P w K mg base aY 2 "word" bX (dY K 3))(aa:iB P w K mg base aY 2 "word" eW (dY K 4))(af:gJ K jY)(ag:aT K jY "top")(ae:aT K jY "letters")(R:gJ K dj)(W:aT K dj "top")(U:aT K dj "letters")(F:gJ K b9)(G:aT K b9 "top")(O:aT K b9 "letters")(j:gJ K bX)(J:aT K bX "top")(I:aT K bX "letters")(Z:gJ K eW)(Y:aT K eW "top")(ac:aT K eW "letters"):Tq K P w mg base ⟨jY,dj,b9,bX,eW⟩ where
 c:=λrk=>by
  cases rk with
  |sw=>exact ⟨af,ag,ae⟩
  |ho=>exact ⟨R,W,U⟩
  |ne=>exact ⟨F,G,O⟩
  |ba top=>exact ⟨j,J,I⟩
  |ta s=>exact ⟨Z,Y,ac⟩
 m:=λrk=>by
  cases rk with
  |sw=>exact ad
  |ho=>exact S
  |ne=>exact z
  |ba top=>exact L
  |ta s=>exact aa
theorem Lu {s:Str}(h:Bz s):Tv s:=λc J=>by
 have:=h.2 c J;simp only [qB,mem_cons,not_mem_nil,or_false] at this;lia
abbrev Qr:Str:=s!"sweep"
abbrev Tf:Str:=s!"homing"
abbrev Te:Str:=s!"nearest"
abbrev Td:Str:=s!"shuttle"
abbrev uP:Str:=s!"table "
noncomputable def fZ (s:Str)(fl:Int):Option Rk:=if s=Qr then some .sw else if s=Tf then some .ho else if s=Te then some .ne else if s=Td then some (.ba (fl - 1)) else
 if Txt.slice s none @fE=uP/\Bz (Txt.slice s @fE none) then some (.ta (Txt.slice s @fE none)) else none
theorem my {s:Str}{fl:Int}(h:2<=fl){G:Rk}(e:fZ s fl=some G):G.ok:=by
 unfold fZ at e;split at e
 ·cases e;trivial
 split at e
 ·cases e;trivial
 split at e
 ·cases e;trivial
 split at e
 ·cases e;show 0<fl - 1;lia
 split at e
 ·rename_i h;cases e;exact h.2
 ·cases e
theorem Dy {s:Str}:v6 s uP=decide (Txt.slice s none @fE=uP):=by
 have c:=ms (x:=s) (n:=6) @c
 have W:uP.cps.toList.length=6:=by decide
 unfold v6 Builtin.Str.subAt
 have e:(decide (0+uP.length<=s.length)&&(s.cps.extract 0 (0+uP.length)==uP.cps))=decide (s.cps.toList.take 6=uP.cps.toList):=by
  rw [Bool.eq_iff_iff,Bool.and_eq_true,decide_eq_true_eq,decide_eq_true_eq,beq_iff_eq]
  have J:(s.cps.extract 0 (0+uP.length)).toList=s.cps.toList.take 6:=by
   show (s.cps.extract 0 6).toList=_;simp
  constructor
  ·rintro ⟨_,h⟩;rw [<-J,h]
  ·intro h;rwa[⟨?_,Array.toList_inj.mp (by rw [J,h])⟩];have:=congrArg List.length h;rw [length_take,W,aU] at this;show 0+6<=s.length;lia
 rw [e];rwa[decide_eq_decide.mpr ⟨λh=>v5 (by rw [c];exact h),λh=> ?_⟩];have:=congrArg (λz:Str=>z.cps.toList) h;rw [<-this];exact c.symm
def Nl (s:Str):Prop:=s.length<=1000/\Tv s
def jc (K:Fg)(k:Ks)(_:Addr):Sp:=λvs H Q _=>∃s fl rk,vs=[.str s,.int fl]/\s.length<=1000/\fZ s fl=some rk/\∀a dx H',aq H H'->H a=none->H' a=some (.ins @gD dx rk.fs)->Q (.ref a) H'
theorem wW {k:Ks}{j:Addr}{H:Hp}{s:Str}{fl:Int}{G:Rk}{Q:VK}{E:XK}(h1:s.length<=1000)(h:fZ s fl=some G)(g:∀a dx H',aq H H'->H a=none->H' a=some (.ins (G.cl k) dx G.fs)->Q (.ref a) H'):jc K k j [.str s,.int fl] H Q E:=⟨s,fl,G,rfl,h1,h,g⟩
theorem D8 {k:Ks}{dh:Addr}{t1:Tok}(F:Z0 K "rule_of" wG f fd)(bR:mg "len"=none)(Y:Qx K k.s)(Z:Qx K k.t)(IS:mg "Rule"=some (.ref k.r))(R:mg "Homing"=some (.ref k.h))(S:mg "Nearest"=some (.ref k.n))(Ii:Nm K k.r)(L:Nm K k.h)(sO:Nm K k.n)(sQ:iM P w K mg base aY 1 "Shuttle" k.s (F0 K))(BI:iM P w K mg base @V 1 "Table" k.t (lZ K dh))(mM:mg "TABLE_START"=some (.str "table " t1)):ax P w K mg base @V 3 f fd ["text","floors"] (jc K k dh):=by
 have G:aL (.str "table ") (.str "table " t1):=⟨_,rfl⟩;rwa[F.okX Gq @cA (λJ A outer s H vs Q E U h=> ?_)]
 ·obtain ⟨s,fl,rk,rfl,_⟩:=h;rfl
 obtain ⟨z,fl,rk,rfl,ad,j,q⟩:=h;rwa[⟨_,(aa (az @a (ac (am (Bo Ii rfl IS))) av) (aa (az @a (ac (am (Bo L rfl R))) av) (aa (az @a (ac (am (Bo sO rfl S))) av) (aa (az @a (ac (am (fU sQ fH U @c rfl @H))) av) (aa (az (pH rfl (iW rfl PySem.F.plainAttrs_str PySem.F.slot_str_startswith PySem.F.type_str_startswith Fy (wv 0) @H)) (ac (am (fU BI dD.passes U @c rfl @H))) av) @bS))))),?_⟩];have O:z.length<=sizeLine:=bw @b;unfold fZ at j;rwa[fD @bE @bE]
 ·rw [if_pos h] at j;cases j;exact Py q
 rw [if_neg h] at j;rwa[fD @bE @bE]
 ·rw [if_pos h] at j;cases j;exact Py q
 rw [if_neg h] at j;rwa[fD @bE @bE]
 ·rw [if_pos h] at j;cases j;exact Py q
 rw [if_neg h] at j;rwa[fD @bE @bE]
 ·rw [if_pos h] at j;cases j;exact Sj Y q
 rw [if_neg h] at j;have I:=Dy (s:=z);erw[⟨rfl,?_⟩];rw [I];rwa[fD @dZ @dZ]
 ·split at j
  ·cases j;rename_i ok;rwa[⟨bw @c,?_⟩];rwa[⟨O,?_⟩];exact Si Z ok.2 q
  ·cases j
 ·rw [if_neg (λy=>W y.1)] at j;cases j
seal jc
noncomputable def NU (k:Int):List V:=[.int 1,.int (k / 12 - 1),.int (k / 4% 3),.int (k / 2% 2),.int (k% 2)]
theorem nJ {k:Int}(I:0<=k)(h1:k<36):gu (k / 12 - 1) (k / 4% 3) (k / 2% 2) (k% 2):=⟨by lia,by lia,by lia,by lia,by lia,by lia⟩
inductive rp (K:Fg)(vs:List V)(H:Hp)(Q:VK)(_e:XK):Prop
 |mk (k:Int) (_:vs=[.int k]) (_:∀r H',aq H H'->H r=none->H' r=some (.tup (NU k))->Q (.ref r) H')
theorem D7 (F:Z0 K "seen_at" wF f fd):ax P w K mg base aY 1 f fd ["place"] (rp K):=by
 rwa[F.ok Gp (by symm) (λj A outer s H G Q E U h=> ?_)];obtain ⟨k,rfl,q⟩:=h;rwa[⟨_,@h,?_⟩];left;rwa[⟨by decide,?_⟩];left;rwa[⟨by decide,?_⟩];left;rwa[⟨by decide,?_⟩];left;exact cj Th λr H1 z L e1=>q r H1 z L e1
theorem vx {z:Str}(G:z.length=0){ts:List Str}(h:∀t∈ts,t.length=1):(Builtin.Str.glued z ts).length<=ts.length/\ts.toArray.foldl (· + ·.length+z.length) 0<=ts.length:=by
 have I:∀(l:List Str) (j:Array Nat),(∀t∈l,t.length=1)->(l.foldl (λj p=>j++z.cps++p.cps) j).size=j.size+l.length:=by
  intro l
  induction l with
  |nil=>intro j _;simp
  |cons p l ih=>
   intro j W;have e1:p.cps.size=1:=W p mem_cons_self;have e2:z.cps.size=0:=G;rw [foldl_cons,ih _ λt O=>W t @eg,Array.size_append,Array.size_append,e1,e2,length_cons];lia
 have F:∀(l:List Str) (n:Nat),(∀t∈l,t.length=1)->l.foldl (λL J=>L+J.length+z.length) n=n+l.length:=by
  intro l
  induction l with
  |nil=>intro n _;simp
  |cons p l ih=>
   intro n W;rw [foldl_cons,ih _ λt O=>W t @eg,W p mem_cons_self,G,length_cons];lia
 rwa[⟨?_,?_⟩]
 ·cases ts with
  |nil=>exact Nat.le_refl _
  |cons p l=>
   show (l.foldl (λj p=>j++z.cps++p.cps) p.cps).size<=_;rw [I l _ λt O=>h t @eg];have e1:p.cps.size=1:=h p mem_cons_self;rw [e1,length_cons];lia
 ·rw [foldl_toArray,F ts 0 h];lia
def isL (x:Str):Prop:=x.length=1/\∀c∈x.cps.toList,c∈qB
theorem CO {x:Str}(h:x=wo\/x=wx\/x=wu\/x=wd\/x=ws):isL x:=by
 rcases h with rfl|rfl|rfl|rfl|rfl<;>exact ⟨by decide,by decide⟩
theorem Co (li S J G:Int):isL (i8 li S J G):=CO (by unfold i8;repeat (first|split|simp))
theorem Pt (S J G:Int):isL (Sg S J G):=CO (by unfold Sg;repeat (first|split|simp))
theorem Oq (j fl li S:Int):isL (yD j fl li S):=CO (by unfold yD;repeat (first|split|simp))
theorem P3 (fl li S J G:Int):isL (zg fl li S J G):=by
 unfold zg;split
 ·exact CO (.inr (.inr (.inr (.inl rfl))))
 ·exact Co ..
theorem Rk.isL {z:Rk}(h:z.ok){fl li S J G:Int}(sn:gu li S J G):My.isL (z.word fl li S J G):=by
 cases z with
 |sw=>exact Co ..
 |ho=>exact P3 ..
 |ne=>exact Pt ..
 |ba top=>exact Oq ..
 |ta s=>
  have h:Bz s:=h;obtain ⟨I,L⟩:=sv sn
  have W:s.cps.toList.length=36:=by rw [aU];exact h.1
  rwa[⟨rfl,λc j=> ?_⟩];have j:c∈[s.cps.toList.getD (uZ li S J G).toNat 0]:=j;rw [mem_singleton.mp j,getD_eq_getElem?_getD,getElem?_eq_getElem (show (uZ li S J G).toNat<s.cps.toList.length by lia)];exact h.2 _ (getElem_mem _)
noncomputable def Rk.at (rk:Rk)(k:Int):Str:=rk.word 1 (k / 12 - 1) (k / 4% 3) (k / 2% 2) (k% 2)
noncomputable def Rk.tbl (rk:Rk):Str:=Builtin.Str.glued "" ((List.range 36).map λ(k:Nat)=>rk.at k)
inductive Gi (K:Fg)(k:Ks)(vs:List V)(H:Hp)(Q:VK)(_e:XK):Prop
 |mk (rk:Rk) (a dx:Addr) (_:vs=[.ref a]) (_:rk.ok) (_:H a=some (.ins @gD dx rk.fs)) (_:∀H',aq H H'->Q (.str rk.tbl) H')
theorem Pq {k:Ks}{t1:Tok}(F:Z0 K "as_table" si f fd)(S:mg "range"=none)(R:Tq K P w mg base k)(gb:mg "TABLE_SIZE"=some (.int 36 t1))(zT:bp P w K mg base 1 "seen_at" ["place"] (rp K)):ax P w K mg base aY 3 f fd ["rule"] (Gi K k):=by
 have yR:aL (.int 36) (.int 36 t1):=⟨_,rfl⟩;rwa[F.ok DU (by symm) (λO A outer s H vs Q E Y h=> ?_)];obtain ⟨G,a,dx,rfl,W,I,q⟩:=h;rwa[⟨_,(ac (am (iW rfl PySem.F.plainAttrs_str PySem.F.slot_str_join PySem.F.type_str_join (vX rfl) bZ (ao (bF rfl (aC (N':=["place","rule"]) (pk:=[none,some 0]) @o) (bA rfl S @H) @i @r (λC s H ex=>(Fp (P:=P) (w:=w) (K:=K) (mg:=mg) (base:=base) (n:=2) rfl rfl rfl rfl rfl fH Y @c (wv 1) @H))) aj)))),?_⟩];left;rwa[⟨rfl,?_⟩];rwa[⟨⟨by decide,by decide⟩,?_⟩];rwa[eK (λi ys H'=>aq H H'/\ys=((List.range i).map λ(k:Nat)=>G.at k).map V.str) @gU (λi ys H' p=>by rw [p.2];simp) ⟨.refl _,rfl⟩ (λi ys H' hi p=> ?_) (λys H' p l n=> ?_)]
 ·obtain ⟨j,rfl⟩:=p;rwa[⟨bU,?_⟩];rwa[im (j.get I) (CV G) (R.m G) ?_];erw[rp.mk _ rfl λz H1 L n1 e1=> ?_]
  have J:(0+(i:Int))<36:=by lia
  rwa[dY.mk _ _ _ _ _ _ _ _ _ _ rfl rfl W ((j.trans L).get I) (R.c G) @fi (nJ @b J) ?_];rwa[⟨j.trans L,?_⟩];rw [range_succ,map_append,map_append];show _++[V.str (G.at (0+(i:Int)))]=_;rw [Int.zero_add];rfl
 ·obtain ⟨j,rfl⟩:=p
  obtain ⟨g1,Z⟩:=vx (z:=s!"") @g (ts:=(List.range 36).map λ(k:Nat)=>G.at k) (λt ht=>by
   obtain ⟨k,U,rfl⟩:=mem_map.mp ht;have:=mem_range.mp U
   exact (Rk.isL W (nJ @b @b)).1)
  simp only [length_map,length_range] at g1 Z;exact BL (ts:=(List.range 36).map λ(k:Nat)=>G.at k) @ej @bs @bs (q _ (j.trans (.upd n)))
theorem zn {z:Str}(G:z.cps.toList=[])(ts:List Str):(Builtin.Str.glued z ts).cps.toList=(ts.map λt=>t.cps.toList).flatten:=by
 have F:∀(l:List Str) (j:Array Nat),(l.foldl (λj p=>j++z.cps++p.cps) j).toList=j.toList++(l.map λt=>t.cps.toList).flatten:=by
  intro l
  induction l with
  |nil=>intro j;simp
  |cons p l ih=>intro j;rw [foldl_cons,ih];simp [G]
 unfold Builtin.Str.glued;show ((ts.drop 1).foldl (λj p=>j++z.cps++p.cps) (ts.headD Str.empty).cps).toList=_;rw [F]
 cases ts with
 |nil=>rfl
 |cons t ts=>rfl
def S3 (ts:List Str):Prop:=ts.length=36/\∀x∈ts,isL x
theorem vy:∀(ts:List Str),(∀x∈ts,isL x)->((ts.map λt=>t.cps.toList).flatten).length=ts.length
 |[],_=>rfl
 |t::ts,h=>by
  have h1:=(h t (.head _)).1;have h2:=vy ts λx z=>h x (.tail _ z);rw [map_cons,flatten_cons,length_append,h2,aU,h1,length_cons];lia
theorem CH {ts:List Str}(h:S3 ts):Bz (Builtin.Str.glued "" ts):=by
 have J:=zn (z:=s!"") @g ts;rwa[⟨?_,λc j=> ?_⟩]
 ·rw [<-aU,J,vy ts h.2,h.1]
 ·rw [J] at j;obtain ⟨l,W,j⟩:=mem_flatten.mp j;obtain ⟨x,ai,rfl⟩:=mem_map.mp W;exact (h.2 x ai).2 c j
theorem Ix {i:Int}(I:0<=i)(h1:i<5):∃c,uy (s!"oxuds").cps.toList i=some c/\isL ⟨#[c]⟩:=by
 rcases (show i=0\/i=1\/i=2\/i=3\/i=4 by lia) with rfl|rfl|rfl|rfl|rfl<;>exact ⟨_,rfl,rfl,by decide⟩
theorem FO {G:Rk}(h:G.ok):S3 ((List.range 36).map λ(k:Nat)=>G.at k):=⟨by simp,λx z=>by
 obtain ⟨k,S,rfl⟩:=mem_map.mp z;have:=mem_range.mp S
 exact Rk.isL h (nJ @b @b)⟩
theorem NY {G:Rk}(h:G.ok):Bz G.tbl:=CH (FO h)
theorem UL {x:Str}(h:isL x):x∈cf:=by
 obtain ⟨h1,h2⟩:=h
 have W:x.cps.toList.length=1:=by rw [aU];exact h1
 obtain ⟨⟨l⟩⟩:=x
 match l,W with
 |[c],_=>
  have J:c∈qB:=h2 c @e;unfold qB at J;simp only [mem_cons,not_mem_nil,or_false] at J
  rcases J with rfl|rfl|rfl|rfl|rfl
  ·exact (show (⟨#[111]⟩:Str)=s!"o" by decide+kernel)▸ .head _
  ·exact (show (⟨#[120]⟩:Str)=s!"x" by decide+kernel)▸ .tail _ (.head _)
  ·exact (show (⟨#[117]⟩:Str)=s!"u" by decide+kernel)▸ .tail _ (.tail _ (.head _))
  ·exact (show (⟨#[100]⟩:Str)=s!"d" by decide+kernel)▸ .tail _ (.tail _ (.tail _ (.head _)))
  ·exact (show (⟨#[115]⟩:Str)=s!"s" by decide+kernel)▸ .tail _ (.tail _ (.tail _ (.tail _ (.head _))))
theorem OF {k:Ks}(R:Tq K P w mg base k){H:Hp}{a dx:Addr}{G:Rk}(W:G.ok)(e:H a=some (.ins (G.cl k) dx G.fs)):E5 P w K mg base H a G.word:=
 ⟨G.cl k,dx,G.fs,dY K G.ix,e,CV G,R.m G,λfl li S J F s=>UL (Rk.isL W s),λH' I fl li S J F Q E h1 h2 j z=>dY.mk _ _ _ _ _ _ _ _ _ _ rfl rfl W h1 (R.c G) h2 j z⟩
def Jz (x:Str):Prop:=x.length<=1000/\Tv x
instance (x:Str):Decidable (Jz x):=by unfold Jz Tv;infer_instance
def iV.d (l:iV):D:= .tup [.int l.start,.int l.room,.int l.turns,.str l.kind]
def CS (fl:Int)(ls:List iV)(lo:Int)(so:Str):List D:=[.int fl,.tup @go,.int lo,.str so]
def xS (K:Fg)(H:Hp)(t:V)(fl:Int)(ls:List iV)(lo:Int)(so:Str):Prop:=∃p xs,t= .ref p/\H p=some (.tup xs)/\aI K H xs (CS fl ls lo so)
def JA (K:Fg)(H:Hp)(a:Addr)(ds:List D):Prop:=bO K H (.ref a) (.lst ds)\/bO K H (.ref a) (.tup ds)
def og (K:Fg)(_:Addr):Sp:=λvs H Q _=>∃fl a lo so ls,vs=[.int fl,.ref a,.int lo,.str so]/\JA K H a @go/\ls.length<=700/\Qs fl ls lo so=true/\∀t H',aq H H'->xS K H' t fl ls lo so->Q t H'
theorem Sn {c:Addr}{H:Hp}{fl:Int}{a:Addr}{lo:Int}{so:Str}{j:List iV}{Q:VK}{E:XK}(h1:JA K H a (j.map iV.d))(G:j.length<=700)(z:Qs fl j lo so=true)(g:∀t H',aq H H'->xS K H' t fl j lo so->Q t H'):og K c [.int fl,.ref a,.int lo,.str so] H Q E:=
 ⟨fl,a,lo,so,j,rfl,h1,G,z,g⟩
seal og
inductive AQ (K:Fg)(vs:List V)(H:Hp)(Q:VK)(_e:XK):Prop
 |mk (fl:_) (l:iV) (_:vs=[.int fl,.int l.start,.int l.room,.int l.turns,.str l.kind]) (_:Q (.bl (l.ok fl)) H)
theorem Ju {a x:Str}:(a==x)=decide (x=a):=by
 by_cases h:x=a
 ·rw [decide_eq_true h,h,beq_self_eq_true]
 ·rw [decide_eq_false h,beq_eq_false_iff_ne.mpr (Ne.symm h)]
theorem Vk {x a b c:Str}:xi (.str x) [.str a,.str b,.str c]=decide (x=a\/x=b\/x=c):=by
 show ((a==x)||((b==x)||((c==x)||false)))=_;rw [Ju,Ju,Ju,Bool.or_false,<-Bool.decide_or,<-Bool.decide_or]
theorem Vl {x a b:Str}:xi (.str x) [.str a,.str b]=decide (x=a\/x=b):=by
 show ((a==x)||((b==x)||false))=_;rw [Ju,Ju,Bool.or_false,<-Bool.decide_or]
theorem Lk {j:Addr}{t1 t2:Tok}(F:Z0 K "fits_lift" oF f fd)(tS:mg "MOST_ROOM"=some (.int 6 t1))(pW:mg "MOST_TURNS"=some (.int 4 t2))(qa:mg "DOOR_KINDS"=some (.ref j))(Z:∀H:Hp,aK K H j [.str "plain",.str "hasty",.str "slow"]):ax P w K mg base aY 1 f fd ["floors","start","room","turns","kind"] (AQ K):=by
 have I:aL (.int 6) (.int 6 t1):=⟨_,rfl⟩;have G:aL (.int 4) (.int 4 t2):=⟨_,rfl⟩;rwa[F.ok A6 (by symm) (λY A outer s H vs Q E hr h=> ?_)];obtain ⟨fl,⟨st,L,tu,J⟩,rfl,q⟩:=h;have T:=Z H
 have O: ¬(0<=st/\st<fl/\1<=L/\L<=6/\1<=tu/\tu<=4/\(J=s!"plain"\/J=s!"hasty"\/J=s!"slow"))->Q (.bl false) H:=λz=>by
  rw [show iV.ok fl ⟨st,L,tu,J⟩=false from decide_eq_false z] at q;exact q
 rwa[⟨_,(aa @eo @h),?_⟩];by_cases h1:0<=st
 ·by_cases h2:st<fl
  ·by_cases R:1<=L
   ·by_cases S:L<=6
    ·by_cases W:1<=tu
     ·by_cases U:tu<=4
      ·left;rwa[Gm T rfl rfl ?_];rw [Vk];have e:iV.ok fl ⟨st,L,tu,J⟩=decide (J=s!"plain"\/J=s!"hasty"\/J=s!"slow"):=decide_eq_decide.mpr ⟨λz=>z.2.2.2.2.2.2,λz=>⟨h1,h2,R,S,W,U,z⟩⟩;rw [e] at q;exact q
      ·left;exact O λz=>U z.2.2.2.2.2.1
     ·left;exact O λz=>W z.2.2.2.2.1
    ·left;exact O λz=>S z.2.2.2.1
   ·left;exact O λz=>R z.2.2.1
  ·left;exact O λz=>h2 z.2.1
 ·left;exact O λz=>h1 z.1
inductive AO (K:Fg)(vs:List V)(H:Hp)(Q:VK)(_e:XK):Prop
 |mk (fl a:_) (ls:List iV) (_:vs=[.int fl,.ref a]) (_:JA K H a @go) (_:ls.length<=700) (_:∀H',aq H H'->Q (.bl (decide (1<=ls.length/\ls.length<=3)&&ls.all @dE)) H')
theorem JA.out {H:Hp}{a:Addr}{ds:List D}(h:JA K H a ds):∃xs,(aD K H a xs\/aK K H a xs)/\aI K H xs ds:=by
 rcases h with h|h
 ·obtain ⟨_,xs,e,h1,h2⟩:=h.outL;cases e;exact ⟨xs,.inl h1,h2⟩
 ·obtain ⟨_,xs,e,h1,h2⟩:=h.outT;cases e;exact ⟨xs,.inr h1,h2⟩
theorem Lj {t1:Tok}(F:Z0 K "fits_lifts" lh f fd)(bR:mg "len"=none)(U:mg "all"=none)(pX:mg "MOST_LIFTS"=some (.int 3 t1))(ut:bp P w K mg base 1 "fits_lift" ["floors","start","room","turns","kind"] (AQ K)):ax P w K mg base aY 2 f fd ["floors","lifts"] (AO K):=by
 have j:aL (.int 3) (.int 3 t1):=⟨_,rfl⟩;rwa[F.ok yN (by symm) @S];obtain ⟨fl,a,I,rfl,Z,hl,q⟩:=h;obtain ⟨xs,G,dx⟩:=Z.out;have hx:=aH dx;rwa[⟨_,(aa @eo (ac (am (aN (MO rfl rfl) rfl U boot_all (ao (bF rfl (aC (N':=["start","room","turns","kind","floors"]) (pk:=[none,none,none,none,some 0]) @o) @a @s @r @i) aj))))),?_⟩]
 have R: ¬(1<=I.length/\I.length<=3)->Q (.bl false) H:=λz=>by
  have:=q H (.refl _);rw [decide_eq_false z] at this;exact this
 rwa[Cs G ?_];by_cases h1:1<=I.length
 ·by_cases h2:I.length<=3
  ·left
   rcases G with G|G
   all_goals
    first|refine bD G ?_|refine jw G ?_
    first
     |refine bI (xs:=xs) (λi ys H'=>H'=H/\ys=((I.map @dE).take i).map V.bl) @bs (λi ys H' p=>by rw [p.2,length_map,length_take];exact Nat.min_le_left _ _) ⟨rfl,rfl⟩ (λi ys H' _ p=>by rw [p.1];exact G) @dC @co
     |refine fM (xs:=xs) (λi ys H'=>H'=H/\ys=((I.map @dE).take i).map V.bl) @bs (λi ys H' p=>by rw [p.2,length_map,length_take];exact Nat.min_le_left _ _) ⟨rfl,rfl⟩ (λi ys H' _ p=>by rw [p.1];exact G) @dC @co
    ·obtain ⟨rfl,rfl⟩:=p;obtain ⟨l,L,W⟩:=bj dx J;obtain ⟨u,us,rfl,hu,O⟩:=W.outT
     cases O with|cons q0 t0=>cases t0 with|cons q1 t1=>cases t1 with|cons q2 t2=>cases t2 with|cons q3 t3=>
     cases t3;cases q0.isInt;cases q1.isInt;cases q2.isInt;cases q3.isStr;left;rwa[⟨ja,?_⟩];left;rwa[AQ.mk _ l rfl ?_];rwa[⟨rfl,?_⟩];rw [take_succ,map_append,getElem?_map,L];rfl
    ·obtain ⟨rfl,rfl⟩:=p;rwa[Nj (bs:=I.map @dE) (aD.of (by rw [af,take_of_length_le (by rw [length_map];lia)])) ?_];have:=q _ (aq.upd (o:= .lst (((I.map @dE).take xs.length).map V.bl)) Y);rw [decide_eq_true ⟨h1,h2⟩,Bool.true_and] at this;rw [all_map];exact this
  ·left;exact R λz=>h2 z.2
 ·left;exact R λz=>h1 z.1
inductive wj (vs:List V)(H:Hp)(Q:VK)(_e:XK):Prop
 |mk (fl lo:Int) (_:vs=[.int fl,.int lo]) (_:2<=fl) (_:fl<=8) (_:Q (.bl (decide (0<=lo/\lo<2^fl.toNat/\lo% 2=0))) H)
theorem HH (F:Z0 K "fits_locked" jm f fd)(J:bp P w K mg base 1 "bit" ["k"] mj)(S:Z04 P w K mg base):ax P w K mg base aY 3 f fd ["floors","locked"] wj:=by
 rwa[F.ok wA (by symm) @j];obtain ⟨fl,lo,rfl,R,I,q⟩:=h;rwa[⟨_,@h,?_⟩];obtain ⟨n,rfl⟩:=Int.eq_ofNat_of_zero_le (show 0<=fl by lia)
 have G:((2:Int)^((n:Int)).toNat)=((2^n:Nat):Int):=by rw [Int.toNat_natCast,Int.natCast_pow];rfl
 by_cases h1:0<=lo
 ·obtain ⟨M,rfl⟩:=Int.eq_ofNat_of_zero_le h1;left;erw[mj.mk _ rfl @b ?_];rw [G] at q;by_cases h2:(M:Int)<((2^n:Nat):Int)
  ·rwa[oX h2 ?_];rwa[fX.mk _ 0 rfl @c ?_]
   have e:decide (0<=(M:Int)/\(M:Int)<((2^n:Nat):Int)/\(M:Int)% 2=0)= !(M.testBit 0):=by
    rw [Nat.testBit_zero,<-decide_not];exact decide_eq_decide.mpr ⟨λz=>by lia,λz=>⟨h1,h2,by lia⟩⟩
   rw [e] at q;exact q
  ·rwa[fI h2 ?_];rw [decide_eq_false (λz=>h2 z.2.1)] at q;left;exact q
 ·rw [decide_eq_false @df] at q;left;exact q
unseal og in
theorem Ld {cP j:Addr}{t1 t2:Tok}(F:Z0 K "made_house" kZ f fd)(bQ:mg "tuple"=none)(kg:mg "LEAST_FLOORS"=some (.int 2 t1))(mP:mg "MOST_FLOORS"=some (.int 8 t2))(BU:mg "SORTS"=some (.ref j))(Ca:∀H:Hp,aK K H j [.str "free",.str "way"])
(qm:bp P w K mg base 2 "fits_lifts" ["floors","lifts"] (AO K))(m3:bp P w K mg base 3 "fits_locked" ["floors","locked"] wj):
 ax P w K mg base @V 4 f fd ["floors","lifts","locked","sort"] (og K cP):=by
 have G:aL (.int 2) (.int 2 t1):=⟨_,rfl⟩;have I:aL (.int 8) (.int 8 t2):=⟨_,rfl⟩;rwa[F.okX yK @cA (λae A outer s H vs Q E hr h=> ?_)]
 ·obtain ⟨fl,a,lo,so,ls,rfl,_⟩:=h;rfl
 obtain ⟨fl,a,lo,so,ls,rfl,Y,hl,af,q⟩:=h;obtain ⟨xs,hq,dx⟩:=Y.out;obtain ⟨⟨f2,f8⟩,L,R,ad,W⟩:=BC.mp af;rwa[⟨_,(aa @ep (aa @ep (aa @ep (aa (az (c8 (qH rfl) (wv 3) (bN rfl BU) @Y) @bS av) (ac (am (kB (ao (wv 0) (ao (aV @ek rfl bQ boot_tuple @K) (ao (wv 2) @dl)))))))))),?_⟩];left;rwa[AO.mk _ _ _ rfl Y hl λH1 S=> ?_];rw [decide_eq_true L,R];rwa[bG rfl ?_];rwa[wj.mk _ _ rfl f2 f8 ?_];rw [decide_eq_true ad];rwa[bG rfl ?_];rwa[DA (Ca H1) rfl rfl ?_];rw [Vl];rwa[EB W ?_];have z:=S.any hq;have J:=aI.same dx S
 rcases z with z|z
 ·rwa[iZ z λl H2 Z n2 e2=> ?_];rwa[cj (bw (by show 4<=1000000;decide)) λl3 H3 O n3 U=> ?_];exact q _ _ ((S.trans Z).trans O) ⟨l3,_,rfl,U,.cons (.int _) (.cons (iQ (aK.of (O.get e2)) (aI.same (aI.same J Z) O)) (.cons (.int _) (.cons (.str _) .nil)))⟩
 ·rwa[Rl z ?_];rwa[cj (bw (by show 4<=1000000;decide)) λl3 H3 O n3 U=> ?_];exact q _ _ (S.trans O) ⟨l3,_,rfl,U,.cons (.int _) (.cons (iQ (O.seqT z) (aI.same J O)) (.cons (.int _) (.cons (.str _) .nil)))⟩
inductive Gg (K:Fg)(vs:List V)(H:Hp)(Q:VK)(_e:XK):Prop
 |mk (a h ru df C dx:_) (_:vs=[.ref a,.ref h,.ref ru,.ref df]) (_:H a=some (.ins C dx [])) (_:JP K C) (_:∀H',fN a H H'->H' a=some (.ins C dx @ft)->Q .non H')
theorem HQ (F:be K "__init__" "Court.__init__" lm f fd):ax P w K mg base aY 1 f fd ["self","house","rule","dealer"] (Gg K):=by
 rwa[F.ok yO (by symm) @ch];obtain ⟨a,h,I,J,C,dx,rfl,G,j,q⟩:=h;rwa[⟨_,(aa @bJ (aa (dE rfl (wv 0) (wv 2)) (ac (dE rfl (wv 0) (wv 3))))),?_⟩];rwa[dI G j.i.cl j.house @c ?_];rwa[dI af j.i.cl j.rule (by show 1<1000;decide) ?_];rwa[dI af j.i.cl j.dealer (by show 2<1000;decide) ?_];rwa[q _ (λb o n e=> ?_) af];rw [ag n,ag n,ag n];exact e
unseal gD in
theorem Sk {C:Addr}{E:XK}{H:Hp}{h j J:Addr}{Q:VK}(F:JP K C)(g:∀a dx H',aq H H'->H a=none->H' a=some (.ins C dx (uc h j J))->Q (.ref a) H'):gD C (Gg K) E [.ref h,.ref j,.ref J] H Q:=by
 show ∀a dx,H a=none->H dx=none->dx≠a->Gg K (.ref a::([.ref h,.ref j,.ref J]++[])) @p (λv H2=>v= .non/\Q (.ref a) H2) E;intro a dx h1 h2 I;have G:aq H @p:=fC h1 h2;exact ⟨a,h,j,J,C,dx,rfl,af,F,λH' sp e=>⟨rfl,g a dx H' (λb o e=>sp b o (λz=>by rw [z,h1] at e;cases e) (G b o e)) h1 e⟩⟩
def Iw (l:iV):Lf:=⟨l.start,l.room,l.turns,l.kind⟩
def E4 (hs:Hs):Prop:=∀l∈hs.ls,0<=l.st/\l.st<hs.fl
theorem Su {H:Hp}{x:V}{l:iV}(h:bO K H x l.d):Qn K H x (Iw l):=by
 obtain ⟨a,xs,rfl,h1,h2⟩:=h.outT
 cases h2 with|cons q0 t0=>cases t0 with|cons q1 t1=>cases t1 with|cons q2 t2=>cases t2 with|cons q3 t3=>
 cases t3;cases q0.isInt;cases q1.isInt;cases q2.isInt;cases q3.isStr;exact ⟨a,rfl,h1⟩
theorem IG {H:Hp}{t:V}{fl:Int}{j:List iV}{lo:Int}{so:Str}(h:xS K H t fl j lo so)(Y:Qs fl j lo so=true):∃p,t= .ref p/\lU K H p ⟨fl,j.map Iw,lo.toNat,so⟩/\E4 ⟨fl,j.map Iw,lo.toNat,so⟩:=by
 obtain ⟨⟨R,U⟩,⟨l1,l3⟩,S,⟨I,_,_⟩,hs⟩:=BC.mp Y;obtain ⟨p,xs,rfl,h1,h2⟩:=h;unfold CS at h2
 cases h2 with|cons q0 t0=>cases t0 with|cons q1 t1=>cases t1 with|cons q2 t2=>cases t2 with|cons q3 t3=>
 cases t3;cases q0.isInt;cases q2.isInt;cases q3.isStr;obtain ⟨b,ys,rfl,L,G⟩:=q1.outT;have J:∀l∈j,iV.ok fl l=true:=λl W=>all_eq_true.mp S l W;rwa[⟨p,rfl,⟨⟨R,U,by show 1<=(j.map Iw).length;rw [length_map];exact l1,by show (j.map Iw).length<=3;rw [length_map];exact l3,λl W=> ?_,hs⟩,b,ys,?_,L,?_⟩,λl W=> ?_⟩]
 ·obtain ⟨m,F,rfl⟩:=mem_map.mp W;have z:=J m F;unfold iV.ok at z;have z:=of_decide_eq_true z;exact ⟨z.2.2.1,z.2.2.2.1,z.2.2.2.2.1,z.2.2.2.2.2.1,z.2.2.2.2.2.2⟩
 ·have e:((lo.toNat:Nat):Int)=lo:=by lia
  show aK K H p [.int fl,.ref b,.int ((lo.toNat:Nat):Int),.str so];rw [e];exact aK.of h1
 ·rwa[PySem.Paired.of (by rw [length_map];exact aH G) λi x l e1 e2=> ?_];obtain ⟨m,F,O⟩:=bj G e1;rw [getElem?_map,F] at e2;cases e2;exact Su O
 ·obtain ⟨m,F,rfl⟩:=mem_map.mp W;have z:=J m F;unfold iV.ok at z;have z:=of_decide_eq_true z;exact ⟨z.1,z.2.1⟩
def Nf (l:Lf):Cb:=⟨2*l.st,0,0,0,[]⟩
inductive Gf (K:Fg)(vs:List V)(H:Hp)(Q:VK)(_e:XK):Prop
 |mk (x l:_) (_:vs=[x]) (_:Qn K H x l) (_:∀v H',aq H H'->fk K H' v (Nf l)->Q v H')
theorem Pn (F:Z0 K "cabin_of" se f fd):ax P w K mg base aY 1 f fd ["lift"] (Gf K):=by
 rwa[F.ok DS (by symm) (λj A outer s H I Q E U h=> ?_)];obtain ⟨x,l,rfl,⟨b,rfl,Y⟩,q⟩:=h;rwa[⟨_,@h,?_⟩];rwa[ar Y rfl ?_];rwa[⟨uf @c @c,?_⟩];rwa[cj (bw (by show 0<=1000000;decide)) λb H1 L z e1=> ?_];exact cj (bw (by show 5<=1000000;decide)) λa H2 R G e2=>q _ H2 (L.trans R) ⟨a,rfl,b,[],e2,R _ _ e1,.nil⟩
inductive mq (K:Fg)(vs:List V)(H:Hp)(Q:VK)(_e:XK):Prop
 |mk (a C dx h ru df hs:_) (_:vs=[.ref a]) (_:H a=some (.ins C dx @ft)) (_:JP K C) (_:lU K H h hs) (_:∀st H',aq H H'->fj K H' st @hh [] ((hs.ls.length:Int) - 1) false->Q (.ref st) H')
theorem HS (F:be K "begin" "Court.begin" jo f fd)(bR:mg "len"=none)(bQ:mg "tuple"=none)(vI:bp P w K mg base 1 "cabin_of" ["lift"] (Gf K)):ax P w K mg base aY 2 f fd ["self"] (mq K):=by
 rwa[F.ok mw (by symm) @G];obtain ⟨a,C,dx,h,ru,df,hs,rfl,ea,Y,⟨U,p,xs,h1,h2,h3⟩,q⟩:=h;have l3:=U.l3;have xl:=h3.len;rwa[⟨_,(aa (aZ (i:=1) mw.nd rfl @n (aV @ek rfl bQ boot_tuple (ao (bF rfl (aC (N':=["lift"]) (pk:=[none]) @o) @a @i @r @i) aj))) @h),?_⟩];rwa[fh ea Y.i.cl Y.house (v:= .ref h) rfl ?_];rwa[ar h1 rfl ?_];rwa[jw h2 ?_];rwa[fM (xs:=xs) (λi ys H'=>aq H H'/\Paired (fk K H') ys ((hs.ls.take i).map Nf)) @bs (λi ys H' p=> ?_) ⟨.refl _,by rw [take_zero];exact .nil⟩ (λi ys H' _ p=>p.1.seqT h2) (λi x ys H' L p=> ?_) (λys H' p l nl=> ?_)]
 ·rw [p.2.len,length_map,length_take];lia
 ·obtain ⟨I,G⟩:=p;obtain ⟨lf,S,O⟩:=h3.get1 L;obtain ⟨b,rfl,hb⟩:=O;rwa[⟨bU,?_⟩];rwa[Gf.mk _ _ rfl ⟨b,rfl,I.seqT hb⟩ λv H2 R hv=>⟨I.trans R,?_⟩];rw [take_add_one,S,map_append];exact Paired.app (Paired.imp' (λx c z=>fk.keep z R.st) G) (.cons hv .nil)
 ·obtain ⟨I,G⟩:=p;have R:aq H' (upd H' l (.lst ys)):= .upd nl;rw [xl,take_of_length_le @f] at G
  have yl:ys.length=hs.ls.length:=by rw [G.len,length_map]
  rwa[iZ @ej λtc H3 s3 n3 Z=> ?_];rwa[cj (bw (by show 0<=1000000;decide)) λtw H4 W n4 e4=> ?_];erw[gW (aK.of (W _ _ Z)) ?_];rw [yl];have j:=((R.trans s3).trans W);rwa[cj (bw (by show 4<=1000000;decide)) λst H5 J n5 e5=>q st H5 ((I.trans j).trans J) ⟨tc,tw,ys,[],aK.of e5,aK.of (J _ _ (W _ _ Z)),aK.of (J _ _ e4),Paired.imp' (λx c z=>fk.keep z (j.trans J).st) G,.nil⟩]
def lR (K:Fg)(H:Hp)(p:Addr)(cs:List Dm):Prop:=∃xs,(aD K H p xs\/aK K H p xs)/\aI K H xs (cs.map Dm.d)
theorem Mq {H:Hp}{x:V}{c:Dm}(h:bO K H x c.d):∃a b,x= .ref a/\aK K H a [.int c.pl,.int c.li,.int c.dr,.int c.mr,.ref b]:=by
 obtain ⟨a,xs,rfl,h1,h2⟩:=h.outT
 cases h2 with|cons q0 t0=>cases t0 with|cons q1 t1=>cases t1 with|cons q2 t2=>cases t2 with|cons q3 t3=>cases t3 with|cons q4 t4=>
 cases t4;cases q0.isInt;cases q1.isInt;cases q2.isInt;cases q3.isInt;obtain ⟨b,ys,rfl,_⟩:=q4.outT;exact ⟨a,b,rfl,h1⟩
theorem OI {H:Hp}{x:V}{r:Rd}(h:bO K H x r.d):∃a,x= .ref a/\aK K H a [.int r.t,.int r.s,.int r.g,.int r.l]:=by
 obtain ⟨a,xs,rfl,h1,h2⟩:=h.outT
 cases h2 with|cons q0 t0=>cases t0 with|cons q1 t1=>cases t1 with|cons q2 t2=>cases t2 with|cons q3 t3=>
 cases t3;cases q0.isInt;cases q1.isInt;cases q2.isInt;cases q3.isInt;exact ⟨a,rfl,h1⟩
theorem lR.at {H:Hp}{p:Addr}{cs:List Dm}(h:lR K H p cs){i:Int}(I:0<=i)(h1:i<cs.length){Q:VK}(g:∀c a b,cs[i.toNat]? =some c->aK K H a [.int c.pl,.int c.li,.int c.dr,.int c.mr,.ref b]->Q (.ref a) H):pK K p i H Q:=by
 obtain ⟨xs,F,G⟩:=h;have W:=aH G;obtain ⟨j,rfl⟩:=Int.eq_ofNat_of_zero_le I
 have R:j<xs.length:=by lia
 obtain ⟨c,J,z⟩:=bj G (getElem?_eq_getElem R);obtain ⟨a,b,O,L⟩:=Mq z;rwa[Os F (v:= .ref a) (bx (by rw [getElem?_eq_getElem R,O])) (g c a b ?_ L)];rw [show ((j:Int)).toNat=j by lia];exact J
theorem lR.len {H:Hp}{p:Addr}{cs:List Dm}(h:lR K H p cs){Q:VK}(g:Q (.int cs.length) H):jf K p H Q:=by
 obtain ⟨xs,z,G⟩:=h;rwa[Cs z ?_];rw [aH G];exact g
inductive Ga (K:Fg)(vs:List V)(H:Hp)(Q:VK)(_e:XK):Prop
 |mk (a x0 x1 x2 m x4:_) (_:vs=[.ref a]) (_:aK K H a [x0,x1,x2,.int m,x4]) (_:Q (.bl (decide (m=0))) H)
theorem Pj (F:Z0 K "is_serving" k6 f fd):ax P w K mg base aY 1 f fd ["cabin"] (Ga K):=by
 rwa[F.ok yL (by symm) @j];obtain ⟨a,z,J,O,m,G,rfl,Y,q⟩:=h;rwa[⟨_,@h,?_⟩];rwa[ar Y rfl ?_];exact q
noncomputable abbrev m5 (cs:List Dm):List Bool:=cs.map Dm.srv
theorem Oc {cs:List Dm}{i:Nat}{c:Dm}(h:cs[i]? =some c):(m5 cs).getD i false=decide (c.mr=0):=by
 rw [getD_eq_getElem?_getD,getElem?_map,h];rfl
inductive Dz (K:Fg)(vs:List V)(H:Hp)(Q:VK)(_e:XK):Prop
 |mk (p cs first:_) (_:vs=[.ref p,.int first]) (_:lR K H p cs) (_:1<=cs.length) (_:cs.length<=3) (_:0<=first) (_:Q (.int (sf (m5 cs) first)) H)
theorem R5 (F:Z0 K "serving_from" hJ f fd)(bR:mg "len"=none)(Z:mg "range"=none){t1:Tok}(cx:mg "NO_LIFT"=some (.int (-1) t1))(qj:bp P w K mg base 1 "is_serving" ["cabin"] (Ga K)):ax P w K mg base aY 2 f fd ["cabins","first"] (Dz K):=by
 have sj:aL (.int (-1)) (.int (-1) t1):=⟨_,rfl⟩;rwa[F.ok uU (by symm) @S];obtain ⟨p,G,first,rfl,R,c1,c3,f0,q⟩:=h;have O:(m5 G).length=G.length:=length_map _;rwa[⟨_,(aa @a (aa (bJ PassesOwn.never rfl (bA rfl Z @cw) @a (aa @a (ac (az @a (ac (am (wv 4))) av)))) @h)),?_⟩];rwa[R.len ?_];rwa[⟨⟨by lia,by lia⟩,?_⟩];rwa[cL (λi σ I=>I=H/\sf (m5 G) first=Ti (m5 G) first i (G.length - i)/\∃U W,σ=[some (.ref p),some (.int first),some (.int G.length),U,W]) ⟨rfl,by unfold sf;rw [O];rfl,_,_,rfl⟩ (λi σ I hi Y=> ?_) (λσ I Y=> ?_)]
 ·obtain ⟨rfl,j,U,W,rfl⟩:=Y
  have hi:i<G.length:=by lia
  have i0:(0:Int)+(i:Nat)=((i:Nat):Int):=by lia
  rw [i0];have J:0<=(first+(i:Int))% (G.length:Int):=Int.emod_nonneg _ @b;have L:(first+(i:Int))% (G.length:Int)<(G.length:Int):=Int.emod_lt_of_pos _ @b;rw [show G.length - i=(G.length - (i+1))+1 by lia] at j
  have j:sf (m5 G) first=if (m5 G).getD ((first+(i:Int))% (m5 G).length).toNat false=true then (first+(i:Int))% (m5 G).length else Ti (m5 G) first (i+1) (G.length - (i+1)):=j
  rw [O] at j;rwa[⟨by lia,?_⟩];rwa[R.at J L λc a b hc hT=> ?_];rwa[Ga.mk _ _ _ _ _ _ rfl hT ?_];rw [Oc hc] at j;rwa[fD @k @k]
  ·rw [if_pos @dt] at j;rw [j] at q;exact q
  ·rw [if_neg (by rw [decide_eq_false z];decide)] at j;exact ⟨rfl,j,_,_,rfl⟩
 obtain ⟨rfl,j,U,W,rfl⟩:=Y;rw [show ((G.length:Int)).toNat=G.length by lia,Nat.sub_self] at j
 have j:sf (m5 G) first= -1:=j
 rw [j] at q;exact q
noncomputable def IB (s:Stmt):Expr:=match cQ s with
 |[.Return (some e) _]=>e
 |_=> .Constant .none 0 ⟨0,0,0,0⟩
noncomputable def CK (s:Stmt):Arguments:=match IB s with
 | .Lambda a _ _ _=>a
 |_=>eV s
noncomputable def CJ (s:Stmt):Expr:=match IB s with
 | .Lambda _ b _ _=>b
 |e=>e
noncomputable def sS (s:Stmt):Scope:=match IB s with
 | .Lambda _ _ sc _=>sc
 |_=>ae s
abbrev qF:Str:="fixed_of"++".<locals>."++"<lambda>"
noncomputable abbrev LF (mg:Str->Option Value):List (Str×Addr)->Addr->Value->Obj:=λcl c' ctv=>W.kla_obj "<lambda>" qF (CK cu) (CJ cu) (sS cu) cl ((mg "__name__").getD .none) c' ctv
theorem Vj:uC ["cabins","waiting","rider","last"] ["lifts"] (sS cu):=⟨rfl,rfl,rfl,by decide+kernel,by decide+kernel,by decide+kernel,by decide+kernel,by decide+kernel⟩
def Ol (K:Fg)(zl:Addr)(zs:List Int)(pt:Rd->Int):List V->Hp->VK->Prop:=λvs H Q=>∃p cs x1 rv r last,vs=[.ref p,x1,rv,.int last]/\(aD K H zl @bA\/aK K H zl @bA)/\lR K H p cs/\1<=cs.length/\cs.length<=3/\bO K H rv (Rd.d r)/\0<=pt r/\pt r<(zs.length:Int)/\(∀z∈zs,0<=z/\z<(cs.length:Int))/\∀b H',aq H H'->H' b=some (.tup [.int (sf (m5 cs) (zs.getD (pt r).toNat 0)),.int last])->Q (.ref b) H'
theorem aD.hid {H:Hp}{cs:List Addr}(J:∀c∈cs,∃φ,H c=some (.ext φ)){a:Addr}{xs:List V}(h:aD K H a xs):aD K @dR a xs:=by
 rcases h with (h|⟨o,h⟩)|h
 ·exact .inl (.inl (xk J (λφ z=>by cases z) h))
 ·exact .inl (.inr ⟨o,xk J (λφ z=>by cases z) h⟩)
 ·exact .inr h
theorem aK.hid {H:Hp}{cs:List Addr}(J:∀c∈cs,∃φ,H c=some (.ext φ)){a:Addr}{xs:List V}(h:aK K H a xs):aK K @dR a xs:=by
 rcases h with (h|⟨o,h⟩)|h
 ·exact .inl (.inl (xk J (λφ z=>by cases z) h))
 ·exact .inl (.inr ⟨o,xk J (λφ z=>by cases z) h⟩)
 ·exact .inr h
theorem bO.hid {H:Hp}{cs:List Addr}(J:∀c∈cs,∃φ,H c=some (.ext φ)){x:V}{d:D}(h:bO K H x d):bO K @dR x d:=by
 induction h with
 |non=>exact .non
 |bl a=>exact .bl a
 |int a=>exact .int a
 |str a=>exact .str a
 |lst h hl hi ih=>exact .lst (aD.hid J h) hl λi x d e1 e2=>ih i x d e1 e2
 |tup h hl hi ih=>exact .tup (aK.hid J h) hl λi x d e1 e2=>ih i x d e1 e2
theorem aI.hid {H:Hp}{cs:List Addr}(J:∀c∈cs,∃φ,H c=some (.ext φ)){xs:List V}{ds:List D}(h:aI K H xs ds):aI K @dR xs ds:=Paired.imp' (λ_ _ z=>bO.hid J z) h
theorem Mr {zl:Addr}{zs:List Int}{F:Rd->Int}(cs:List Addr)(vs:List V)(H:Hp)(Q:VK)(J:∀c∈cs,∃φ,H c=some (.ext φ))(h:Ol K zl zs F vs H Q):Ol K zl zs F vs @dR (λv H2=>(∀c∈cs,H2 c=none)->Q v @dd):=by
 obtain ⟨p,G,x1,I,r,j,e,h1,⟨xs,h2,L⟩,c1,W,Z,p0,Y,S,q⟩:=h;rwa[⟨p,G,x1,I,r,j,e,h1.imp (aD.hid J) (aK.hid J),⟨xs,h2.imp (aD.hid J) (aK.hid J),aI.hid J L⟩,c1,W,bO.hid J Z,p0,Y,S,λb H' O U R=>q b _ (Ay O) ?_⟩];unfold unhid;rw [if_neg λz=> ?_]
 ·exact U
 ·rw [R b z] at U;cases U
theorem w6 {c:Addr}:∀x d,[(("lifts":Str),c)].lookup x=some d->x∈(["lifts"]:List Str):=λx d e=>by
 rw [lookup_cons] at e
 cases h:x==("lifts":Str) with
 |true=>rw [eq_of_beq h];exact .head _
 |false=>rw [h] at e;cases e
theorem K4 {c:Addr}:∀x y d,[(("lifts":Str),c)].lookup x=some d->[(("lifts":Str),c)].lookup y=some d->x=y:=λx y d e1 e2=>by
 rw [mem_singleton.mp (w6 x d e1),mem_singleton.mp (w6 y d e2)]
theorem xn {zs:List Int}{i:Nat}(h:i<zs.length):(zs.map V.int)[i]? =some (.int @gp):=by
 rw [getElem?_map,getD_eq_getElem?_getD,getElem?_eq_getElem h];rfl
theorem zp {zs:List Int}{i:Nat}(h:i<zs.length):zs.getD i 0∈zs:=by
 rw [getD_eq_getElem?_getD,getElem?_eq_getElem h];exact getElem_mem h
abbrev Z02:=λP w K mg base=>bp P w K mg base 2 "serving_from" ["cabins","first"] (Dz K)
theorem EH {f c' c zl:Addr}{ctv:Value}{zs:List Int}(L:0<zs.length)(bR:mg "len"=none)(b5:Z02 P w K mg base):uE P w K mg base 4 f (MV P w f c' (LF mg [("lifts",c)] c' ctv) qF [("lifts",c)] ["lifts"] [.ref zl] 4 (Ol K zl zs λr=>r.t% (zs.length:Int))):=by
 rwa[LI (k:=3) Vj (λR S=>match R,S with|[_,_,_,_],_=>rfl) rfl w6 K4 Mr (λA outer s H vs Q hr h=> ?_)];obtain ⟨p,U,x1,rv,r,F,rfl,z,O,Z,c3,ae,G,W,J,q⟩:=h;obtain ⟨ra,rfl,I⟩:=OI ae;have G:0<=r.t% (zs.length:Int):=G;have W:r.t% (zs.length:Int)<(zs.length:Int):=W;rwa[⟨_,@a,?_⟩];obtain ⟨i,hi⟩:=Int.eq_ofNat_of_zero_le G
 have j:i<zs.length:=by lia
 have q:∀b H',aq H H'->H' b=some (.tup [.int (sf (m5 U) (zs.getD (r.t% (zs.length:Int)).toNat 0)),.int F])->Q (.ref b) H':=q;rw [hi] at q;rwa[ar I rfl ?_]
 rcases z with z|z
 all_goals
  first|refine eQ z ?_|refine gW z ?_
  rw [length_map];rwa[⟨by lia,?_⟩]
  first|refine bP z (v:= .int @gp) (by rw [hi];exact bx (xn j)) ?_|refine ar z (v:= .int @gp) (by rw [hi];exact bx (xn j)) ?_
  rwa[Dz.mk _ _ _ rfl O Z c3 (J _ (zp j)).1 ?_];exact cj (bw (by show 2<=1000000;decide)) λb H2 Y n2 e2=>q b H2 Y e2
theorem BZ:(s!"0123456789").cps.toList=zz:=by decide+kernel
theorem LG (c:Nat):c∈zz↔48<=c/\c<=57:=by
 unfold zz;simp only [mem_cons,not_mem_nil,or_false];omega
unseal iF CW in
theorem Dw (c:Nat):iF ⟨#[c]⟩ @fS=decide (c∈zz):=by
 unfold iF;rw [PySem.StrLaws.found_one,BZ]
noncomputable def UF:Option Int->V
 |none=> .non
 |some n=> .int n
theorem R1 (c:Nat):((⟨#[c]⟩:Str)=s!"0")↔c=48:=by
 constructor
 ·intro e;have z:[c]=[48]:=(congrArg (λs:Str=>s.cps.toList) e).trans @g;exact (List.cons.inj z).1
 ·rintro rfl;decide+kernel
inductive Of (vs:List V)(H:Hp)(Q:VK)(_e:XK):Prop
 |mk (x:Str) (_:vs=[.str x]) (_:x.length<=640) (_:∀H',aq H H'->Q (.bl (Fm x)) H')
theorem R4 (F:Z0 K "writes_number" gj f fd)(bR:mg "len"=none)(Er:mg "all"=none){t1 t2:Tok}(kf:mg "MOST_FIGURES"=some (.int 9 t1))(zr:mg "FIGURES"=some (.str "0123456789" t2)):
 ax P w K mg base aY 1 f fd ["text"] Of:=by
 have I:aL (.int 9) (.int 9 t1):=⟨_,rfl⟩;have J:aL (.str "0123456789") (.str "0123456789" t2):=⟨_,rfl⟩;rwa[F.ok rF @cA (λZ A outer s H vs Q E hr h=> ?_)]
 ·obtain ⟨x,rfl,_⟩:=h;rfl
 obtain ⟨x,rfl,hx,q⟩:=h;have L:x.length<=sizeLine:=Gj hx;have Y:=aU x;unfold Fm at q;rwa[⟨_,(aa (az @a @cB av) (aa (az @a @cB av) (ac (am (aN (MO rfl rfl) rfl Er boot_all (ao (bF rfl (aC (N':=["sign"]) (pk:=[none]) @o) @a @i @r @i) aj)))))),?_⟩];rwa[⟨L,fD (λh0=> ?_) (λh0=> ?_)⟩]
 ·rw [if_pos (.inl @b)] at q;exact b6 rfl (q H (.refl _))
 rwa[⟨L,fD (λh9=> ?_) (λh9=> ?_)⟩]
 ·rw [if_pos (.inr @b)] at q;exact q H (.refl _)
 rw [if_neg @b] at q;obtain ⟨c,O⟩:∃c,x.cps.toList[0]? =some c:=⟨x.cps.toList[0],by simp [getElem?_eq_getElem (show 0<x.cps.toList.length by lia)]⟩;rw [O] at q;rwa[qK L (bx (j:=0) O) ?_]
 have cq:(∀H',aq H H'->Q (.bl (x.cps.toList.all λc=>decide (c∈zz))) H')->∀H0:Hp,aq H H0->ug (S9 x) [none] (qd 0) Ro (Rr (T8 K false) (NM 0) (tC (V.str "0123456789"))) [some (V.str x)] H0 λv H1=>N4 [some (V.str x)] H1 λxs H2=>Rf K (v::xs) H2 Q:=by
  intro hq H0 W;rwa[zL (λi ys HX=>aq H HX/\ys=(x.cps.toList.take i).map λc=>V.bl (decide (c∈zz))) (by show x.length<=sizeLine;exact L) (λi ys H p=>by rw [p.2,length_map,length_take];lia) ⟨W,rfl⟩ ?_ ?_]
  ·intro i c ys H O p;rwa[⟨Rz,?_⟩]
   have S:x.cps.toList[i]? =some c:=by rw [Array.getElem?_toList];exact O
   rwa[⟨p.1,?_⟩];show ys++[V.bl (iF ⟨#[c]⟩ @fS)]=_;rw [Dw,p.2,take_add_one,S,map_append];rfl
  ·intro ys H p q U;rwa[Nj (bs:=x.cps.toList.map λc=>decide (c∈zz)) ?_ ?_]
   ·rwa[aD.of ?_];rw [af,p.2];have e:x.cps.toList.take x.cps.size=x.cps.toList:=take_of_length_le @e;rw [e,map_map];rfl
   ·rw [all_map];exact hq _ (p.1.trans (.upd U))
 by_cases G:c=48
 ·rwa[oX ((R1 c).mpr G) (xj (λR=> ?_) (λR=> ?_))]
  ·have ap:x≠s!"0":=by simpa using R
   rw [if_pos ⟨by rw [G],ap⟩] at q;exact q H (.refl _)
  ·have ap:x=s!"0":=by simpa using R
   rw [if_neg (by intro z;exact z.2 ap)] at q;exact cq q H (.refl _)
 ·rwa[fI (λz=>G ((R1 c).mp z)) (bG rfl ?_)];rw [if_neg (by intro z;exact G (Option.some.inj z.1))] at q;exact cq q H (.refl _)
theorem pI {x:Str}(h:Fm x=true):PySem.NumText.AllDigits x.cps.toList/\x.cps.toList≠[]/\x.length<=9:=by
 have R:=aU x;unfold Fm at h;by_cases I:x.length=0\/9<x.length
 ·rw [if_pos I] at h;cases h
 rw [if_neg I] at h;by_cases h1:x.cps.toList[0]? =some 48/\x≠s!"0"
 ·rw [if_pos h1] at h;cases h
 rw [if_neg h1] at h;rwa[⟨λc J=>(LG c).mp (of_decide_eq_true (all_eq_true.mp h c J)),λz=> ?_,by lia⟩];rw [z] at R;simp at R;lia
inductive F3 (vs:List V)(H:Hp)(Q:VK)(_e:XK):Prop
 |mk (x:Str) (_:vs=[.str x]) (_:x.length<=640) (_:∀H',aq H H'->Q (UF (CD x)) H')
theorem O9 (F:Z0 K "number_of" oy f fd)(J:mg "int"=none)(O:bp P w K mg base 1 "writes_number" ["text"] Of):ax P w K mg base aY 2 f fd ["text"] F3:=by
 rwa[F.ok A2 (by symm) (λI A outer s H R Q E U h=> ?_)];obtain ⟨x,rfl,G,q⟩:=h;rwa[⟨_,(ac (am (Ci @a (aV QS rfl J boot_int (ao (wv 0) aj)) wY))),?_⟩];rwa[Of.mk _ rfl G λH' L=> ?_];have z:=q H' L;unfold CD Ih at z;rwa[xj (λj=> ?_) (λj=> ?_)]
 ·rw [if_pos j] at z;exact P0 (PySem.intText_digits (pI j).1 (pI j).2.1 @b) G z
 ·rw [if_neg (by rw [j];decide)] at z;exact z
theorem Ib {w:Str}{j:List Int}(I:w.length<=10)(h:∀i∈j,0<=i/\i<=9)(W:j.length<=100):(mF w j).length<=2000:=by
 have h1:=PySem.StrLaws.join_length_le Am (w::j.map lT);have G:(w::j.map lT).length*Am.length<=(w::j.map lT).length*1:=Nat.mul_le_mul_left _ @c
 have h2:∀z:List Int,(∀i∈z,0<=i/\i<=9)->((z.map lT).map (·.length)).sum<=z.length:=by
  intro z R
  induction z with
  |nil=>exact Nat.le_refl _
  |cons i z ih=>
   have:=ih λx F=>R x (.tail _ F);have:=(tY (R i (.head _)).1 (R i (.head _)).2).2.1;simp only [map_cons,sum_cons,length_cons] at *;lia
 have:=h2 j h;unfold mF;simp only [map_cons,sum_cons,length_cons,length_map] at *;lia
structure Dq where
 G:Hp->Prop
 L:Hp->Prop
 p:List Cb->List bo->bo->Int->Prop
 d:uH
 gT:GT G
 lN:∀H H',aJ H H'->L H->L H'
noncomputable def Jr (c:Cb):Dm:=⟨c.pl,c.li,c.dr,c.mr,c.ps⟩
noncomputable def Vf (r:bo):Rd:=⟨r.tag,r.start,r.goal,r.lift⟩
noncomputable def Vp (zs:List Int)(cs:List Cb)(t:Int):Int:=sf (m5 (cs.map Jr)) (zs.getD (t% (zs.length:Int)).toNat 0)
noncomputable def B2 (zs:List Int):uH:=λcs _ r last=>(Vp zs cs r.tag,last)
def UE (zs:List Int):List Cb->List bo->bo->Int->Prop:=λcs _ _ _=>1<=cs.length/\cs.length<=3/\0<zs.length/\∀z∈zs,0<=z/\z<(cs.length:Int)
structure Lx where
 f:Addr
 c':Addr
 c:Addr
 zl:Addr
 ctv:Value
 pf:Addr
def lO (mg:Str->Option Value)(x:Lx)(H:Hp):Prop:=H x.f=some (u7 x.f (LF mg [("lifts",x.c)] x.c' x.ctv))/\H x.c'=some (vb x.c' qF)/\H x.c=some (Cg x.c (.ref x.zl))/\c7 H x.pf qF
theorem c7.st {H H':Hp}{P:Addr}{q:Str}(t:c7 H P q)(s:aM H H'):c7 H' P q:=by
 obtain ⟨ps,h1,h2,G⟩:=t;exact ⟨ps,s _ _ (λ_ z=>by cases z) (λ_ _ _ z=>by cases z) h1,h2,λpos F h=>by obtain ⟨j,e,z⟩:=G pos F h;exact ⟨j,e,s _ _ (λ_ z=>by cases z) (λ_ _ _ z=>by cases z) z⟩⟩
theorem lO.st {x:Lx}{H H':Hp}(s:aM H H')(h:lO mg x H):lO mg x H':=⟨s _ _ (λ_ z=>by cases z) (λ_ _ _ z=>by cases z) h.1,s _ _ (λ_ z=>by cases z) (λ_ _ _ z=>by cases z) h.2.1,s _ _ (λ_ z=>by cases z) (λ_ _ _ z=>by cases z) h.2.2.1,c7.st h.2.2.2 s⟩
def pF (H:Hp)(l:Addr)(zs:List Int):Prop:=H l=some (.lst @bA)\/H l=some (.tup @bA)
theorem pF.nt {H H':Hp}{l:Addr}{zs:List Int}(h:pF H l zs)(s:aJ H H'):pF H' l zs:=h.imp (λh=>s _ _ (λ_ z=>by cases z) h) (λh=>s _ _ (λ_ z=>by cases z) h)
theorem pF.sq {H:Hp}{l:Addr}{zs:List Int}(h:pF H l zs):aD K H l @bA\/aK K H l @bA:=h.imp aD.of aK.of
noncomputable def dq (mg:Str->Option Value)(zs:List Int)(x:Lx):Dq:=⟨λH=>lO mg x H,λH=>pF H x.zl zs,UE zs,B2 zs,λ_ _ s h=>lO.st s h,λ_ _ s h=>h.nt s⟩
theorem Mp {H:Hp}{tc:Addr}{xs:List V}{cs:List Cb}(h1:aD K H tc xs\/aK K H tc xs)(h2:Paired (fk K H) xs cs):lR K H tc (cs.map Jr):=by
 rwa[⟨xs,h1,?_⟩];rw [map_map];rwa[PySem.Paired.of (by rw [length_map];exact h2.len) λi x d e1 e2=> ?_];rw [getElem?_map] at e2;obtain ⟨c,J,t,rfl,z⟩:=h2.get1 e1;rw [J] at e2;cases e2;exact z.den
theorem Jg (O:mg "len"=none)(I:Z02 P w K mg base){zs:List Int}(J:0<zs.length)(j:Lx):uE P w K mg base 5 j.f (yC K (dq mg zs j).G (dq mg zs j).L (dq mg zs j).p (dq mg zs j).d):=by
 rwa[(EH (f:=j.f) (c:=j.c) (c':=j.c') (zl:=j.zl) (ctv:=j.ctv) J O I).imp @c λvs H Q E h=> ?_];obtain ⟨tc,U,x,cs,ws,r,z,xs,ys,rfl,h1,h2,h3,h4,W,hx,S,⟨Y,c3,_,R⟩,q⟩:=h;have ai:lO mg j H:=hx;rwa[⟨ai.1,ai.2.1,λi y v F Z=> ?_,rfl,tc,cs.map Jr,.ref U,x,Vf r,z,rfl,pF.sq S,Mp (.inr (aK.of h1)) h2,by rw [length_map];exact Y,by rw [length_map];exact c3,W,Int.emod_nonneg _ @b,Int.emod_lt_of_pos _ @b,by rw [length_map];exact R,λb H' s e=>q b H' s.nt (lO.st s.st ai) e⟩]
 match i,F,Z with
 |0,F,Z=>cases F;cases Z;exact ⟨j.c,rfl,ai.2.2.1⟩
inductive Og (K:Fg)(vs:List V)(H:Hp)(Q:VK)(_e:XK):Prop
 |mk (l h hs is:_) (_:vs=[.ref l,.ref h]) (_:aD K H l ((List.map lT is).map V.str)) (_:lU K H h hs) (_:(∀i∈is,0<=i/\i<(hs.ls.length:Int))) (_:is.length<=100) (_:∀l' H',aq H H'->H' l'=some (.lst (is.map V.int))->Q (.ref l') H')
theorem R6 (F:Z0 K "read_lifts" kT f fd)(bR:mg "len"=none)(Ep:mg "any"=none)(uj:bp P w K mg base 2 "number_of" ["text"] F3):ax P w K mg base @V 3 f fd ["words","house"] (Og K):=by
 rwa[F.okX pM (by symm) @G];obtain ⟨l,h,hs,I,rfl,hL,hH,U,ae,q⟩:=h;obtain ⟨ho,p,ls,hh,hp,hl⟩:=hH;have n3:=ho.l3;have hl:=hl.len;rwa[⟨_,(aa (fw (i:=2) rfl pM.nd rfl @n (aC (N':=["word"]) (pk:=[none]) @o) @a @i @r @i) (aa (az (pH rfl (aN (MN rfl rfl) rfl Ep boot_any (ao (bF rfl (aC (N':=["lift","house"]) (pk:=[none,some 1]) @o) @a @i @r @i) aj))) @bS av) @dH)),?_⟩];rwa[bD hL ?_]
 have G:((I.map lT).map V.str).length=I.length:=by rw [length_map,length_map]
 rwa[bI (xs:=(I.map lT).map V.str) (λi zs J=>aq H J/\zs=(I.take i).map V.int) (bw (by rw [G];lia)) (λi zs J j=>by rw [j.2,length_map,length_take];exact Nat.min_le_left _ _) ⟨.refl _,rfl⟩ (λi zs J _ j=>j.1.seq hL) (λi x zs J z j=> ?_) (λzs J j l2 n2=> ?_)]
 ·obtain ⟨Y,rfl⟩:=j;rw [map_map,getElem?_map] at z;obtain ⟨v,W,rfl⟩:=Option.map_eq_some_iff.mp z;obtain ⟨v0,v1⟩:=U v (mem_of_getElem? W);rwa[⟨bU,?_⟩];rwa[F3.mk (lT v) rfl (by rw [(tY v0 @b).2.1];decide) λH2 Z=> ?_];rw [Ly v0 @b];rwa[⟨Y.trans Z,?_⟩];rw [take_add_one,W,map_append];rfl
 obtain ⟨Y,rfl⟩:=j;rw [G,take_of_length_le @f];generalize L:upd J l2 _=H2
 have Z:aq J H2:=by rw [<-L];exact .upd n2
 have e2:H2 l2=some (.lst (I.map V.int)):=by rw [<-L];exact af
 clear L;rwa[bD @cR ?_];have O:=Y.trans Z;rwa[bI (xs:=I.map V.int) (λi zs R=>R=H2/\zs=List.replicate i (V.bl false)) (bw (by rw [length_map];lia)) (λi zs R j=>by rw [j.2,length_replicate];exact Nat.le_refl _) ⟨rfl,rfl⟩ (λi zs R _ j=>by rw [j.1];exact aD.of e2) (λi x zs R z j=> ?_) (λzs R j l3 S=> ?_)]
 ·obtain ⟨rfl,rfl⟩:=j;rw [getElem?_map] at z;obtain ⟨v,W,rfl⟩:=Option.map_eq_some_iff.mp z;obtain ⟨v0,v1⟩:=U v (mem_of_getElem? W);rwa[⟨bU,?_⟩];rwa[bG rfl ?_];rwa[ar (O.seqT hh) rfl ?_];rwa[gW (O.seqT hp) ?_];rwa[⟨rfl,?_⟩];rw [List.replicate_succ'];congr 1;show [V.bl (decide (v≥(ls.length:Int)))]=[V.bl false];rw [decide_eq_false @b]
 obtain ⟨rfl,rfl⟩:=j;erw[Ni (bs:=List.replicate (I.map V.int).length false) (aD.of (by rw [af,List.map_replicate])) ?_]
 have ef:(List.replicate (I.map V.int).length false).any id=false:=by
  rw [any_eq_false];intro b hb;rw [(List.mem_replicate.mp hb).2];decide
 rwa[bG ef ?_];exact q l2 _ (O.trans (.upd S)) ((aq.upd S) _ _ e2)
def we:Sp:=λ_ _ _ _=>False
theorem K5 (F:Z0 K "zone_of" Ct f fd):ax P w K mg base aY 1 f fd ["lifts"] we:=SC
def JD (n:Nat)(zs:List Int):Prop:=1<=zs.length/\zs.length<=9/\∀z∈zs,0<=z/\z<(n:Int)
def Ge (K:Fg)(mg:Str->Option Value)(Pf:Addr):Sp:=λvs H Q _=>∃zs h hs,vs=[.str (mF dF zs),.ref h]/\lU K H h hs/\JD hs.ls.length zs/\c7 H Pf qF/\∀x H',aJ H H'->lO mg x H'->H' x.zl=some (.lst @bA)->x.pf=Pf->Q (.ref x.f) H'
theorem Vq {Pf:Addr}{zs:List Int}{h:Addr}{hs:Hs}{H:Hp}{Q:VK}{E:XK}(h1:lU K H h hs)(h2:JD hs.ls.length zs)(G:c7 H Pf qF)(g:∀x H',aJ H H'->lO mg x H'->H' x.zl=some (.lst @bA)->x.pf=Pf->Q (.ref x.f) H'):Ge K mg Pf [.str (mF dF zs),.ref h] H Q E:=⟨zs,h,hs,rfl,h1,h2,G,g⟩
theorem Sc {L J G Pf:Addr}{t1:Tok}(F:Z0 K "dealer_of" oK f fd)(bR:mg "len"=none)(p9:mg "MOST_FIXED"=some (.int 9 t1))(IN:mg "near"=some (.ref L))(BR:mg "least"=some (.ref J))(o0:mg "by_turns"=some (.ref G))(fR:nq P w K mg base 3 "read_lifts" ["words","house"] (Og K))(ui:bp P w K mg base 1 "zone_of" ["lifts"] we)(gI:bp P w K mg base 1 "fixed_of" ["lifts"] (Oh Pf qF "lifts" (LF mg))):ax P w K mg base @V 4 f fd ["text","house"] (Ge K mg Pf):=by
 have I:aL (.int 9) (.int 9 t1):=⟨_,rfl⟩;rwa[F.okX A9 @cA (λak A outer s H vs Q E Z h=> ?_)]
 ·obtain ⟨zs,h,hs,rfl,_⟩:=h;rfl
 obtain ⟨zs,h,hs,rfl,hH,⟨i1,i9,U⟩,hT,q⟩:=h;rwa[⟨_,(aa (az @a (ac (am (bN rfl IN))) av) (aa (az @a (ac (am (bN rfl BR))) av) (aa (az @a (ac (am (bN rfl o0))) av) (aa @a (aa @a (aa (az @a (ac (am (b3 ui Z @c rfl (ao (ik dD fR Z @c rfl (ao (wv 3) @K)) aj)))) av) (aa (az @a (ac (am (b3 gI Z @c rfl (ao (ik dD fR Z @c rfl (ao (wv 3) @K)) aj)))) av) @bS))))))),?_⟩];have ad:=hH;obtain ⟨ho,p,ls,hh,hp,hl⟩:=hH;have l3:=ho.l3;have h9:∀i∈zs,0<=i/\i<=9:=λi hi=>⟨(U i hi).1,by have:=(U i hi).2;lia⟩;have hw:=Ft (w:=dF) @g h9;have Y:=Ib (w:=dF) @c h9 @b;obtain ⟨x,hx⟩:∃x,x=mF dF zs:=⟨_,rfl⟩;rw [<-hx] at hw Y ⊢
 have no:∀ {y:Str},Ta y=[y]->y≠dF-> ¬x=y:=λ{y} hy hn e=>by
  rw [e,hy] at hw;exact hn (List.cons.inj hw).1
 rwa[fI (no @g @g) ?_];rwa[fI (no @g @g) ?_];rwa[fI (no @g @g) ?_];rwa[⟨rfl,?_⟩];rwa[⟨⟨rfl,bw @b⟩,λl1 ah=> ?_⟩];generalize W:upd H l1 _=H1
 have s1:aq H H1:=by rw [<-W];exact .upd ah
 have e1:H1 l1=some (.lst (V.str dF::(zs.map lT).map V.str)):=by rw [<-W,af];show some (HO.lst ((Ta _).map V.str))=_;rw [hw];rfl
 clear W;rwa[Kq @dF λl2 H2 s2 n2 e2=> ?_];rw [EM] at e2;have S:aD K H2 l1 (V.str dF::(zs.map lT).map V.str):=aD.of (s2 _ _ e1);have O:=s1.trans s2;rwa[bP S (v:= .str dF) @fT ?_];rwa[fI @g ?_];rwa[bG rfl ?_];rwa[bP S (v:= .str dF) @fT ?_];rwa[b6 rfl ?_];rwa[eQ @cR ?_];rw [length_map,length_map];rwa[oX @b ?_];rwa[oX @b ?_];rwa[Og.mk _ _ _ _ rfl @cR (ad.same O) U @b λl3 H3 s3 e3=> ?_];have tz:=hT.same (O.trans s3);rwa[⟨_,rfl,tz,λf c' ae c H' sp hf ef ec R ag=> ?_⟩];obtain ⟨ps,ai,_⟩:=id tz;have sN:=sp.nt ai;exact q ⟨f,c',c,l3,ae,Pf⟩ H' ((O.trans s3).nt.trans sN) ⟨ef,ec,R,ag⟩ (sN _ _ (λ_ z=>by cases z) e3) rfl
seal Ge we
theorem Qy.uniq {hs:Hs}{wf:Wf}{M:MS}{i:Int}{c:Cb}{l:Lf}{rs:List bo}{A B:MS}(h:Qy hs wf M i c l rs A)(k:Qy hs wf M i c l rs B):A=B:=by
 obtain ⟨f,u,d,e,F,G,rfl⟩:=h;obtain ⟨z,J,O,I,L,j,rfl⟩:=k
 obtain rfl:f=z:=by lia
 rw [F.uniq L,G.uniq j]
theorem Ap.uniq {hs:Hs}{wf:Wf}{M:MS}{i:Int}{c:Cb}{l:Lf}{A B:MS}(h:Ap hs wf M i c l A)(k:Ap hs wf M i c l B):A=B:=by
 unfold Ap at h k;split at h
 ·rename_i z;rw [if_pos z] at k;rw [h,k]
 ·rename_i z;rw [if_neg z] at k;split at h
  ·rename_i y;rw [if_pos y] at k;rw [h,k]
  ·rename_i y;rw [if_neg y] at k;exact h.uniq k
theorem JT.uniq {hs:Hs}{wf:Wf}{M:MS}{i:Int}{c:Cb}{l:Lf}{A B:MS}(h:JT hs wf M i c l A)(k:JT hs wf M i c l B):A=B:=by
 rcases h with ⟨h1,h2⟩|⟨h1,h2,G⟩|⟨h1,h2,G⟩<;>rcases k with ⟨k1,k2⟩|⟨k1,k2,k3⟩|⟨k1,k2,k3⟩
 ·rw [h2,k2]
 ·rw [h1] at k1;cases k1
 ·rw [h1] at k1;cases k1
 ·rw [h1] at k1;cases k1
 ·rw [G,k3]
 ·rw [h2] at k2;cases k2
 ·rw [h1] at k1;cases k1
 ·rw [h2] at k2;cases k2
 ·exact G.uniq k3
theorem vP.uniq {hs:Hs}{wf:Wf}{M:MS}:∀ {n:Nat} {A B:MS},vP hs wf n M A->vP hs wf n M B->A=B
 |0,A,B,h,k=>by rw [show A=M from h,show B=M from k]
 |n+1,A,B,⟨M1,c1,l1,h1,h2,h3,h4⟩,⟨M2,c2,l2,k1,k2,k3,k4⟩=>by
  obtain rfl:=vP.uniq h1 k1
  have J:c1=c2:=by have:=h2.2.symm.trans k2.2;exact Option.some.inj this
  have W:l1=l2:=by have:=h3.symm.trans k3;exact Option.some.inj this
  subst J;subst W;exact h4.uniq k4
theorem Kl {so:Str}{room pl fl:Int}{s:E3}{r:bo}(L:room<=64)(W: -1<=s.light/\s.light<=1)(j:s.kept.length<=64)(S:∀p∈s.kept,0<=p.2/\p.2<fl)(U:pC fl r):(-1<=(cW so room pl s r).light/\(cW so room pl s r).light<=1)/\(cW so room pl s r).kept.length<=64/\∀p∈(cW so room pl s r).kept,0<=p.2/\p.2<fl:=by
 unfold cW;split
 ·rename_i e;unfold iq at e
  have e2:(s.kept.length:Int)<room:=by
   rw [Bool.and_eq_true,Bool.and_eq_true] at e;exact of_decide_eq_true e.1.2
  rwa[⟨?_,by show (s.kept++_).length<=64;rw [length_append];simp;lia,λp G=> ?_⟩]
  ·show -1<=(if so=s!"way" then yh r else s.light)/\(if so=s!"way" then yh r else s.light)<=1;split
   ·unfold yh;split<;>lia
   ·exact W
  ·rcases mem_append.mp G with z|z
   ·exact S p z
   ·rw [mem_singleton.mp z];exact ⟨U.g0,U.g1⟩
 ·exact ⟨W,j,S⟩
theorem yy {so:Str}{room pl fl:Int}(L:room<=64):∀(rs:List bo) (s:E3),(-1<=s.light/\s.light<=1)->s.kept.length<=64->(∀p∈s.kept,0<=p.2/\p.2<fl)->(∀r∈rs,pC fl r)->(-1<=(bB so room pl s rs).light/\(bB so room pl s rs).light<=1)/\(bB so room pl s rs).kept.length<=64/\∀p∈(bB so room pl s rs).kept,0<=p.2/\p.2<fl
 |[],s,hl,hk,hg,_=>⟨hl,hk,hg⟩
 |r::rs,s,hl,hk,hg,hr=>by
  have h:=Kl (so:=so) (room:=room) (pl:=pl) (fl:=fl) L hl hk hg (hr r (.head _));exact yy L rs @bo h.1 h.2.1 h.2.2 λq G=>hr q (.tail _ G)
theorem yE {α:Type}{xs:List α}{i:Nat}{x:α}(h:xs[i]? =some x):xs.set i x=xs:=by
 obtain ⟨h1,h2⟩:=List.getElem?_eq_some_iff.mp h;rw [<-h2];exact set_getElem_self h1
theorem FY {hs:Hs}{l:Lf}{c:Cb}{J:Str}{f0:Nat}(W:nj hs.fl c)(e:c.pl=2*(f0:Int))(G: ¬0<c.dr)(O:J∈cf):nj hs.fl (yz hs l c J):=by
 have L:=SE (pJ (so:=hs.so) (pl:=c.pl) (li:=c.li) (ps:=c.ps) O);have I:=W.p0;have F:=W.p1;have l0:=W.l0;have l1:=W.l1
 have j: -1<=(if c.ps=[] then (0:Int) else c.li)/\(if c.ps=[] then (0:Int) else c.li)<=1:=by split<;>lia
 unfold yz;generalize cg hs.so c.pl c.li c.ps J=x at L
 rcases L with rfl|rfl|rfl|rfl|rfl
 ·rw [Nc];exact ⟨I,F,l0,l1,W.m0,λ_=>by show c.pl% 2=0;lia,W.len,W.gs⟩
 ·rw [Na];exact ⟨I,F,by show (-1:Int)<=0;decide,by show (0:Int)<=1;decide,W.m0,λ_=>by show c.pl% 2=0;lia,W.len,W.gs⟩
 ·by_cases z:c.pl / 2<hs.fl - 1
  ·rw [IZ z];exact ⟨by show 0<=c.pl+1;lia,by show c.pl+1<=_;lia,by show (-1:Int)<=1;decide,by show (1:Int)<=1;decide,W.m0,λy=>absurd y G,W.len,W.gs⟩
  ·rw [I9 z];exact ⟨I,F,j.1,j.2,W.m0,λy=>absurd y G,W.len,W.gs⟩
 ·by_cases z:0<c.pl
  ·rw [Ja z];exact ⟨by show 0<=c.pl - 1;lia,by show c.pl - 1<=_;lia,by show (-1:Int)<= -1;decide,by show (-1:Int)<=1;decide,W.m0,λy=>absurd y G,W.len,W.gs⟩
  ·rw [Jb z];exact ⟨I,F,j.1,j.2,W.m0,λy=>absurd y G,W.len,W.gs⟩
 ·rw [Nb];exact ⟨I,F,j.1,j.2,W.m0,λy=>absurd y G,W.len,W.gs⟩
theorem II {so:Str}{li:Int}{a b c:Bool}:0<=iJ so li a b c/\iJ so li a b c<=2:=by
 unfold iJ;split
 ·lia
 ·split
  ·lia
  ·split<;>lia
theorem JT.ok {hs:Hs}{wf:Wf}{M M':MS}{i:Int}{c:Cb}{l:Lf}(h:JT hs wf M i c l M')(W:nj hs.fl c)(O:atC M i c)(Y:l.rm<=6)(F:M.fire=false)(R:∀fl li he up dn,gu li he up dn->wf fl li he up dn∈cf)(U:∀r∈M.ws,pC hs.fl r):M'.fire=false/\M'.last=M.last/\∃c',nj hs.fl c'/\M'.cs=M.cs.set i.toNat c':=by
 rcases h with ⟨_,rfl⟩|⟨_,h2,_⟩|⟨_,_,G⟩
 ·exact ⟨F,rfl,c,W,(yE O.2).symm⟩
 ·rw [F] at h2;cases h2
 ·unfold Ap at G;split at G
  ·rename_i z;subst G;rwa[⟨F,rfl,_,?_,rfl⟩];have aA:∀r∈bt i M,pC hs.fl r:=λr ah=>U r (by unfold bt at ah;exact (mem_filter.mp ah).1);have I:∀p∈dP c.pl c.ps,0<=p.2/\p.2<hs.fl:=λp J=>W.gs p (mem_filter.mp J).1;have st:=yy (so:=hs.so) (pl:=c.pl) (fl:=hs.fl) (show l.rm<=64 by lia) @ba ⟨c.li,dP c.pl c.ps,[]⟩ ⟨W.l0,W.l1⟩ (Nat.le_trans @Z W.len) I aA;exact ⟨W.p0,W.p1,st.1.1,st.1.2,W.m0,λ_=>W.ev z,st.2.1,st.2.2⟩
  ·rename_i z;split at G
   ·rename_i y;subst G;have p0:=W.p0;have Z:=W.p1;have l0:=W.l0;have l1:=W.l1;exact ⟨F,rfl,⟨c.pl+c.li,c.li,0,c.mr,c.ps⟩,⟨by show 0<=c.pl+c.li;lia,by show c.pl+c.li<=_;lia,l0,l1,W.m0,λy=>absurd y (by show ¬(0:Int)<0;decide),W.len,W.gs⟩,rfl⟩
   ·obtain ⟨S,u,d,e,L,j,rfl⟩:=G;rwa[⟨F,rfl,_,FY W e z (R _ _ _ _ _ ?_),rfl⟩];exact ⟨W.l0,W.l1,II.1,II.2,by rcases L with ⟨h,_⟩|⟨h,_⟩<;>lia,by rcases j with ⟨h,_⟩|⟨h,_⟩<;>lia⟩
theorem vP.ok {hs:Hs}{wf:Wf}{M:MS}(S:hs.ok)(O:∀fl li he up dn,gu li he up dn->wf fl li he up dn∈cf)(J:M.fire=false)(I:∀c∈M.cs,nj hs.fl c)(U:∀r∈M.ws,pC hs.fl r)(L:M.ws.length<=64):∀ {n:Nat} {M':MS},vP hs wf n M M'->M'.fire=false/\M'.last=M.last/\(∀c∈M'.cs,nj hs.fl c)/\ky hs M n M'
 |0,M',h=>by
  obtain rfl:M'=M:=h;exact ⟨J,rfl,I,⟨rfl,λ_ _=>rfl,λ_ h=>h,Nat.le_refl _,by lia,rfl⟩⟩
 |n+1,M',⟨M1,c,l,h1,h2,h3,h4⟩=>by
  obtain ⟨R,l1,W,F⟩:=vP.ok S O J I U L h1;have j:c∈M1.cs:=mem_of_getElem? h2.2;have w1:M1.ws.length<=64:=Nat.le_trans F.wl L;obtain ⟨g1,Z,c',Y,g4⟩:=h4.ok (W c j) h2 (S.lf l (mem_of_getElem? h3)).2.1 R O λr ah=>U r (F.ws r ah);rwa[⟨g1,Z.trans l1,λx G=> ?_,F.go (W c j).len w1 h4⟩];rw [g4] at G
  rcases mem_set G with z|z
  ·exact W x z
  ·rw [z];exact Y
abbrev mS (cs:List Cb)(ws:List bo)(last:Int):MS:=⟨cs,ws,last,false,0,[]⟩
theorem IV {α:Type}{CX:nz}{k:Nat}{ps:List Str}{sp:α->Sp}(F:∀a,ax P w K mg base CX k f fd ps (sp a))(W:∀vs H Q E,(∃a,sp a vs H Q E)->vs.length=ps.length):ax P w K mg base CX k f fd ps (λvs H Q E=>∃a,sp a vs H Q E):=
 ⟨λvs H Q E ⟨a,q⟩=>(F a).len vs H Q E q,λA outer s H z j vs Q E G S I U ⟨a,hs⟩=>(F a).run A outer s H z j vs Q E G S I U hs⟩
theorem C6 {n:Nat}{x:Str}{ps:List Str}{sp j:Sp}(c:bp P w K mg base n x ps sp)(h:∀vs H Q E,j vs H Q E->sp vs H Q E):bp P w K mg base n x ps j:=by
 obtain ⟨f,fd,F,b⟩:=c.ex;exact ⟨f,fd,F.imp h,b⟩
def qJ (P:Program)(w:World)(K:Fg)(mg:Str->Option Value)(base:Heap)(C:Addr):Sp:=λvs H Q E=>∃q:Dq,rA P w K mg base C q.G q.L q.p q.d vs H Q E
def mh (P:Program)(w:World)(K:Fg)(mg:Str->Option Value)(base:Heap)(C:Addr):Sp:=λvs H Q E=>∃q:Dq,mi P w K mg base C q.G q.L q.p q.d vs H Q E
def gQ (P:Program)(w:World)(K:Fg)(mg:Str->Option Value)(base:Heap):Sp:=λvs H Q E=>∃q:Dq,AH P w K mg base q.G q.L q.p q.d vs H Q E
theorem HM {C:Addr}{t1:Tok}(F:Z0 K "deal" Cu f fd)(z:Aj K C)(I:mg "tuple"=none)(j:mg "NO_LIFT"=some (.int (-1) t1))(O:bp P w K mg base 1 "dealt_to" ["rider","lift"] (qI K)):ax P w K mg base aY 6 f fd ["moment","dealer","place","rider"] (qJ P w K mg base C):=by
 have G:∀q:Dq,ax P w K mg base aY 6 f fd ["moment","dealer","place","rider"] (rA P w K mg base C q.G q.L q.p q.d):=λq=>Lo F q.gT q.lN z I j O;exact IV G λJ H Q E ⟨k,h⟩=>(G k).len J H Q E h
theorem Eg {C:Addr}{t1:Tok}(F:Z0 K "deal_all" mx f fd)(J:Aj K C)(I:mg "list"=none)(R:mg "enumerate"=none)(z:mg "NO_LIFT"=some (.int (-1) t1))(O:bp P w K mg base 6 "deal" ["moment","dealer","place","rider"] (qJ P w K mg base C)):ax P w K mg base aY 7 f fd ["moment","dealer"] (mh P w K mg base C):=by
 have G:∀q:Dq,ax P w K mg base aY 7 f fd ["moment","dealer"] (mi P w K mg base C q.G q.L q.p q.d):=λq=>HP F q.gT q.lN J I R z (C6 O λj H Q E h=>⟨q,h⟩);exact IV G λj H Q E ⟨k,h⟩=>(G k).len j H Q E h
theorem Hl {j:Addr}(F:be K "turn" "Court.turn" ib f fd)(Y:Aj K j)(O:mg "len"=none)(J:mg "range"=none)(R:bp P w K mg base 7 "need_deeds" ["house","state","deeds"] (Cq K))(U:iM P w K mg base aY 1 "Moment" j (F5 K))(W:bp P w K mg base 5 "do_deed" ["moment","deed"] (Kn K j))(S:bp P w K mg base 7 "deal_all" ["moment","dealer"] (mh P w K mg base j))(bq:bp P w K mg base 8 "go" ["moment","rule","lift"] (Km P w K mg base j))(I:bp P w K mg base 1 "state_of" ["moment"] (Cp K j)):ax P w K mg base aY 9 f fd ["self","state","deeds"] @eY:=by
 have G:∀q:Dq,ax P w K mg base aY 9 f fd ["self","state","deeds"] (AH P w K mg base q.G q.L q.p q.d):=λq=>K9 q.gT q.lN F Y O J R U W (C6 S λz H Q E h=>⟨q,h⟩) bq I;exact IV G λz H Q E ⟨k,h⟩=>(G k).len z H Q E h
seal qJ mh
structure Fa (P:Program)(w:World)(K:Fg)(mg:Str->Option Value)(base:Heap)(C:Addr)(H:Hp)(a:Addr)(hs:Hs)(wf:Wf)(q:Dq):Prop where
 ex:∃dx h ru df,H a=some (.ins C dx @ft)/\lU K H h hs/\E5 P w K mg base H ru wf/\uE P w K mg base 5 df (yC K q.G q.L q.p q.d)
 gg:q.G H
 lb:q.L H
theorem Fa.nt {C:Addr}{H H':Hp}{a:Addr}{hs:Hs}{wf:Wf}{q:Dq}(c:Fa P w K mg base C H a hs wf q)(s:aJ H H')(g:q.G H'):Fa P w K mg base C H' a hs wf q:=by
 obtain ⟨dx,h,I,J,h1,h2,j,F⟩:=c.ex;exact ⟨⟨dx,h,I,J,s _ _ (λ_ z=>by cases z) h1,zh s h2,Cw s j,F⟩,g,q.lN _ _ s c.lb⟩
theorem Fa.same {C:Addr}{H H':Hp}{a:Addr}{hs:Hs}{wf:Wf}{q:Dq}(c:Fa P w K mg base C H a hs wf q)(s:aq H H'):Fa P w K mg base C H' a hs wf q:=c.nt s.nt (q.gT _ _ s.st c.gg)
theorem Rj {C:Addr}{H:Hp}{a st J:Addr}{hs:Hs}{wf:Wf}{cs:List Cb}{ws:List bo}{j:Int}{ds:List Dd}{q:Dq}{Q:VK}{E:XK}(c:Fa P w K mg base C H a hs wf q)(cC:JP K C)(W:fj K H st cs ws j false)(R:uB hs ws.length @bT)(O:kx K H J ds)(S:ws.length+ds.length<=64)(ai:xo hs.fl hs.ls.length @hb ds)(F:∀i r,(aB hs.lo @bT ds).ws[i]? =some r->r.lift= -1->q.p (aR q.d (aB hs.lo @bT ds).ws i @dG).cs (aR q.d (aB hs.lo @bT ds).ws i @dG).ws r (aR q.d (aB hs.lo @bT ds).ws i @dG).last)
(g:∀r st' ll zs M' H',aJ H H'->q.G H'->H' r=some (.tup [.ref st',.ref ll])->fj K H' st' M'.cs M'.ws M'.last M'.fire->H' ll=some (.lst zs)->aI K H' zs M'.log->(∀b zs0,H b=some (.lst zs0)->b≠ll)->vP hs wf hs.ls.length (jX q.d @dG) M'->M'.log.length<=2000->Q (.ref r) H'):gQ P w K mg base [.ref a,.ref st,.ref J] H Q E:=by
 obtain ⟨dx,h,ru,df,h1,hH,am,ae⟩:=c.ex;rwa[⟨q,a,st,J,C,dx,h,ru,df,hs,wf,cs,ws,j,ds,rfl,h1,cC,hH,am,ae,c.gg,c.lb,W,O,R,S,ai,?_,?_⟩]
 ·exact F
 ·intro r st' ll zs M' H' Y hg er aK L z U I Z;exact g r st' ll zs M' H' Y hg er aK L z U I Z
seal gQ
inductive Rw where
 |deal (t i:Int)
 |note (b:Bool) (t:Int)
 |step (b:Bool) (t i fl:Int)
abbrev i7:Str:=s!"deal"
noncomputable def sW (b:Bool):Str:=if b=true then s!"in" else s!"out"
def nW (b:Bool):Str:=if b=true then s!"barred" else s!"sent"
noncomputable def Rw.d:Rw->D
 | .deal t i=>OH t i
 | .note b t=> .tup [.str (nW b),.int t]
 | .step b t i fl=>KG (sW b) t i fl
noncomputable def Rw.v:Rw->List V
 | .deal t i=>[.str i7,.int t,.int i]
 | .note b t=>[.str (nW b),.int t]
 | .step b t i fl=>[.str (sW b),.int t,.int i,.int fl]
def Rw.tag:Rw->Int
 | .deal t _=>t
 | .note _ t=>t
 | .step _ t _ _=>t
theorem GO {H:Hp}{x:V}{r:Rw}(h:bO K H x r.d):∃a,x= .ref a/\aK K H a r.v:=by
 cases r with
 |deal t i=>
  obtain ⟨a,xs,rfl,h1,h2⟩:=(show bO K H x (.tup [.str i7,.int t,.int i]) from h).outT
  cases h2 with|cons q0 t0=>cases t0 with|cons q1 t1=>cases t1 with|cons q2 t2=>
  cases t2;cases q0;cases q1.isInt;cases q2.isInt;exact ⟨a,rfl,h1⟩
 |note b t=>
  obtain ⟨a,xs,rfl,h1,h2⟩:=(show bO K H x (.tup [.str (nW b),.int t]) from h).outT
  cases h2 with|cons q0 t0=>cases t0 with|cons q1 t1=>
  cases t1;cases q0;cases q1.isInt;exact ⟨a,rfl,h1⟩
 |step b t i fl=>
  obtain ⟨a,xs,rfl,h1,h2⟩:=(show bO K H x (.tup [.str (sW b),.int t,.int i,.int fl]) from h).outT
  cases h2 with|cons q0 t0=>cases t0 with|cons q1 t1=>cases t1 with|cons q2 t2=>cases t2 with|cons q3 t3=>
  cases t3;cases q0;cases q1.isInt;cases q2.isInt;cases q3.isInt;exact ⟨a,rfl,h1⟩
structure In (T:List Int)(M:MS):Prop where
 w:∀r∈M.ws,r.tag∈T
 c:∀c∈M.cs,∀p∈c.ps,p.1∈T
 l:∀d∈M.log,∃r:Rw,d=r.d/\r.tag∈T
theorem LQ {M:MS}{i:Int}{p:Int×Int}(h:p∈(zq M i).ps):∃c∈M.cs,p∈c.ps:=by
 unfold zq at h;rw [getD_eq_getElem?_getD] at h
 cases e:M.cs[i.toNat]? with
 |none=>rw [e] at h;cases h
 |some c=>rw [e] at h;exact ⟨c,mem_of_getElem? e,h⟩
theorem In.setC {T:List Int}{M:MS}(h:In T M){i:Nat}{c:Cb}{lg:List D}{ws:List bo}{O:Int}{L:Bool}{F:Nat}(J:∀p∈c.ps,p.1∈T)(W:∀d∈lg,d∈M.log\/∃r:Rw,d=r.d/\r.tag∈T)(I:∀r∈ws,r∈M.ws):In T ⟨M.cs.set i c,ws,O,L,F,lg⟩:=
 ⟨λr U=>h.w r (I r U),λd j p G=>by
   rcases mem_set j with z|z
   ·exact h.c d z p G
   ·rw [z] at G;exact J p G,λd j=>(W d j).elim (λz=>h.l d z) id⟩
theorem In.deed {T:List Int}{lo:Nat}{M:MS}{d:Dd}(h:In T M)(J:∀t∈cJ d,t∈T):In T (fL lo M d):=by
 have W:∀(r:Rw),r.tag∈T->∀e∈M.log++[r.d],∃r:Rw,e=r.d/\r.tag∈T:=λr U e S=>by
  rcases mem_append.mp S with z|z
  ·exact h.l e z
  ·exact ⟨r,mem_singleton.mp z,U⟩
 cases d with
 |come t s g k=>
  have O:=J t (.head _);show In T @fk;unfold fb;split
  ·exact ⟨h.w,h.c,W (.note true t) O⟩
  split
  ·exact ⟨h.w,h.c,W (.note false t) O⟩
  ·rwa[⟨λr U=> ?_,h.c,h.l⟩]
   rcases mem_append.mp U with z|z
   ·exact h.w r z
   ·rw [mem_singleton.mp z];exact O
 |lf x i=>
  have ps:∀p∈(zq M i).ps,p.1∈T:=λp I=>let ⟨c,hc,z⟩:=LQ I;h.c c hc p z
  have j:∀r∈zt i M.ws,r.tag∈T:=λr U=>by
   obtain ⟨q,G,rfl⟩:=mem_map.mp U;have:=h.w q G;split<;>exact this
  have F:∀m,In T {M with cs:=M.cs.set i.toNat {zq M i with mr:=m}}:=λm=>h.setC ps (λd z=> .inl z) λr z=>z;unfold fL;dsimp only;split
  ·exact ⟨h.w,h.c,h.l⟩
  split
  ·exact ⟨j,(F _).c,h.l⟩
  split
  ·exact ⟨j,(F _).c,h.l⟩
  split
  ·exact F _
  ·exact F _
 |sg x=>exact h
theorem In.deeds {T:List Int}{lo:Nat}:∀ {ds:List Dd} {M:MS},In T M->(∀d∈ds,∀t∈cJ d,t∈T)->In T @hn
 |[],_,h,_=>h
 |d::ds,M,h,hd=>In.deeds (ds:=ds) (M:=fL lo M d) (h.deed (hd d (.head _))) λe S=>hd e (.tail _ S)
theorem In.deals {T:List Int}{dl:uH}{W:List bo}(F:∀r∈W,r.tag∈T){M:MS}(h:In T M):∀i,In T @gn
 |0=>h
 |i+1=>by
  have j:=In.deals (dl:=dl) F h i;unfold aR;split
  ·rename_i r U;have O:=F r (mem_of_getElem? U);split
   ·unfold fq;split
    ·exact ⟨j.w,j.c,j.l⟩
    ·rwa[⟨λq G=> ?_,j.c,λe S=> ?_⟩]
     ·rcases mem_set G with z|z
      ·exact j.w q z
      ·rw [z];exact O
     ·rcases mem_append.mp S with z|z
      ·exact j.l e z
      ·exact ⟨.deal r.tag _,mem_singleton.mp z,O⟩
   ·exact j
  ·exact j
theorem rj {so:Str}{room pl:Int}:∀(rs:List bo) (s:E3),∃js:List bo,js.Sublist rs/\(bB so room pl s rs).ins=s.ins++js.map (·.tag)/\(bB so room pl s rs).kept=s.kept++js.map λr=>(r.tag,r.goal)
 |[],s=>⟨[],.slnil,(append_nil _).symm,(append_nil _).symm⟩
 |r::rs,s=>by
  obtain ⟨js,h1,h2,G⟩:=rj (so:=so) (room:=room) (pl:=pl) rs @bo;show ∃js:List bo,js.Sublist (r::rs)/\(bB so room pl @bo rs).ins=s.ins++js.map (·.tag)/\(bB so room pl @bo rs).kept=s.kept++js.map λr=>(r.tag,r.goal);rw [h2,G];unfold cW;split
  ·exact ⟨r::js,h1.cons₂ r,by simp,by simp⟩
  ·exact ⟨js,h1.cons r,rfl,rfl⟩
theorem In.go {T:List Int}{hs:Hs}{wf:Wf}{M M':MS}{i:Int}{c:Cb}{l:Lf}(h:In T M)(S:atC M i c)(g:JT hs wf M i c l M'):In T M':=by
 have ps:∀p∈c.ps,p.1∈T:=h.c c (mem_of_getElem? S.2);have F:∀j:Cb,(∀p∈j.ps,p∈c.ps)->In T (iG M i j):=λj e=>h.setC (λp G=>ps p (e p G)) (λd z=> .inl z) λr z=>z
 rcases g with ⟨_,rfl⟩|⟨_,_,rfl⟩|⟨_,_,g⟩
 ·exact h
 ·exact h
 ·unfold Ap at g;split at g
  ·rw [g];obtain ⟨J,W,I,Z⟩:=rj (so:=hs.so) (room:=l.rm) (pl:=c.pl) @ba ⟨c.li,dP c.pl c.ps,[]⟩;have I:(c5 hs c l @ba).ins=J.map (·.tag):=I;have Z:(c5 hs c l @ba).kept=dP c.pl c.ps++J.map λr=>(r.tag,r.goal):=Z;have R:∀r∈J,r.tag∈T:=λr U=>h.w r (mem_filter.mp (W.subset U)).1;unfold qe iG y6;rwa[h.setC (λp G=> ?_) (λd L=> ?_) λr z=>(mem_filter.mp z).1]
   ·rw [Z] at G
    rcases mem_append.mp G with z|z
    ·exact ps p (mem_filter.mp z).1
    ·obtain ⟨r,U,rfl⟩:=mem_map.mp z;exact R r U
   ·rcases mem_append.mp L with z|z
    ·rcases mem_append.mp z with z|z
     ·exact .inl z
     ·obtain ⟨t,O,rfl⟩:=mem_map.mp z;unfold cX at O;obtain ⟨p,G,rfl⟩:=mem_map.mp O;exact .inr ⟨.step false p.1 i (c.pl / 2),rfl,ps p (mem_filter.mp G).1⟩
    ·obtain ⟨t,O,rfl⟩:=mem_map.mp z;rw [I] at O;obtain ⟨r,U,rfl⟩:=mem_map.mp O;exact .inr ⟨.step true r.tag i (c.pl / 2),rfl,R r U⟩
  split at g
  ·rw [g];exact F _ λp G=>G
  ·obtain ⟨Y,u,d,_,_,_,rfl⟩:=g;exact F _ λp G=>G
theorem In.goN {T:List Int}{hs:Hs}{wf:Wf}{M:MS}(h:In T M):∀ {n:Nat} {M':MS},vP hs wf n M M'->In T M'
 |0,M',g=>by
  obtain rfl:M'=M:=g;exact h
 |n+1,M',⟨M1,c,l,g1,g2,_,g4⟩=>(In.goN h g1).go g2 g4
theorem In.turn {hs:Hs}{wf:Wf}{dl:uH}{cs:List Cb}{ws:List bo}{j:Int}{F:Bool}{ds:List Dd}{M':MS}{T:List Int}(Y:∀t∈eE cs ws,t∈T)(G:∀d∈ds,∀t∈cJ d,t∈T)(g:vP hs wf hs.ls.length (jX dl (aB hs.lo ⟨cs,ws,j,F,0,[]⟩ ds)) M'):In T M':=by
 have I:In T ⟨cs,ws,j,F,0,[]⟩:=⟨λr U=>Y _ (mem_append_left _ (mem_map_of_mem U)),λc J p z=>Y _ (mem_append_right _ (mem_flatMap.mpr ⟨c,J,mem_map_of_mem z⟩)),(λd G=>nomatch G)⟩;have h1:=I.deeds (lo:=hs.lo) G;rwa[In.goN (n:=hs.ls.length) ?_ g];unfold jX;exact h1.deals h1.w _
theorem In.rows {T:List Int}:∀ {lg:List D},(∀d∈lg,∃r:Rw,d=r.d/\r.tag∈T)->∃L:List Rw,lg=L.map Rw.d/\∀r∈L,r.tag∈T
 |[],_=>⟨[],rfl,(λr U=>nomatch U)⟩
 |d::lg,h=>by
  obtain ⟨r,rfl,U⟩:=h d (.head _);obtain ⟨L,rfl,j⟩:=In.rows λe S=>h e (.tail _ S)
  exact ⟨r::L,rfl,λq G=>by
   rcases mem_cons.mp G with z|z
   ·rw [z];exact U
   ·exact j q z⟩
theorem zJ {zs:List Int}{W:List bo}{M:MS}:∀i,(aR (B2 zs) W i M).last=M.last
 |0=>rfl
 |i+1=>by
  have j:=zJ (zs:=zs) (W:=W) (M:=M) i;unfold aR;split
  ·split
   ·unfold fq;split<;>exact j
   ·exact j
  ·exact j
theorem Mg {lo:Nat}{M:MS}{d:Dd}:(fL lo M d).ws.length<=M.ws.length+(cJ d).length/\(fL lo M d).last=M.last:=by
 have j:∀i,(zt i M.ws).length=M.ws.length:=λi=>length_map _
 cases d with
 |come t s g k=>
  show (fb lo M t s g k).ws.length<=_+1/\(fb lo M t s g k).last=_;unfold fb;split
  ·exact ⟨Nat.le_succ _,rfl⟩
  split
  ·exact ⟨Nat.le_succ _,rfl⟩
  ·exact ⟨by show (M.ws++[_]).length<=_;simp,rfl⟩
 |lf x i=>
  unfold fL;dsimp only;split
  ·exact ⟨Nat.le_refl _,rfl⟩
  split
  ·exact ⟨by show (zt i M.ws).length<=_;rw [j];exact Nat.le_refl _,rfl⟩
  split
  ·exact ⟨by show (zt i M.ws).length<=_;rw [j];exact Nat.le_refl _,rfl⟩
  split
  ·exact ⟨Nat.le_refl _,rfl⟩
  ·exact ⟨Nat.le_refl _,rfl⟩
 |sg x=>exact ⟨by show M.ws.length<=M.ws.length+0;lia,rfl⟩
theorem zI {lo:Nat}:∀ {ds:List Dd} {M:MS},(aB lo M ds).ws.length<=M.ws.length+(ds.flatMap cJ).length/\(aB lo M ds).last=M.last
 |[],_=>⟨Nat.le_refl _,rfl⟩
 |d::ds,M=>by
  obtain ⟨z,Y⟩:=Mg (lo:=lo) (M:=M) (d:=d);obtain ⟨F,j⟩:=zI (lo:=lo) (ds:=ds) (M:=fL lo M d);rw [flatMap_cons,length_append];exact ⟨by show (aB lo (fL lo M d) ds).ws.length<=_;lia,j.trans Y⟩
def MS.st (M:MS):MS:=mS M.cs M.ws M.last
structure Sr (hs:Hs)(T:List Int)(S:MS):Prop where
 len:S.cs.length=hs.ls.length
 ck:∀c∈S.cs,nj hs.fl c
 rk:∀r∈S.ws,pC hs.fl r
 l0:0<=S.last
 w:S.ws.length<=T.length
 tg:∀t∈eE S.cs S.ws,t∈T
structure Dk (hs:Hs)(T:List Int)(ds:List Dd):Prop where
 len:T.length+ds.length<=30
 gd:∀ts,(∀t∈ts,t∈T)->xo hs.fl hs.ls.length ts ds
 ok:∀d∈ds,d.ok
 one:(ds.flatMap cJ).length=ds.length
abbrev m8 (hs:Hs)(wf:Wf)(k:List Int)(S:MS)(ds:List Dd)(M':MS):Prop:=vP hs wf hs.ls.length @fB M'
theorem m8.uniq {hs:Hs}{wf:Wf}{k:List Int}{S:MS}{ds:List Dd}{A B:MS}(h:m8 hs wf k S ds A)(g:m8 hs wf k S ds B):A=B:=vP.uniq h g
theorem Sr.mok {hs:Hs}{T:List Int}{S:MS}(R:Sr hs T S):uB hs S.ws.length S.st:=⟨R.len,R.ck,R.rk,by show 0+S.ws.length<=_;lia⟩
theorem Sr.turn {hs:Hs}{T:List Int}{S:MS}{ds:List Dd}{wf:Wf}{k:List Int}{M':MS}(R:Sr hs T S)(hk:hs.ok)(D:Dk hs T ds)(hw:∀fl li he up dn,gu li he up dn->wf fl li he up dn∈cf)(G:m8 hs wf k S ds M'):Sr hs (T++ds.flatMap cJ) M'/\M'.fire=false/\∃L:List Rw,M'.log=L.map Rw.d/\L.length<=4000/\∀r∈L,r.tag∈T++ds.flatMap cJ:=by
 have aa:=tM (D.gd @ga R.tg);have ag:=R.w;have ad:=D.len;have af:=D.one;have l3:=hk.l3;have Y:=R.mok.deeds (ds:=ds) (λd U=>⟨D.ok d U,aa d U⟩) ds.length;rw [take_of_length_le @f] at Y;obtain ⟨w1,I⟩:=zI (lo:=hs.lo) (ds:=ds) (M:=S.st);have w1:(aB hs.lo S.st ds).ws.length<=S.ws.length+(ds.flatMap cJ).length:=w1;have I:(aB hs.lo S.st ds).last=S.last:=I;have f1:(aB hs.lo S.st ds).fire=false:=ge;have F:In (T++ds.flatMap cJ) M':=In.turn (λt O=>mem_append_left _ (R.tg t O)) (λd U t O=>mem_append_right _ (mem_flatMap.mpr ⟨d,U,O⟩)) G;have dl:=eJ (dl:=B2 k) (W:=(aB hs.lo S.st ds).ws) (M:=aB hs.lo S.st ds) (aB hs.lo S.st ds).ws.length;have ac:=zJ (zs:=k) (W:=(aB hs.lo S.st ds).ws) (M:=aB hs.lo S.st ds) (aB hs.lo S.st ds).ws.length;have Z:=gf (dl:=B2 k) (W:=(aB hs.lo S.st ds).ws) (M:=aB hs.lo S.st ds) (aB hs.lo S.st ds).ws.length;have bE:=Y.sum;have G':vP hs wf hs.ls.length @fB M':=G;have j:uB hs (S.ws.length+ds.length+(aB hs.lo S.st ds).ws.length) @fB:=Y.deals Y.ws _;have e1:(jX (B2 k) @bv).ws.length=(aB hs.lo S.st ds).ws.length:=dl.1;have e2:(jX (B2 k) @bv).last=S.last:=ac.trans I;have e3:(jX (B2 k) @bv).fire=false:=Z.trans f1;generalize jX (B2 k) @bv=M2 at G' j e1 e2 e3;have ae:=j.sum;obtain ⟨g1,g2,g3,J⟩:=vP.ok hk hw e3 j.cs j.ws @b G';have wl:=J.wl;rwa[⟨⟨by rw [J.len];exact j.len,g3,λr hr=>j.ws r (J.ws r hr),by rw [g2,e2];exact R.l0,by rw [length_append];lia,λt O=> ?_⟩,g1,?_⟩]
 ·rcases mem_append.mp O with z|z
  ·obtain ⟨r,hr,rfl⟩:=mem_map.mp z;exact F.w r hr
  ·obtain ⟨c,hc,z⟩:=mem_flatMap.mp z;obtain ⟨p,hp,rfl⟩:=mem_map.mp z;exact F.c c hc p hp
 ·obtain ⟨L,e,hL⟩:=In.rows F.l;rwa[⟨L,e,?_,hL⟩];have e1:=congrArg List.length e;rw [length_map] at e1;have:=J.log;lia
def JO (hs:Hs):List Int->List @bw->Prop
 |_,[]=>True
 |T,ds::dss=>Dk hs T ds/\JO hs (T++ds.flatMap cJ) dss
def gv (hs:Hs)(wf:Wf)(k:List Int):MS->List @bw->List MS->Prop
 |_,[],Ms=>Ms=[]
 |S,ds::dss,Ms=>∃M' Ms',Ms=M'::Ms'/\m8 hs wf k S ds M'/\gv hs wf k M' dss Ms'
theorem gv.uniq {hs:Hs}{wf:Wf}{k:List Int}:∀ {dss:List @bw} {S:MS} {A B:List MS},gv hs wf k S dss A->gv hs wf k S dss B->A=B
 |[],_,_,_,h,g=>(show _=[] from h).trans (show _=[] from g).symm
 |ds::dss,S,_,_,⟨M,Ms,e,t,r⟩,⟨N,Ns,e',t',r'⟩=>by
  obtain rfl:=m8.uniq t t';rw [e,e',gv.uniq r r']
theorem gv.len {hs:Hs}{wf:Wf}{k:List Int}:∀ {dss:List @bw} {S:MS} {A:List MS},gv hs wf k S dss A->A.length=dss.length
 |[],_,_,h=>by rw [show _=[] from h];rfl
 |ds::dss,S,_,⟨M,Ms,e,t,r⟩=>by rw [e,length_cons,length_cons,gv.len r]
theorem gv.snoc {hs:Hs}{wf:Wf}{k:List Int}{ds:List Dd}{M':MS}:∀ {dss:List @bw} {S:MS} {A:List MS},gv hs wf k S dss A->m8 hs wf k (A.getLastD S) ds M'->gv hs wf k S (dss++[ds]) (A++[M'])
 |[],S,A,h,t=>by
  obtain rfl:A=[]:=h;exact ⟨M',[],rfl,t,rfl⟩
 |d::dss,S,_,⟨M,Ms,e,t0,r⟩,t=>by
  subst e;rwa[⟨M,Ms++[M'],rfl,t0,gv.snoc r ?_⟩]
  cases Ms with
  |nil=>exact t
  |cons x l=>rw [List.getLastD_cons] at t;exact t
theorem fj.nt {H H':Hp}(s:aJ H H'){st:Addr}{cs:List Cb}{ws:List bo}{j:Int}{L:Bool}(h:fj K H st cs ws j L):fj K H' st cs ws j L:=by
 obtain ⟨tc,J,xs,ys,h1,h2,G,F,W⟩:=h;exact ⟨tc,J,xs,ys,s.sqT h1,s.sqT h2,s.sqT G,Paired.imp' (λx c z=>fk.nt s z) F,s.dens W⟩
theorem MR {C:Addr}{H:Hp}{a st dp:Addr}{hs:Hs}{wf:Wf}{S:MS}{ds:List Dd}{k:List Int}{I:Lx}{T:List Int}{Q:VK}{E:XK}(c:Fa P w K mg base C H a hs wf (dq mg k I))(Z:0<k.length)(aa:∀z∈k,0<=z/\z<(hs.ls.length:Int))(cC:JP K C)(ad:fj K H st S.cs S.ws S.last false)(R:Sr hs T S)(U:kx K H dp ds)(D:Dk hs T ds)
(g:∀r st' ll zs M' H' (L:List Rw),aJ H H'->(dq mg k I).G H'->H' r=some (.tup [.ref st',.ref ll])->fj K H' st' (MS.cs M') M'.ws M'.last false->H' ll=some (.lst zs)->aI K H' zs M'.log->M'.log=L.map Rw.d->L.length<=4000->(∀r∈L,r.tag∈T++ds.flatMap cJ)->(∀b zs0,H b=some (.lst zs0)->b≠ll)->m8 hs wf k S ds M'->Sr hs (T++ds.flatMap cJ) M'->Q (.ref r) H'):gQ P w K mg base [.ref a,.ref st,.ref dp] H Q E:=by
 obtain ⟨dx,h,ru,df,h1,hH,am,ae⟩:=c.ex;have Y:=hH.1;have ai:=D.gd @ga R.tg
 have W:∀fl li he up dn,gu li he up dn->wf fl li he up dn∈cf:=by
  obtain ⟨_,_,_,_,_,_,_,z,_⟩:=am;exact z
 have hw:=R.w;have dl:=D.len;have l1:=Y.l1;have l3:=Y.l3;have J:=tM ai;have mo:=R.mok.deeds (ds:=ds) (λd hd=>⟨D.ok d hd,J d hd⟩) ds.length;rw [take_of_length_le @f] at mo;have ml:=mo.len;rwa[Rj c cC ad R.mok U @b ai (λi r _ _=> ?_) λr st' ll zs M' H' sN hg er aK O F ac j _=> ?_]
 ·have e:(aR (dq mg k I).d (aB hs.lo @cE ds).ws i @hc).cs.length=hs.ls.length:=by rw [(eJ i).2.1];exact mo.len
  generalize (aR (dq mg k I).d (aB hs.lo @cE ds).ws i @hc).cs=af at e;exact ⟨by lia,by lia,Z,by rw [e];exact aa⟩
 ·obtain ⟨R',f',L,e1,e2,e3⟩:=R.turn Y D W j;rw [f'] at aK;exact g r st' ll zs M' H' L sN hg er aK O F e1 e2 e3 ac j R'
theorem aJ.updF {H H':Hp}{l:Addr}{o:HO}(s:aJ H H')(n:H l=none):aJ H (upd H' l o):=λb u j e=>by
 rw [ag (λz=>by rw [z,n] at e;cases e)];exact s b u j e
def eM (K:Fg)(H:Hp)(l:Addr)(x:V)(M:MS):Prop:=∃r st ll zs,x= .ref r/\ll≠l/\H r=some (.tup [.ref st,.ref ll])/\fj K H st M.cs M.ws M.last false/\H ll=some (.lst zs)/\aI K H zs M.log/\∃L:List Rw,M.log=L.map Rw.d/\L.length<=4000
theorem OD (L:List Rw):noLs (L.map Rw.d)=true:=by
 induction L with
 |nil=>rfl
 |cons r L ih=>cases r<;>exact ih
theorem eM.nt {H H':Hp}{l:Addr}{x:V}{M:MS}(h:eM K H l x M)(s:aJ H H'):eM K H' l x M:=by
 obtain ⟨r,st,ll,zs,e,I,h1,h2,G,j,W⟩:=h;exact ⟨r,st,ll,zs,e,I,s _ _ (λ_ z=>by cases z) h1,fj.nt s h2,s _ _ (λ_ z=>by cases z) G,s.dens j,W⟩
theorem eM.app {H:Hp}{l:Addr}{x:V}{M:MS}{us j:List V}(h:eM K H l x M)(z:H l=some (.lst us)):eM K (upd H l (.lst j)) l x M:=by
 obtain ⟨r,st,ll,zs,e,I,h1,h2,G,F,L,W,J⟩:=h;have t:aM H (upd H l (.lst j)):=aM.updL z;exact ⟨r,st,ll,zs,e,I,t.tup h1,h2.keep t,by rw [ag I];exact G,t.dens F (by rw [W];exact OD L),L,W,J⟩
def fO (K:Fg)(H:Hp)(xs:List V)(dss:List @bw):Prop:=Paired (λx ds=>∃p,x=V.ref p/\kx K H p ds) xs dss
theorem kx.nt {H H':Hp}{p:Addr}{ds:List Dd}(h:kx K H p ds)(s:aJ H H'):kx K H' p ds:=by
 obtain ⟨xs,h1,h2⟩:=h;exact ⟨xs,s.sqL h1,Paired.imp' (λx d ⟨a,e,z⟩=>⟨a,e,s _ _ (λ_ z=>by cases z) z.1,z.2⟩) h2⟩
theorem fO.nt {H H':Hp}{xs:List V}{dss:List @bw}(h:fO K H xs dss)(s:aJ H H'):fO K H' xs dss:=Paired.imp' (λx ds ⟨p,e,z⟩=>⟨p,e,z.nt s⟩) h
inductive F1 (P:Program)(w:World)(K:Fg)(mg:Str->Option Value)(base:Heap)(C:Addr)(vs:List V)(H:Hp)(Q:VK)(_e:XK):Prop
 |mk (a st dp:Addr) (hs:Hs) (wf:Wf) (k:List Int) (lx:Lx) (S:MS) (T:List Int) (xs:List V) (dss:List @bw) (_:vs=[.ref a,.ref st,.ref dp]) (_:Fa P w K mg base C H a hs wf @gE) (_:0<k.length) (_:(∀z∈k,0<=z/\z<(hs.ls.length:Int))) (_:fj K H st (MS.cs S) S.ws S.last false) (_:Sr hs T S) (_:dss.length<=1000) (_:aD K H dp xs) (_:fO K H xs dss) (_:JO hs T dss) (_:∀l zs Ms H',aJ H H'->(dq mg k lx).G H'->H l=none->H' l=some (.lst zs)->Paired (eM K H' l) zs Ms->gv hs wf k S dss Ms->Q (.ref l) H')
theorem O7 {C:Addr}(F:Z0 K "run" Oy f fd)(cC:JP K C)(dR:iB P w K mg base aY 9 "turn" C @eY):ax P w K mg base aY 10 f fd ["court","state","day"] (F1 P w K mg base C):=by
 rwa[F.ok MW (by symm) (λaB A outer s H vs Q E hr h=> ?_)];obtain ⟨a,st,dp,hs,wf,k,lx,S,T,xs,J,rfl,hC,as,aq,az,hR,hn,hD,pD,hd,q⟩:=h;have xl:xs.length=J.length:=pD.len;rwa[⟨_,(aa @a (aa @a (aa (bJ PassesOwn.never rfl @a @a (aa (aZ (i:=6) MW.nd rfl @n (lW (n:=9) fH hr @c (wv 0) @fC)) (aa @gl (ac @a)))) (ac (am (wv 3)))))),?_⟩];rwa[ju (bw (by show 0<=1000000;decide)) λl H1 s1 n1 e1=> ?_];rwa[bD (s1.seq hD) ?_];rwa[bS (xs:=xs) (λi σ W=>aJ H W/\(dq mg k lx).G W/\∃(zs:List V) (I:List MS) (T':List Int) (bf:Addr) (o5 o6:Option V),W l=some (.lst zs)/\Paired (eM K W l) zs I/\gv hs wf k S (J.take i) I/\Sr hs T' (I.getLastD S)/\JO hs T' (J.drop i)/\fj K W bf (I.getLastD S).cs (I.getLastD S).ws (I.getLastD S).last false/\σ=[some (.ref a),some (.ref st),some (.ref dp),some (.ref l),some (.ref bf),o5,o6]) ⟨s1.nt,(dq mg k lx).gT _ _ s1.st hC.gg,[],[],T,st,_,_,e1,.nil,rfl,hR,hd,fj.nt s1.nt az,rfl⟩ (λi σ W _ pv=>pv.1.sqL hD) (λi x σ W hx pv=> ?_) (λσ W pv=> ?_)]
 ·obtain ⟨sY,gY,zs,I,T',bf,o5,o6,el,pS,rG,R,dG,ak,rfl⟩:=pv;obtain ⟨ds,U,p,rfl,aw⟩:=pD.get1 hx;have il:=(List.getElem?_eq_some_iff.mp U).1
  have au:J.drop i=ds::J.drop (i+1):=by
   rw [drop_eq_getElem_cons il];rw [getElem?_eq_getElem il] at U;cases U;rfl
  rw [au] at dG;obtain ⟨d1,d2⟩:=dG;have cY:=hC.nt sY gY;obtain ⟨dx,hX,aC,aA,an,_⟩:=cY.ex
  have zl:zs.length=i:=by rw [pS.len,rG.len,length_take];lia
  rwa[im an rfl dR ?_];rwa[MR cY as aq cC ak R (aw.nt sY) d1 λr ad ll lz M' Y L sZ gZ er Z av ap eL Ll _ nl hT R'=> ?_];have j:=sZ _ _ (λ_ z=>by cases z) el;have ay:=Paired.imp' (λx m z=>eM.nt z sZ) pS;have ae:eM K Y l (.ref r) M':=⟨r,ad,ll,lz,rfl,λz=>nl l zs el z.symm,er,Z,av,ap,L,eL,Ll⟩;rwa[⟨.inl ⟨rfl,_,aD.of j⟩,?_⟩];rwa[iL j @dQ ?_]
  have al:upd Y l (.lst (zs++[.ref r])) r=some (.tup [.ref ad,.ref ll]):=by rw [ag (λz=>by rw [z,j] at er;cases er)];exact er
  have t:aM Y (upd Y l (.lst (zs++[.ref r]))):= .updL j;have sU:aJ H (upd Y l (.lst (zs++[.ref r]))):=aJ.updF (sY.trans sZ) n1;have gU:=(dq mg k lx).gT _ _ t gZ;have ai:upd Y l (.lst (zs++[.ref r])) l=some (.lst (zs++[.ref r])):=af;have pU:Paired (eM K (upd Y l (.lst (zs++[.ref r]))) l) (zs++[.ref r]) (I++[M']):=Paired.app (Paired.imp' (λx m z=>eM.app z j) ay) (.cons (ae.app j) .nil);have ah:=Z.keep t;generalize upd Y l (.lst (zs++[.ref r]))=HU at al sU gU ai pU ah ⊢;rwa[ar (aK.of al) rfl ?_]
  have O:(I++[M']).getLastD S=M':=by simp
  rwa[⟨sU,gU,_,I++[M'],_,ad,_,_,ai,pU,?_,by rw [O];exact R',d2,by rw [O];exact ah,rfl⟩];rw [take_add_one,U];exact rG.snoc hT
 obtain ⟨sY,gY,zs,I,T',bf,o5,o6,el,pS,rG,R,dG,ak,rfl⟩:=pv;rw [xl,take_length] at rG;exact q l zs I W sY gY n1 el pS rG
def jx:Dd->Bool
 | .come _ _ _ _=>true
 |_=>false
abbrev DR (H:Hp)(x:V)(d:Dd):Prop:=∃a,x=V.ref a/\u9 H a d
theorem iu {H H':Hp}{xs:List V}{ds:List Dd}(h:Paired (DR H) xs ds)(s:aq H H'):Paired (DR H') xs ds:=Paired.imp' (λx d ⟨a,e,z⟩=>⟨a,e,s _ _ z.1,z.2⟩) h
inductive AT (K:Fg)(vs:List V)(H:Hp)(Q:VK)(_e:XK):Prop
 |mk (p ds:_) (_:vs=[.ref p]) (_:kx K H p ds) (_:ds.length<=100) (_:∀l ys H',aq H H'->H' l=some (.lst ys)->Paired (DR H') ys @hi->Q (.ref l) H')
theorem Lp (F:Z0 K "comings" sd f fd):ax P w K mg base aY 1 f fd ["deeds"] (AT K):=by
 rwa[F.ok DQ (by symm) @S];obtain ⟨p,ds,rfl,⟨xs,G,R⟩,dl,q⟩:=h;have Y:xs.length=ds.length:=R.len;rwa[⟨_,(ac (am (bF rfl (aC (N':=["deed"]) (pk:=[none]) @o) @a @i @X @R))),?_⟩];rwa[bD G ?_];rwa[bI (xs:=xs) (λj I L=>L=H/\Paired (DR H) I ((ds.take j).filter jx)) @bs (λj I L h=>by rw [h.2.len];exact Nat.le_trans @Z (by rw [length_take];exact Nat.min_le_left _ _)) ⟨rfl,.nil⟩ (λj I L _ h=>by rw [h.1];exact G) (λj y I L U O=> ?_) (λI L O l n=> ?_)]
 ·obtain ⟨rfl,J⟩:=O;obtain ⟨d,Z,a,rfl,al⟩:=R.get1 U
  have e1:(ds.take (j+1)).filter jx=(ds.take j).filter jx++(if jx d=true then [d] else []):=by
   rw [take_add_one,Z,filter_append];congr 1;cases z:jx d<;>simp [z]
  have W:=al.2;rwa[⟨bU,?_⟩]
  cases d with
  |come t s g k=>
   rwa[ar @gF rfl ?_];rwa[⟨rfl,by rw [e1];exact Paired.app J (.cons ⟨a,rfl,al⟩ .nil)⟩]
  |lf x i=>
   have au:x=s!"block"\/x=s!"stick"\/x=s!"free"\/x=s!"goods"\/x=s!"back":=W;rwa[ar @gF rfl ?_];show if decide (x=rg)=true then _ else _;rw [if_neg (by rw [decide_eq_false (by rcases au with G|G|G|G|G<;>rw [G]<;>decide+kernel)];decide)];exact ⟨rfl,by rw [e1];show Paired _ _ (_++[]);rw [append_nil];exact J⟩
  |sg x=>
   have au:x=s!"fire"\/x=s!"calm":=W;rwa[ar @gF rfl ?_];show if decide (x=rg)=true then _ else _;rw [if_neg (by rw [decide_eq_false (by rcases au with G|G<;>rw [G]<;>decide+kernel)];decide)];exact ⟨rfl,by rw [e1];show Paired _ _ (_++[]);rw [append_nil];exact J⟩
 obtain ⟨rfl,J⟩:=O;rw [Y,take_length] at J;exact q l I _ (.upd n) af (iu J (.upd n))
def CY (g:Int):Rw->Str
 | .deal _ _=>i7
 | .note b _=>nW b
 | .step b _ _ fl=>if b=true then s!"aboard" else if fl=g then s!"out" else s!"below"
def Rw.isD:Rw->Bool
 | .deal _ _=>true
 |_=>false
inductive AR (K:Fg)(vs:List V)(H:Hp)(Q:VK)(_e:XK):Prop
 |mk (a g:_) (r:Rw) (_:vs=[.ref a,.int g]) (_:aK K H a r.v) (_:r.isD=false) (_:Q (.str (CY g r)) H)
theorem Lm (F:Z0 K "fate_of" wS f fd):ax P w K mg base aY 1 f fd ["entry","goal"] (AR K):=by
 rwa[F.ok GF (by symm) @j];obtain ⟨a,g,r,rfl,Y,G,q⟩:=h;rwa[⟨_,(aa @y @fO),?_⟩]
 cases r with
 |deal t i=>cases G
 |note b t=>
  have Y:aK K H a [.str (nW b),.int t]:=Y;rwa[ar Y rfl ?_];rwa[fI (by cases b<;>decide+kernel) ?_];rwa[ar Y rfl ?_];rwa[fI (by cases b<;>decide+kernel) ?_];exact ar Y rfl q
 |step b t i fl=>
  have Y:aK K H a [.str (sW b),.int t,.int i,.int fl]:=Y;erw[ar Y rfl ?_]
  cases b with
  |true=>
   rwa[oX rfl ?_];exact q
  |false=>
   have q:Q (.str (if fl=g then s!"out" else s!"below")) H:=q;rwa[fI @g ?_];rwa[ar Y rfl ?_];rwa[oX rfl ?_];rwa[ar Y rfl ?_];rwa[fD @k @k]
   ·rw [if_pos z] at q;exact q
   ·rw [if_neg z] at q;exact q
structure Fr where
 tag:Int
 came:Int
 fate:Str
 at_:Int
 goal:Int
def Fr.d (f:Fr):D:= .tup [.int f.tag,.int f.came,.str f.fate,.int f.at_]
theorem P9 {H:Hp}{x:V}{f:Fr}(h:bO K H x f.d):∃a,x= .ref a/\aK K H a [.int f.tag,.int f.came,.str f.fate,.int f.at_]:=by
 obtain ⟨a,xs,rfl,h1,h2⟩:=(show bO K H x (.tup [.int f.tag,.int f.came,.str f.fate,.int f.at_]) from h).outT
 cases h2 with|cons q0 t0=>cases t0 with|cons q1 t1=>cases t1 with|cons q2 t2=>cases t2 with|cons q3 t3=>
 cases t3;cases q0.isInt;cases q1.isInt;cases q2;cases q3.isInt;exact ⟨a,rfl,h1⟩
def aW (n:Int)(f:Fr)(r:Rw):Fr:=if r.isD=false/\r.tag=f.tag then {f with fate:=CY f.goal r,at_:=n} else f
theorem bg {n:Int}{f:Fr}{r:Rw}:(aW n f r).tag=f.tag/\(aW n f r).goal=f.goal/\(aW n f r).came=f.came:=by
 unfold aW;split<;>exact ⟨rfl,rfl,rfl⟩
def b8 (n:Int):List Dd->List Fr
 |[]=>[]
 | .come t _ g _::ds=>⟨t,n,s!"waits",n,g⟩::b8 n ds
 |_::ds=>b8 n ds
def zA (n:Int)(F:List Fr)(ds:List Dd)(L:List Rw):List Fr:=(F++b8 n ds).map λf=>L.foldl (aW n) f
def Fr.v (f:Fr):List V:=[.int f.tag,.int f.came,.str f.fate,.int f.at_]
def FD (H:Hp)(kvs:List (cr×V))(F:List Fr):Prop:=Paired (λ(kv:cr×V) (f:Fr)=>kv.1=Sum.inl f.tag/\∃a,kv.2= .ref a/\H a=some (.tup f.v)) kvs F
theorem FD.same {H H':Hp}{kvs:List (cr×V)}{F:List Fr}(h:FD H kvs F)(s:aq H H'):FD H' kvs F:=Paired.imp' (λj f ⟨z,a,e,y⟩=>⟨z,a,e,s _ _ y⟩) h
theorem FD.upd {H:Hp}{p:Addr}{k0:List (cr×V)}{o:HO}{kvs:List (cr×V)}{F:List Fr}(h:FD H kvs F)(G:H p=some (.dK k0)):FD @db kvs F:=Paired.imp' (λj f ⟨z,a,e,y⟩=>⟨z,a,e,by rw [ag (λq=>by rw [q,G] at y;cases y)];exact y⟩) h
theorem FD.none {H:Hp}{t:Int}:∀ {kvs:List (cr×V)} {F:List Fr},FD H kvs F->t∉F.map (·.tag)->eh kvs @eG=none
 |[],[],_,_=>rfl
 |kv::kvs,g::F,.cons z h,ht=>by
  rw [map_cons,mem_cons,not_or] at ht;rw [bK (λe=>ht.1 (by rw [z.1] at e;exact (Sum.inl.inj e).symm))];exact FD.none h ht.2
theorem FD.at {H:Hp}{f:Fr}:∀ {kvs:List (cr×V)} {F:List Fr},FD H kvs F->(F.map (·.tag)).Nodup->f∈F->∃a,eh kvs @dg=some (.ref a)/\H a=some (.tup f.v)
 |[],[],_,_,j=>nomatch j
 |kv::kvs,g::F,.cons ⟨z,a,e,y⟩ h,nd,j=>by
  rw [map_cons,nodup_cons] at nd
  rcases mem_cons.mp j with rfl|j
  ·exact ⟨a,by rw [cb z,e],y⟩
  ·obtain ⟨v,h1,h2⟩:=FD.at h nd.2 j;rwa[⟨v,?_,h2⟩];rw [bK (λe=>nd.1 (by rw [z] at e;rw [Sum.inl.inj e];exact mem_map_of_mem j))];exact h1
theorem FD.add {H:Hp}{kvs:List (cr×V)}{F:List Fr}{f:Fr}{a:Addr}(h:FD H kvs F)(O:f.tag∉F.map (·.tag))(j:H a=some (.tup f.v)):FD H (eG kvs @dg (.ref a)) (F++[f]):=by
 rw [yS _ (h.none O)];exact Paired.app h (.cons ⟨rfl,a,rfl,j⟩ .nil)
theorem FD.rep {H:Hp}{f:Fr}{a:Addr}(j:H a=some (.tup f.v)):∀ {kvs:List (cr×V)} {F:List Fr},FD H kvs F->FD H (kvs.map λkv=>if kv.1=(Sum.inl f.tag:cr) then (kv.1,.ref a) else kv) (F.map λg=>if g.tag=f.tag then f else g)
 |[],[],_=> .nil
 |kv::kvs,g::F,.cons z h=>by
  rwa[.cons ?_ (FD.rep j h)];dsimp only;by_cases e:g.tag=f.tag
  ·rw [if_pos e,if_pos (by rw [z.1,e])];exact ⟨by rw [z.1,e],a,rfl,j⟩
  ·rw [if_neg e,if_neg (λy=>e (by rw [z.1] at y;exact Sum.inl.inj y))];exact z
theorem FD.put {H:Hp}{kvs:List (cr×V)}{F:List Fr}{f g:Fr}{a:Addr}(h:FD H kvs F)(Z:(F.map (·.tag)).Nodup)(S:g∈F)(e:g.tag=f.tag)(j:H a=some (.tup f.v)):FD H (eG kvs @dg (.ref a)) (F.map λg=>if g.tag=f.tag then f else g):=by
 obtain ⟨b,I,_⟩:=h.at Z S
 have z:(kvs.any λG=>decide (G.1=(Sum.inl f.tag:cr)))=true:=by rw [gy,<-e,I];rfl
 unfold eG;rw [if_pos z];exact FD.rep j h
theorem KD {F:List Fr}{n:Int}{f:Fr}{r:Rw}(Z:(F.map (·.tag)).Nodup)(I:f∈F)(h1:r.isD=false)(h2:r.tag=f.tag):(F.map λg=>if g.tag=f.tag then aW n f r else g)=F.map λg=>aW n g r:=by
 rwa[map_congr_left λg S=> ?_];by_cases e:g.tag=f.tag
 ·rw [if_pos e]
  have:g=f:=by
   obtain ⟨i,hi,z⟩:=List.getElem_of_mem S;obtain ⟨j,R,G⟩:=List.getElem_of_mem I;have:i=j:=(List.getElem?_inj (l:=F.map (·.tag)) (by rw [length_map];exact hi) Z).mp (by rw [getElem?_map,getElem?_map,getElem?_eq_getElem hi,getElem?_eq_getElem R,z,G];exact congrArg some e);subst this;rw [<-z,G]
  rw [this]
 ·rw [if_neg e];unfold aW;rw [if_neg (λy=>e (by rw [<-h2];exact y.2.symm))]
theorem LU {F:List Fr}{n:Int}{r:Rw}(h:r.isD=true):(F.map λg=>aW n g r)=F:=by
 have:(λg:Fr=>aW n g r)=id:=funext λg=>by unfold aW;rw [if_neg (λy=>by rw [h] at y;cases y.1)];rfl
 rw [this,List.map_id]
theorem mQ {n:Int}:∀ {L:List Rw} {f:Fr},(L.foldl (aW n) f).tag=f.tag/\(L.foldl (aW n) f).goal=f.goal
 |[],_=>⟨rfl,rfl⟩
 |r::L,f=>⟨(mQ (L:=L) (f:=aW n f r)).1.trans bg.1,(mQ (L:=L) (f:=aW n f r)).2.trans bg.2.1⟩
theorem fE {n:Int}:∀ {ds:List Dd},(b8 n ds).map (·.tag)=ds.flatMap cJ
 |[]=>rfl
 | .come t s g k::ds=>by show t::(b8 n ds).map _=_;rw [fE];rfl
 | .lf x i::ds=>by show (b8 n ds).map _=_;rw [fE];rfl
 | .sg x::ds=>by show (b8 n ds).map _=_;rw [fE];rfl
theorem vz {n:Int}{F:List Fr}{ds:List Dd}{L:List Rw}:(zA n F ds L).map (·.tag)=F.map (·.tag)++ds.flatMap cJ:=by
 unfold zA;rw [map_map,show ((λf:Fr=>f.tag)∘λf=>L.foldl (aW n) f)=(·.tag) from funext λf=>mQ.1,map_append,fE]
def FF (dss:List @bw)(Ls:List @bx):Nat->List Fr
 |0=>[]
 |i+1=>zA (i:Int) @gq (dss.getD i []) (Ls.getD i [])
theorem xT {dss:List @bw}{Ls:List @bx}:∀ {i},i<=dss.length->(FF dss Ls i).map (·.tag)=(dss.take i).flatMap λds=>ds.flatMap cJ
 |0,_=>rfl
 |i+1,h=>by
  have hi:dss[i]? =some dss[i]:=getElem?_eq_getElem @b;rw [FF,vz,xT @b,take_add_one,hi,flatMap_append];congr 1;rw [getD_eq_getElem?_getD,hi];simp
def nf (n:Int):Dd->Fr
 | .come t _ g _=>⟨t,n,s!"waits",n,g⟩
 |_=>⟨0,0,s!"waits",0,0⟩
theorem mR {n:Int}:∀ {ds:List Dd},b8 n ds=(ds.filter jx).map (nf n)
 |[]=>rfl
 | .come t s g k::ds=>congrArg _ (mR (ds:=ds))
 | .lf x i::ds=>mR (ds:=ds)
 | .sg x::ds=>mR (ds:=ds)
def S2 (K:Fg)(H:Hp)(x:V)(L:List Rw):Prop:=∃r st ll us,x= .ref r/\H r=some (.tup [.ref st,.ref ll])/\H ll=some (.lst us)/\aI K H us (L.map Rw.d)
structure Qq (dss:List @bw)(Ls:List @bx):Prop where
 len:Ls.length=dss.length
 l60:dss.length<=100
 d8:∀ds∈dss,ds.length<=100
 L4:∀L∈Ls,L.length<=4000
 nd:(dss.flatMap λds=>ds.flatMap cJ).Nodup
 tl:(dss.flatMap λds=>ds.flatMap cJ).length<=1000
 own:∀(i:Nat) L r,Ls[i]? =some L->r∈L->Rw.isD r=false->r.tag∈(dss.take (i+1)).flatMap λds=>ds.flatMap cJ
inductive wg (K:Fg)(vs:List V)(H:Hp)(Q:VK)(_e:XK):Prop
 |mk (dp sl xs zs dss Ls:_) (_:vs=[.ref dp,.ref sl]) (_:aD K H dp xs) (_:fO K H xs dss) (_:aD K H sl zs) (_:Paired (S2 K H) zs Ls) (_:Qq dss Ls) (_:∀l us H',aq H H'->H l=none->H' l=some (.lst us)->aI K H' us ((FF dss Ls dss.length).map Fr.d)->Q (.ref l) H')
theorem LX {H:Hp}{kvs:List (cr×V)}{F:List Fr}(h:FD H kvs F):aI K H (kvs.map (·.2)) (F.map Fr.d):=by
 rwa[PySem.Paired.of (by rw [length_map,length_map];exact h.len) λi x d e1 e2=> ?_];rw [getElem?_map] at e1 e2;obtain ⟨L,S,rfl⟩:=Option.map_eq_some_iff.mp e1;obtain ⟨f,G,rfl⟩:=Option.map_eq_some_iff.mp e2;obtain ⟨J,j,_,a,I,z⟩:=h.get1 S;rw [G] at j;cases j;rw [I];exact iQ (aK.of z) (.cons (.int _) (.cons (.int _) (.cons (.str _) (.cons (.int _) .nil))))
def GD (F:List Fr):List (cr×V):=F.map λf=>((Sum.inl f.tag:cr),V.int f.goal)
theorem CU {t:Int}:∀ {F:List Fr},t∉F.map (·.tag)->eh (GD F) @eG=none
 |[],_=>rfl
 |g::F,ht=>by
  rw [map_cons,mem_cons,not_or] at ht;show eh (_::GD F) _=_;rw [bK (λe=>ht.1 (Sum.inl.inj e).symm)];exact CU ht.2
theorem M7 {f:Fr}:∀ {F:List Fr},(F.map (·.tag)).Nodup->f∈F->eh (GD F) @dg=some (.int f.goal)
 |g::F,nd,j=>by
  rw [map_cons,nodup_cons] at nd;show eh (_::GD F) _=_
  rcases mem_cons.mp j with rfl|j
  ·rw [cb rfl]
  ·rw [bK (λe=>nd.1 (by rw [Sum.inl.inj e];exact mem_map_of_mem j))];exact M7 nd.2 j
theorem P5 {F:List Fr}{f:Fr}(O:f.tag∉F.map (·.tag)):eG (GD F) @dg (.int f.goal)=GD (F++[f]):=by
 rw [yS _ (CU O)];unfold GD;rw [map_append];rfl
theorem IL {F:List Fr}{n:Int}{r:Rw}:GD @cp=GD F:=by
 unfold GD;rw [map_map]
 exact map_congr_left λf _=>by show (_,_)=_;rw [bg.1,bg.2.1]
theorem P4 {F:List Fr}:(GD F).length=F.length:=length_map _
theorem Jc {H:Hp}{p:Addr}{k0:List (cr×V)}{o:HO}{xs:List V}{ds:List Dd}(h:Paired (DR H) xs ds)(G:H p=some (.dK k0)):Paired (DR @db) xs ds:=Paired.imp' (λx d ⟨a,e,z⟩=>⟨a,e,by rw [ag (λq=>by have y:=z.1;rw [q,G] at y;cases y)];exact z.1,z.2⟩) h
def UY (H HX:Hp)(p1 p2:Addr)(F:List Fr):Prop:=aq H HX/\HX p1=some (.dK (GD F))/\∃kt,HX p2=some (.dK kt)/\FD HX kt F
theorem Ux (r:Rw):∃w xs,r.v= .str w:: .int r.tag::xs/\(r.isD=true->w=i7)/\(r.isD=false->w≠i7):=by
 cases r with
 |deal t i=>exact ⟨_,_,rfl,λ_=>rfl,λz=>by cases z⟩
 |note b t=>exact ⟨_,_,rfl,(λz=>by cases z),λ_=>by cases b<;>decide+kernel⟩
 |step b t i fl=>exact ⟨_,_,rfl,(λz=>by cases z),λ_=>by cases b<;>decide+kernel⟩
theorem Qq.pre {dss:List @bw}{Ls:List @bx}{i:Nat}{ds:List Dd}(j:Qq dss Ls)(G:dss[i]? =some ds):((FF dss Ls i).map (·.tag)++ds.flatMap cJ).Nodup/\((FF dss Ls i).map (·.tag)++ds.flatMap cJ).length<=1000/\(FF dss Ls i).map (·.tag)++ds.flatMap cJ=(dss.take (i+1)).flatMap λds=>ds.flatMap cJ:=by
 have hi:=(List.getElem?_eq_some_iff.mp G).1
 have e:(FF dss Ls i).map (·.tag)++ds.flatMap cJ=(dss.take (i+1)).flatMap λds=>ds.flatMap cJ:=by
  rw [xT @b,take_add_one,G,flatMap_append];congr 1;simp
 have Z:=j.nd;have tl:=j.tl;rw [<-List.take_append_drop (i+1) dss,flatMap_append] at Z tl;rw [length_append] at tl;rw [e];exact ⟨(nodup_append.mp Z).1,by lia,rfl⟩
theorem HI (F:Z0 K "fates" Be f fd)(dN:mg "list"=none)(bL:mg "enumerate"=none)(z5:bp P w K mg base 1 "comings" ["deeds"] (AT K))(uu:bp P w K mg base 1 "fate_of" ["entry","goal"] (AR K)):ax P w K mg base aY 2 f fd ["day","steps"] (wg K):=by
 rwa[F.ok mv (by symm) (λa3 A outer s H vs Q E hr h=> ?_)];obtain ⟨dp,sl,xs,zs,J,I,rfl,hD,pD,hL,pL,ft,q⟩:=h;have zl:zs.length=I.length:=pL.len;have xl:xs.length=J.length:=pD.len;have a2:=ft.l60;have a1:=ft.len;erw[⟨_,(aa (aZ (i:=2) mv.nd rfl @n yT) (aa (aZ (i:=3) mv.nd rfl @n yT) (aa (bJ PassesOwn.never rfl (vV rfl rfl bL (wv 1)) @a (aa (bJ PassesOwn.never rfl @a @a (aa (qL @fR (wv 2) (wv 7) (wv 9) rfl) (ac (qL @fR (wv 3) (wv 7) @a rfl)))) (ac (bJ PassesOwn.never rfl @a (mz (i:=11) mv.nd rfl @n) (aa (aZ (i:=7) mv.nd rfl @n (pQ @eZ (wv 11) cE @bl)) (ac (az (c8 @fU (pQ @eZ (wv 11) cE @bl) bZ (b4 _)) (ac (qL @fR (wv 3) (wv 7) (kB (ao (wv 7) (ao (pQ @eZ (CA @fR (wv 3) (wv 7) @bl) cE @bl) (ao (b3 uu hr @c rfl (ao (wv 11) (ao (CA @fR (wv 2) (wv 7) @bl) aj))) @cy)))) rfl)) av))))))) (ac (am (yf rfl rfl dN (wv 3))))))),?_⟩];intro W aQ;have s1:aq H (upd H W (.dK [])):= .upd aQ;have e1:upd H W (.dK []) W=some (.dK []):=af;generalize upd H W (.dK [])=H1 at s1 e1 ⊢;ext;intro p2 ak;have s2:aq H1 (upd H1 p2 (.dK [])):= .upd ak;have e2:upd H1 p2 (.dK []) p2=some (.dK []):=af
 have ne:p2≠W:=λz=>by rw [z,e1] at ak;cases ak
 have ap:H p2=none:=none_of s1 ak;generalize upd H1 p2 (.dK [])=H2 at s2 e2 ⊢;rwa[.inl ⟨zs,(s1.trans s2).seq hL,?_⟩];rwa[zu (xs:=zs) (λi σ U=>UY H U W p2 (FF J I i)/\∃o4 o5 o6 o7 o8 o9 S R,σ=[some (.ref dp),some (.ref sl),some (.ref W),some (.ref p2),o4,o5,o6,o7,o8,o9,S,R]) ⟨⟨s1.trans s2,s2 _ _ e1,[],e2,.nil⟩,_,_,_,_,_,_,_,_,rfl⟩ (λi σ U _ Z=>Z.1.1.seq hL) (λi x σ U T HY hx Z an hT=> ?_) @fb]
 ·obtain ⟨⟨sX,O,kt,Y,fd⟩,o4,o5,o6,o7,o8,o9,S,R,rfl⟩:=Z;have sY:aq H HY:=sX.trans an;have O:=an _ _ O;have Y:=an _ _ Y;have fd:=fd.same an;obtain ⟨L,ai,r,st,ll,us,rfl,a0,aE,dL⟩:=pL.get1 hx;have hi:=(List.getElem?_eq_some_iff.mp ai).1;have a4:J[i]? =some J[i]:=getElem?_eq_getElem @b;have aC:xs[i]? =some xs[i]:=getElem?_eq_getElem @b;obtain ⟨ds,ay,da,al,aX⟩:=pD.get1 aC
  have al:xs[i]? =some (.ref da):=by rw [aC,al]
  have eF:FF J I (i+1)=(FF J I i++b8 i ds).map λf=>L.foldl (aW i) f:=by
   show zA _ _ (J.getD i []) (I.getD i [])=_;rw [getD_eq_getElem?_getD,getD_eq_getElem?_getD,ay,ai];rfl
  obtain ⟨nd,tl,eT⟩:=ft.pre ay;have ae:=ft.own i L;have L4:=ft.L4 L (mem_of_getElem? ai);have d8:=ft.d8 ds (mem_of_getElem? ay);rwa[gz (aK.of hT) rfl ?_];erw[bP (sY.seq hD) (v:= .ref da) (by rw [bx al]) ?_]
  have aF:kx K HY da ds:=by
   obtain ⟨aV,z1,z2⟩:=aX;exact ⟨aV,sY.seq z1,iu z2 sY⟩
  rwa[AT.mk _ _ rfl aF d8 λl ys H3 s3 hl ad=> ?_];have O:=s3 _ _ O;have Y:=s3 _ _ Y;have fd:=fd.same s3;have aT:aq H H3:=sY.trans s3
  have aL:l≠W:=λz=>by rw [z,O] at hl;cases hl
  have aJ:l≠p2:=λz=>by rw [z,Y] at hl;cases hl
  have yl:ys.length=(b8 i ds).length:=by rw [mR,length_map];exact ad.len
  have aS:(b8 i ds).map (·.tag)=ds.flatMap cJ:=fE;rw [<-aS,<-map_append] at nd tl eT;rw [length_map] at tl;rwa[bD (aD.of hl) ?_];rwa[bS (xs:=ys) (λj σ U=>UY H U W p2 (FF J I i++(b8 i ds).take j)/\U l=some (.lst ys)/\Paired (DR U) ys @hi/\∃o6 o7 o8 o9 S R,σ=[some (.ref dp),some (.ref sl),some (.ref W),some (.ref p2),some (.int i),some (.ref r),o6,o7,o8,o9,S,R]) ⟨⟨aT,by rw [take_zero,append_nil];exact O,kt,Y,by rw [take_zero,append_nil];exact fd⟩,hl,ad,_,_,_,_,_,_,rfl⟩ (λj σ U _ Z=>aD.of Z.2.1) (λj y σ U hy Z=> ?_) @fb]
  ·obtain ⟨⟨sX,O,kt,Y,fd⟩,hl,ad,o6,o7,o8,o9,S,R,rfl⟩:=Z;obtain ⟨d,hd,a,rfl,al⟩:=ad.get1 hy;have hm:=mem_filter.mp (mem_of_getElem? hd)
   have aG:(b8 i ds)[j]? =some (nf i d):=by rw [mR,getElem?_map,hd];rfl
   have hj:=(List.getElem?_eq_some_iff.mp aG).1
   have au:(b8 i ds).take (j+1)=(b8 i ds).take j++[nf i d]:=by rw [take_add_one,aG];rfl
   have nm:(nf i d).tag∉(FF J I i++(b8 i ds).take j).map (·.tag):=λz=>by
    have aP:=nd;rw [<-List.take_append_drop (j+1) (b8 i ds),au,<-append_assoc,<-append_assoc,map_append,map_append] at aP;exact (nodup_append.mp (nodup_append.mp aP).1).2.2 _ z _ @e rfl
   rw [length_append] at tl
   cases d with
   |come t s g k=>
    have hT:aK K U a [.str rg,.int t,.int s,.int g,.bl k]:=aK.of al.1;rwa[gz hT rfl ?_];rwa[⟨W,_,rfl,Ai.k (k:=Sum.inl t) O (AD (by rw [P4,length_append,length_take];lia)),?_⟩];have e9:eG (GD (FF J I i++(b8 i ds).take j)) @eG (.int g)=GD (FF J I i++(b8 i ds).take j++[nf i (.come t s g k)]):=P5 (f:=nf i (.come t s g k)) nm;rw [e9];have s5:aq H (upd U W (.dK (GD (FF J I i++(b8 i ds).take j++[nf i (.come t s g k)])))):=aq.updF sX aQ;have aN:(upd U W (.dK (GD (FF J I i++(b8 i ds).take j++[nf i (.come t s g k)])))) W=some (.dK (GD (FF J I i++(b8 i ds).take j++[nf i (.come t s g k)]))):=af
    have ah:(upd U W (.dK (GD (FF J I i++(b8 i ds).take j++[nf i (.come t s g k)])))) p2=some (.dK kt):=by rw [ag ne];exact Y
    have aM:(upd U W (.dK (GD (FF J I i++(b8 i ds).take j++[nf i (.come t s g k)])))) l=some (.lst ys):=by rw [ag aL];exact hl
    have aA:=fd.upd (o:= .dK (GD (FF J I i++(b8 i ds).take j++[nf i (.come t s g k)]))) O;have aB:=Jc (o:= .dK (GD (FF J I i++(b8 i ds).take j++[nf i (.come t s g k)]))) ad O;generalize upd U W (.dK (GD (FF J I i++(b8 i ds).take j++[nf i (.come t s g k)])))=H5 at s5 aN ah aM aA aB ⊢;erw[cj @bL λT H6 s6 nT as=> ?_];have aU:=aA.same s6;rwa[⟨p2,_,rfl,Ai.k (k:=Sum.inl t) @gV (AD (by rw [aA.len,length_append,length_take];lia)),?_⟩];rwa[⟨⟨aq.updF (s5.trans s6) ap,by rw [ag ne.symm,au,<-append_assoc];exact s6 _ _ aN,_,af,?_⟩,by rw [ag aJ];exact s6 _ _ aM,Jc (iu aB s6) @gV,_,_,_,_,_,_,rfl⟩];rw [au,<-append_assoc];exact FD.upd (FD.add (f:=nf i (.come t s g k)) aU nm as) @gV
   |lf x i=>cases hm.2
   |sg x=>cases hm.2
  obtain ⟨⟨sX,O,kt,Y,fd⟩,hl,ad,o6,o7,o8,o9,S,R,rfl⟩:=Z;rw [yl,take_length] at O fd
  have g0:((FF J I i++b8 i ds).map λf=>(L.take 0).foldl (aW i) f)=FF J I i++b8 i ds:=by simp
  rwa[ar (aK.of (sX _ _ a0)) rfl ?_];rwa[bD (aD.of (sX _ _ aE)) ?_];rwa[bS (xs:=us) (λj σ U=>UY H U W p2 ((FF J I i++b8 i ds).map λf=>(L.take j).foldl (aW i) f)/\∃o6 o7 o8 o9 S R,σ=[some (.ref dp),some (.ref sl),some (.ref W),some (.ref p2),some (.int i),some (.ref r),o6,o7,o8,o9,S,R]) ⟨⟨sX,by rw [g0];exact O,kt,Y,by rw [g0];exact fd⟩,_,_,_,_,_,_,rfl⟩ (λj σ U _ Z=>Z.1.1.seq (aD.of aE)) (λj y σ U hy Z=> ?_) @fb]
  ·obtain ⟨⟨sX,O,kt,Y,fd⟩,o6,o7,o8,o9,S,R,rfl⟩:=Z;obtain ⟨e,he,de⟩:=bj (f:=Rw.d) dL hy;obtain ⟨a,rfl,hT⟩:=GO (bO.same de sX)
   have gS:((FF J I i++b8 i ds).map λf=>(L.take (j+1)).foldl (aW i) f)=((FF J I i++b8 i ds).map λf=>(L.take j).foldl (aW i) f).map λf=>aW i f e:=by
    rw [map_map,take_add_one,he];rwa[map_congr_left λf _=> ?_];rw [foldl_append];rfl
   have gT:(((FF J I i++b8 i ds).map λf=>(L.take j).foldl (aW i) f).map (·.tag))=(FF J I i++b8 i ds).map (·.tag):=by
    rw [map_map];exact map_congr_left λf _=>mQ.1
   have gL:((FF J I i++b8 i ds).map λf=>(L.take j).foldl (aW i) f).length<=1000:=by rw [length_map];exact tl
   rw [<-gT] at nd eT;rw [gS];have ae:=ae e ai (mem_of_getElem? he);rw [<-eT] at ae;generalize ((FF J I i++b8 i ds).map λf=>(L.take j).foldl (aW i) f)=G at O fd nd gL ae ⊢;obtain ⟨w,cq,ev,d1,d2⟩:=Ux e;have aw:=hT;rw [ev] at aw;rwa[ar aw (v:= .int e.tag) (bx (j:=1) rfl) ?_];erw[ar aw (v:= .str w) @fT ?_]
   cases hb:e.isD with
   |true=>
    rwa[EB (d1 hb) ?_];exact ⟨⟨sX,by rw [IL];exact O,kt,Y,by rw [LU hb];exact fd⟩,_,_,_,_,_,_,rfl⟩
   |false=>
    rwa[P2 (d2 hb) ?_];obtain ⟨h,hh,ht⟩:=mem_map.mp (ae hb);obtain ⟨b,hv,aR⟩:=fd.at nd hh;have aO:=va.k (k:=Sum.inl h.tag) O;rw [M7 nd hh] at aO;have aI:=va.k (k:=Sum.inl h.tag) Y;rw [hv] at aI
    have hx:aW i h e=⟨h.tag,h.came,CY h.goal e,i,h.goal⟩:=by unfold aW;rw [if_pos ⟨hb,ht.symm⟩]
    rw [<-ht];rwa[⟨p2,_,rfl,aI,?_⟩];rwa[ar (aK.of aR) rfl ?_];rwa[⟨W,_,rfl,aO,?_⟩];rwa[AR.mk _ _ _ rfl hT hb ?_];rwa[cj @bL λT H6 s6 nT as=> ?_];rwa[⟨p2,_,rfl,Ai.k (k:=Sum.inl h.tag) (s6 _ _ Y) (AD (by rw [fd.len];lia)),?_⟩];rwa[⟨⟨aq.updF (sX.trans s6) ap,by rw [ag ne.symm,IL];exact s6 _ _ O,_,af,?_⟩,_,_,_,_,_,_,rfl⟩];have z:=FD.put (f:=aW i h e) (fd.same s6) nd hh (by rw [bg.1]) (a:=T) (by rw [hx];exact as);rw [bg.1,KD nd hh hb ht.symm] at z;exact FD.upd z (s6 _ _ Y)
  obtain ⟨⟨sX,O,kt,Y,fd⟩,o6,o7,o8,o9,S,R,rfl⟩:=Z;have ul:us.length=L.length:=aH dL;rw [ul,take_length,<-eF] at O fd;exact ⟨⟨sX,O,kt,Y,fd⟩,_,_,_,_,_,_,_,_,rfl⟩
 obtain ⟨⟨sX,O,kt,Y,fd⟩,o4,o5,o6,o7,o8,o9,S,R,rfl⟩:=Z;rw [zl,a1] at O fd;rwa[⟨p2,kt,rfl,Y,λl nl=> ?_⟩];exact q l _ _ (sX.trans (.upd nl)) (none_of sX nl) af (LX (fd.same (.upd nl)))
def fm (n:Int)(f:Fr):Int:=if f.fate=s!"out" then f.at_ - f.came else if f.fate=s!"waits"\/f.fate=s!"aboard" then n - f.came else 0
inductive AF (K:Fg)(vs:List V)(H:Hp)(Q:VK)(_e:XK):Prop
 |mk (n f:_) (_:vs=[.int (Fr.came f),.str f.fate,.int f.at_,.int n]) (_:∀H',aq H H'->Q (.int (fm n f)) H')
theorem NX {x a b:Str}:xi (.str x) [.str a,.str b]=decide (x=a\/x=b):=by
 show ((a==x)||((b==x)||false))=_;rw [Bool.or_false,Bool.decide_or]
 have z:∀c:Str,(c==x)=decide (x=c):=λc=>by
  by_cases h:x=c
  ·subst h;rw [decide_eq_true rfl];exact beq_self_eq_true x
  ·rw [decide_eq_false h];exact beq_eq_false_iff_ne.mpr λe=>h e.symm
 rw [z,z]
theorem K7 (F:Z0 K "wait_of" wB f fd):ax P w K mg base aY 1 f fd ["came","fate","at","turns"] (AF K):=by
 rwa[F.ok Gn (by symm) (λj A outer s H J Q E U h=> ?_)];obtain ⟨n,G,rfl,q⟩:=h;rwa[⟨_,@fO,?_⟩];unfold fm at q;rwa[fD @k @k]
 ·rw [if_pos z] at q;exact q _ (.refl _)
 rw [if_neg z] at q;rwa[cj @bL λl H1 L I e1=> ?_];rwa[Gm @fi rfl rfl ?_];rw [NX];rwa[fD @k @k]
 ·rw [if_pos z] at q;exact q _ L
 ·rw [if_neg z] at q;exact q _ L
inductive wa (K:Fg)(vs:List V)(H:Hp)(Q:VK)(_e:XK):Prop
 |mk (l us n:_) (F:List Fr) (_:vs=[.ref l,.int n]) (_:aD K H l us) (_:aI K H us (F.map Fr.d)) (_:F.length<=1000) (_:∀H',aq H H'->Q (.int (F.map (fm n)).sum) H')
theorem Hj (F:Z0 K "waits_of" rN f fd)(W:mg "sum"=none)(zQ:bp P w K mg base 1 "wait_of" ["came","fate","at","turns"] (AF K)):ax P w K mg base aY 2 f fd ["fates_told","turns"] (wa K):=by
 rwa[F.ok DE (by symm) @bZ];obtain ⟨l,I,n,F,rfl,O,J,Fl,q⟩:=h;have Z:I.length=F.length:=aH J;rwa[⟨_,(ac (am (aN (ML rfl rfl) rfl W boot_sum (ao (bF rfl (aC (N':=["tag","came","fate","at","turns"]) (pk:=[none,none,none,none,some 1]) @o) @a @s @r @i) aj)))),?_⟩];rwa[bD O ?_];rwa[bI (xs:=I) (λj ys z=>aq H z/\ys=((F.take j).map (fm n)).map V.int) @bs (λj ys z h=>by rw [h.2,length_map,length_map,length_take];lia) ⟨.refl _,rfl⟩ (λj ys z _ h=>h.1.seq O) (λj y ys z hy L=> ?_) (λys z L p np=> ?_)]
 ·obtain ⟨G,rfl⟩:=L;obtain ⟨ft,U,S⟩:=bj (f:=Fr.d) J hy;obtain ⟨a,rfl,Y⟩:=P9 (bO.same S G);rwa[gz Y rfl ?_];rwa[⟨ja,?_⟩];rwa[AF.mk _ _ rfl λH' s'=> ?_];rwa[⟨G.trans s',?_⟩];rw [take_add_one,U,Option.toList_some,map_append,map_append];rfl
 obtain ⟨G,rfl⟩:=L;rw [Z,take_length];rwa[⟨F.map (fm n),aD.of af,?_⟩];exact q _ (G.trans (.upd np))
structure ce where
 came:Int
 start:Int
 goal:Int
def ce.d (r:ce):D:= .tup [.int r.came,.int r.start,.int r.goal]
theorem ii {H:Hp}{x:V}{r:ce}(h:bO K H x r.d):∃a,x= .ref a/\aK K H a [.int r.came,.int r.start,.int r.goal]:=by
 obtain ⟨a,xs,rfl,h1,h2⟩:=(show bO K H x (.tup [.int r.came,.int r.start,.int r.goal]) from h).outT
 cases h2 with|cons q0 t0=>cases t0 with|cons q1 t1=>cases t1 with|cons q2 t2=>
 cases t2;cases q0.isInt;cases q1.isInt;cases q2.isInt;exact ⟨a,rfl,h1⟩
def jK (K:Fg)(H:Hp)(l:Addr)(R:List ce):Prop:=∃xs,H l=some (.lst xs)/\aI K H xs @gG
theorem jK.same {H H':Hp}{l:Addr}{R:List ce}(h:jK K H l R)(s:aq H H'):jK K H' l R:=by
 obtain ⟨xs,h1,h2⟩:=h;exact ⟨xs,s _ _ h1,aI.same h2 s⟩
theorem jK.nt {H H':Hp}{l:Addr}{R:List ce}(h:jK K H l R)(s:aJ H H'):jK K H' l R:=by
 obtain ⟨xs,h1,h2⟩:=h;exact ⟨xs,s _ _ (λ_ z=>by cases z) h1,s.dens h2⟩
def bv (fl:Int):List ce->Du
 |[]=> .good
 |r::R=>match due fl 0 (.come 0 r.start r.goal false) with
  | .good=>bv fl R
  |d=>d
theorem SJ {fl:Int}{n:Nat}{s g:Int}:due fl n (.come 0 s g false)=due fl 0 (.come 0 s g false):=rfl
theorem fe.of {z j:Addr}{H H':Hp}{Q G:VK}{E:XK}{d:Du}(T:fe z j H Q E d)(F:d≠ .good)(s:aq H H'):fe z j H' G E d:=by
 cases d with
 |floor i=>exact λe H2 R S=>T e H2 (s.trans R) S
 |ride=>exact λH2 R=>T H2 (s.trans R)
 |good=>exact absurd rfl F
inductive yA (K:Fg)(kF kR:Addr)(vs:List V)(H:Hp)(Q:VK)(E:XK):Prop
 |mk (h l:Addr) (fl:Int) (n:Nat) (R:List ce) (_:vs=[.ref h,.ref l]) (_:Ag K H h fl n) (_:jK K H l R) (_:R.length<=100) (_:fe kF kR H Q E (bv fl R))
theorem Pa {au aA:Addr}(F:Z0 K "need_riders" jh f fd)(gN:nq P w K mg base 4 "need_ride" ["house","start","goal"] (md K au aA)):ax P w K mg base @V 5 f fd ["house","riders"] (yA K au aA):=by
 rwa[F.okX wr (by symm) (λaa A outer s H vs Q E hr h=> ?_)];obtain ⟨h,l,fl,n,R,rfl,hh,⟨xs,el,Z⟩,R100,T⟩:=h;have xl:xs.length=R.length:=aH Z;rwa[⟨_,(ac (bJ Hf rfl @a @a (ac (aS (ik dD gN hr @c rfl (ao (wv 0) (ao (wv 3) @cy))))))),?_⟩];rwa[bD @cT ?_];rwa[bS (xs:=xs) (λi σ J=>aq H J/\bv fl R=bv fl (R.drop i)/\∃W S U,σ=[some (.ref h),some (.ref l),W,S,U]) ⟨.refl _,rfl,_,_,_,rfl⟩ (λi σ J _ Y=>Y.1.seq @cT) (λi x σ J hx Y=> ?_) @fa]
 ·obtain ⟨I,G,W,S,U,rfl⟩:=Y;obtain ⟨r,L,dr⟩:=bj Z hx;obtain ⟨a,rfl,hT⟩:=ii (bO.same dr I);have il:=(List.getElem?_eq_some_iff.mp L).1
  have O:R.drop i=r::R.drop (i+1):=by
   rw [drop_eq_getElem_cons il];rw [getElem?_eq_getElem il] at L;cases L;rfl
  rw [O] at G;rwa[gz hT rfl ?_];rwa[md.mk _ _ _ _ _ rfl (hh.same I) ?_];rw [SJ]
  have G:bv fl R=match due fl 0 (.come 0 r.start r.goal false) with
   | .good=>bv fl (R.drop (i+1))
   |d=>d:=G
  cases e:due fl 0 (.come 0 r.start r.goal false) with
  |good=>
   rw [e] at G;exact λH' s'=>⟨I.trans s',G,_,_,_,rfl⟩
  |floor j=>
   rw [e] at G;rw [G] at T;exact fe.of T (by intro z;cases z) I
  |ride=>
   rw [e] at G;rw [G] at T;exact fe.of T (by intro z;cases z) I
 ·obtain ⟨I,G,W,S,U,rfl⟩:=Y;rw [xl,drop_length] at G;rw [G] at T;exact T J I
abbrev nv:ce:=⟨0,0,0⟩
def JR (R:List ce)(i:Nat):Dd:= .come (i:Int) (R.getD i nv).start (R.getD i nv).goal false
def ua (R:List ce)(t:Int)(n:Nat):List Dd:=((List.range n).filter λi=>decide ((R.getD i nv).came=t)).map (JR R)
abbrev dA (R:List ce)(t:Int):List Dd:=ua R t R.length
theorem jP {R:List ce}{t:Int}{n:Nat}:ua R t (n+1)=ua R t n++if (R.getD n nv).came=t then [JR R n] else []:=by
 unfold ua;rw [range_succ,filter_append,map_append];congr 1;by_cases z:(R.getD n nv).came=t
 ·rw [if_pos z,filter_cons,if_pos @dt];rfl
 ·rw [if_neg z,filter_cons,if_neg (by rw [decide_eq_false z];decide)];rfl
theorem mV {R:List ce}{t:Int}{n:Nat}:(ua R t n).length<=n:=by
 unfold ua;rw [length_map];exact Nat.le_trans @Z (by rw [length_range];exact Nat.le_refl _)
theorem BQ {R:List ce}{i:Nat}{r:ce}(h:R[i]? =some r):R.getD i nv=r:=by rw [getD_eq_getElem?_getD,h];rfl
inductive AV (K:Fg)(vs:List V)(H:Hp)(Q:VK)(_e:XK):Prop
 |mk (l:Addr) (t:Int) (R:List ce) (_:vs=[.ref l,.int t]) (_:jK K H l R) (_:R.length<=100) (_:∀p ys H',aq H H'->H' p=some (.lst ys)->Paired (DR H') ys (dA R t)->Q (.ref p) H')
theorem Lr (F:Z0 K "comings_at" lq f fd)(bL:mg "enumerate"=none):ax P w K mg base aY 1 f fd ["riders","turn"] (AV K):=by
 rwa[F.ok yP (by symm) (λaa A outer s H vs Q E hr h=> ?_)];obtain ⟨l,t,R,rfl,⟨xs,W,Z⟩,R100,q⟩:=h;have xl:xs.length=R.length:=aH Z;rwa[⟨_,(ac (am (bF rfl (aC (N':=["tag","rider","turn"]) (pk:=[none,none,some 1]) @o) (vV rfl rfl bL (wv 0)) @x @X @i))),?_⟩];rwa[.inl ⟨xs,aD.of W,?_⟩];rwa[Jl (xs:=xs) (λi ys j=>aq H j/\Paired (DR j) ys (ua R t i)) @bs (λi ys j h=>by rw [h.2.len];exact mV) ⟨.refl _,.nil⟩ (λi ys j _ h=>h.1.seq (aD.of W)) (λi x ys H1 T H2 hx U I eT=> ?_) (λys j h p np=> ?_)]
 ·obtain ⟨G,J⟩:=U;obtain ⟨r,S,dr⟩:=bj Z hx;obtain ⟨a,rfl,Y⟩:=ii (bO.same dr (G.trans I));have L:=BQ S;rwa[gz (aK.of eT) rfl ?_];rwa[⟨jb,?_⟩];rwa[ar Y rfl ?_];show if decide (r.came=t)=true then _ else _;by_cases z:r.came=t
  ·rw [if_pos @dt];rwa[ar Y rfl ?_];rwa[ar Y rfl ?_];rwa[cj (bw (by show 5<=1000000;decide)) λtt H3 O _ e3=> ?_];rwa[⟨G.trans (I.trans O),?_⟩];rw [jP,L,if_pos z];exact Paired.app (iu J (I.trans O)) (.cons ⟨tt,rfl,by unfold JR;rw [L];exact e3,trivial⟩ .nil)
  ·rw [if_neg (by rw [decide_eq_false z];decide)];rwa[⟨G.trans I,?_⟩];rw [jP,L,if_neg z,append_nil];exact iu J I
 ·obtain ⟨G,J⟩:=h;rw [xl] at J;have O:aq j (upd j p (.lst ys)):= .upd np;exact q p ys _ (G.trans O) af (iu J O)
def tg (R:List ce)(t:Int):List Int:=((List.range R.length).filter λi=>decide ((R.getD i nv).came=t)).map λi:Nat=>(i:Int)
theorem jC {R:List ce}{t:Int}:(dA R t).flatMap cJ=tg R t:=by
 unfold dA ua tg;generalize (List.range R.length).filter (λi=>decide ((R.getD i nv).came=t))=j
 induction j with
 |nil=>rfl
 |cons i j ih=>rw [map_cons,flatMap_cons,ih];rfl
def TT (R:List ce):Nat->List Int
 |0=>[]
 |t+1=>TT R t++tg R (t:Int)
theorem FN {R:List ce}{t x:Int}:x∈tg R t↔∃i:Nat,i<R.length/\x=(i:Int)/\(R.getD i nv).came=t:=by
 unfold tg;rw [mem_map];constructor
 ·rintro ⟨i,hi,rfl⟩;have:=mem_filter.mp hi;exact ⟨i,mem_range.mp this.1,rfl,of_decide_eq_true this.2⟩
 ·rintro ⟨i,hi,rfl,e⟩;exact ⟨i,mem_filter.mpr ⟨mem_range.mpr hi,decide_eq_true e⟩,rfl⟩
theorem lM {R:List ce}{x:Int}:∀ {t:Nat},x∈TT R t↔∃i:Nat,i<R.length/\x=(i:Int)/\0<=(R.getD i nv).came/\(R.getD i nv).came<(t:Int)
 |0=>⟨(λh=>by cases h),λ⟨i,_,_,h1,h2⟩=>by lia⟩
 |t+1=>by
  rw [TT,mem_append,lM,FN];constructor
  ·rintro (⟨i,h1,h2,G,j⟩|⟨i,h1,h2,G⟩)
   ·exact ⟨i,h1,h2,G,by lia⟩
   ·exact ⟨i,h1,h2,by lia,by lia⟩
  ·rintro ⟨i,h1,h2,G,j⟩;by_cases z:(R.getD i nv).came=(t:Int)
   ·exact .inr ⟨i,h1,h2,z⟩
   ·exact .inl ⟨i,h1,h2,G,by lia⟩
theorem Ig {F:List Nat}(h:F.Nodup):(F.map λi:Nat=>(i:Int)).Nodup:=by
 induction F with
 |nil=>exact .nil
 |cons i F ih=>
  rw [nodup_cons] at h;rw [map_cons,nodup_cons];rwa[⟨λz=> ?_,ih h.2⟩];obtain ⟨j,R,e⟩:=mem_map.mp z
  have:j=i:=by lia
  exact h.1 (this▸R)
theorem MT {R:List ce}{t:Int}:(tg R t).Nodup:=Ig (List.Pairwise.filter _ List.nodup_range)
theorem Dh {R:List ce}:∀ {t:Nat},(TT R t).Nodup
 |0=> .nil
 |t+1=>by
  rw [TT,nodup_append];rwa[⟨Dh,MT,λa z b F e=> ?_⟩];subst e;obtain ⟨i,_,e1,_,I⟩:=lM.mp z;obtain ⟨j,_,e2,G⟩:=FN.mp F
  have:i=j:=by lia
  subst this;lia
theorem zy {α:Type}(p q:α->Bool)(h:∀a,p a=true->q a=true->False):∀xs:List α,(xs.filter p).length+(xs.filter q).length<=(xs.filter λa=>p a||q a).length
 |[]=>Nat.le_refl _
 |x::xs=>by
  have j:=zy p q h xs;cases e1:p x<;>cases e2:q x
  ·simp only [filter_cons,e1,e2,Bool.or_self];simpa using j
  ·simp only [filter_cons,e1,e2];simp;lia
  ·simp only [filter_cons,e1,e2];simp;lia
  ·exact absurd e2 (λz=>h x e1 z)
theorem Jx {R:List ce}:∀ {t:Nat},(TT R t).length<=((List.range R.length).filter λi=>decide ((R.getD i nv).came<(t:Int))).length
 |0=>Nat.zero_le _
 |t+1=>by
  rw [TT,length_append];have z:=Jx (R:=R) (t:=t);have e:(tg R (t:Int)).length=((List.range R.length).filter λi=>decide ((R.getD i nv).came=(t:Int))).length:=length_map _;have j:=zy (λi:Nat=>decide ((R.getD i nv).came<(t:Int))) (λi=>decide ((R.getD i nv).came=(t:Int))) (λa h1 h2=>by have:=of_decide_eq_true h1;have:=of_decide_eq_true h2;lia) (List.range R.length)
  have g:((List.range R.length).filter λa=>decide ((R.getD a nv).came<(t:Int))||decide ((R.getD a nv).came=(t:Int)))=(List.range R.length).filter λi=>decide ((R.getD i nv).came<((t+1:Nat):Int)):=by
   rwa[List.filter_congr λi _=> ?_];rw [Bool.eq_iff_iff,Bool.or_eq_true,decide_eq_true_eq,decide_eq_true_eq,decide_eq_true_eq];lia
  rw [g] at j;lia
theorem Jy {R:List ce}{t:Nat}:(TT R t).length<=R.length:=Nat.le_trans Jx (Nat.le_trans @Z (by rw [length_range];exact Nat.le_refl _))
def d9 (R:List ce):Nat->Nat->List @bw
 |_,0=>[]
 |t,m+1=>dA R (t:Int)::d9 R (t+1) m
theorem d7 {R:List ce}:∀ {m t:Nat},(d9 R t m).length=m
 |0,_=>rfl
 |m+1,t=>by rw [d9,length_cons,d7]
theorem CZ {R:List ce}:∀ {m t i:Nat},i<m->(d9 R t m)[i]? =some (dA R ((t+i:Nat):Int))
 |m+1,t,0,_=>rfl
 |m+1,t,i+1,h=>by
  rw [d9,List.getElem?_cons_succ,CZ @b];rw [show t+1+i=t+(i+1) by lia]
structure MC (fl:Int)(n:Nat)(R:List ce):Prop where
 len:R.length<=6
 c:∀i,i<R.length->0<=(R.getD i nv).came/\(R.getD i nv).came<(n:Int)
 f:∀i,i<R.length->Dd.fit fl 0 (JR R i)
theorem SG {fl:Int}{n:Nat}{R:List ce}{i:Nat}(h:Dd.fit fl 0 (JR R i)):Dd.fit fl n (JR R i):=h
theorem IM {fl:Int}{n:Nat}{R:List ce}:∀ {is:List Nat} {ts:List Int},(∀i∈is,Dd.fit fl 0 (JR R i))->is.Nodup->(∀i∈is,(i:Int)∉ts)->xo fl n ts (is.map (JR R))
 |[],_,_,_,_=>trivial
 |i::is,ts,h1,h2,h3=>by
  rw [nodup_cons] at h2;rwa[⟨SG (h1 i (.head _)),λt O=> ?_,IM (λj F=>h1 j (.tail _ F)) h2.2 λj F z=> ?_⟩]
  ·rw [mem_singleton.mp O];exact h3 i (.head _)
  ·rcases mem_append.mp z with y|y
   ·exact h3 j (.tail _ F) y
   ·have:j=i:=by have:=mem_singleton.mp y;lia
    exact h2.1 (this▸F)
theorem xC {hs:Hs}{n:Nat}{R:List ce}(h:MC hs.fl n R)(t:Nat):Dk hs @gY (dA R (t:Int)):=by
 have Y:=h.len;have tl:=Jy (R:=R) (t:=t);have Z:(dA R (t:Int)).length<=R.length:=mV;rwa[⟨by lia,λI S=> ?_,λd G=> ?_,?_⟩]
 ·rwa[IM (λi hi=>h.f i (mem_range.mp (mem_filter.mp hi).1)) (List.Pairwise.filter _ List.nodup_range) λi hi z=> ?_];obtain ⟨j,_,e,_,F⟩:=lM.mp (S _ z)
  have:j=i:=by lia
  subst this;have:=of_decide_eq_true (mem_filter.mp hi).2;lia
 ·obtain ⟨i,_,rfl⟩:=mem_map.mp G;trivial
 ·rw [jC];unfold tg dA ua;rw [length_map,length_map]
theorem xB {hs:Hs}{n:Nat}{R:List ce}(h:MC hs.fl n R):∀(m t:Nat),JO hs @gY @gf
 |0,_=>trivial
 |m+1,t=>⟨xC h t,by rw [jC];exact xB h m (t+1)⟩
theorem FP {R:List ce}:∀(m t:Nat),TT R t++((d9 R t m).flatMap λds=>ds.flatMap cJ)=TT R (t+m)
 |0,t=>append_nil _
 |m+1,t=>by
  rw [d9,flatMap_cons,jC,<-append_assoc,show TT R t++tg R (t:Int)=TT R (t+1) from rfl,FP m (t+1),show t+1+m=t+(m+1) by lia]
theorem NZ {R:List ce}{m:Nat}:((d9 R 0 m).flatMap λds=>ds.flatMap cJ)=TT R m:=by
 have:=FP (R:=R) m 0;rw [show TT R 0=[] from rfl,nil_append,Nat.zero_add] at this;exact this
theorem gv.rows {hs:Hs}{wf:Wf}{k:List Int}(j:hs.ok)(F:∀fl li he up dn,gu li he up dn->wf fl li he up dn∈cf):∀ {dss:List @bw} {T:List Int} {S:MS} {Ms:List MS},gv hs wf k S dss Ms->Sr hs T S->JO hs T dss->∃Ls:List @bx,Ms.map MS.log=Ls.map @bd/\Ls.length=dss.length/\(∀L∈Ls,L.length<=4000)/\∀(i:Nat) L r,Ls[i]? =some L->r∈L->r.tag∈T++(dss.take (i+1)).flatMap λds=>ds.flatMap cJ
 |[],T,S,Ms,h,_,_=>by
  obtain rfl:Ms=[]:=h;exact ⟨[],rfl,rfl,(λL J=>by cases J),λi L r h=>by cases h⟩
 |ds::dss,T,S,Ms,⟨M,Ms',e,t,r⟩,R,D=>by
  subst e;obtain ⟨O,_,L,e1,e2,U⟩:=R.turn j D.1 F t;obtain ⟨Ls,h1,h2,I,W⟩:=gv.rows j F r O D.2;rwa[⟨L::Ls,by rw [map_cons,map_cons,e1,h1],by rw [length_cons,length_cons,h2],λX Y=> ?_,λi X q hi G=> ?_⟩]
  ·rcases mem_cons.mp Y with z|z
   ·rw [z];exact e2
   ·exact I X z
  ·cases i with
   |zero=>
    cases hi;rw [List.take_succ_cons,flatMap_cons,take_zero,flatMap_nil,append_nil];exact U q G
   |succ i=>
    rw [List.getElem?_cons_succ] at hi;rw [List.take_succ_cons,flatMap_cons,<-append_assoc];exact W i X q hi G
abbrev gP:Str:=s!"waits"
abbrev lY:Str:=s!"aboard"
theorem eU {n:Int}:∀ {L:List Rw} {f:Fr},(∀r∈L,r.isD=false->r.tag≠f.tag)->L.foldl (aW n) f=f
 |[],_,_=>rfl
 |r::L,f,h=>by
  have e:aW n f r=f:=by
   unfold aW;rw [if_neg (λz=>h r (.head _) z.1 z.2)]
  rw [foldl_cons,e];exact eU λq G=>h q (.tail _ G)
theorem bH {n:Int}{L:List Rw}{f:Fr}:(L.foldl (aW n) f).tag=f.tag/\(L.foldl (aW n) f).goal=f.goal/\(L.foldl (aW n) f).came=f.came:=by
 induction L generalizing f with
 |nil=>exact ⟨rfl,rfl,rfl⟩
 |cons r L ih=>
  rw [foldl_cons];exact ⟨ih.1.trans bg.1,ih.2.1.trans bg.2.1,ih.2.2.trans bg.2.2⟩
def MJ (n:Int)(F:List Fr)(A:List Rw):Rw->Prop
 | .deal _ _=>True
 | .note b t=>b=true/\∃f∈F,f.tag=t
 | .step true t _ _=>∃f∈F,f.tag=t/\(A.foldl (aW n) f).fate=gP
 | .step false t _ fl=>∃f∈F,f.tag=t/\f.goal=fl
def Qv (n:Int)(F:List Fr)(L:List Rw):Prop:=∀A r B,L=A++r::B->MJ n F A r
theorem Qv.app {n:Int}{F:List Fr}{L X:List Rw}(h:Qv n F L)(g:∀A r B,X=A++r::B->MJ n F (L++A) r):Qv n F (L++X):=λA r B e=>by
 rcases List.append_eq_append_iff.mp e with ⟨C,e1,e2⟩|⟨C,e1,e2⟩
 ·subst e1;exact g C r B e2
 ·cases C with
  |nil=>
   rw [append_nil] at e1;subst e1;have:=g [] r B e2.symm;rw [append_nil] at this;exact this
  |cons c C=>
   rw [cons_append] at e2;injection e2 with e3 e4;subst e3;exact h A r C e1
def cm (R:List ce)(t:Int):Int:=(R.getD t.toNat nv).came
def fQ (R:List ce)(n:Int)(W:List Int):Rw->List Int
 | .note true t=>W.set t.toNat 0
 | .step false t _ _=>W.set t.toNat (n - cm R t)
 |_=>W
structure Aq (R:List ce)(N:Int)(F:List Fr)(W:List Int):Prop where
 len:W.length=R.length
 f:∀f∈F,0<=f.tag/\f.tag<(R.length:Int)/\W.getD f.tag.toNat 0=fm N f/\f.came=cm R f.tag
 o:∀i:Nat,i<R.length->(i:Int)∉F.map (·.tag)->W.getD i 0=N - cm R (i:Int)
theorem zo {W:List Int}{i j:Nat}{v:Int}(h:i<W.length):(W.set i v).getD j 0=if i=j then v else W.getD j 0:=by
 rw [getD_eq_getElem?_getD,getD_eq_getElem?_getD,List.getElem?_set];by_cases e:i=j
 ·subst e;rw [if_pos rfl,if_pos rfl,if_pos h];rfl
 ·rw [if_neg e,if_neg e]
theorem Aq.row {R:List ce}{N n:Int}{F:List Fr}{W:List Int}(A:Aq R N F W){r:Rw}(g:MJ n F [] r)(hN:∀f∈F,∀f'∈F,f.tag=f'.tag->f=f'):Aq R N @cp @gH:=by
 have I:(F.map λf=>aW n f r).map (·.tag)=F.map (·.tag):=by
  rw [map_map];exact map_congr_left λf _=>bg.1
 have Y:∀(t v:Int),(∃f∈F,f.tag=t)->r.isD=false->r.tag=t->(∀f∈F,f.tag=t->fm N (aW n f r)=v)->fQ R n W r=W.set t.toNat v->Aq R N @cp @gH:=λt v j hd ht Z e=>by
  obtain ⟨G,ad,L⟩:=j;obtain ⟨b0,b1,_,_⟩:=A.f G ad;rw [L] at b0 b1
  have tl:t.toNat<W.length:=by rw [A.len];lia
  rw [e];rwa[⟨by rw [length_set];exact A.len,λf j=> ?_,λi hi O=> ?_⟩]
  ·obtain ⟨g,U,rfl⟩:=mem_map.mp j;obtain ⟨c0,c1,c2,S⟩:=A.f g U;rw [bg.1,bg.2.2];rwa[⟨c0,c1,?_,S⟩];rw [zo tl];by_cases z:t.toNat=g.tag.toNat
   ·rw [if_pos z,Z g U @b]
   ·rw [if_neg z,c2];unfold aW;rw [if_neg (λy=>z (by rw [<-y.2,ht]))]
  ·rw [I] at O;rw [zo tl,if_neg (λz=>O (by rw [<-z];exact mem_map.mpr ⟨G,ad,by lia⟩))];exact A.o i hi O
 have J:(∀f∈F,fm N (aW n f r)=fm N f)->fQ R n W r=W->Aq R N @cp @gH:=λZ e=>by
  rw [e];rwa[⟨A.len,λf j=> ?_,λi hi O=>A.o i hi (by rw [<-I];exact O)⟩];obtain ⟨g,U,rfl⟩:=mem_map.mp j;obtain ⟨c0,c1,c2,S⟩:=A.f g U;rw [bg.1,bg.2.2,Z g U];exact ⟨c0,c1,c2,S⟩
 cases r with
 |deal t i=>exact J (λf _=>by unfold aW;rw [if_neg (λy=>by cases y.1)]) rfl
 |note b t=>
  obtain ⟨rfl,j⟩:=g;rwa[Y t 0 j rfl rfl (λf _ e=> ?_) rfl];unfold aW;rw [if_pos ⟨rfl,e.symm⟩];unfold fm;rw [if_neg (by show ¬nW true=_;decide+kernel),if_neg (by show ¬(nW true=_\/nW true=_);decide+kernel)]
 |step b t i fl=>
  cases b with
  |true=>
   obtain ⟨G,ad,L,w0⟩:=g;rwa[J (λf j=> ?_) rfl];unfold aW;by_cases z:f.tag=t
   ·have:f=G:=hN f j G ad (z.trans L.symm);subst this;have w0:f.fate=gP:=w0;rw [if_pos ⟨rfl,z.symm⟩];unfold fm;rw [w0];rw [if_neg (by show ¬lY=_;decide+kernel),if_pos (.inr rfl),if_neg @g,if_pos (.inl rfl)]
   ·rw [if_neg (λy=>z y.2.symm)]
  |false=>
   obtain ⟨G,ad,L,g0⟩:=g;rwa[Y t (n - cm R t) ⟨G,ad,L⟩ rfl rfl (λf j e=> ?_) rfl];have:f=G:=hN f j G ad (e.trans L.symm);subst this;obtain ⟨_,_,_,S⟩:=A.f f j;unfold aW;rw [if_pos ⟨rfl,e.symm⟩]
   have ef:CY f.goal (.step false t i fl)=s!"out":=by show (if fl=f.goal then _ else _)=_;rw [if_pos g0.symm]
   unfold fm;rw [if_pos ef,<-e,<-S]
theorem Aq.rows {R:List ce}{N n:Int}:∀ {L:List Rw} {F:List Fr} {W:List Int},Aq R N F W->Qv n F L->(∀f∈F,∀f'∈F,f.tag=f'.tag->f=f')->Aq R N (F.map λf=>L.foldl (aW n) f) (L.foldl (fQ R n) W)
 |[],F,W,A,_,_=>by
  have:(F.map λf=>([]:List Rw).foldl (aW n) f)=F:=List.map_id _;rw [this];exact A
 |r::L,F,W,A,g,hN=>by
  have h:=Aq.rows (n:=n) (L:=L) (A.row (g [] r L rfl) hN) (λU q B e=> ?_) (λf j f' G e=> ?_)
  ·rw [map_map] at h;exact h
  ·have z:=g (r::U) q B (by rw [e];rfl)
   cases q with
   |deal t i=>trivial
   |note b t=>
    obtain ⟨J,f,j,e⟩:=z;exact ⟨J,_,mem_map_of_mem j,bg.1.trans e⟩
   |step b t i fl=>
    cases b with
    |true=>
     obtain ⟨f,j,e,e2⟩:=z;exact ⟨_,mem_map_of_mem j,bg.1.trans e,e2⟩
    |false=>
     obtain ⟨f,j,e,e2⟩:=z;exact ⟨_,mem_map_of_mem j,bg.1.trans e,bg.2.1.trans e2⟩
  ·obtain ⟨a,I,rfl⟩:=mem_map.mp j;obtain ⟨b,O,rfl⟩:=mem_map.mp G;rw [bg.1,bg.1] at e;rw [hN a I b O e]
def qP (cs:List Cb):List Int:=cs.flatMap λc=>c.ps.map (·.1)
def occ (M:MS)(t:Int):Nat:=(M.ws.map (·.tag)).count t+(qP M.cs).count t
theorem xN {cs:List Cb}{i:Nat}{c c':Cb}{t:Int}(h:cs[i]? =some c):(qP (cs.set i c')).count t+(c.ps.map (·.1)).count t=(qP cs).count t+(c'.ps.map (·.1)).count t:=by
 induction cs generalizing i with
 |nil=>cases h
 |cons d cs ih=>
  cases i with
  |zero=>
   cases h;show ((c'.ps.map (·.1))++qP cs).count t+_=((c.ps.map (·.1))++qP cs).count t+_;rw [List.count_append,List.count_append];lia
  |succ i=>
   have:=ih (i:=i) h;show ((d.ps.map (·.1))++qP (cs.set i c')).count t+_=((d.ps.map (·.1))++qP cs).count t+_;rw [List.count_append,List.count_append];lia
theorem Qj {cs:List Cb}{t:Int}(h:t∈qP cs):∃c∈cs,∃p∈c.ps,p.1=t:=by
 obtain ⟨c,J,z⟩:=mem_flatMap.mp h;obtain ⟨p,G,e⟩:=mem_map.mp z;exact ⟨c,J,p,G,e⟩
structure Lv (n:Int)(F:List Fr)(M:MS)(L:List Rw):Prop where
 log:M.log=L.map Rw.d
 gr:Qv n F L
 w:∀r∈M.ws,∃f∈F,f.tag=r.tag/\(L.foldl (aW n) f).fate=gP/\f.goal=r.goal
 c:∀c∈M.cs,∀p∈c.ps,∃f∈F,f.tag=p.1/\(L.foldl (aW n) f).fate=lY/\f.goal=p.2
 u:∀t,occ M t<=1
theorem gG {xs:List Int}{t:Int}(h:t∈xs):1<=xs.count t:=List.count_pos_iff.mpr h
theorem M4 {M:MS}{r:bo}(h:r∈M.ws):1<=(M.ws.map (·.tag)).count r.tag:=gG (mem_map_of_mem h)
theorem Sf {M:MS}{c:Cb}{p:Int×Int}(h:c∈M.cs)(G:p∈c.ps):1<=(qP M.cs).count p.1:=gG (mem_flatMap.mpr ⟨c,h,mem_map_of_mem G⟩)
theorem Lv.more {n:Int}{F:List Fr}{M M':MS}{L X:List Rw}(v:Lv n F M L)(W:M'.log=M.log++X.map Rw.d)(G:∀A r B,X=A++r::B->MJ n F (L++A) r)
(z:∀r∈M'.ws,∃f∈F,f.tag=r.tag/\((L++X).foldl (aW n) f).fate=gP/\f.goal=r.goal)(J:∀c∈M'.cs,∀p∈c.ps,∃f∈F,f.tag=p.1/\((L++X).foldl (aW n) f).fate=lY/\f.goal=p.2)(j:∀t,occ M' t<=1):Lv n F M' (L++X):=
 ⟨by rw [W,v.log,map_append],v.gr.app G,z,J,j⟩
theorem Lv.deal {n:Int}{F:List Fr}{M:MS}{L:List Rw}(v:Lv n F M L){dl:uH}{p:Nat}{r:bo}(U:M.ws[p]? =some r):∃L',Lv n F @gm L':=by
 unfold fq;split
 ·exact ⟨L,v.log,v.gr,v.w,v.c,v.u⟩
 ·rename_i z
  have J:∀f:Fr,((L++[Rw.deal r.tag (dl M.cs M.ws r M.last).1]).foldl (aW n) f)=L.foldl (aW n) f:=λf=>by
   rw [foldl_append]
   exact eU λq j O=>by rw [mem_singleton.mp j] at O;cases O
  rwa[⟨L++[Rw.deal r.tag (dl M.cs M.ws r M.last).1],v.more rfl (λA q B e=> ?_) (λq j=> ?_) (λc R q j=> ?_) (λt=> ?_)⟩]
  ·cases A with
   |nil=>injection e with e1 e2;subst e1;trivial
   |cons a A=>injection e with e1 e2;cases A<;>cases e2
  ·rcases mem_set j with y|y
   ·obtain ⟨f,h1,h2,G,I⟩:=v.w q y;exact ⟨f,h1,h2,by rw [J];exact G,I⟩
   ·obtain ⟨f,h1,h2,G,I⟩:=v.w r (mem_of_getElem? U);rw [y];exact ⟨f,h1,h2,by rw [J];exact G,I⟩
  ·obtain ⟨f,h1,h2,G,I⟩:=v.c c R q j;exact ⟨f,h1,h2,by rw [J];exact G,I⟩
  ·have e:(M.ws.set p {r with lift:=(dl M.cs M.ws r M.last).1}).map (·.tag)=M.ws.map (·.tag):=by
    rw [map_set];exact yE (by rw [getElem?_map,U];rfl)
   have:=v.u t;unfold occ at this ⊢;show ((M.ws.set p {r with lift:=(dl M.cs M.ws r M.last).1}).map (·.tag)).count t+_<=1;rw [e];exact this
theorem zK {dl:uH}{M:MS}:∀ {i p:Nat},i<=p->(aR dl M.ws i M).ws[p]? =M.ws[p]?
 |0,_,_=>rfl
 |i+1,p,h=>by
  have j:=zK (dl:=dl) (M:=M) (i:=i) (p:=p) @b;unfold aR;split
  ·split
   ·unfold fq;split
    ·exact j
    ·show ((aR dl M.ws i M).ws.set i _)[p]? =_;rw [getElem?_set_ne @b];exact j
   ·exact j
  ·exact j
theorem Lv.deals {n:Int}{F:List Fr}{M:MS}{L:List Rw}(v:Lv n F M L){dl:uH}:∀i,∃L',Lv n F @fz L'
 |0=>⟨L,v⟩
 |i+1=>by
  obtain ⟨L',j⟩:=Lv.deals v (dl:=dl) i;unfold aR;split
  ·rename_i r U;split
   ·exact j.deal ((zK @f).trans U)
   ·exact ⟨L',j⟩
  ·exact ⟨L',j⟩
theorem M5 {xs:List Int}(h:∀t,xs.count t<=1):xs.Nodup:=List.nodup_iff_count.mpr h
theorem LS {ps:List (Int×Int)}(h:(ps.map (·.1)).Nodup){p q:Int×Int}(G:p∈ps)(z:q∈ps)(e:p.1=q.1):p=q:=by
 induction ps with
 |nil=>cases G
 |cons x ps ih=>
  rw [map_cons,nodup_cons] at h
  rcases mem_cons.mp G with rfl|aC<;>rcases mem_cons.mp z with rfl|j
  ·rfl
  ·exact absurd (mem_map.mpr ⟨q,j,e.symm⟩) h.1
  ·exact absurd (mem_map.mpr ⟨p,aC,e⟩) h.1
  ·exact ih h.2 aC j
theorem Qi {cs:List Cb}{i j:Nat}{c d:Cb}{t:Int}(hi:cs[i]? =some c)(R:cs[j]? =some d)(I:i≠j)(h1:t∈c.ps.map (·.1))(h2:t∈d.ps.map (·.1)):2<=(qP cs).count t:=by
 have e:=xN (c':=⟨0,0,0,0,[]⟩) (t:=t) hi;have m:t∈qP (cs.set i ⟨0,0,0,0,[]⟩):=mem_flatMap.mpr ⟨d,mem_of_getElem? (by rw [getElem?_set_ne I];exact R),h2⟩;have:=gG m;have:=gG h1;have z:((⟨0,0,0,0,[]⟩:Cb).ps.map (·.1)).count t=0:=rfl;rw [z] at e;lia
theorem Hg {pl:Int}{ps:List (Int×Int)}{t:Int}(h:t∈cX pl ps):∃p∈ps,2*p.2=pl/\p.1=t:=by
 obtain ⟨p,G,e⟩:=mem_map.mp h;have:=mem_filter.mp G;exact ⟨p,this.1,of_decide_eq_true this.2,e⟩
theorem LV {n:Int}{f:Fr}{t i fl:Int}(h:f.tag=t):aW n f (.step true t i fl)= {f with fate:=lY,at_:=n}:=by
 unfold aW;rw [if_pos ⟨rfl,h.symm⟩];rfl
theorem Lv.exch {n:Int}{F:List Fr}{M:MS}{L:List Rw}(v:Lv n F M L){hs:Hs}{i:Int}{c:Cb}{l:Lf}(hc:atC M i c)(ev:c.pl% 2=0):∃L',Lv n F (qe hs M i c l @ba) L':=by
 obtain ⟨Y,g0,g1,g2⟩:=rj (so:=hs.so) (room:=l.rm) (pl:=c.pl) @ba ⟨c.li,dP c.pl c.ps,[]⟩;have g1:(c5 hs c l @ba).ins=Y.map (·.tag):=g1;have g2:(c5 hs c l @ba).kept=dP c.pl c.ps++Y.map λr=>(r.tag,r.goal):=g2;have cm:c∈M.cs:=mem_of_getElem? hc.2;have W:∀r∈Y,r∈M.ws:=λr U=>(mem_filter.mp (g0.subset U)).1;have aa:(Y.map (·.tag)).Sublist (M.ws.map (·.tag)):=(g0.trans List.filter_sublist).map _
 have ag:(M.ws.map (·.tag)).Nodup:=M5 λt=>by have:=v.u t;unfold occ at this;lia
 have ad:(Y.map (·.tag)).Nodup:=ag.sublist aa
 have aj:∀t,(c.ps.map (·.1)).count t<=(qP M.cs).count t:=λt=>by
  have e:=xN (c':=⟨0,0,0,0,[]⟩) (t:=t) hc.2;have z:((⟨0,0,0,0,[]⟩:Cb).ps.map (·.1)).count t=0:=rfl;rw [z] at e;lia
 have af:(c.ps.map (·.1)).Nodup:=M5 λt=>by have:=v.u t;have:=aj t;unfold occ at this;unfold occ at *;lia
 have S:∀r∈M.ws,r.tag∉qP M.cs:=λr U z=>by
  have:=v.u r.tag;have:=M4 U;have:=gG z;unfold occ at *;lia
 have ac:∀ {d:Cb} {p:Int×Int},d∈M.cs->p∈d.ps->p.1∈qP M.cs:=λG R=>mem_flatMap.mpr ⟨_,G,mem_map_of_mem R⟩;generalize hO:(cX c.pl c.ps).map (λt=>Rw.step false t i (c.pl / 2))=O
 have oT:∀r∈O,∃p∈c.ps,2*p.2=c.pl/\r= .step false p.1 i (c.pl / 2):=λr U=>by
  rw [<-hO] at U;obtain ⟨t,ht,rfl⟩:=mem_map.mp U;obtain ⟨p,R,e,rfl⟩:=Hg ht;exact ⟨p,R,e,rfl⟩
 have oN:∀ {q:bo},q∈M.ws->∀r∈O,r.isD=false->r.tag≠q.tag:=λ{q} J r U _ e=>by
  obtain ⟨p,R,_,rfl⟩:=oT r U;exact S q J (e▸ac cm R)
 have iN:∀ {ks:List bo} {t:Int},t∉ks.map (·.tag)->∀r∈ks.map (λq=>Rw.step true q.tag i (c.pl / 2)),r.isD=false->r.tag≠t:=λ{ks t} ht r U _ e=>by
  obtain ⟨q,J,rfl⟩:=mem_map.mp U;exact ht (mem_map.mpr ⟨q,J,e⟩)
 rwa[⟨L++(O++Y.map λq=>Rw.step true q.tag i (c.pl / 2)),v.more ?_ (λA r B e=> ?_) (λr U=> ?_) (λd G p R=> ?_) (λt=> ?_)⟩]
 ·show (M.log++_)++_=_;rw [g1,<-hO,map_append,append_assoc,map_map,map_map,map_map];rfl
 ·have rm:r∈O++Y.map λq=>Rw.step true q.tag i (c.pl / 2):=by rw [e];exact mem_append_right _ (.head _)
  rcases mem_append.mp rm with U|U
  ·obtain ⟨p,R,e2,rfl⟩:=oT r U;obtain ⟨f,h1,h2,_,h4⟩:=v.c c cm p R;exact ⟨f,h1,h2,by rw [h4];lia⟩
  ·obtain ⟨q,J,rfl⟩:=mem_map.mp U;obtain ⟨f,h1,h2,h3,_⟩:=v.w q @fV;rwa[⟨f,h1,h2,?_⟩];rw [foldl_append]
   have tn:∀x∈A,x.isD=false->x.tag≠f.tag:=by
    rcases List.append_eq_append_iff.mp e with ⟨C,e1,e2⟩|⟨C,e1,e2⟩
    ·subst e1;have e2:Y.map (λq=>Rw.step true q.tag i (c.pl / 2))=C++Rw.step true q.tag i (c.pl / 2)::B:=e2;intro x I G
     rcases mem_append.mp I with z|z
     ·rw [h2];exact oN @fV x z G
     ·rw [h2];have e3:=congrArg (List.map Rw.tag) e2;rw [map_map,map_append,map_cons] at e3;have e3:Y.map (·.tag)=C.map Rw.tag++q.tag::B.map Rw.tag:=e3;rw [e3,nodup_append] at ad;exact ad.2.2 _ (mem_map_of_mem z) _ (.head _)
    ·cases C with
     |nil=>
      rw [append_nil] at e1;intro x I G;rw [<-e1] at I;rw [h2];exact oN @fV x I G
     |cons y C=>
      rw [cons_append] at e2;injection e2 with e3 e4
      have:Rw.step true q.tag i (c.pl / 2)∈O:=by rw [e1,e3];exact mem_append_right _ (.head _)
      obtain ⟨p,_,_,z⟩:=oT _ this;cases z
   rw [eU (f:=L.foldl (aW n) f) λx I G=>by rw [bH.1];exact tn x I G];exact h3
 ·have ah:=mem_filter.mp (show r∈M.ws.filter _ from U)
  have ai:r.tag∉Y.map (·.tag):=by
   have:=ah.2;rw [g1] at this;simpa using this
  obtain ⟨f,h1,h2,h3,h4⟩:=v.w r ah.1;rwa[⟨f,h1,h2,?_,h4⟩];rw [foldl_append,eU (f:=L.foldl (aW n) f) λx I G=> ?_]
  ·exact h3
  ·rw [bH.1,h2]
   rcases mem_append.mp I with z|z
   ·exact oN ah.1 x z G
   ·exact iN ai x z G
 ·obtain ⟨j,hj,ej⟩:=List.getElem_of_mem (show d∈M.cs.set i.toNat _ from G);have Z:=(getElem?_eq_getElem hj).trans (congrArg some ej);by_cases z:i.toNat=j
  ·subst z
   have il:i.toNat<M.cs.length:=by rw [length_set] at hj;exact hj
   rw [getElem?_set_self il] at Z;cases Z;have R:p∈(c5 hs c l @ba).kept:=R;rw [g2] at R
   rcases mem_append.mp R with y|y
   ·have y':=mem_filter.mp y;obtain ⟨f,h1,h2,h3,h4⟩:=v.c c cm p y'.1;rwa[⟨f,h1,h2,?_,h4⟩];rw [foldl_append,eU (f:=L.foldl (aW n) f) λx I G=> ?_]
    ·exact h3
    ·rw [bH.1,h2]
     rcases mem_append.mp I with u|u
     ·obtain ⟨p',aC,e2,rfl⟩:=oT x u;intro e;have:=LS af aC y'.1 e;subst this;have:=y'.2;rw [decide_eq_true e2] at this;cases this
     ·obtain ⟨q,J,rfl⟩:=mem_map.mp u;intro e;exact S q @fV (by rw [show q.tag=p.1 from e];exact ac cm y'.1)
   ·obtain ⟨q,J,rfl⟩:=mem_map.mp y;obtain ⟨f,h1,h2,h3,h4⟩:=v.w q @fV;obtain ⟨A,B,ae⟩:=List.append_of_mem J;rwa[⟨f,h1,h2,?_,h4⟩];have nd:=ad;rw [ae,map_append,map_cons,nodup_append] at nd;have nA:q.tag∉A.map (·.tag):=λu=>nd.2.2 _ u _ (.head _) rfl;have nB:q.tag∉B.map (·.tag):=(nodup_cons.mp nd.2.1).1;rw [ae,map_append,map_cons,foldl_append,foldl_append,foldl_append,foldl_cons]
    have f1:(O.foldl (aW n) @gJ)=L.foldl (aW n) f:=eU λx I G=>by rw [bH.1,h2];exact oN @fV x I G
    have f2:((A.map λq=>Rw.step true q.tag i (c.pl / 2)).foldl (aW n) @gJ)=L.foldl (aW n) f:=eU λx I G=>by rw [bH.1,h2];exact iN nA x I G
    rw [f1,f2];rw [LV (bH.1.trans h2),eU λx I G=> ?_];show x.tag≠(L.foldl (aW n) f).tag;rw [bH.1,h2];exact iN nB x I G
  ·rw [getElem?_set_ne z] at Z;have dm:=mem_of_getElem? Z;obtain ⟨f,h1,h2,h3,h4⟩:=v.c d dm p R;rwa[⟨f,h1,h2,?_,h4⟩];rw [foldl_append,eU (f:=L.foldl (aW n) f) λx I G=> ?_]
   ·exact h3
   ·rw [bH.1,h2]
    rcases mem_append.mp I with u|u
    ·obtain ⟨p',aC,_,rfl⟩:=oT x u;intro e;have:=Qi hc.2 Z z (t:=p.1) (mem_map.mpr ⟨p',aC,e⟩) (mem_map_of_mem R);have:=v.u p.1;unfold occ at this;lia
    ·obtain ⟨q,J,rfl⟩:=mem_map.mp u;intro e;exact S q @fV (by rw [show q.tag=p.1 from e];exact ac dm R)
 ·have u:=v.u t;unfold occ at u ⊢;show ((M.ws.filter λr=> !decide (r.tag∈(c5 hs c l @ba).ins)).map (·.tag)).count t+(qP (M.cs.set i.toNat _)).count t<=1;have e:=xN (c':=⟨c.pl,(c5 hs c l @ba).light,ir l.kd l.tn c.dr (M.bl.testBit i.toNat) (decide (((cX c.pl c.ps).length:Int)+((c5 hs c l @ba).ins.length:Int)>0)),c.mr,(c5 hs c l @ba).kept⟩) (t:=t) hc.2
  have k1:((c5 hs c l @ba).kept.map (·.1)).count t=((dP c.pl c.ps).map (·.1)).count t+(Y.map (·.tag)).count t:=by
   rw [g2,map_append,List.count_append,map_map];rfl
  have k2:((dP c.pl c.ps).map (·.1)).count t<=(c.ps.map (·.1)).count t:=(List.filter_sublist.map _).count_le _;have k3:(Y.map (·.tag)).count t<=(M.ws.map (·.tag)).count t:=aa.count_le _;have e:(qP (M.cs.set i.toNat _)).count t+_=(qP M.cs).count t+((c5 hs c l @ba).kept.map (·.1)).count t:=e;rw [k1] at e;by_cases z:t∈Y.map (·.tag)
  ·have w0:((M.ws.filter λr=> !decide (r.tag∈(c5 hs c l @ba).ins)).map (·.tag)).count t=0:=by
    rwa[List.count_eq_zero.mpr λy=> ?_];obtain ⟨r,U,er⟩:=mem_map.mp y;have:=(mem_filter.mp U).2;rw [g1,er,decide_eq_true z] at this;cases this
   lia
  ·have j0:(Y.map (·.tag)).count t=0:=List.count_eq_zero.mpr z;have w1:((M.ws.filter λr=> !decide (r.tag∈(c5 hs c l @ba).ins)).map (·.tag)).count t<=(M.ws.map (·.tag)).count t:=(List.filter_sublist.map _).count_le _;lia
theorem Lv.put {n:Int}{F:List Fr}{M:MS}{L:List Rw}(v:Lv n F M L){i:Int}{c c':Cb}(J:atC M i c)(e:c'.ps=c.ps):Lv n F (iG M i c') L:=by
 rwa[⟨v.log,v.gr,v.w,λd j p G=> ?_,λt=> ?_⟩]
 ·rcases mem_set (show d∈M.cs.set i.toNat c' from j) with z|z
  ·exact v.c d z p G
  ·rw [z,e] at G;exact v.c c (mem_of_getElem? J.2) p G
 ·have:=v.u t;have h:=xN (c':=c') (t:=t) J.2;rw [e] at h;unfold occ at this ⊢;show _+(qP (M.cs.set i.toNat c')).count t<=1;show (M.ws.map (·.tag)).count t+_<=1;lia
theorem Lv.go {n:Int}{F:List Fr}{M M':MS}{L:List Rw}(v:Lv n F M L){hs:Hs}{wf:Wf}{i:Int}{c:Cb}{l:Lf}(J:atC M i c)(W:nj hs.fl c)(h:JT hs wf M i c l M'):∃L',Lv n F M' L':=by
 rcases h with ⟨_,rfl⟩|⟨_,_,rfl⟩|⟨_,_,G⟩
 ·exact ⟨L,v⟩
 ·exact ⟨L,v⟩
 ·unfold Ap at G;split at G
  ·rename_i z;subst G;exact v.exch J (W.ev z)
  ·split at G
   ·subst G;exact ⟨L,v.put J rfl⟩
   ·obtain ⟨R,u,d,e,j,I,rfl⟩:=G;exact ⟨L,v.put J rfl⟩
theorem Lv.goN {t:Int}{F:List Fr}{M:MS}{L:List Rw}(v:Lv t F M L){hs:Hs}{wf:Wf}(W:∀n M',vP hs wf n M M'->∀c∈M'.cs,nj hs.fl c):∀ {n:Nat} {M':MS},vP hs wf n M M'->∃L',Lv t F M' L'
 |0,M',h=>by
  obtain rfl:M'=M:=h;exact ⟨L,v⟩
 |n+1,M',⟨M1,c,l,h1,h2,h3,h4⟩=>by
  obtain ⟨O,j⟩:=Lv.goN v W h1;exact j.go h2 (W n M1 h1 c (mem_of_getElem? h2.2)) h4
theorem Lv.come {n:Int}{F:List Fr}{M:MS}{L:List Rw}(v:Lv n F M L)(G:M.fire=false){lo:Nat}{t s g:Int}{k:Bool}(h1:∃f∈F,f.tag=t/\(L.foldl (aW n) f).fate=gP/\f.goal=g)(h2:occ M t=0):∃L',Lv n F @fk L'/\(∀f∈F,f.tag≠t->L'.foldl (aW n) f=L.foldl (aW n) f)/\(∀t',t'≠t->occ @fk t'=occ M t')/\(fb lo M t s g k).fire=false:=by
 unfold fb
 have j:∀r∈M.ws,r.tag≠t:=λr U e=>by
  have:=M4 U;rw [e] at this;unfold occ at h2;lia
 have I:∀c∈M.cs,∀p∈c.ps,p.1≠t:=λc O p J e=>by
  have:=Sf O J;rw [e] at this;unfold occ at h2;lia
 split
 ·have S:∀f:Fr,f.tag≠t->((L++[Rw.note true t]).foldl (aW n) f)=L.foldl (aW n) f:=λf G=>by
   rw [foldl_append]
   exact eU λq W Y=>by rw [mem_singleton.mp W,bH.1];exact λe=>G e.symm
  rwa[⟨L++[Rw.note true t],v.more rfl (λA q B e=> ?_) (λr U=> ?_) (λc O p J=> ?_) v.u,λf _ h=>S f h,@bl,G⟩]
  ·cases A with
   |nil=>injection e with e1 e2;subst e1;obtain ⟨f,a,b,_⟩:=h1;exact ⟨rfl,f,a,b⟩
   |cons a A=>injection e with e1 e2;cases A<;>cases e2
  ·obtain ⟨f,a,b,c,d⟩:=v.w r U;exact ⟨f,a,b,by rw [S f (by rw [b];exact j r U)];exact c,d⟩
  ·obtain ⟨f,a,b,c,d⟩:=v.c c O p J;exact ⟨f,a,b,by rw [S f (by rw [b];exact I _ O p J)];exact c,d⟩
 ·rw [if_neg (by rw [G];decide)];rwa[⟨L,⟨v.log,v.gr,λr U=> ?_,v.c,λt'=> ?_⟩,(λ_ _ _=>rfl),λt' R=> ?_,G⟩]
  ·rcases mem_append.mp (show r∈M.ws++[_] from U) with z|z
   ·exact v.w r z
   ·rw [mem_singleton.mp z];exact h1
  ·have:=v.u t';unfold occ at this h2 ⊢;show ((M.ws++[(⟨t,s,g,-1⟩:bo)]).map (·.tag)).count t'+(qP M.cs).count t'<=1;rw [map_append,List.count_append];by_cases e:t'=t
   ·subst e
    have:(([(⟨t',s,g,-1⟩:bo)]).map (·.tag)).count t'=1:=by simp
    lia
   ·have:(([(⟨t,s,g,-1⟩:bo)]).map (·.tag)).count t'=0:=List.count_eq_zero.mpr λz=>e (mem_singleton.mp z);lia
  ·unfold occ;show ((M.ws++[(⟨t,s,g,-1⟩:bo)]).map (·.tag)).count t'+(qP M.cs).count t'=_;rw [map_append,List.count_append];have:(([(⟨t,s,g,-1⟩:bo)]).map (·.tag)).count t'=0:=List.count_eq_zero.mpr λz=>R (mem_singleton.mp z);lia
def U2 (n:Int)(F:List Fr)(M:MS)(L:List Rw)(d:Dd):Prop:=∃t s g k,d= .come t s g k/\(∃f∈F,f.tag=t/\(L.foldl (aW n) f).fate=gP/\f.goal=g)/\occ M t=0
theorem Lv.deeds {n:Int}{F:List Fr}{lo:Nat}:∀ {ds:List Dd} {M:MS} {L:List Rw},Lv n F M L->M.fire=false->(∀d∈ds,U2 n F M L d)->(ds.flatMap cJ).Nodup->∃L',Lv n F @hn L'
 |[],M,L,v,_,_,_=>⟨L,v⟩
 |d::ds,M,L,v,hf,hp,nd=>by
  obtain ⟨t,s,g,k,rfl,h1,h2⟩:=hp d (.head _);obtain ⟨U,O,k1,k2,k3⟩:=v.come (lo:=lo) (s:=s) (k:=k) hf h1 h2;rw [flatMap_cons] at nd;have aP:t∉ds.flatMap cJ/\(ds.flatMap cJ).Nodup:=nodup_cons.mp nd;rwa[Lv.deeds (ds:=ds) (M:=fb lo M t s g k) O k3 (λe S=> ?_) aP.2];obtain ⟨G,s',R,J,rfl,⟨f,a,b,c,d⟩,j⟩:=hp e (.tail _ S);have I:G≠t:=λz=>aP.1 (mem_flatMap.mpr ⟨_,S,by rw [z];exact .head _⟩);exact ⟨G,s',R,J,rfl,⟨f,a,b,by rw [k1 f a (by rw [b];exact I)];exact c,d⟩,by rw [k2 G I];exact j⟩
structure JF (F:List Fr)(S:MS):Prop where
 w:∀r∈S.ws,∃f∈F,f.tag=r.tag/\f.fate=gP/\f.goal=r.goal
 c:∀c∈S.cs,∀p∈c.ps,∃f∈F,f.tag=p.1/\f.fate=lY/\f.goal=p.2
 u:∀t,occ S t<=1
theorem zv {R:List ce}{t:Int}:b8 t (dA R t)=((List.range R.length).filter λi=>decide ((R.getD i nv).came=t)).map λi:Nat=>(⟨(i:Int),t,gP,t,(R.getD i nv).goal⟩:Fr):=by
 unfold dA ua;generalize (List.range R.length).filter (λi=>decide ((R.getD i nv).came=t))=j
 induction j with
 |nil=>rfl
 |cons i j ih=>rw [map_cons,map_cons];exact congrArg _ ih
theorem JF.turn {hs:Hs}{wf:Wf}{k:List Int}{R:List ce}{t n:Nat}{F:List Fr}{S M':MS}(Z:JF F S)(ho:hs.ok)(hw:∀fl li he up dn,gu li he up dn->wf fl li he up dn∈cf)(U:Sr hs @gY S)(rk:MC hs.fl n R)(G:m8 hs wf k S (dA R (t:Int)) M'):∃L,M'.log=L.map Rw.d/\Qv (t:Int) (F++b8 (t:Int) (dA R (t:Int))) L/\JF (zA (t:Int) F (dA R (t:Int)) L) M':=by
 have D:=xC rk t;have v0:Lv (t:Int) (F++b8 (t:Int) (dA R (t:Int))) S.st []:=⟨rfl,(λA r B e=>by cases A<;>cases e),(λr hr=>by obtain ⟨f,a,b⟩:=Z.w r hr;exact ⟨f,mem_append_left _ a,b⟩),(λc hc p hp=>by obtain ⟨f,a,b⟩:=Z.c c hc p hp;exact ⟨f,mem_append_left _ a,b⟩),Z.u⟩
 have O:∀d∈dA R (t:Int),U2 (t:Int) (F++b8 (t:Int) (dA R (t:Int))) S.st [] d:=λd Y=>by
  obtain ⟨i,hi,rfl⟩:=mem_map.mp Y;rwa[⟨(i:Int),_,_,_,rfl,⟨_,mem_append_right _ (by rw [zv];exact mem_map.mpr ⟨i,hi,rfl⟩),rfl,rfl,rfl⟩,?_⟩]
  have ni:(i:Int)∉eE S.cs S.ws:=λz=>by
   obtain ⟨j,_,e,_,h4⟩:=lM.mp (U.tg _ z)
   have:j=i:=by lia
   subst this;have:=of_decide_eq_true (mem_filter.mp hi).2;lia
  unfold occ;have a:(S.ws.map (·.tag)).count (i:Int)=0:=List.count_eq_zero.mpr λz=>ni (mem_append_left _ z);have b:(qP S.cs).count (i:Int)=0:=List.count_eq_zero.mpr λz=>ni (mem_append_right _ z);show (S.ws.map (·.tag)).count (i:Int)+(qP S.cs).count (i:Int)=0;lia
 obtain ⟨L1,v1⟩:=Lv.deeds (lo:=hs.lo) v0 rfl O (by rw [jC];exact MT);obtain ⟨L2,v2⟩:=v1.deals (dl:=B2 k) (aB hs.lo S.st (dA R (t:Int))).ws.length;have aa:=tM (D.gd @ga U.tg);have W:=U.mok.deeds (ds:=dA R (t:Int)) (λd Y=>⟨D.ok d Y,aa d Y⟩) (dA R (t:Int)).length;rw [take_of_length_le @f] at W;have I:=W.deals (dl:=B2 k) W.ws (aB hs.lo S.st (dA R (t:Int))).ws.length;have f2:(aR (B2 k) (aB hs.lo S.st (dA R (t:Int))).ws (aB hs.lo S.st (dA R (t:Int))).ws.length (aB hs.lo S.st (dA R (t:Int)))).fire=false:=(gf _).trans ge
 have ac:(aR (B2 k) (aB hs.lo S.st (dA R (t:Int))).ws (aB hs.lo S.st (dA R (t:Int))).ws.length (aB hs.lo S.st (dA R (t:Int)))).ws.length<=64:=by
  rw [(eJ _).1];have:=W.sum;have:=D.len;have:=U.w;lia
 obtain ⟨L3,J⟩:=v2.goN (hs:=hs) (wf:=wf) (λm M1 g=>(vP.ok ho hw f2 I.cs I.ws ac g).2.2.1) G;rwa[⟨L3,J.log,J.gr,λr hr=> ?_,λc hc p hp=> ?_,J.u⟩]
 ·obtain ⟨f,a,b,c,d⟩:=J.w r hr;exact ⟨_,mem_map_of_mem a,bH.1.trans b,c,bH.2.1.trans d⟩
 ·obtain ⟨f,a,b,c,d⟩:=J.c c hc p hp;exact ⟨_,mem_map_of_mem a,bH.1.trans b,c,bH.2.1.trans d⟩
def Qw:Nat->List Fr->List @bw->List @bx->List Fr
 |t,F,ds::dss,L::Ls=>Qw (t+1) (zA (t:Int) F ds L) dss Ls
 |_,F,_,_=>F
def Df (R:List ce):Nat->List Int->List @bx->List Int
 |_,W,[]=>W
 |t,W,L::Ls=>Df R (t+1) (L.foldl (fQ R (t:Int)) W) Ls
theorem Ac {R:List ce}{L:List Rw}:∀ {Ls:List @bx} {t:Nat} {W:List Int},Df R t W (Ls++[L])=L.foldl (fQ R ((t+Ls.length:Nat):Int)) @hl
 |[],t,W=>rfl
 |X::Ls,t,W=>by
  rw [cons_append,Df,Ac,Df,length_cons,show t+1+Ls.length=t+(Ls.length+1) by lia]
theorem JN {dss:List @bw}{Ls:List @bx}(e:Ls.length=dss.length):∀(m i:Nat),i+m=dss.length->Qw i @gq (dss.drop i) (Ls.drop i)=FF dss Ls dss.length
 |0,i,h=>by
  rw [show i=dss.length by lia,drop_length,Qw];rintro a b c d h1;cases h1
 |m+1,i,h=>by
  have j:i<dss.length:=by lia
  have z:i<Ls.length:=by lia
  rw [drop_eq_getElem_cons j,drop_eq_getElem_cons z,Qw,<-JN e m (i+1) @b];congr 1;show _=zA (i:Int) @gq (dss.getD i []) (Ls.getD i []);rw [getD_eq_getElem?_getD,getD_eq_getElem?_getD,getElem?_eq_getElem j,getElem?_eq_getElem z];rfl
theorem P1 {F:List Fr}(h:(F.map (·.tag)).Nodup):∀f∈F,∀f'∈F,f.tag=f'.tag->f=f':=by
 induction F with
 |nil=>intro f z;cases z
 |cons x F ih=>
  rw [map_cons,nodup_cons] at h;intro f z g S e
  rcases mem_cons.mp z with rfl|j<;>rcases mem_cons.mp S with rfl|aa
  ·rfl
  ·exact absurd (mem_map.mpr ⟨g,aa,e.symm⟩) h.1
  ·exact absurd (mem_map.mpr ⟨f,j,e⟩) h.1
  ·exact ih h.2 f j g aa e
theorem Aq.new {R:List ce}{N:Int}{F:List Fr}{W:List Int}{t:Nat}(A:Aq R N F W)(e:F.map (·.tag)=TT R t):Aq R N (F++b8 (t:Int) (dA R (t:Int))) W:=by
 rwa[⟨A.len,λf J=> ?_,λi hi I=>A.o i hi λz=>I (by rw [map_append];exact mem_append_left _ z)⟩]
 rcases mem_append.mp J with z|z
 ·exact A.f f z
 ·rw [zv] at z;obtain ⟨i,hi,rfl⟩:=mem_map.mp z;have O:=mem_range.mp (mem_filter.mp hi).1;have S:=of_decide_eq_true (mem_filter.mp hi).2
  have G:cm R (i:Int)=(t:Int):=by unfold cm;rw [show ((i:Int)).toNat=i by lia];exact S
  rwa[⟨by show (0:Int)<=i;lia,by show (i:Int)<_;lia,?_,G.symm⟩];show W.getD ((i:Int)).toNat 0=_;rw [show ((i:Int)).toNat=i by lia,A.o i O @k,G]
  ·unfold fm;rw [if_neg (by show ¬gP=_;decide+kernel),if_pos (.inl rfl)]
  ·rw [e] at z;obtain ⟨j,_,e2,_,L⟩:=lM.mp z
   have:j=i:=by lia
   subst this;lia
theorem y8 {hs:Hs}{wf:Wf}{k:List Int}{R:List ce}{n:Nat}{N:Int}(J:hs.ok)(z:∀fl li he up dn,gu li he up dn->wf fl li he up dn∈cf)(G:MC hs.fl n R):∀(m t:Nat) {F:List Fr} {W:List Int} {S:MS} {Ms:List MS},gv hs wf k S @gf Ms->Sr hs @gY S->JF F S->F.map (·.tag)=TT R t->Aq R N F W->∃Ls:List @bx,Ms.map MS.log=Ls.map @bd/\Ls.length=m/\Aq R N (Qw t F @gf Ls) @hl/\(Qw t F @gf Ls).map (·.tag)=TT R (t+m)
 |0,t,F,W,S,Ms,h,sr,lf,e,A=>by
  obtain rfl:Ms=[]:=h;exact ⟨[],rfl,rfl,A,e⟩
 |m+1,t,F,W,S,Ms,⟨M,Ms',em,tg,r⟩,sr,lf,e,A=>by
  subst em;obtain ⟨L,l1,l2,l3⟩:=lf.turn J z sr G tg;obtain ⟨j,_,_⟩:=sr.turn J (xC G t) z tg;rw [jC] at j
  have O:(zA (t:Int) F (dA R (t:Int)) L).map (·.tag)=TT R (t+1):=by rw [vz,jC,e];rfl
  have Z:((F++b8 (t:Int) (dA R (t:Int))).map (·.tag)).Nodup:=by
   rw [map_append,fE,jC,e];exact Dh (t:=t+1)
  have U:=(A.new e).rows l2 (P1 Z);obtain ⟨Ls,h1,h2,I,Y⟩:=y8 J z G m (t+1) r j l3 O U;exact ⟨L::Ls,by rw [map_cons,map_cons,l1,h1],by rw [length_cons,h2],I,by rw [show t+(m+1)=t+1+m by lia];exact Y⟩
theorem G4 {a b:List Int}(h:a.Perm b):a.sum=b.sum:=by
 induction h with
 |nil=>rfl
 |cons x _ ih=>rw [sum_cons,sum_cons,ih]
 |swap x y l=>rw [sum_cons,sum_cons,sum_cons,sum_cons];lia
 |trans _ _ h1 h2=>exact h1.trans h2
theorem Oa {R:List ce}{N:Int}{n:Nat}{F:List Fr}{W:List Int}(A:Aq R N F W)(e:F.map (·.tag)=TT R n)(J:∀i,i<R.length->0<=(R.getD i nv).came/\(R.getD i nv).came<(n:Int)):(F.map (fm N)).sum=W.sum:=by
 have e1:F.map (fm N)=(F.map (·.tag)).map λt=>W.getD t.toNat 0:=by
  rw [map_map];exact map_congr_left λf j=>(A.f f j).2.2.1.symm
 have p:(TT R n).Perm ((List.range R.length).map λi:Nat=>(i:Int)):=by
  rwa[(List.perm_ext_iff_of_nodup Dh (Ig List.nodup_range)).mpr λx=> ?_];rw [lM,mem_map];constructor
  ·rintro ⟨i,h1,h2,_⟩;exact ⟨i,mem_range.mpr h1,h2.symm⟩
  ·rintro ⟨i,h1,h2⟩;have h1:=mem_range.mp h1;exact ⟨i,h1,h2.symm,J i h1⟩
 have e2:((List.range R.length).map λi:Nat=>(i:Int)).map (λt=>W.getD t.toNat 0)=W:=by
  rwa[ext_getElem (by rw [length_map,length_map,length_range];exact A.len.symm) λi h1 h2=> ?_];simp;rw [getElem?_eq_getElem h2];rfl
 rw [e1,e,G4 (p.map _),e2]
theorem Pu {a b:Bool}(h:nW a=nW b):a=b:=by
 cases a<;>cases b<;>first|rfl|exact absurd h @g
theorem Ox {a b:Bool}(h:sW a=sW b):a=b:=by
 cases a<;>cases b<;>first|rfl|exact absurd h @g
theorem OE {a b:Rw}(h:a.d=b.d):a=b:=by
 cases a with
 |deal t i=>cases b with
  |deal t' i'=>
   have h:D.tup [.str i7,.int t,.int i]=D.tup [.str i7,.int t',.int i']:=h;injection h with h;injection h with _ h;injection h with h1 h;injection h with h2 _;injection h1 with h1;injection h2 with h2;rw [h1,h2]
  |note b t'=>exact absurd (congrArg List.length (D.tup.inj (show D.tup [.str i7,.int t,.int i]= .tup [.str (nW b),.int t'] from h))) @e
  |step b t' i' fl=>exact absurd (congrArg List.length (D.tup.inj (show D.tup [.str i7,.int t,.int i]= .tup [.str (sW b),.int t',.int i',.int fl] from h))) @e
 |note c t=>cases b with
  |deal t' i'=>exact absurd (congrArg List.length (D.tup.inj (show D.tup [.str (nW c),.int t]= .tup [.str i7,.int t',.int i'] from h))) @e
  |note b t'=>
   have h:D.tup [.str (nW c),.int t]=D.tup [.str (nW b),.int t']:=h;injection h with h;injection h with h0 h;injection h with h1 _;injection h0 with h0;injection h1 with h1;rw [Pu h0,h1]
  |step b t' i' fl=>exact absurd (congrArg List.length (D.tup.inj (show D.tup [.str (nW c),.int t]= .tup [.str (sW b),.int t',.int i',.int fl] from h))) @e
 |step c t i fl=>cases b with
  |deal t' i'=>exact absurd (congrArg List.length (D.tup.inj (show D.tup [.str (sW c),.int t,.int i,.int fl]= .tup [.str i7,.int t',.int i'] from h))) @e
  |note b t'=>exact absurd (congrArg List.length (D.tup.inj (show D.tup [.str (sW c),.int t,.int i,.int fl]= .tup [.str (nW b),.int t'] from h))) @e
  |step b t' i' fl'=>
   have h:D.tup [.str (sW c),.int t,.int i,.int fl]=D.tup [.str (sW b),.int t',.int i',.int fl']:=h;injection h with h;injection h with h0 h;injection h with h1 h;injection h with h2 h;injection h with h3 _;injection h0 with h0;injection h1 with h1;injection h2 with h2;injection h3 with h3;rw [Ox h0,h1,h2,h3]
theorem Cv:∀ {a b:List Rw},a.map Rw.d=b.map Rw.d->a=b
 |[],[],_=>rfl
 |[],y::b,h=>by cases h
 |x::a,[],h=>by cases h
 |x::a,y::b,h=>by
  rw [map_cons,map_cons] at h;injection h with h1 h2;rw [OE h1,Cv h2]
theorem sR:∀ {a b:List @bx},a.map @bd=b.map @bd->a=b
 |[],[],_=>rfl
 |[],y::b,h=>by cases h
 |x::a,[],h=>by cases h
 |x::a,y::b,h=>by
  rw [map_cons,map_cons] at h;injection h with h1 h2;rw [Cv h1,sR h2]
def S0 (hs:Hs):MS:=mS @hh [] ((hs.ls.length:Int) - 1)
theorem Dj {hs:Hs}(h:hs.ok)(O:E4 hs):Sr hs [] @dS:=by
 rwa[⟨by show (hs.ls.map Nf).length=_;rw [length_map],λc J=> ?_,(λr U=>nomatch U),by show (0:Int)<=(hs.ls.length:Int) - 1;have:=h.l1;lia,Nat.le_refl _,λt z=> ?_⟩]
 ·obtain ⟨l,W,rfl⟩:=mem_map.mp (show c∈hs.ls.map Nf from J);obtain ⟨F,j⟩:=O l W;exact ⟨by show 0<=2*l.st;lia,by show 2*l.st<=_;lia,by show (-1:Int)<=0;decide,by show (0:Int)<=1;decide,by show (0:Int)<=0;decide,λz=>absurd z (by show ¬(0:Int)<0;decide),by show 0<=64;decide,λp G=>nomatch G⟩
 ·rcases mem_append.mp z with y|y
  ·cases y
  ·obtain ⟨c,J,y⟩:=mem_flatMap.mp y;obtain ⟨l,_,rfl⟩:=mem_map.mp (show c∈hs.ls.map Nf from J);cases y
theorem MB {hs:Hs}:JF [] @dS:=by
 have O:∀c∈(S0 hs).cs,c.ps=[]:=λc J=>by
  obtain ⟨l,_,rfl⟩:=mem_map.mp (show c∈hs.ls.map Nf from J);rfl
 rwa[⟨(λr U=>nomatch U),(λc J p G=>by rw [O c J] at G;cases G),λt=> ?_⟩]
 have a:(qP (S0 hs).cs).count t=0:=List.count_eq_zero.mpr λz=>by
  obtain ⟨c,J,p,G,_⟩:=Qj z;rw [O c J] at G;cases G
 show ([]:List Int).count t+(qP (S0 hs).cs).count t<=1;rw [a];exact Nat.zero_le _
theorem Fw {hs:Hs}{wf:Wf}{k:List Int}{R:List ce}{n:Nat}{I:List MS}{Ls:List @bx}(J:hs.ok)(st:E4 hs)(S:∀fl li he up dn,gu li he up dn->wf fl li he up dn∈cf)(G:MC hs.fl n R)(r:gv hs wf k @dS @fl I)(e:I.map MS.log=Ls.map @bd):((FF @fl Ls n).map (fm (n:Int))).sum=(Df R 0 (R.map λq=>(n:Int) - q.came) Ls).sum:=by
 have F:Aq R (n:Int) [] (R.map λq=>(n:Int) - q.came):=by
  rwa[⟨length_map _,(λf O=>nomatch O),λi hi _=> ?_⟩];unfold cm;rw [show ((i:Int)).toNat=i by lia,getD_eq_getElem?_getD,getElem?_map,getD_eq_getElem?_getD,getElem?_eq_getElem hi];rfl
 obtain ⟨Ls',h1,h2,z,j⟩:=y8 J S G n 0 r (Dj J st) MB rfl F;obtain rfl:Ls=Ls':=sR (e.symm.trans h1);have f:=JN (dss:=d9 R 0 n) (Ls:=Ls) (by rw [d7];exact h2) (d9 R 0 n).length 0 @b;rw [drop_zero,drop_zero,show FF @fl Ls 0=[] from rfl,d7] at f;rw [<-f];rw [Nat.zero_add] at j;exact Oa z j G.c
theorem Ss {H:Hp}{l:Addr}{zs:List V}{I:List MS}{Ls:List @bx}(h:Paired (eM K H l) zs I)(e:I.map MS.log=Ls.map @bd):Paired (S2 K H) zs Ls:=by
 have W:=congrArg List.length e;rw [length_map,length_map] at W;rwa[PySem.Paired.of (by have:=h.len;lia) λi x L e1 e2=> ?_];obtain ⟨M,O,r,st,ll,J,ex,_,G,_,Z,F,_⟩:=h.get1 e1;have j:=congrArg (λz=>z[i]?) e;simp only [getElem?_map,O,e2,Option.map_some] at j;rw [Option.some.inj j] at F;exact ⟨r,st,ll,J,ex,G,Z,F⟩
theorem pe {R:List ce}:∀ {m t:Nat},d9 R t (m+1)=d9 R t m++[dA R ((t+m:Nat):Int)]
 |0,t=>rfl
 |m+1,t=>by
  rw [d9,pe (m:=m),d9,cons_append,show t+1+m=t+(m+1) by lia]
def Qt (hs:Hs)(wf:Wf)(k:List Int)(R:List ce)(n:Nat)(z:Int):Prop:=∃(Ms:List MS) (Ls:List @bx),gv hs wf k @dS @fl Ms/\Ms.map MS.log=Ls.map @bd/\z=(Df R 0 (R.map λq=>(n:Int) - q.came) Ls).sum
theorem Qt.uniq {hs:Hs}{wf:Wf}{k:List Int}{R:List ce}{n:Nat}{a b:Int}(h:Qt hs wf k R n a)(g:Qt hs wf k R n b):a=b:=by
 obtain ⟨I,j,h1,h2,G⟩:=h;obtain ⟨Ms',Ls',O,Z,Y⟩:=g;obtain rfl:=h1.uniq O;obtain rfl:=sR (h2.symm.trans Z);rw [G,Y]
structure Fx (P:Program)(w:World)(K:Fg)(mg:Str->Option Value)(base:Heap)(H:Hp)(h ru:Addr)(hs:Hs)(wf:Wf)(k:List Int):Prop where
 hh:lU K H h hs
 st:E4 hs
 ru:E5 P w K mg base H ru wf
 k0:0<k.length
 kl:∀z∈k,0<=z/\z<(hs.ls.length:Int)
theorem Fx.nt {H H':Hp}{h j:Addr}{hs:Hs}{wf:Wf}{k:List Int}(x:Fx P w K mg base H h j hs wf k)(s:aJ H H'):Fx P w K mg base H' h j hs wf k:=⟨zh s x.hh,x.st,Cw s x.ru,x.k0,x.kl⟩
inductive Oe (P:Program)(w:World)(K:Fg)(mg:Str->Option Value)(base:Heap)(vs:List V)(H:Hp)(Q:VK)(_e:XK):Prop
 |mk (h ru l:Addr) (hs:Hs) (wf:Wf) (k:List Int) (lx:Lx) (R:List ce) (n:Nat) (_:vs=[.ref h,.ref ru,.ref lx.f,.ref l,.int (n:Int)]) (_:Fx P w K mg base H h ru hs wf k) (_:lO mg lx H) (_:pF H lx.zl k) (_:jK K H l R) (_:MC hs.fl n R) (_:n<=100) (_:∀z H',aJ H H'->lO mg lx H'->Qt hs wf k R n z->Q (.int z) H')
theorem R3 {cK:Addr}(F:Z0 K "waits_under" jg f fd)(cC:JP K cK)(bR:mg "len"=none)(aQ:mg "range"=none)(b5:Z02 P w K mg base)(oS:iM P w K mg base aY 1 "Court" cK (Gg K))(cU:iB P w K mg base aY 2 "begin" cK (mq K))(qo:bp P w K mg base 1 "comings_at" ["riders","turn"] (AV K))(Qf:bp P w K mg base 10 "run" ["court","state","day"] (F1 P w K mg base cK))(B6:bp P w K mg base 2 "fates" ["day","steps"] (wg K))(pq:bp P w K mg base 2 "waits_of" ["fates_told","turns"] (wa K)):ax P w K mg base aY 11 f fd ["house","rule","dealer","riders","turns"] (Oe P w K mg base):=by
 rwa[F.ok g8 (by symm) (λap A outer s H vs Q E U h=> ?_)];obtain ⟨h,ru,l,hs,wf,k,lx,R,n,rfl,G,hx,hl,hR,rk,W,q⟩:=h;have l6:=rk.len;rwa[⟨_,(aa (aZ (i:=5) g8.nd rfl @n (fU oS fH U @c rfl (ao (wv 0) (ao (wv 1) @cw)))) (aa (fw (i:=6) rfl g8.nd rfl @n (aC (N':=["turn","riders"]) (pk:=[none,some 3]) @o) (bA rfl aQ @cy) @i @r @i) (ac (am (b3 pq U @c rfl (ao (b3 B6 U @c rfl (ao (wv 6) (ao (b3 Qf U @c rfl (ao (wv 5) (ao (ye (n:=2) fH U @c (wv 5)) @fW))) aj))) @cy)))))),?_⟩];rwa[Sk cC λca ae H1 Y n1 e1=> ?_];have I:=G.nt Y.nt;have ai:Fa P w K mg base cK H1 ca hs wf @gE:=⟨⟨ae,h,ru,lx.f,e1,I.hh,I.ru,Jg bR b5 G.k0 lx⟩,lO.st Y.st hx,hl.nt Y.nt⟩
 have ad:∀fl li he up dn,gu li he up dn->wf fl li he up dn∈cf:=by
  obtain ⟨_,_,_,_,_,_,_,z,_⟩:=G.ru;exact z
 rwa[⟨by lia,?_⟩];rwa[eK (λj ys H'=>aq H1 H'/\fO K H' ys (d9 R 0 j)) @bs (λi ys H' p=>by have:ys.length=(d9 R 0 i).length:=p.2.len;rw [this,d7];exact Nat.le_refl _) ⟨.refl _,.nil⟩ @dI (λys H2 p ld nd=> ?_)]
 ·obtain ⟨sX,pY⟩:=p
  have al:d9 R 0 (j+1)=d9 R 0 j++[dA R (j:Int)]:=by rw [pe,Nat.zero_add]
  rwa[⟨bU,?_⟩];rwa[AV.mk _ _ _ rfl (((hR.same Y).same sX)) @b λp ak H3 s3 e3 p3=> ?_];rwa[⟨sX.trans s3,?_⟩];rw [al];rw [Int.zero_add] at p3;exact Paired.app (fO.nt pY s3.nt) (.cons ⟨p,rfl,ak,aD.of e3,p3⟩ .nil)
 obtain ⟨sX,pY⟩:=p;have S:aq H1 (upd H2 ld (.lst ys)):=sX.trans (.upd nd);have O:upd H2 ld (.lst ys) ld=some (.lst ys):=af;have pD:fO K (upd H2 ld (.lst ys)) ys @fl:=fO.nt pY (aq.upd nd).nt;generalize upd H2 ld (.lst ys)=H3 at S O pD ⊢;have Z:=ai.same S;have ag:=I.nt S.nt;rwa[im (S _ _ e1) rfl cU ?_];rwa[mq.mk _ _ _ _ _ _ _ rfl (S _ _ e1) cC ag.hh λst H4 s4 an=> ?_];rwa[F1.mk _ _ _ _ _ _ _ @dS [] _ _ rfl (Z.same s4) G.k0 G.kl an (Dj G.hh.1 G.st) (by rw [d7];lia) (aD.of (s4 _ _ O)) (fO.nt pD s4.nt) (xB rk n 0) λl5 zs Ms H5 s5 g5 n5 e5 p5 r5=> ?_];obtain ⟨Ls,le,ll,l4,lo⟩:=r5.rows G.hh.1 ad (Dj G.hh.1 G.st) (xB rk n 0);have J:aJ H3 H5:=s4.nt.trans s5;have tt:=NZ (R:=R) (m:=n);rwa[wg.mk _ _ _ _ _ _ rfl (aD.of (J _ _ (λ_ z=>by cases z) O)) (fO.nt pD J) (aD.of e5) (Ss p5 le) ⟨ll,by rw [d7];exact W,λds ah=> ?_,l4,by rw [tt];exact Dh,by rw [tt];have:=Jy (R:=R) (t:=n);lia,λi L r hi U _=>by have:=lo i L r hi U;rw [nil_append] at this;exact this⟩ λl6 us H6 s6 n6 e6 d6=> ?_]
 ·obtain ⟨i,hi⟩:=List.getElem?_of_mem ah;have il:=(List.getElem?_eq_some_iff.mp hi).1;rw [d7] at il;rw [CZ il] at hi;cases hi;have:(dA R ((0+i:Nat):Int)).length<=R.length:=mV;lia
 rwa[wa.mk _ _ _ _ rfl (aD.of e6) d6 ?_ λH7 s7=> ?_]
 ·have:=congrArg List.length (xT (dss:=d9 R 0 n) (Ls:=Ls) @f);rw [length_map,take_length,tt] at this;have:=Jy (R:=R) (t:=n);lia
 rw [d7,Fw G.hh.1 G.st ad rk r5 le];exact q _ H7 ((Y.trans S).nt.trans (J.trans (s6.trans s7).nt)) (lO.st (s6.trans s7).st g5) ⟨Ms,Ls,r5,le,rfl⟩
structure Tu (P:Program)(w:World)(K:Fg)(mg:Str->Option Value)(base:Heap)(Pf:Addr)(H:Hp)(h ru l dl:Addr)(hs:Hs)(wf:Wf)(k:List Int)(R:List ce)(n:Nat):Prop where
 fx:Fx P w K mg base H h ru hs wf k
 ls:pF H dl k
 rs:jK K H l R
 r6:R.length<=6
 tb:c7 H Pf qF
 n1:n<=100
inductive Gd (P:Program)(w:World)(K:Fg)(mg:Str->Option Value)(base:Heap)(kF kR Pf:Addr)(vs:List V)(H:Hp)(Q:VK)(E:XK):Prop
 |mk (h ru l dl:Addr) (hs:Hs) (wf:Wf) (k:List Int) (R:List ce) (n:Nat) (_:vs=[.ref h,.ref ru,.ref l,.ref dl,.int (n:Int)]) (_:Tu P w K mg base Pf H h ru l dl hs wf k R n) (_:((bv hs.fl R= .good/\MC hs.fl n R/\∀z H',aJ H H'->c7 H' Pf qF->Qt hs wf k R n z->Q (.int z) H')\/(bv hs.fl R≠ .good/\fe kF kR H Q E @ck)))
theorem Sa {I O Pf:Addr}(F:Z0 K "dealt" Bf f fd)(cO:nq P w K mg base 5 "need_riders" ["house","riders"] (yA K I O))(mX:bp P w K mg base 11 "waits_under" ["house","rule","dealer","riders","turns"] (Oe P w K mg base))(gI:bp P w K mg base 1 "fixed_of" ["lifts"] (Oh Pf qF "lifts" (LF mg))):ax P w K mg base @V 12 f fd ["house","rule","riders","dealing","turns"] (Gd P w K mg base I O Pf):=by
 rwa[F.okX Kx (by symm) @S];obtain ⟨h,ru,l,Z,hs,wf,k,R,n,rfl,j,q⟩:=h;have r6:=j.r6;rwa[⟨_,(aa (aS (ik dD cO hr @c rfl @fA)) @h),?_⟩];rwa[yA.mk _ _ _ _ _ rfl j.fx.hh.at' j.rs @b ?_]
 rcases q with ⟨g,rk,q⟩|⟨g,q⟩
 ·rw [g];intro H1 L;have J:=j.tb.same L;rwa[⟨_,rfl,J,λf' c' ae c H2 sp hf W U G ag=> ?_⟩];obtain ⟨ps,ad,_⟩:=id J;have Y:=L.nt.trans (sp.nt ad);exact Oe.mk _ _ _ _ _ _ (⟨f',c',c,Z,ae,Pf⟩) _ _ rfl (j.fx.nt Y) ⟨W,U,G,ag⟩ (j.ls.nt Y) (j.rs.nt Y) rk j.n1 λz H3 s3 g3 wt=>q z H3 (Y.trans s3) g3.2.2.2 wt
 ·cases e:bv hs.fl R with
  |good=>exact absurd e g
  |floor i=>rw [e] at q;exact fe.of q (by intro z;cases z) (.refl _)
  |ride=>rw [e] at q;exact fe.of q (by intro z;cases z) (.refl _)
inductive Oj (K:Fg)(kF kR:Addr)(vs:List V)(H:Hp)(Q:VK)(E:XK):Prop
 |mk (h ru l:Addr) (n:Int) (hs:Hs) (R:List ce) (_:vs=[.ref h,.ref ru,.ref l,.int n]) (_:lU K H h hs) (_:jK K H l R) (_:R.length<=6) (_:bv hs.fl R≠ .good) (_:fe kF kR H Q E @ck)
theorem R8 {G j:Addr}(F:Z0 K "least_of" rT f fd)(J:nq P w K mg base 5 "need_riders" ["house","riders"] (yA K G j)):ax P w K mg base @V 12 f fd ["house","rule","riders","turns"] (Oj K G j):=by
 rwa[F.okX DK (by symm) (λI A outer s H Y Q E U h=> ?_)];obtain ⟨h,S,l,n,hs,R,rfl,O,L,W,g,q⟩:=h;rwa[⟨_,(aa (aS (ik dD J U @c rfl @fA)) (aa cI (aa cI (aa cI (aa cI (aa cI @bS)))))),?_⟩];rwa[yA.mk _ _ _ _ _ rfl O.at' L @b ?_]
 cases e:bv hs.fl R with
 |good=>exact absurd e g
 |floor i=>rw [e] at q;exact fe.of q (by intro z;cases z) (.refl _)
 |ride=>rw [e] at q;exact fe.of q (by intro z;cases z) (.refl _)
inductive Om (P:Program)(w:World)(K:Fg)(mg:Str->Option Value)(base:Heap)(kF kR Pf:Addr)(vs:List V)(H:Hp)(Q:VK)(E:XK):Prop
 |mk (way:Int) (h ru l dl:Addr) (hs:Hs) (wf:Wf) (k:List Int) (R:List ce) (n:Nat) (_:vs=[.int way,.ref h,.ref ru,.ref l,.ref dl,.int (n:Int)]) (_:Tu P w K mg base Pf H h ru l dl hs wf k R n) (_:bv hs.fl R≠ .good) (_:fe kF kR H Q E @ck)
theorem Sd {G j Pf:Addr}(F:Z0 K "_law_asked" wP f fd)(S:nq P w K mg base 12 "dealt" ["house","rule","riders","dealing","turns"] (Gd P w K mg base G j Pf))(W:nq P w K mg base 12 "least_of" ["house","rule","riders","turns"] (Oj K G j)):ax P w K mg base @V 13 f fd ["_law_way","_law_house_here","_law_rule_here","_law_riders_here","_law_dealing","_law_turns"] (Om P w K mg base G j Pf):=by
 rwa[F.okX Gy (by symm) (λL A outer s H vs Q E U h=> ?_)];obtain ⟨O,h,Y,l,Z,hs,wf,k,R,n,rfl,I,g,q⟩:=h;rwa[⟨_,(aa (az @a (ac (am (ik dD S U @c rfl (ao (wv 1) (ao (wv 2) (ao (wv 3) @fC)))))) av) (ac (am (ik dD W U @c rfl (ao (wv 1) (ao (wv 2) (ao (wv 3) @cx))))))),?_⟩]
 have q':∀ {J:VK},fe G j H J E @ck:=λ{J}=>by
  cases e:bv hs.fl R with
  |good=>exact absurd e g
  |floor i=>rw [e] at q;exact fe.of q (by intro z;cases z) (.refl _)
  |ride=>rw [e] at q;exact fe.of q (by intro z;cases z) (.refl _)
 rwa[fD @k @k]
 ·exact Gd.mk _ _ _ _ _ _ _ _ _ rfl I (.inr ⟨g,q'⟩)
 ·exact Oj.mk _ _ _ _ _ _ rfl I.fx.hh I.rs I.r6 g q'
theorem bE {H H':Hp}{a:Addr}{ns:List Int}(h:E8 K H a ns)(s:aq H H'):E8 K H' a ns:=⟨s.seq h.1,h.2⟩
theorem Ot {H H':Hp}{a:Addr}{ns:List Int}(h:E8 K H a ns)(s:aJ H H'):E8 K H' a ns:=⟨s.sqL h.1,h.2⟩
theorem PF (j:List iV):noLs (j.map iV.d)=true:=by
 induction j with
 |nil=>rfl
 |cons l j ih=>rw [map_cons,noLs,ih];rfl
theorem Sq {fl i:Int}(z:2<=fl)(I:0<=i)(h1:i<fl - 1):0<=(1:Int)*2^(1+i).toNat/\(1:Int)*2^(1+i).toNat<2^fl.toNat/\(1:Int)*2^(1+i).toNat% 2=0:=by
 obtain ⟨f,rfl⟩:=Int.eq_ofNat_of_zero_le (show 0<=fl by lia);obtain ⟨j,rfl⟩:=Int.eq_ofNat_of_zero_le I
 have e1:(1+(j:Int)).toNat=j+1:=by lia
 have e2:((f:Int)).toNat=f:=by lia
 rw [e1,e2,Int.one_mul];have p:(0:Int)<2^(j+1):=Int.pow_pos @c;have F:(2:Nat)^(j+1)<2^f:=Nat.pow_lt_pow_right @c @b
 have S:∀n:Nat,(2:Int)^n=((2^n:Nat):Int):=λn=>by rw [Int.natCast_pow];rfl
 rwa[⟨by lia,?_,?_⟩]
 ·rw [S,S];lia
 ·rw [Int.pow_succ];lia
theorem PM {i:Int}(I:0<=i)(h1:i<3):∃s,uy [V.str "plain",.str "hasty",.str "slow"] i=some (.str s)/\(s=s!"plain"\/s=s!"hasty"\/s=s!"slow"):=by
 rcases (show i=0\/i=1\/i=2 by lia) with rfl|rfl|rfl
 ·exact ⟨_,rfl,.inl rfl⟩
 ·exact ⟨_,rfl,.inr (.inl rfl)⟩
 ·exact ⟨_,rfl,.inr (.inr rfl)⟩
theorem On {i:Int}(I:0<=i)(h1:i<2):∃s,uy [V.str "free",.str "way"] i=some (.str s)/\(s=s!"free"\/s=s!"way")/\Jz s:=by
 rcases (show i=0\/i=1 by lia) with rfl|rfl
 ·exact ⟨_,rfl,.inl rfl,by decide+kernel⟩
 ·exact ⟨_,rfl,.inr rfl,by decide+kernel⟩
inductive AM (K:Fg)(vs:List V)(H:Hp)(Q:VK)(_e:XK):Prop
 |mk (a ns:_) (_:vs=[.ref a]) (_:E8 K H a ns) (_:∀p hs H',aq H H'->lU K H' p hs->E4 hs->Q (.ref p) H')
abbrev Z00:=λP w K mg base=>bp P w K mg base 1 "_law_draw" ["_law_script","_law_k","_law_many"] (j6 K)
theorem Lh {ah:Addr}(F:Z0 K "_law_house" wO f fd)(aQ:mg "range"=none)(cz:Z00 P w K mg base)(jH:bp P w K mg base 4 "made_house" ["floors","lifts","locked","sort"] (λvs H Q _=>og K ah vs H Q E0)):ax P w K mg base aY 5 f fd ["_law_script"] (AM K):=by
 rwa[F.ok Gx (by symm) (λaB A outer s H vs Q E hr h=> ?_)];obtain ⟨a,ns,rfl,hS,q⟩:=h;rwa[⟨_,(aa @a (aa @a (aa (bJ PassesOwn.never rfl @dB @a (aa @a (aa @a @Q))) (aa @a (dZ @dh (ac (am (b3 jH hr @c rfl (ao (wv 1) (ao (wv 2) (ao (wv 6) @H))))))))))),?_⟩];rwa[j6.mk _ _ _ _ rfl hS @c @c @c λar f0 f1=> ?_];obtain ⟨fl,ak⟩:∃fl:Int,2+ar=fl:=⟨_,rfl⟩
 have f2:2<=fl:=by lia
 have f8:fl<=8:=by lia
 rwa[ju @bL λl H1 s1 n1 e1=> ?_];rwa[j6.mk _ _ _ _ rfl (bE hS s1) @c @c @c λm m0 m1=> ?_];rwa[⟨⟨by lia,by lia⟩,?_⟩];rwa[cL (λj σ L=>aq H L/\∃(ys:List V) (I:List iV) (S Y W o6:Option V),σ=[some (.ref a),some (.int fl),some (.ref l),S,Y,W,o6]/\L l=some (.lst ys)/\aI K L ys (I.map iV.d)/\I.length=j/\∀x∈I,iV.ok fl x=true) ⟨s1,[],[],_,_,_,_,by rw [<-ak];rfl,e1,.nil,rfl,λx hx=>nomatch hx⟩ (λj σ L hj pv=> ?_) (λσ L pv=> ?_)]
 ·obtain ⟨O,ys,I,S,Y,W,o6,rfl,eX,dX,rfl,hx⟩:=pv
  have aC:(I.length:Int)<3:=by lia
  have yl:ys.length=I.length:=aH dX;have G:=bE hS O;rwa[ju @bL λlk H2 R n2 e2=> ?_];rwa[j6.mk _ _ _ _ rfl @gr @b @b @c λi i0 U=> ?_];obtain ⟨kd,ek,hk⟩:=PM i0 U;rwa[bP @cR ek ?_];rwa[j6.mk _ _ _ _ rfl @gr @b @b @c λr r0 r1=> ?_];rwa[⟨.inl ⟨rfl,_,aD.of (R _ _ eX)⟩,?_⟩];rwa[j6.mk _ _ _ _ rfl @gr @b @b @b λst al ae=> ?_];rwa[j6.mk _ _ _ _ rfl @gr @b @b @c λtn ay aw=> ?_];rwa[cj (bw (by show 4<=1000000;decide)) λt H3 s3 n3 e3=> ?_];have J:=R.trans s3;rwa[iL (J _ _ eX) @dQ ?_];have Z:=J _ _ eX;rwa[⟨aq.updF (O.trans J) n1,ys++[.ref t],I++[⟨st,1+r,1+tn,kd⟩],_,_,_,_,rfl,af,?_,by simp,λx ap=> ?_⟩]
  ·rw [map_append];exact Paired.app (jB (aI.same dX J) (PF I) Z) (.cons (bO.noL (d:=iV.d ⟨st,1+r,1+tn,kd⟩) (iQ (aK.of e3) (.cons (.int _) (.cons (.int _) (.cons (.int _) (.cons (.str _) .nil))))) rfl Z) .nil)
  ·rcases mem_append.mp ap with z|z
   ·exact hx x z
   ·rw [mem_singleton.mp z];unfold iV.ok;exact decide_eq_true ⟨al,ae,by show 1<=1+r;lia,by show 1+r<=6;lia,by show 1<=1+tn;lia,by show 1+tn<=4;lia,hk⟩
 obtain ⟨O,ys,I,S,Y,W,o6,rfl,eX,dX,hl,hx⟩:=pv;have G:=bE hS O;rwa[ub (λσ HY=>HY=L/\∃(lo:Int) (S Y W:Option V),σ=[some (.ref a),some (.int fl),some (.ref l),S,Y,W,some (.int lo)]/\0<=lo/\lo<2^fl.toNat/\lo% 2=0) ?_ ?_]
 ·ext;rwa[j6.mk _ _ _ _ rfl G @c @c @c λz z0 z1=> ?_];rwa[fD @dm @dm]
  ·ext;rwa[j6.mk _ _ _ _ rfl G @c @c @b λi i0 U=> ?_];rwa[⟨Ji @b @b @c,?_⟩];obtain ⟨l1,l2,l3⟩:=Sq f2 i0 U;exact ⟨rfl,_,_,_,_,rfl,l1,l2,l3⟩
  ·exact ⟨rfl,0,_,_,_,rfl,by decide,Int.pow_pos @c,by decide⟩
 rintro σ' H' ⟨rfl,lo,S,Y,W,rfl,as,ai,an⟩;rwa[ju @bL λl2 H2 R n2 e2=> ?_];rwa[j6.mk _ _ _ _ rfl @gr @c @c @c λi i0 U=> ?_];obtain ⟨so,es,ag,aA⟩:=On i0 U;erw[bP @cR es ?_];have ad:Qs fl I lo so=true:=BC.mpr ⟨⟨f2,f8⟩,⟨by lia,by lia⟩,all_eq_true.mpr hx,⟨as,ai,an⟩,ag⟩;rwa[Sn (.inl (B4 (aD.of (R _ _ eX)) (aI.same dX R))) @b ad λt H3 s3 hh=> ?_];obtain ⟨p,rfl,hC,au⟩:=IG hh ad;exact q p _ H3 ((O.trans R).trans s3) hC au
theorem FQ {s:Str}{fl:Int}(h:Bz s):fZ (uP++s) fl=some (.ta s)/\Nl (uP++s):=by
 have W:s.cps.toList.length=36:=by rw [aU];exact h.1
 have j:uP.cps.toList.length=6:=by decide
 have G:(uP++s).cps.toList=uP.cps.toList++s.cps.toList:=pA ..
 have e1:Txt.slice (uP++s) none @fE=uP:=by
  apply v5;rw [ms @c,G];show (uP.cps.toList++s.cps.toList).take 6=_;rw [take_append_of_le_length @b,take_of_length_le @b]
 have e2:Txt.slice (uP++s) @fE none=s:=by
  apply v5;rw [kO @c,G];show (uP.cps.toList++s.cps.toList).drop 6=_;rw [drop_append_of_le_length @b,drop_of_length_le @b,nil_append]
 have I:∀t:Str,t.cps.toList.length<40->uP++s≠t:=λt O z=>by
  have:=congrArg (λx:Str=>x.cps.toList.length) z;simp only [G,length_append] at this;lia
 rwa[⟨?_,?_,?_⟩]
 ·unfold fZ;rw [if_neg (I _ @c),if_neg (I _ @c),if_neg (I _ @c),if_neg (I _ @c),e1,e2,if_pos ⟨rfl,h⟩]
 ·rw [<-aU,G,length_append];lia
 ·intro c J;rw [G] at J
  rcases mem_append.mp J with z|z
  ·exact (show ∀c∈uP.cps.toList,c<128 by decide) c z
  ·exact Lu h c z
theorem OL {s:Str}{k:Int}{c:Nat}(h:Bz s)(k0:0<=k)(k1:k<36)(J:isL ⟨#[c]⟩):Bz (Txt.slice s none (some k)++⟨#[c]⟩++Txt.slice s (some (k+1)) none):=by
 have W:s.cps.toList.length=36:=by rw [aU];exact h.1
 have G:(Txt.slice s none (some k)++⟨#[c]⟩++Txt.slice s (some (k+1)) none).cps.toList=s.cps.toList.take k.toNat++[c]++s.cps.toList.drop (k+1).toNat:=by
  rw [pA,pA,ms k0,kO @b]
 rwa[⟨?_,λx j=> ?_⟩]
 ·rw [<-aU,G];simp only [length_append,length_take,length_drop,length_cons,length_nil];lia
 ·rw [G] at j
  rcases mem_append.mp j with z|z
  ·rcases mem_append.mp z with z|z
   ·exact h.2 x (mem_of_mem_take z)
   ·rw [mem_singleton.mp z];exact J.2 c @e
  ·exact h.2 x (mem_of_mem_drop z)
theorem ED {i fl:Int}(I:0<=i)(h1:i<4):∃s rk,uy [V.str Qr,.str Tf,.str Te,.str Td] i=some (.str s)/\fZ s fl=some rk/\Nl s:=by
 rcases (show i=0\/i=1\/i=2\/i=3 by lia) with rfl|rfl|rfl|rfl
 ·exact ⟨Qr,.sw,rfl,by unfold fZ;rw [if_pos rfl],by decide,show ∀c∈Qr.cps.toList,c<128 by decide⟩
 ·exact ⟨Tf,.ho,rfl,by unfold fZ;rw [if_neg @c,if_pos rfl],by decide,show ∀c∈Tf.cps.toList,c<128 by decide⟩
 ·exact ⟨Te,.ne,rfl,by unfold fZ;rw [if_neg @c,if_neg @c,if_pos rfl],by decide,show ∀c∈Te.cps.toList,c<128 by decide⟩
 ·exact ⟨Td,.ba (fl - 1),rfl,by unfold fZ;rw [if_neg @c,if_neg @c,if_neg @c,if_pos rfl],by decide,show ∀c∈Td.cps.toList,c<128 by decide⟩
inductive F2 (K:Fg)(k:Ks)(vs:List V)(H:Hp)(Q:VK)(_e:XK):Prop
 |mk (a ns fl:_) (_:vs=[.ref a,.int fl]) (_:E8 K H a ns) (_:2<=fl) (_:∀ra dx (rk:Rk) H',rk.ok->aq H H'->H' ra=some (.ins @gD dx rk.fs)->Q (.ref ra) H')
theorem O8 {k:Ks}{ag:Addr}(F:Z0 K "_law_rule" Bc f fd)(aQ:mg "range"=none)(cz:Z00 P w K mg base)(jG:bp P w K mg base 3 "rule_of" ["text","floors"] (λvs H Q _=>jc K k ag vs H Q E0))(py:bp P w K mg base 3 "as_table" ["rule"] (Gi K k)):ax P w K mg base aY 4 f fd ["_law_script","_law_floors"] (F2 K k):=by
 rwa[F.ok wy (by symm) (λak A outer s H vs Q E hr h=> ?_)];obtain ⟨a,ns,fl,rfl,hS,f2,q⟩:=h;rwa[⟨_,(aa @a (aa (az @a (ac (am (b3 jG hr @c rfl (ao @a @K)))) av) (aa (aZ (i:=3) wy.nd rfl @n (b3 py hr @c rfl (ao (b3 jG hr @c rfl (ao bZ @K)) aj))) (dZ (az @a (aa @a (ac @a)) (ac (aZ (i:=3) wy.nd rfl @n (iW rfl PySem.F.plainAttrs_str PySem.F.slot_str_join PySem.F.type_str_join (vX rfl) bZ (ao (bF rfl (aC (N':=["_law_k","_law_script"]) (pk:=[none,some 0]) @o) (bA rfl aQ (ao cE aj)) @i @r @i) aj))))) (ac (am (b3 jG hr @c rfl (ao @a @K)))))))),?_⟩];rwa[j6.mk _ _ _ _ rfl hS @c @c @c λae w0 w1=> ?_];rwa[fD @k @k]
 ·ext;rwa[ju @bL λl1 H1 s1 n1 e1=> ?_];obtain ⟨s,rk,es,W,U⟩:=ED (fl:=fl) w0 z;rwa[bP @dF es ?_];exact wW U.1 W λra dx H2 s2 n2 e2=>q ra dx rk H2 (my f2 W) (s1.trans s2) e2
 ext
 have W:fZ Qr fl=some .sw:=by unfold fZ;rw [if_pos rfl]
 rwa[wW (s:=Qr) @c W λra dx H1 s1 n1 e1=> ?_];rwa[Gi.mk _ _ _ rfl (my f2 W) e1 λH2 s2=> ?_];have I:=NY (my f2 W);generalize Rk.tbl .sw=L at I ⊢;have O:=s1.trans s2;have J:=bE hS O;rwa[ub (λσ S=>aq H S/\∃(t:Str) (o3:Option V),σ=[some (.ref a),some (.int fl),some (.int ae),some (.str t),o3]/\Bz t) ?_ ?_]
 ·ext;rwa[fD @dm @dm]
  ·ext;erw[j6.mk _ _ _ _ rfl J @c @c @c λZ a0 a1=> ?_];have lL:L.length=36:=I.1;rwa[⟨bw @b,?_⟩];rwa[j6.mk _ _ _ _ rfl J @c @c @c λj j0 j1=> ?_];obtain ⟨c,ec,hL⟩:=Ix j0 j1;rwa[qK @gU ec ?_]
   have la:(Txt.slice L none (some Z)).length<=36:=by rw [<-aU,ms a0,length_take,aU];lia
   have lb:(Txt.slice L (some (Z+1)) none).length<=36:=by rw [<-aU,kO @b,length_drop,aU];lia
   have lc:(⟨#[c]⟩:Str).length=1:=rfl;rwa[⟨bw @b,?_⟩];rwa[⟨bw @b,?_⟩];rwa[⟨bw (by rw [strLen_append];lia),?_⟩];exact ⟨O,_,_,rfl,OL I a0 a1 hL⟩
  ·ext;rwa[⟨rfl,?_⟩];rwa[⟨⟨by decide,by decide⟩,?_⟩];rwa[eK (λi ys S=>S=H2/\∃G:List Str,ys=G.map V.str/\G.length=i/\∀x∈G,isL x) @gU (λi ys S p=>by obtain ⟨_,G,rfl,l,_⟩:=p;rw [length_map,l];exact Nat.le_refl _) ⟨rfl,[],rfl,rfl,λx R=>nomatch R⟩ (λi ys S hi p=> ?_) (λys S p l n=> ?_)]
   ·obtain ⟨rfl,G,rfl,Y,U⟩:=p;have ai:i<36:=hi;rwa[⟨bU,?_⟩];rwa[j6.mk _ _ _ _ rfl J @b @b @c λj j0 j1=> ?_];obtain ⟨c,ec,hL⟩:=Ix j0 j1;rwa[qK @gU ec ?_];rwa[⟨rfl,G++[⟨#[c]⟩],by rw [map_append];rfl,by rw [length_append,Y];rfl,λx R=> ?_⟩]
    rcases mem_append.mp R with R|R
    ·exact U x R
    ·rw [mem_singleton.mp R];exact hL
   ·obtain ⟨rfl,G,rfl,Y,U⟩:=p;have Y:G.length=36:=Y;obtain ⟨g1,g2⟩:=vx (z:=s!"") @g (ts:=G) λt h=>(U t h).1;rwa[BL (ts:=G) @ej @bs @bs ?_];exact ⟨O.trans (.upd n),_,_,rfl,CH ⟨Y,U⟩⟩
 rintro σ' H' ⟨sX,t,o3,rfl,ot⟩;obtain ⟨ad,ah⟩:=FQ (fl:=fl) ot;ext;have Y:t.length=36:=ot.1
 have l6:(s!"table ").length=6:=by decide
 rwa[⟨bw @b,?_⟩];exact wW ah.1 ad λra dx H3 s3 n3 e3=>q ra dx _ H3 (my f2 ad) (sX.trans s3) e3
seal Od
theorem Mb {fl s g:Int}(h:0<=s/\s<fl/\0<=g/\g<fl/\s≠g):due fl 0 (.come 0 s g false)= .good:=by
 show (if s<0\/fl<=s then Du.floor s else if g<0\/fl<=g then .floor g else if s=g then .ride else .good)= .good;rw [if_neg @b,if_neg @b,if_neg @b]
theorem tX {fl:Int}:∀ {R:List ce},(∀r∈R,0<=r.start/\r.start<fl/\0<=r.goal/\r.goal<fl/\r.start≠r.goal)->bv fl R= .good
 |[],_=>rfl
 |r::R,h=>by
  rw [bv,Mb (h r (.head _))];exact tX λx z=>h x (.tail _ z)
structure Ae (fl:Int)(n:Nat)(R:List ce):Prop where
 l1:1<=R.length
 l6:R.length<=6
 r:∀q∈R,0<=q.came/\q.came<(n:Int)/\0<=q.start/\q.start<fl/\0<=q.goal/\q.goal<fl/\q.start≠q.goal
theorem RE {R:List ce}{i:Nat}(h:i<R.length):R.getD i nv∈R:=by
 rw [getD_eq_getElem?_getD,getElem?_eq_getElem h];exact getElem_mem h
theorem Ae.ok {fl:Int}{n:Nat}{R:List ce}(g:Ae fl n R):MC fl n R:=⟨g.l6,λi hi=>by have:=g.r _ (RE hi);exact ⟨this.1,this.2.1⟩,λi hi=>by have:=g.r _ (RE hi);exact this.2.2⟩
theorem Ae.due {fl:Int}{n:Nat}{R:List ce}(g:Ae fl n R):bv fl R= .good:=tX λq G=>(g.r q G).2.2
theorem GS (R:List ce):noLs @gG=true:=by
 induction R with
 |nil=>rfl
 |cons r R ih=>rw [map_cons,noLs,ih];rfl
inductive F7 (K:Fg)(vs:List V)(H:Hp)(Q:VK)(_e:XK):Prop
 |mk (a:Addr) (ns:List Int) (fl:Int) (n:Nat) (_:vs=[.ref a,.int fl,.int (n:Int)]) (_:E8 K H a ns) (_:2<=fl) (_:fl<=8) (_:1<=n) (_:n<=100) (_:∀l R H',aq H H'->jK K H' l R->Ae fl n R->Q (.ref l) H')
theorem Pe (F:Z0 K "_law_riders" rW f fd)(aQ:mg "range"=none)(xb:mg "sorted"=none)(cz:Z00 P w K mg base):ax P w K mg base aY 2 f fd ["_law_script","_law_floors","_law_turns"] (F7 K):=by
 rwa[F.ok vk (by symm) (λas A outer s H vs Q E hr h=> ?_)];obtain ⟨a,ns,fl,n,rfl,hS,f2,f8,n1,ak,q⟩:=h;rwa[⟨_,(aa @a (aa (aZ (i:=4) vk.nd rfl @n (aN (Fz rfl) rfl xb boot_sorted (ao (bF rfl (aC (N':=["_law_k","_law_script","_law_turns"]) (pk:=[none,some 0,some 2]) @o) (bA rfl aQ @dl) @i @r @i) aj))) (aa @a (aa (bJ PassesOwn.never rfl (bA rfl aQ @dl) @a (aa @a @Q)) (ac (am (wv 5))))))),?_⟩];rwa[j6.mk _ _ _ _ rfl hS @c @c @c λm0 m1 m2=> ?_];obtain ⟨m,hm⟩:∃m:Nat,1+m0=(m:Int):=⟨(1+m0).toNat,by lia⟩
 have m6:m<=6:=by lia
 have ap:1<=m:=by lia
 rwa[⟨by lia,?_⟩];rwa[eK (λj ys H'=>H'=H/\∃I:List Int,ys=I.map V.int/\I.length=j/\∀t∈I,0<=t/\t<(n:Int)) @bs (λi ys H' p=>by obtain ⟨_,I,p1,p2,_⟩:=p;rw [p1,length_map];lia) ⟨rfl,[],rfl,rfl,λt S=>nomatch S⟩ @dI (λys H2 p l1 ah=> ?_)]
 ·obtain ⟨rfl,I,rfl,tl,S⟩:=p;rwa[⟨bU,?_⟩];rwa[j6.mk _ _ _ _ rfl hS @b @b @b λt t0 t1=> ?_];rwa[⟨rfl,I++[t],by rw [map_append];rfl,by rw [length_append,tl];rfl,λx W=> ?_⟩]
  rcases mem_append.mp W with z|z
  ·exact S x z
  ·rw [mem_singleton.mp z];exact ⟨t0,t1⟩
 obtain ⟨rfl,I,rfl,tl,S⟩:=p;rwa[Uu (ns:=I) @ej @b λl2 G n2 pm=> ?_];have s2:aq H2 (upd @cu l2 (.lst @dU)):=(aq.upd ah).trans (.upd n2);have e2:upd @cu l2 (.lst @dU) l2=some (.lst @dU):=af
 have an:G.length=m:=by rw [pm.length_eq,tl];lia
 have ai:∀t∈G,0<=t/\t<(n:Int):=λt h=>S t (pm.mem_iff.mp h);generalize upd @cu l2 (.lst @dU)=H3 at s2 e2 ⊢;rwa[ju @bL λl H4 s4 n4 e4=> ?_];rwa[⟨by lia,?_⟩];rwa[cL (λj σ J=>aq H2 J/\J l2=some (.lst @dU)/\∃(ys:List V) (R:List ce) (o6 o7:Option V),σ=[some (.ref a),some (.int fl),some (.int (n:Int)),some (.int (1+m0)),some (.ref l2),some (.ref l),o6,o7]/\J l=some (.lst ys)/\aI K J ys @gG/\R.length=j/\∀q∈R,0<=q.came/\q.came<(n:Int)/\0<=q.start/\q.start<fl/\0<=q.goal/\q.goal<fl/\q.start≠q.goal) ⟨s2.trans s4,s4 _ _ e2,[],[],_,_,rfl,e4,.nil,rfl,λx W=>nomatch W⟩ (λj σ J hj pv=> ?_) @eJ]
 ·obtain ⟨Y,L,ys,R,o6,o7,rfl,Z,dX,rfl,hR⟩:=pv;have yl:ys.length=R.length:=aH dX;have U:=bE hS Y
  have ar:R.length<m:=by lia
  rwa[j6.mk _ _ _ _ rfl U @b @b @b λst al ae=> ?_];rwa[⟨.inl ⟨rfl,_,aD.of Z⟩,?_⟩];rwa[bP (aD.of L) (v:= .int (G.getD R.length 0)) (by have e:=xn (zs:=G) (i:=R.length) @b;first|exact bx e|(rw [Int.zero_add];exact bx e)) ?_];rwa[j6.mk _ _ _ _ rfl U @b @b @b λg g0 g1=> ?_];rwa[⟨by lia,?_⟩];rwa[cj (bw (by show 3<=1000000;decide)) λt H5 s5 n5 e5=> ?_];have O:=s5 _ _ Z;rwa[iL O @dQ ?_]
  have ad:l2≠l:=λz=>by rw [z,n4] at e2;cases e2
  have tm:=ai _ (zp (by lia:R.length<G.length));rwa[⟨aq.updF (Y.trans s5) (none_of s2 n4),by rw [ag ad];exact s5 _ _ L,ys++[.ref t],R++[⟨G.getD R.length 0,st,(st+1+g)% fl⟩],_,_,rfl,af,?_,by simp,λx W=> ?_⟩]
  ·rw [map_append];exact Paired.app (jB (aI.same dX s5) (GS R) O) (.cons (bO.noL (d:=ce.d ⟨G.getD R.length 0,st,(st+1+g)% fl⟩) (iQ (aK.of e5) (.cons (.int _) (.cons (.int _) (.cons (.int _) .nil)))) rfl O) .nil)
  ·rcases mem_append.mp W with z|z
   ·exact hR x z
   ·rw [mem_singleton.mp z];rwa[⟨tm.1,tm.2,al,ae,Int.emod_nonneg _ @b,Int.emod_lt_of_pos _ @b,?_⟩];show ¬st=(st+1+g)% fl
    rcases Int.lt_or_le (st+1+g) fl with z|z
    ·rw [Int.emod_eq_of_lt @b z];lia
    ·have e:(st+1+g)% fl=st+1+g - fl:=by
      rw [<-Int.sub_emod_right,Int.emod_eq_of_lt @b @b]
     lia
 obtain ⟨Y,L,ys,R,o6,o7,rfl,Z,dX,hl,hR⟩:=pv;exact q l R J Y ⟨ys,Z,dX⟩ ⟨by lia,by lia,hR⟩
def U0:Du->List V
 | .floor i=>[.int 8,.int i]
 | .ride=>[.int 4,.non]
 | .good=>[.int 0,.non]
inductive F9 (K:Fg)(vs:List V)(H:Hp)(Q:VK)(_e:XK):Prop
 |mk (l:Addr) (fl:Int) (R:List ce) (_:vs=[.ref l,.int fl]) (_:jK K H l R) (_:R.length<=6) (_:∀r H',aq H H'->H' r=some (.tup (U0 (bv fl R)))->Q (.ref r) H')
theorem Ph (F:Z0 K "_law_due" GN f fd):ax P w K mg base aY 1 f fd ["_law_riders_here","_law_floors"] (F9 K):=by
 rwa[F.ok Ow (by symm) @G];obtain ⟨l,fl,R,rfl,⟨xs,el,dl⟩,r6,q⟩:=h;have xl:xs.length=R.length:=aH dl;rwa[⟨_,(aa (bJ PassesOwn.never rfl @a @a (aa (bJ PassesOwn.never rfl @a @a (ac @bk)) (ac @bk))) @h),?_⟩];rwa[bD @cT ?_];rwa[bS (xs:=xs) (λi σ HX=>aq H HX/\bv fl R=bv fl (R.drop i)/\∃o2 o3 o4 W,σ=[some (.ref l),some (.int fl),o2,o3,o4,W]) ⟨.refl _,rfl,_,_,_,_,rfl⟩ (λi σ HX _ Y=>Y.1.seq @cT) (λi x σ HX hx Y=> ?_) (λσ HX Y=> ?_)]
 ·obtain ⟨L,G,o2,o3,o4,W,rfl⟩:=Y;obtain ⟨r,S,dr⟩:=bj dl hx;obtain ⟨a,rfl,hT⟩:=ii (bO.same dr L);have il:=(List.getElem?_eq_some_iff.mp S).1
  have au:R.drop i=r::R.drop (i+1):=by
   rw [drop_eq_getElem_cons il];rw [getElem?_eq_getElem il] at S;cases S;rfl
  rw [au] at G
  have G:bv fl R=match (if r.start<0\/fl<=r.start then Du.floor r.start else if r.goal<0\/fl<=r.goal then .floor r.goal else if r.start=r.goal then .ride else .good) with
   | .good=>bv fl (R.drop (i+1))
   |d=>d:=G
  rwa[gz hT rfl ?_];rwa[ju @bL λl2 H2 U n2 e2=> ?_];rwa[bD @cR ?_];rwa[bS (xs:=[.int r.start,.int r.goal]) (λj σ HY=>aq H2 HY/\(1<=j-> ¬(r.start<0\/fl<=r.start))/\(2<=j-> ¬(r.goal<0\/fl<=r.goal))/\∃W,σ=[some (.ref l),some (.int fl),some (.int r.came),some (.int r.start),some (.int r.goal),W]) ⟨.refl _,(λz=>by lia),(λz=>by lia),_,rfl⟩ (λj σ HY _ Y=>Y.1.seq @cR) (λj y σ HY hy Y=> ?_) (λσ HY Y=> ?_)]
  ·obtain ⟨Z,h1,h2,W,rfl⟩:=Y;have jl:=(List.getElem?_eq_some_iff.mp hy).1
   rcases (show j=0\/j=1 by simp only [length_cons,length_nil] at jl;lia) with rfl|rfl
   ·cases hy;rwa[fD @k @k]
    ·ext;rwa[b6 rfl ?_];rwa[cj (bw (by show 2<=1000000;decide)) λt J O n3 I=> ?_];exact q t J (((L.trans U).trans Z).trans O) (by rw [G,if_pos (.inl z)];exact I)
    ·ext;rwa[fD @eK @eK]
     ·ext;rwa[cj (bw (by show 2<=1000000;decide)) λt J O n3 I=> ?_];exact q t J (((L.trans U).trans Z).trans O) (by rw [G,if_pos (.inr z2)];exact I)
     ·exact ⟨Z,(λ_=>by lia),(λz=>by lia),_,rfl⟩
   ·cases hy;rwa[fD @k @k]
    ·ext;rwa[b6 rfl ?_];rwa[cj (bw (by show 2<=1000000;decide)) λt J O n3 I=> ?_];exact q t J (((L.trans U).trans Z).trans O) (by rw [G,if_neg (h1 @f),if_pos (.inl z)];exact I)
    ·ext;rwa[fD @eK @eK]
     ·ext;rwa[cj (bw (by show 2<=1000000;decide)) λt J O n3 I=> ?_];exact q t J (((L.trans U).trans Z).trans O) (by rw [G,if_neg (h1 @f),if_pos (.inr z2)];exact I)
     ·exact ⟨Z,(λ_=>h1 @f),(λ_=>by lia),_,rfl⟩
  ·obtain ⟨Z,h1,h2,W,rfl⟩:=Y;have h1:=h1 @e;have h2:=h2 @e;rw [if_neg h1,if_neg h2] at G;rwa[fD @k @k]
   ·rw [if_pos z] at G;rwa[cj (bw (by show 2<=1000000;decide)) λt J O n3 I=> ?_];exact q t J (((L.trans U).trans Z).trans O) (by rw [G];exact I)
   ·rw [if_neg z] at G;exact ⟨(L.trans U).trans Z,G,_,_,_,_,rfl⟩
 ·obtain ⟨L,G,o2,o3,o4,W,rfl⟩:=Y;rw [xl,drop_length] at G;rwa[cj (bw (by show 2<=1000000;decide)) λt J O n3 I=> ?_];exact q t J (L.trans O) (by rw [G];exact I)
def vc (fl s g:Int):Prop:= ¬(0<=s/\s<fl/\0<=g/\g<fl/\s≠g)
theorem Mc {fl s g:Int}(h:vc fl s g):due fl 0 (.come 0 s g false)≠ .good:=by
 show (if s<0\/fl<=s then Du.floor s else if g<0\/fl<=g then .floor g else if s=g then .ride else .good)≠ .good;unfold vc at h;split
 ·intro z;cases z
 split
 ·intro z;cases z
 split
 ·intro z;cases z
 ·exact absurd @b h
theorem vB {fl:Int}:∀ {R:List ce},(∃r∈R,vc fl r.start r.goal)->bv fl R≠ .good
 |[],⟨r,h,_⟩=>nomatch h
 |x::R,⟨r,h,b⟩=>by
  rw [bv]
  cases e:due fl 0 (.come 0 x.start x.goal false) with
  |floor i=>intro z;cases z
  |ride=>intro z;cases z
  |good=>
   rcases mem_cons.mp h with rfl|h
   ·exact absurd e (Mc b)
   ·exact vB ⟨r,h,b⟩
theorem RO {α β:Type}{R:α->β->Prop}{v:α}{d:β}:∀ {i:Nat} {xs:List α} {ds:List β},Paired R xs ds->R v d->Paired R @fr (ds.set i d)
 |_,[],[],_,_=> .nil
 |0,_::_,_::_,.cons _ h,hv=> .cons hv h
 |i+1,_::_,_::_,.cons z h,hv=> .cons z (RO h hv)
abbrev Iv (a l l1:Addr)(fl:Int)(j p:Nat)(cm way far:Int)(HX:Hp)(k:Int):L2.St->Hp->Prop:=λσ HY=>HY=HX/\∃s g:Int,σ=[some (V.ref a),some (V.ref l),some (V.int fl),some (V.ref l1),some (V.int (0+(j:Int))),some (V.int (p:Int)),some (V.int cm),some (V.int s),some (V.int g),some (V.int way),some (V.int far)]/\(way<k->vc fl s g)
inductive F6 (K:Fg)(vs:List V)(H:Hp)(Q:VK)(_e:XK):Prop
 |mk (a l:Addr) (ns:List Int) (fl:Int) (R:List ce) (_:vs=[.ref a,.ref l,.int fl]) (_:E8 K H a ns) (_:2<=fl) (_:fl<=8) (_:jK K H l R) (_:1<=R.length) (_:R.length<=6) (_:∀l' R' H',aq H H'->jK K H' l' R'->R'.length<=6->bv fl R'≠ .good->Q (.ref l') H')
theorem Pd (F:Z0 K "_law_spoilt" rV f fd)(dN:mg "list"=none)(aQ:mg "range"=none)(bR:mg "len"=none)(cz:Z00 P w K mg base):ax P w K mg base aY 2 f fd ["_law_script","_law_riders_here","_law_floors"] (F6 K):=by
 rwa[F.ok fB (by symm) (λak A outer s H vs Q E hr h=> ?_)];obtain ⟨a,l,ns,fl,R,rfl,hS,f2,f8,⟨xs,el,dl⟩,r1,r6,q⟩:=h;have xl:xs.length=R.length:=aH dl;rwa[⟨_,(aa (aZ (i:=3) fB.nd rfl @n (aV (kI rfl) rfl dN boot_list @K)) (aa (bJ PassesOwn.never rfl @dB @a (aa @a (aa (ij @a @a) (aa @a (aa @a (dZ (az @a (ac (aZ (i:=7) fB.nd rfl @n (d3 @eV (wv 2) @eC))) av) (dZ (az @a (ac (aZ (i:=8) fB.nd rfl @n (d3 @eV (wv 2) @eC))) av) (dZ (az @a (ac (aZ (i:=7) fB.nd rfl @n (d3 Cj (G6 FA cE) @eC))) av) (dZ (az @a (ac (aZ (i:=8) fB.nd rfl @n (d3 Cj (G6 FA cE) @eC))) av) (dZ @dh (ac (ij @a (lr (wv 3) (wv 5) qU))))))))))))) (ac (am (wv 3))))),?_⟩];rwa[ip (.inl @cT) λl1 H1 s1 n1 e1=> ?_];rwa[j6.mk _ _ _ _ rfl (bE hS s1) @c @c @c λm m0 m1=> ?_];rwa[⟨by lia,?_⟩];rwa[cL (λj σ G=>aq H G/\∃(ys:List V) (S:List ce) (o4 o5 o6 o7 o8 o9 Y:Option V),σ=[some (.ref a),some (.ref l),some (.int fl),some (.ref l1),o4,o5,o6,o7,o8,o9,Y]/\G l1=some (.lst ys)/\aI K G ys (S.map ce.d)/\S.length=R.length/\(1<=j->∃r∈S,vc fl r.start r.goal)) ⟨s1,xs,R,_,_,_,_,_,_,_,rfl,e1,aI.same dl s1,rfl,λz=>by lia⟩ (λj σ G hj pv=> ?_) @eL]
 ·obtain ⟨sX,ys,S,o4,o5,o6,o7,o8,o9,Y,rfl,eX,dX,rl,_⟩:=pv;have yl:ys.length=S.length:=aH dX;have U:=bE hS sX;rwa[eQ (aD.of eX) ?_];rwa[j6.mk _ _ _ _ rfl U @b @b @b λai ag ah=> ?_];obtain ⟨p,rfl⟩:=Int.eq_ofNat_of_zero_le ag
  have pl:p<S.length:=by lia
  obtain ⟨y,hy⟩:∃y,ys[p]? =some y:=⟨_,getElem?_eq_getElem @b⟩;obtain ⟨r,al,dr⟩:=bj dX hy;obtain ⟨t,rfl,hT⟩:=ii dr;rwa[bP (aD.of eX) @gW ?_];rwa[gz hT rfl ?_];rwa[j6.mk _ _ _ _ rfl U @b @b @c λO w0 w1=> ?_];rwa[j6.mk _ _ _ _ rfl U @b @b @c λu u0 u1=> ?_];rwa[⟨Ji @c @c @c,?_⟩];rwa[j6.mk _ _ _ _ rfl U @b @b @c λv v0 v1=> ?_];rwa[⟨uf @b @b,?_⟩];have ad:0<=u*v:=Int.mul_nonneg u0 v0;generalize u*v=L at ad ⊢;rwa[ub (Iv a l l1 fl j p r.came O L G 1) ?_ ?_]
  ·ext;rwa[fD @k @k]
   ·exact ⟨rfl,_,_,rfl,λ_=>by unfold vc;lia⟩
   ·exact ⟨rfl,_,_,rfl,λy=>by lia⟩
  rintro σ' W ⟨J,s0,g0,rfl,I⟩;have J:=J.symm;subst J;rwa[ub (Iv a l l1 fl j p r.came O L G 2) ?_ ?_]
  ·ext;rwa[fD @k @k]
   ·exact ⟨rfl,_,_,rfl,λ_=>by unfold vc;lia⟩
   ·exact ⟨rfl,_,_,rfl,λy=>I @b⟩
  rintro σ' W ⟨J,s1,g1,rfl,I⟩;have J:=J.symm;subst J;rwa[ub (Iv a l l1 fl j p r.came O L G 3) ?_ ?_]
  ·ext;rwa[fD @k @k]
   ·exact ⟨rfl,_,_,rfl,λ_=>by unfold vc;lia⟩
   ·exact ⟨rfl,_,_,rfl,λy=>I @b⟩
  rintro σ' W ⟨J,s2,g2,rfl,I⟩;have J:=J.symm;subst J;rwa[ub (Iv a l l1 fl j p r.came O L G 4) ?_ ?_]
  ·ext;rwa[fD @k @k]
   ·exact ⟨rfl,_,_,rfl,λ_=>by unfold vc;lia⟩
   ·exact ⟨rfl,_,_,rfl,λy=>I @b⟩
  rintro σ' W ⟨J,s3,g3,rfl,I⟩;have J:=J.symm;subst J;rwa[ub (Iv a l l1 fl j p r.came O L G 5) ?_ ?_]
  ·ext;rwa[fD @k @k]
   ·exact ⟨rfl,_,_,rfl,λ_=>by unfold vc;lia⟩
   ·exact ⟨rfl,_,_,rfl,λy=>I @b⟩
  rintro σ' W ⟨J,s4,g4,rfl,I⟩;have J:=J.symm;subst J;ext;have ae:=I w1;rwa[cj (bw (by show 3<=1000000;decide)) λt2 H2 s2 n2 e2=> ?_];have Z:=s2 _ _ eX;rwa[rC (j:=p) Z (by unfold An;rw [if_pos @b,if_pos @b];congr 1) ?_];rwa[⟨aq.updF (sX.trans s2) n1,ys.set p (.ref t2),S.set p ⟨r.came,s4,g4⟩,_,_,_,_,_,_,_,rfl,af,?_,by rw [length_set];exact rl,λ_=>⟨_,List.mem_set pl _,ae⟩⟩];rw [map_set];exact RO (jB (aI.same dX s2) (GS S) Z) (bO.noL (d:=ce.d ⟨r.came,s4,g4⟩) (iQ (aK.of e2) (.cons (.int _) (.cons (.int _) (.cons (.int _) .nil)))) rfl Z)
 obtain ⟨sX,ys,S,o4,o5,o6,o7,o8,o9,Y,rfl,eX,dX,rl,I⟩:=pv;exact q l1 S G sX ⟨ys,eX,dX⟩ @b (vB (I @b))
structure Tk (K:Fg)(D:Addr)(n:Nat)(cP dh gt gq aA kb gm ke au gp ka eS:Addr):Prop where
 tNoHouse:W.kitOne K (.ref D) (.ref cP)=some (0==n)
 tNoRule:W.kitOne K (.ref D) (.ref dh)=some (1==n)
 tNoDeal:W.kitOne K (.ref D) (.ref gt)=some (2==n)
 tNoDeed:W.kitOne K (.ref D) (.ref gq)=some (3==n)
 tNoRide:W.kitOne K (.ref D) (.ref aA)=some (4==n)
 tNoIll:W.kitOne K (.ref D) (.ref kb)=some (5==n)
 tNoLine:W.kitOne K (.ref D) (.ref gm)=some (6==n)
 tEmpty:W.kitOne K (.ref D) (.ref ke)=some (7==n)
 tNoFloor:W.kitOne K (.ref D) (.ref au)=some (8==n)
 tNoLift:W.kitOne K (.ref D) (.ref gp)=some (9==n)
 tTwice:W.kitOne K (.ref D) (.ref ka)=some (10==n)
 tTooMany:W.kitOne K (.ref D) (.ref eS)=some (11==n)
 tVE:W.kitOne K (.ref D) (.type "ValueError")=some true
 ek:pG K D
def XD (H:Hp)(a D:Addr):Prop:=∃dd,H a=some (iP a (.ref D) dd)/\(dd=none\/∃d fs,dd=some d/\H d=some (.xd fs))
theorem XD.same {H H':Hp}{a D:Addr}(h:XD H a D)(s:aq H H'):XD H' a D:=by
 obtain ⟨dd,h1,h2⟩:=h;exact ⟨dd,s _ _ h1,h2.imp id λ⟨d,fs,e,z⟩=>⟨d,fs,e,s _ _ z⟩⟩
theorem XD.isi {H:Hp}{a D:Addr}{c:V}{z:Value}{b:Bool}{Q:VK}(h:XD H a D)(k:pG K D)(h1:cV c=some z)(G:W.kitOne K (.ref D) z=some b)(g:Q (.bl b) H):lD K a c H Q:=by
 obtain ⟨dd,e,rfl|⟨d,fs,rfl,Z⟩⟩:=h
 ·exact CN e k h1 G g
 ·exact ze e Z k h1 G g
def jd (kF kR:Addr)(a:Addr):Sp:=λvs H Q _=>vs=[.ref a]/\∃D n,XD H a D/\(D=kF/\n=8\/D=kR/\n=4)/\∀p H',aq H H'->H p=none->H' p=some (.lst [.int (n:Nat),.bl true])->Q (.ref p) H'
theorem CC {z j a D:Addr}{n:Nat}{H:Hp}{Q:VK}{E:XK}(h:XD H a D)(h2:D=z/\n=8\/D=j/\n=4)(g:∀p H',aq H H'->H p=none->H' p=some (.lst [.int (n:Nat),.bl true])->Q (.ref p) H'):jd z j a [.ref a] H Q E:=⟨rfl,D,n,h,h2,g⟩
theorem SV {n i:Nat}(h:i<12):([V.bl (0==n),V.bl (1==n),V.bl (2==n),V.bl (3==n),V.bl (4==n),V.bl (5==n),V.bl (6==n),V.bl (7==n),V.bl (8==n),V.bl (9==n),V.bl (10==n),V.bl (11==n)]:List V)[i]? =some (.bl (i==n)):=by
 have:i=0\/i=1\/i=2\/i=3\/i=4\/i=5\/i=6\/i=7\/i=8\/i=9\/i=10\/i=11:=by lia
 rcases this with rfl|rfl|rfl|rfl|rfl|rfl|rfl|rfl|rfl|rfl|rfl|rfl<;>rfl
theorem D9 {cP dh U S G kb Y Z I gp ka W:Addr}(F:Z0 K "_law_others" rX f fd)(j:mg "isinstance"=none)(aQ:mg "range"=none)(jt:mg "ValueError"=none)(tO:mg "NoHouse"=some (.ref cP))(xp:mg "NoRule"=some (.ref dh))(xv:mg "NoDeal"=some (.ref U))(xu:mg "NoDeed"=some (.ref S))(jN:mg "NoRide"=some (.ref G))(BV:mg "NoIll"=some (.ref kb))(xq:mg "NoLine"=some (.ref Y))(BW:mg "Empty"=some (.ref Z))(fJ:mg "NoFloor"=some (.ref I))(xt:mg "NoLift"=some (.ref gp))(BS:mg "Twice"=some (.ref ka))(tN:mg "TooMany"=some (.ref W))
(tF:Tk K I 8 cP dh U S G kb Y Z I gp ka W)(tR:Tk K G 4 cP dh U S G kb Y Z I gp ka W):Ah P w K mg base 1 f fd ["_law_e"] (jd I G):=by
 rwa[Qa F jM (λa vs H Q E h=> ?_) (λag a A outer s H vs Q E hr h=> ?_)]
 ·obtain ⟨rfl,_⟩:=h;rfl
 obtain ⟨rfl,D,n,O,hD,q⟩:=h
 have tk:Tk K D n cP dh U S G kb Y Z I gp ka W:=by
  rcases hD with ⟨rfl,rfl⟩|⟨rfl,rfl⟩
  ·exact tF
  ·exact tR
 have ae:n<12:=by lia
 rwa[⟨_,(aa (aZ (i:=1) jM.nd rfl @fo (gO (ao (aN @bM rfl j boot_isinstance (ao (wv 0) (ao (bN rfl tO) aj))) (ao (aN @bM rfl j boot_isinstance (ao (wv 0) (ao (bN rfl xp) aj))) (ao (aN @bM rfl j boot_isinstance (ao (wv 0) (ao (bN rfl xv) aj))) (ao (aN @bM rfl j boot_isinstance (ao (wv 0) (ao (bN rfl xu) aj))) aj)))))) (aa (aZ (i:=1) jM.nd rfl @fo (d3 @eV (wv 1) (gO (ao (aN @bM rfl j boot_isinstance (ao (wv 0) (ao (bN rfl jN) aj))) (ao (aN @bM rfl j boot_isinstance (ao (wv 0) (ao (bN rfl BV) aj))) (ao (aN @bM rfl j boot_isinstance (ao (wv 0) (ao (bN rfl xq) aj))) (ao (aN @bM rfl j boot_isinstance (ao (wv 0) (ao (bN rfl BW) aj))) aj))))))) (aa (aZ (i:=1) jM.nd rfl @fo (d3 @eV (wv 1) (gO (ao (aN @bM rfl j boot_isinstance (ao (wv 0) (ao (bN rfl fJ) aj))) (ao (aN @bM rfl j boot_isinstance (ao (wv 0) (ao (bN rfl xt) aj))) (ao (aN @bM rfl j boot_isinstance (ao (wv 0) (ao (bN rfl BS) aj))) (ao (aN @bM rfl j boot_isinstance (ao (wv 0) (ao (bN rfl tN) aj))) aj))))))) (ac (am (d3 @eV (Fq (aC (N':=["_law_k","_law_some"]) (pk:=[none,some 1]) @o) (Aw hr.hd rfl aQ (ao cE aj)) (λC s H ex=>(mz (i:=0) (show List.Nodup (["_law_k","_law_some"]:List Str) by decide+kernel) rfl @n)) (λC s H ex=>(fz (pH rfl (pQ @eZ (wv 1) (wv 0) @bl)))) @R) (gO (ao (aN @bM rfl j boot_isinstance (ao (wv 0) (ao (wZ (v:= .ty "ValueError") rfl jt PyProof.Rows.Boot.«ValueError» rfl) aj))) aj)))))))),?_⟩];rwa[O.isi tk.ek rfl tk.tNoHouse ?_];rwa[O.isi tk.ek rfl tk.tNoRule ?_];rwa[O.isi tk.ek rfl tk.tNoDeal ?_];rwa[O.isi tk.ek rfl tk.tNoDeed ?_];rwa[ju @bL λl1 H1 s1 n1 e1=> ?_];have R:=O.same s1;rwa[R.isi tk.ek rfl tk.tNoRide ?_];rwa[R.isi tk.ek rfl tk.tNoIll ?_];rwa[R.isi tk.ek rfl tk.tNoLine ?_];rwa[R.isi tk.ek rfl tk.tEmpty ?_];rwa[ju @bL λl2 H2 s2 n2 e2=> ?_];rwa[C5 @gS e2 @bL λl3 H3 s3 n3 e3=> ?_];have J:=(R.same s2).same s3;rwa[J.isi tk.ek rfl tk.tNoFloor ?_];rwa[J.isi tk.ek rfl tk.tNoLift ?_];rwa[J.isi tk.ek rfl tk.tTwice ?_];rwa[J.isi tk.ek rfl tk.tTooMany ?_];rwa[ju @bL λl4 H4 s4 n4 e4=> ?_];rwa[C5 (s4.get e3) e4 @bL λl5 H5 s5 n5 e5=> ?_];have x5:=(J.same s4).same s5;have L:=(((s1.trans s2).trans s3).trans s4).trans s5;rwa[⟨⟨by decide,by decide⟩,zM (λi ys H'=>H'=H5/\ys=if i<=n then [] else [.int (n:Int)]) @gU (λi ys H' p=> ?_) ⟨rfl,(if_pos @fM).symm⟩ (λys H' p=>by obtain ⟨dd,z,_⟩:=x5;exact ⟨.ref D,dd,p.1▸z⟩) (λi ys H' hi p=> ?_) (λys H' p l6 n6=> ?_)⟩]
 ·rw [p.2];split
  ·exact Nat.zero_le _
  ·show 1<=i;lia
 ·obtain ⟨rfl,rfl⟩:=p;rwa[⟨bU,?_⟩];have ad:i<12:=hi;rwa[bP (aD.of e5) (v:= .bl (i==n)) (by rw [Int.zero_add];exact bx (SV ad)) ?_]
  rcases Nat.lt_trichotomy i n with z|z|z
  ·rw [show (i==n)=false from beq_eq_false_iff_ne.mpr @b];exact ⟨rfl,by rw [if_pos @b,if_pos @b]⟩
  ·subst z;rw [show (i==i)=true from beq_self_eq_true i];exact ⟨rfl,by rw [if_pos @b,if_neg @b,nil_append,Int.zero_add]⟩
  ·rw [show (i==n)=false from beq_eq_false_iff_ne.mpr @b];exact ⟨rfl,by rw [if_neg @b,if_neg @b]⟩
 ·obtain ⟨rfl,ey⟩:=p;have ey:ys=[.int (n:Int)]:=ey.trans (if_neg (show ¬(12:Nat)<=n by lia));subst ey;have e6:upd H' l6 (.lst [V.int (n:Int)]) l6=some (.lst [V.int (n:Int)]):=af;have s6:aq H' (upd H' l6 (.lst [V.int (n:Int)])):= .upd n6;rwa[(x5.same s6).isi tk.ek rfl tk.tVE ?_];rwa[ju @bL λl7 H7 s7 n7 e7=> ?_];rwa[C5 (s7.get e6) e7 @bL λl8 H8 s8 n8 e8=> ?_];exact q l8 H8 (((L.trans s6).trans s7).trans s8) (L.free (s6.free (s7.free n8))) e8
seal jd
def Xm (kF kR:Addr)(H:Hp)(cls:Value)(dd:Option Addr):Du->Prop
 | .floor i=>cls= .ref kF/\∃d,dd=some d/\H d=some (.xd [(AC,.int i)])
 | .ride=>cls= .ref kR/\dd=none
 | .good=>False
def U1:Du->V
 | .floor i=> .int i
 |_=> .non
def UP:Du->Nat
 | .floor _=>8
 | .ride=>4
 | .good=>0
theorem Qd (u:Du):U0 u=[.int (UP u:Int),U1 u]:=by cases u<;>rfl
unseal qT in
theorem QI {K:Fg}{fl:Str}{a D d:Addr}{fs:List (Str×V)}{v:V}{H:Hp}{Q:VK}(h1:H a=some @en)(h2:H d=some (.xd fs))(G:pG K D)(j:W.hasDictIn K D=true)(z:W.findIn K (.ref D) fl=some none)(L:fs.lookup fl=some v)(g:Q v H):qT K fl a H Q:=⟨D,d,fs,v,h1,h2,G,j,z,L,g⟩
inductive F8 (P:Program)(w:World)(K:Fg)(mg:Str->Option Value)(base:Heap)(Pf:Addr)(vs:List V)(H:Hp)(Q:VK)(_e:XK):Prop
 |mk (way:Int) (h ru l dl:Addr) (hs:Hs) (wf:Wf) (k:List Int) (R:List ce) (n:Nat) (_:vs=[.int way,.ref h,.ref ru,.ref l,.ref dl,.int (n:Int)]) (_:Tu P w K mg base Pf H h ru l dl hs wf k R n) (_:bv hs.fl R≠ .good) (_:∀H',aq H H'->Q (.bl true) H')
theorem Pg {G J L Pf:Addr}(F:Z0 K "_law_refused" oC f fd)(aF:mg "isinstance"=none)(fJ:mg "NoFloor"=some (.ref G))(dQ:mg "CourtError"=some (.ref L))(jA:Cf K L)(cF:gK K (.ref G) L)(cR:gK K (.ref J) L)(ae:pG K G)(ap:pG K J)(as:W.kitOne K (.ref G) (.ref G)=some true)(an:W.kitOne K (.ref J) (.ref G)=some false)(oY:W.hasDictIn K G=true)(cc:W.findIn K (.ref G) "floor"=some none)(kA:nq P w K mg base 13 "_law_asked" ["_law_way","_law_house_here","_law_rule_here","_law_riders_here","_law_dealing","_law_turns"] (Om P w K mg base G J Pf))(z:MK P w K mg base 1 "_law_others" ["_law_e"] (jd G J))(ur:bp P w K mg base 1 "_law_due" ["_law_riders_here","_law_floors"] (F9 K)):ax P w K mg base aY 14 f fd ["_law_way","_law_house_here","_law_rule_here","_law_riders_here","_law_dealing","_law_turns"] (F8 P w K mg base Pf):=by
 rwa[F.ok dH (by symm) (λaw A outer s H vs Q E hr h=> ?_)];obtain ⟨ai,h,ru,l,dl,hs,wf,k,R,n,rfl,O,g,q⟩:=h;rwa[⟨_,(aa (aZ (i:=6) dH.nd rfl @n (gO aj)) (aa (aZ (i:=7) dH.nd rfl @n wY) (dZ (DX (j:=8) rfl rfl jA rfl dQ dH.nd rfl rfl (GX (RM rfl kA hr @c rfl (ao (wv 0) (ao (wv 1) (ao (wv 2) (ao (wv 3) @fC)))))) (λa=>(aa (aZ (i:=6) dH.nd rfl @n (OT z (hr.mark a) @c rfl (ao (wv 8) aj))) (ac (az (pH rfl (aN @bM rfl aF boot_isinstance (ao (wv 8) (ao (bN rfl fJ) aj)))) (ac (aZ (i:=7) dH.nd rfl @n (KS rfl (wv 8)))) av))))) (aa (aZ (i:=9) dH.nd rfl @n (b3 ur hr @c rfl (ao (wv 3) (ao (pQ @eZ (wv 1) cE @bl) aj)))) (ac (am (Ax (d4 @gR (wv 6) (gO (ao (pQ @eZ (wv 9) cE @bl) (ao j8 aj))) (b4 _)) (Bn (d4 @gR (wv 7) (pQ @eZ (wv 9) cE @bl) (b4 _)))))))))),?_⟩];rwa[ju @bL λl0 H1 s1 n1 e1=> ?_];have ah:Tu P w K mg base Pf H1 h ru l dl hs wf k R n:=⟨O.fx.nt s1.nt,O.ls.nt s1.nt,O.rs.same s1,O.r6,O.tb.same s1,O.n1⟩;rwa[ub (λσ HY=>aq H1 HY/\∃o,HY o=some (.lst [.int (UP @ck:Int),.bl true])/\σ=[some (.int ai),some (.ref h),some (.ref ru),some (.ref l),some (.ref dl),some (.int (n:Int)),some (.ref o),some (U1 @ck),none,none]) ?_ ?_]
 ·rwa[⟨λad dd Y=>aq H1 Y/\Xm G J Y ad dd @ck,?_,?_⟩]
  ·ext;rwa[Om.mk _ _ _ _ _ _ _ _ _ _ rfl ah g ?_]
   cases e:bv hs.fl R with
   |good=>exact absurd e g
   |floor i=>exact λd H' I ed=>⟨I,rfl,d,rfl,ed⟩
   |ride=>exact λH' I=>⟨I,rfl,rfl⟩
  ·rintro ad dd Y ⟨sZ,xm⟩
   cases e:bv hs.fl R with
   |good=>exact absurd e g
   |floor i=>
    rw [e] at xm;obtain ⟨rfl,d,rfl,ed⟩:=xm;rwa[⟨cF,λx nx=> ?_⟩];have Z:aq Y (upd Y x @eq):= .upd nx;have ex:upd Y x @eq x=some @eq:=af;rwa[CC (D:=G) (n:=8) ⟨some d,ex,.inr ⟨d,_,rfl,Z _ _ ed⟩⟩ (.inl ⟨rfl,rfl⟩) λo H' I no eo=> ?_];rwa[ze (I _ _ ex) (I _ _ (Z _ _ ed)) ae rfl as ?_];rwa[b6 rfl ?_];rwa[QI (I _ _ ex) (I _ _ (Z _ _ ed)) ae oY cc rfl ?_];exact ⟨(sZ.trans Z).trans I,o,eo,rfl⟩
   |ride=>
    rw [e] at xm;obtain ⟨rfl,rfl⟩:=xm;rwa[⟨cR,λx nx=> ?_⟩];have Z:aq Y (upd Y x @eh):= .upd nx;have ex:upd Y x @eh x=some @eh:=af;rwa[CC (D:=J) (n:=4) ⟨none,ex,.inl rfl⟩ (.inr ⟨rfl,rfl⟩) λo H' I no eo=> ?_];rwa[CN (I _ _ ex) ap rfl an ?_];rwa[bG rfl ?_];exact ⟨(sZ.trans Z).trans I,o,eo,rfl⟩
 rintro σ' HY ⟨sY,o,eo,rfl⟩;have S:=s1.trans sY;obtain ⟨ay,p,xs,al,bi,bb⟩:=O.fx.hh.same S;rwa[ar al rfl ?_];rwa[F9.mk _ _ _ rfl (O.rs.same S) O.r6 λt H2 s2 et=> ?_];rw [Qd] at et;rwa[ar (aK.of et) (v:= .int (UP @ck:Int)) rfl ?_];rwa[ju @bL λl3 H3 s3 n3 e3=> ?_];rwa[B1 (B4 (aD.of (s3 _ _ (s2 _ _ eo))) (.cons (.int _) (.cons (.bl _) .nil))) (B4 (aD.of e3) (.cons (.int _) (.cons (.bl _) .nil))) (by simp [vC,deps]) ?_];have U:=q H3 ((S.trans s2).trans s3);have ag:=s3 _ _ et;generalize bv hs.fl R=u at ag ⊢;rwa[b6 rfl ?_];rwa[ar (aK.of ag) rfl ?_]
 cases u with
 |floor i=>
  show Q (.bl (decide (i=i))) H3;rw [decide_eq_true rfl];exact U
 |ride=>exact U
 |good=>exact U
theorem Fk {R:List ce}{n:Int}{W:List Int}{r:Rw}:(fQ R n W r).length=W.length:=by
 cases r with
 |deal t i=>rfl
 |note b t=>unfold fQ;split<;>simp
 |step b t i fl=>unfold fQ;split<;>simp
theorem nG {R:List ce}{n:Int}:∀ {L:List Rw} {W:List Int},(L.foldl (fQ R n) W).length=W.length
 |[],_=>rfl
 |r::L,W=>by rw [foldl_cons,nG,Fk]
theorem De {R:List ce}:∀ {Ls:List @bx} {t:Nat} {W:List Int},(Df R t W Ls).length=W.length
 |[],_,_=>rfl
 |L::Ls,t,W=>by rw [Df,De,nG]
theorem C0 {H:Hp}{p:Addr}{us:List V}{o:HO}{xs:List V}{ds:List Dd}(h:Paired (DR H) xs ds)(G:H p=some (.lst us)):Paired (DR @db) xs ds:=Paired.imp' (λx d ⟨a,e,z⟩=>⟨a,e,by have L:=z.1;rw [ag (λw=>by rw [w,G] at L;cases L)];exact L,z.2⟩) h
inductive Oi (P:Program)(w:World)(K:Fg)(mg:Str->Option Value)(base:Heap)(C:Addr)(vs:List V)(H:Hp)(Q:VK)(_e:XK):Prop
 |mk (a l:Addr) (hs:Hs) (wf:Wf) (k:List Int) (lx:Lx) (R:List ce) (n:Nat) (_:vs=[.ref a,.ref l,.int (n:Int)]) (_:Fa P w K mg base C H a hs wf @gE) (_:E4 hs) (_:0<k.length) (_:(∀z∈k,0<=z/\z<(hs.ls.length:Int))) (_:jK K H l R) (_:MC hs.fl n R) (_:n<=100) (_:∀z H',aJ H H'->lO mg lx H'->Qt hs wf k R n z->Q (.int z) H')
theorem R7 {cK:Addr}(F:Z0 K "_law_waits" wN f fd)(cC:JP K cK)(bR:mg "len"=none)(aQ:mg "range"=none)(En:mg "sum"=none)(cU:iB P w K mg base aY 2 "begin" cK (mq K))(dR:iB P w K mg base aY 9 "turn" cK @eY):ax P w K mg base aY 10 f fd ["_law_court","_law_riders_here","_law_turns"] (Oi P w K mg base cK):=by
 rwa[F.ok rJ (by symm) (λbt A outer s H vs Q E hr h=> ?_)];obtain ⟨a,l,hs,wf,k,lx,R,n,rfl,au,bf,k0,kl,⟨xs,el,dl⟩,rk,bo,q⟩:=h;have xl:xs.length=R.length:=aH dl;have l6:=rk.len;obtain ⟨br,h0,bq,bp,as,aP,_⟩:=au.ex;have R0:=Dj aP.1 bf;rwa[⟨_,(aa (aZ (i:=3) rJ.nd rfl @n (ye (n:=2) fH hr @c (wv 0))) (aa (fw (i:=4) rfl rJ.nd rfl @n (aC (N':=["_law_rider","_law_turns"]) (pk:=[none,some 2]) @o) @a @i @r @i) (aa (bJ PassesOwn.never rfl (bA rfl aQ @cw) @a (aa @a (aa (bJ PassesOwn.never rfl @dB @a (ac (az @a @Q av))) (aa (ij (lW (n:=9) fH hr @c (wv 0) (ao (wv 3) @fW)) @a) (ac (bJ PassesOwn.never rfl @a @a (aa (az @a (ac (ij cE (lr (wv 4) @a qU))) av) (ac (az @a (ac (ij @a (lr (wv 4) @a qU))) av))))))))) (ac (am (aN (ML rfl rfl) rfl En boot_sum @cy)))))),?_⟩];rwa[im as rfl cU ?_];rwa[mq.mk _ _ _ _ _ _ _ rfl as cC aP λst H1 s1 an=> ?_];rwa[bD (s1.seq @cT) ?_];rwa[bI (xs:=xs) (λj us HX=>HX=H1/\us=((R.take j).map λq=>(n:Int) - q.came).map V.int) @bs (λj us HX h=>by rw [h.2,length_map,length_map,length_take];exact Nat.min_le_left _ _) ⟨rfl,rfl⟩ (λj us HX _ h=>by rw [h.1];exact s1.seq @cT) (λj y us HX hy hP=> ?_) (λus HX hP lw nw=> ?_)]
 ·obtain ⟨rfl,rfl⟩:=hP;obtain ⟨r,U,dr⟩:=bj dl hy;obtain ⟨b,rfl,hT⟩:=ii (bO.same dr s1);rwa[⟨bU,?_⟩];rwa[ar hT rfl ?_];exact ⟨rfl,by rw [take_add_one,U,Option.toList_some,map_append,map_append];rfl⟩
 obtain ⟨rfl,rfl⟩:=hP;rw [xl,take_length];obtain ⟨W0,aE⟩:∃W0:List Int,W0=R.map λq=>(n:Int) - q.came:=⟨_,rfl⟩
 have bg:W0.length=R.length:=by rw [aE,length_map]
 rw [<-aE];have s2:aq HX (upd HX lw (.lst @ew)):= .upd nw;have ew:upd HX lw (.lst @ew) lw=some (.lst @ew):=af;generalize upd HX lw (.lst @ew)=H2 at s2 ew ⊢;have aU:=s1.trans s2;rwa[⟨by lia,?_⟩];rwa[cL (λi σ HY=>aJ H HY/\(dq mg k lx).G HY/\∃(Ms:List MS) (Ls:List @bx) (st:Addr) (o5 o6 o7 o8 o9:Option V),HY lw=some (.lst ((Df R 0 W0 Ls).map V.int))/\gv hs wf k @dS (d9 R 0 i) Ms/\Ms.map MS.log=Ls.map @bd/\Sr hs (TT R i) (Ms.getLastD @dS)/\fj K HY st (Ms.getLastD @dS).cs (Ms.getLastD @dS).ws (Ms.getLastD @dS).last false/\σ=[some (.ref a),some (.ref l),some (.int (n:Int)),some (.ref st),some (.ref lw),o5,o6,o7,o8,o9]) ⟨aU.nt,(dq mg k lx).gT _ _ aU.st au.gg,[],[],st,_,_,_,_,_,ew,rfl,rfl,R0,fj.nt s2.nt an,rfl⟩ (λi σ HY hi Y=> ?_) (λσ HY Y=> ?_)]
 ·obtain ⟨sY,gY,Ms,Ls,st,o5,o6,o7,o8,o9,ak,rG,eL,sr,an,rfl⟩:=Y
  have bn:Ls.length=i:=by have:=congrArg List.length eL;rw [length_map,length_map,rG.len,d7] at this;exact this.symm
  have aF:=sY _ _ (λ_ z=>by cases z) el;have aL:=sY.dens dl
  have wl:(Df R 0 W0 Ls).length=R.length:=by rw [De,bg]
  rw [show (0:Int)+(i:Int)=(i:Int) by lia];rwa[ju @bL λdp H3 s3 n3 e3=> ?_];rwa[eQ (s3.seq (aD.of aF)) ?_];rwa[⟨by lia,?_⟩]
  have hn:(xs.length:Int).toNat=R.length:=by lia
  rw [hn];rwa[cL (λj σ HZ=>aq HY HZ/\∃(ys:List V) (o7:Option V),HZ dp=some (.lst ys)/\Paired (DR HZ) ys (ua R (i:Int) j)/\σ=[some (.ref a),some (.ref l),some (.int (n:Int)),some (.ref st),some (.ref lw),some (.int (i:Int)),some (.ref dp),o7,o8,o9]) ⟨s3,[],_,e3,.nil,rfl⟩ (λj σ HZ hj Y=> ?_) (λσ HZ Y=> ?_)]
  ·obtain ⟨Z,ys,o7,eZ,pZ,rfl⟩:=Y;rw [show (0:Int)+(j:Int)=(j:Int) by lia];obtain ⟨y,hy⟩:∃y,xs[j]? =some y:=⟨_,getElem?_eq_getElem @b⟩;obtain ⟨r,U,dr⟩:=bj aL hy;obtain ⟨b,rfl,hT⟩:=ii (bO.same dr Z);have er:=BQ U;have aA:=Z _ _ aF
   have yl:ys.length<=j:=by rw [pZ.len];exact mV
   rwa[bP (aD.of aA) (v:= .ref b) @gW ?_];rwa[ar hT rfl ?_];rwa[fD @k @k]
   ·ext;rwa[⟨.inl ⟨rfl,_,aD.of eZ⟩,?_⟩];rwa[bP (aD.of aA) (v:= .ref b) @gW ?_];rwa[ar hT rfl ?_];rwa[bP (aD.of aA) (v:= .ref b) @gW ?_];rwa[ar hT rfl ?_];rwa[cj (bw (by show 5<=1000000;decide)) λtt H4 s4 _ e4=> ?_];have aB:=s4 _ _ eZ;rwa[iL aB @dQ ?_];rwa[⟨aq.updF (Z.trans s4) n3,ys++[.ref tt],_,af,?_,rfl⟩];rw [jP,er,if_pos z];exact Paired.app (C0 (iu pZ s4) aB) (C0 (H:=H4) (xs:=[.ref tt]) (ds:=[JR R j]) (.cons ⟨tt,rfl,by unfold JR;rw [er];exact e4,trivial⟩ .nil) aB)
   ·rwa[⟨Z,ys,_,eZ,?_,rfl⟩];rw [jP,er,if_neg z,append_nil];exact pZ
  obtain ⟨Z,ys,o7,eZ,pZ,rfl⟩:=Y;have cY:=au.nt sY gY;have cZ:=cY.same Z;obtain ⟨dx,h,ru,df,a8,_⟩:=cZ.ex;rwa[im a8 rfl dR ?_];rwa[MR cZ k0 kl cC (fj.nt Z.nt an) sr ⟨ys,aD.of eZ,pZ⟩ (xC rk i) λr aO ll lz M' HT L sT gT er a0 aV aw aT Ll tL nl hT R'=> ?_];rw [jC] at tL R';rwa[gz (aK.of er) rfl ?_];rwa[bD (aD.of aV) ?_];have a9:lw≠ll:=nl lw _ (Z _ _ ak);have aW:H lw=none:=none_of s1 nw
  have bd:l≠lw:=λz=>by rw [z,aW] at el;cases el
  rw [aT] at aw;have bl:lz.length=L.length:=aH aw;have bc:=sT _ _ (λ_ z=>by cases z) (Z _ _ aF);have a7:=sT.dens (aI.same aL Z);have aX:=sT _ _ (λ_ z=>by cases z) (Z _ _ ak);have bh:=sY.trans (Z.nt.trans sT)
  have bk:∀r∈L,∃x:Nat,x<R.length/\r.tag=(x:Int):=λr hr=>by
   obtain ⟨x,h1,h2,_⟩:=lM.mp (show r.tag∈TT R (i+1) from tL r hr);exact ⟨x,h1,h2⟩
  obtain ⟨W,hW⟩:∃W,W=Df R 0 W0 Ls:=⟨_,rfl⟩;rw [<-hW] at aX wl;rwa[bS (xs:=lz) (λj σ J=>aJ H J/\aM HT J/\J ll=some (.lst lz)/\J l=some (.lst xs)/\J lw=some (.lst (((L.take j).foldl (fQ R (i:Int)) W).map V.int))/\∃o9,σ=[some (.ref a),some (.ref l),some (.int (n:Int)),some (.ref aO),some (.ref lw),some (.int (i:Int)),some (.ref dp),o7,some (.ref ll),o9]) ⟨bh,.refl _,aV,bc,aX,_,rfl⟩ (λj σ J _ Y=>aD.of Y.2.2.1) (λj x σ J hx Y=> ?_) @fa]
  ·obtain ⟨sU,tU,ay,al,O,o9,rfl⟩:=Y;obtain ⟨ad,U,dr⟩:=bj aw hx;obtain ⟨b,rfl,bi⟩:=GO dr;have I:=tU.sqT bi
   have aG:(L.take (j+1)).foldl (fQ R (i:Int)) W=fQ R (i:Int) ((L.take j).foldl (fQ R (i:Int)) W) ad:=by
    rw [take_add_one,U,foldl_append];rfl
   obtain ⟨x,xr,ext⟩:=bk ad (mem_of_getElem? U)
   have a6:((L.take j).foldl (fQ R (i:Int)) W).length=R.length:=by rw [nG,wl]
   generalize (L.take j).foldl (fQ R (i:Int)) W=S at O aG a6;have ah:fQ R (i:Int) S ad=S->aJ H J/\aM HT J/\J ll=some (.lst lz)/\J l=some (.lst xs)/\J lw=some (.lst (((L.take (j+1)).foldl (fQ R (i:Int)) W).map V.int)):=λz=>⟨sU,tU,ay,al,by rw [aG,z];exact O⟩;have ap:∀v:Int,fQ R (i:Int) S ad=S.set x v->aJ H (upd J lw (.lst ((S.map V.int).set x (.int v))))/\aM HT (upd J lw (.lst ((S.map V.int).set x (.int v))))/\upd J lw (.lst ((S.map V.int).set x (.int v))) ll=some (.lst lz)/\upd J lw (.lst ((S.map V.int).set x (.int v))) l=some (.lst xs)/\upd J lw (.lst ((S.map V.int).set x (.int v))) lw=some (.lst (((L.take (j+1)).foldl (fQ R (i:Int)) W).map V.int)):=λv z=>⟨aJ.updF sU aW,tU.trans (.updL O),by rw [ag (Ne.symm a9)];exact ay,by rw [ag bd];exact al,by rw [af,aG,z,map_set]⟩
   have aR:An (S.map V.int).length (x:Int)=some x:=by unfold An;rw [length_map,if_pos @b,if_pos @b];congr 1
   cases ad with
   |deal t e=>
    rwa[ar I rfl ?_];rwa[fI @g ?_];rwa[ar I rfl ?_];rwa[fI @g ?_];obtain ⟨a1,a2,a3,a4,a5⟩:=ah rfl;exact ⟨a1,a2,a3,a4,a5,_,rfl⟩
   |note c t=>
    have ext:t=(x:Int):=ext;subst ext;erw[ar I rfl ?_]
    cases c with
    |true=>
     rwa[oX rfl ?_];rwa[ar I rfl ?_];rwa[rC (j:=x) O aR ?_];obtain ⟨a1,a2,a3,a4,a5⟩:=ap 0 rfl;have ai:=(aM.updL (o:= .lst ((S.map V.int).set x (.int 0))) O).sqT I;generalize upd J lw (.lst ((S.map V.int).set x (.int 0)))=HV at a1 a2 a3 a4 a5 ai ⊢;rwa[ar ai rfl ?_];rwa[fI @g ?_];exact ⟨a1,a2,a3,a4,a5,_,rfl⟩
    |false=>
     rwa[fI @g ?_];rwa[ar I rfl ?_];rwa[fI @g ?_];obtain ⟨a1,a2,a3,a4,a5⟩:=ah rfl;exact ⟨a1,a2,a3,a4,a5,_,rfl⟩
   |step c t e fl=>
    have ext:t=(x:Int):=ext;subst ext;erw[ar I rfl ?_]
    cases c with
    |true=>
     rwa[fI @g ?_];rwa[ar I rfl ?_];rwa[fI @g ?_];obtain ⟨a1,a2,a3,a4,a5⟩:=ah rfl;exact ⟨a1,a2,a3,a4,a5,_,rfl⟩
    |false=>
     rwa[fI @g ?_];rwa[ar I rfl ?_];rwa[oX rfl ?_];obtain ⟨y,hy⟩:∃y,xs[x]? =some y:=⟨_,getElem?_eq_getElem @b⟩;obtain ⟨q0,hq,ba⟩:=bj a7 hy;obtain ⟨b2,rfl,bb⟩:=ii ba;rwa[ar I rfl ?_];rwa[bP (aD.of al) (v:= .ref b2) @gW ?_];rwa[ar (tU.sqT bb) rfl ?_];rwa[ar I rfl ?_];rwa[rC (j:=x) O aR ?_];obtain ⟨a1,a2,a3,a4,a5⟩:=ap ((i:Int) - q0.came) (by show S.set ((x:Int)).toNat ((i:Int) - cm R (x:Int))=_;unfold cm;rw [Int.toNat_natCast,BQ hq]);exact ⟨a1,a2,a3,a4,a5,_,rfl⟩
  ·obtain ⟨sU,tU,ay,al,O,o9,rfl⟩:=Y;rw [bl,take_length] at O
   have ae:(Ms++[M']).getLastD @dS=M':=by simp
   rwa[⟨sU,(dq mg k lx).gT _ _ tU gT,Ms++[M'],Ls++[L],aO,_,_,_,_,_,?_,?_,by rw [map_append,map_append,eL,List.map_singleton,List.map_singleton,aT],by rw [ae];exact R',by rw [ae];exact a0.keep tU,rfl⟩]
   ·rw [O,Ac,bn,Nat.zero_add,hW]
   ·rw [pe,Nat.zero_add];exact rG.snoc hT
 obtain ⟨sY,gY,Ms,Ls,st,o5,o6,o7,o8,o9,ak,rG,eL,sr,an,rfl⟩:=Y;rwa[⟨Df R 0 W0 Ls,aD.of ak,?_⟩]
 have en:((n:Int)).toNat=n:=by lia
 exact q _ HY sY gY ⟨Ms,Ls,rG,eL,by rw [aE]⟩
theorem Dt {H:Hp}{P:Addr}{q:Str}(h:H P=some (.tbl #[])):c7 H P q:=⟨#[],h,trivial,λpos z e=>by cases e⟩
theorem PB {i:Int}(I:0<=i)(h1:i<=9):i.natAbs.log2<1920:=by
 rcases (show i=0\/i=1\/i=2\/i=3\/i=4\/i=5\/i=6\/i=7\/i=8\/i=9 by lia) with rfl|rfl|rfl|rfl|rfl|rfl|rfl|rfl|rfl|rfl<;>decide+kernel
theorem Sx:∀js:List Int,(∀i∈js,0<=i/\i<=9)->((js.map lT).map (·.length)).sum<=js.length
 |[],_=>Nat.le_refl _
 |i::js,hj=>by
  have:=Sx js λx z=>hj x (.tail _ z);have:=(tY (hj i (.head _)).1 (hj i (.head _)).2).2.1;simp only [map_cons,sum_cons,length_cons] at *;lia
theorem Ey {H:Hp}{l:Addr}{j:List Int}{Q:VK}(U:∀i∈j,0<=i/\i<=9)(G:j.length<=9)(F:H l=some (.lst ((j.map lT).map V.str)))(q:(Str.join Am @gg).length<=100->Q (.str (Str.join Am @gg)) H):zc K Am l H Q:=by
 have W:=Sx j U;have L:=PySem.StrLaws.join_length_le Am @gg
 have R:Am.length=1:=by decide
 have z:(Str.join Am @gg).length<=100:=by
  rw [R,length_map] at L;lia
 rwa[BL (aD.of F) (bw ?_) (bw ?_) ?_]
 ·rw [PySem.StrLaws.joinTotal,R,length_map];lia
 ·rw [PySem.StrLaws.glued_eq_join];lia
 ·rw [PySem.StrLaws.glued_eq_join];exact q z
theorem BD {zs:List Int}(h:1<=zs.length):s!"fixed "++Str.join Am (zs.map lT)=mF dF zs:=by
 cases zs with
 |nil=>cases h
 |cons z zs=>
  unfold mF;rw [map_cons];show _=dF++Am++Str.join Am (lT z::zs.map lT);rw [show s!"fixed "=dF++Am by decide+kernel]
theorem xA {α:Type}{g:α->D}{n:Nat}(h:∀a,vC (g a)<=n):∀as:List α,deps (as.map g)<=n
 |[]=>Nat.zero_le _
 |a::as=>Nat.max_le.mpr ⟨h a,xA h as⟩
theorem Mf (r:ce):vC r.d<=3:=by simp [ce.d,vC,deps]
theorem tG {H:Hp}:∀is:List Int,aI K H (is.map V.int) (is.map D.int)
 |[]=> .nil
 |i::is=> .cons (.int i) (tG is)
inductive yB (K:Fg)(Pf:Addr)(vs:List V)(H:Hp)(Q:VK)(_e:XK):Prop
 |mk (a:Addr) (ns:List Int) (_:vs=[.ref a]) (_:E8 K H a ns) (_:c7 H Pf qF) (_:∀H',Q (.bl true) H')
theorem Pi {k:Ks}{cK au aA Pf:Addr}(F:Z0 K "law" Oz f fd)(R:Tq K P w mg base k)(cC:JP K cK)(bR:mg "len"=none)(aQ:mg "range"=none)(Pz:mg "str"=none)(bQ:mg "tuple"=none)(dN:mg "list"=none)(b5:Z02 P w K mg base)(oS:iM P w K mg base aY 1 "Court" cK (Gg K))(lJ:bp P w K mg base 4 "dealer_of" ["text","house"] (λvs H Q _=>Ge K mg Pf vs H Q E0))(B7:bp P w K mg base 12 "dealt" ["house","rule","riders","dealing","turns"] (λvs H Q _=>Gd P w K mg base au aA Pf vs H Q E0))
(cz:Z00 P w K mg base)(lH:bp P w K mg base 1 "_law_whole" ["_law_thing"] v8)(uq:bp P w K mg base 5 "_law_house" ["_law_script"] (AM K))(vG:bp P w K mg base 4 "_law_rule" ["_law_script","_law_floors"] (F2 K k))(qi:bp P w K mg base 2 "_law_riders" ["_law_script","_law_floors","_law_turns"] (F7 K))(lI:bp P w K mg base 10 "_law_waits" ["_law_court","_law_riders_here","_law_turns"] (Oi P w K mg base cK))(qh:bp P w K mg base 2 "_law_spoilt" ["_law_script","_law_riders_here","_law_floors"] (F6 K))(mZ:bp P w K mg base 14 "_law_refused" ["_law_way","_law_house_here","_law_rule_here","_law_riders_here","_law_dealing","_law_turns"] (F8 P w K mg base Pf)):ax P w K mg base aY 15 f fd ["_law_script"] (yB K Pf):=by
 rwa[F.ok vj (by symm) (λbz A outer s H vs Q E hr h=> ?_)];obtain ⟨a,ns,rfl,hS,tb,q⟩:=h;rwa[⟨_,(aa @a (aa @a (aa @a (dZ @dh (aa @a (aa (fw (i:=5) rfl vj.nd rfl @n (aC (N':=["_law_k","_law_script","_law_house_here"]) (pk:=[none,some 0,some 1]) @o) @dB @i @r @i) (aa (aZ (i:=6) vj.nd rfl @n (b3 lJ hr @c rfl (ao (d3 @eV bZ (iW rfl PySem.F.plainAttrs_str PySem.F.slot_str_join PySem.F.type_str_join (vX rfl) bZ (ao (bF rfl (aC (N':=["_law_lift"]) (pk:=[none]) @o) @a @i @r (λC s H ex=>(aV NJ rfl Pz boot_str (ao (wv 0) aj)))) aj))) @K))) (aa (aZ (i:=7) vj.nd rfl @n (b3 lI hr @c rfl (ao (fU oS fH hr @c rfl (ao (wv 1) (ao (wv 2) @fW))) (ao (wv 4) @dl)))) (aa (bJ PassesOwn.never rfl (bA rfl aQ (ao cE aj)) @a (ac @eo)) (aa (bJ PassesOwn.never rfl (Fn rfl (gO (ao (aV @ek rfl bQ boot_tuple @cx) (ao (aV (kI rfl) rfl dN boot_list @cx) aj)))) @a (aa (aZ (i:=10) vj.nd rfl @n (aV (kI rfl) rfl dN boot_list @cy)) (aa (aZ (i:=11) vj.nd rfl @n (b3 B7 hr @c rfl (ao (wv 1) (ao (wv 2) (ao @eC (ao (wv 9) @dl)))))) (ac (az (PW.pt (yc (fG (pH rfl (b3 lH hr @c rfl @dY))) (yc (c8 @fU (wv 11) (wv 7) (b4 _)) (yc (c8 @fU @eC (wv 4) (b4 _)) (Bl (c8 @fU (aV (kI rfl) rfl dN boot_list (ao (wv 9) aj)) (wv 5) (b4 _))))))) @cB av))))) @cB)))))))))),?_⟩];rwa[AM.mk _ _ rfl hS λhA hs H1 s1 hH bf=> ?_];have f2:=hH.1.f2;have f8:=hH.1.f8;have aM:=hH.1;obtain ⟨_,p_,ls,hh,hp,hl⟩:=id hH;rwa[ar hh rfl ?_];rwa[F2.mk _ _ _ rfl (bE hS s1) f2 λra dx rk H2 a5 s2 e2=> ?_];have a8:=s1.trans s2;have S:=bE hS a8;rwa[j6.mk _ _ _ _ rfl S @c @c @c λt0 t1 t2=> ?_];rwa[ub (λσ HY=>HY=H2/\∃n:Nat,1<=n/\n<=100/\σ=[some (.ref a),some (.ref hA),some (.ref ra),some (.int (n:Int)),none,none,none,none,none,none,none,none]) ?_ ?_]
 ·ext;rwa[j6.mk _ _ _ _ rfl S @c @c @c λz z0 z1=> ?_];rwa[fD @dm @dm]
  ·ext;rwa[j6.mk _ _ _ _ rfl S @c @c @c λu u0 u1=> ?_];exact ⟨rfl,(1+u).toNat,by lia,by lia,by rw [show (((1+u).toNat:Nat):Int)=1+u by lia];rfl⟩
  ·exact ⟨rfl,(1+t0).toNat,by lia,by lia,by rw [show (((1+t0).toNat:Nat):Int)=1+t0 by lia];rfl⟩
 rintro σ' HY ⟨rfl,n,n1,W,rfl⟩;rwa[ar (s2.seqT hh) rfl ?_];rwa[F7.mk _ _ _ _ rfl S f2 f8 n1 W λl Rs H3 s3 hR g=> ?_];have L:=s2.trans s3;have bk:=s1.trans L;have bc:=bE hS bk;have bB:=hH.same L;obtain ⟨xs,el,dl⟩:=id hR;have xl:xs.length=Rs.length:=aH dl;have g1:=g.l1;have g6:=g.l6;have l1:=aM.l1;have l3:=aM.l3;have pl:ls.length=hs.ls.length:=hl.len;rwa[eQ @cT ?_];rwa[⟨by lia,?_⟩]
 have hn:(xs.length:Int).toNat=Rs.length:=by lia
 rw [hn];rwa[eK (λj ys H'=>H'=H3/\∃zs:List Int,ys=zs.map V.int/\zs.length=j/\∀z∈zs,0<=z/\z<(hs.ls.length:Int)) @bs (λi ys H' p=>by obtain ⟨_,zs,p1,p2,_⟩:=p;rw [p1,length_map];lia) ⟨rfl,[],rfl,rfl,λt ht=>nomatch ht⟩ @dI (λys ap p np nN=> ?_)]
 ·obtain ⟨rfl,zs,rfl,zl,hz⟩:=p;rwa[⟨bU,?_⟩];rwa[ar (L.seqT hh) rfl ?_];rwa[gW (L.seqT hp) ?_];rwa[j6.mk _ _ _ _ rfl bc @b @b @b λz z0 z1=> ?_];rwa[⟨rfl,zs++[z],by rw [map_append];rfl,by rw [length_append,zl];rfl,λy hy=> ?_⟩]
  rcases mem_append.mp hy with w'|w'
  ·exact hz y w'
  ·rw [mem_singleton.mp w'];exact ⟨z0,by lia⟩
 obtain ⟨rfl,zs,rfl,zl,hz⟩:=p
 have z1:1<=zs.length:=by lia
 have z9:zs.length<=9:=by lia
 have h9:∀z∈zs,0<=z/\z<=9:=λz aG=>⟨(hz z aG).1,by have:=(hz z aG).2;lia⟩;generalize ae:upd ap np _=HN
 have sN:aq ap HN:=by rw [<-ae];exact .upd nN
 have eN:HN np=some (.lst @bA):=by rw [<-ae];exact af
 clear ae;rwa[⟨rfl,?_⟩];rwa[bD (aD.of eN) ?_];rwa[bI (xs:=zs.map V.int) (λi us G=>G=HN/\us=((zs.map lT).take i).map V.str) (bw (by rw [length_map];lia)) (λi us G pz=>by rw [pz.2,length_map,length_take];exact Nat.min_le_left _ _) ⟨rfl,rfl⟩ (λi us G _ pz=>by rw [pz.1];exact aD.of eN) (λi y us G aE pz=> ?_) (λus aB pz a6 n6=> ?_)]
 ·obtain ⟨rfl,rfl⟩:=pz;rw [getElem?_map] at aE;obtain ⟨v,hv,rfl⟩:=Option.map_eq_some_iff.mp aE;obtain ⟨v0,v9⟩:=h9 v (mem_of_getElem? hv);rwa[⟨bU,PB v0 v9,rfl,?_⟩];rw [take_add_one,getElem?_map,hv,map_append];rfl
 obtain ⟨rfl,rfl⟩:=pz;rw [take_of_length_le (by rw [length_map,length_map];exact Nat.le_refl _)];generalize ah:upd aB a6 _=HD
 have sD:aq aB HD:=by rw [<-ah];exact .upd n6
 have eD:HD a6=some (.lst ((zs.map lT).map V.str)):=by rw [<-ah];exact af
 clear ah;erw[Ey h9 z9 eD λjl=> ?_]
 have l6:(s!"fixed ").length=6:=by decide
 erw[⟨bw @b,?_⟩];rw [show (s!"fixed "++Str.join Am (zs.map lT))=mF dF zs from BD z1];have O:=sN.trans sD;have Y:=L.trans O;have ai:=s1.trans Y;rwa[Vq (hH.same Y) ⟨z1,z9,hz⟩ (tb.same ai) λlx HE sE kE lE pE=> ?_];rwa[Sk cC λca aS HF sF nF eF=> ?_];have J:=sE.trans sF.nt;have a3:=Y.nt.trans J;have bv:=ai.nt.trans J;have bq:=zh a3 hH;have aU:=((s3.trans O).nt.trans J) _ _ (λ_ z=>by cases z) e2;have ay:E5 P w K mg base HF ra rk.word:=OF R a5 aU;have cv:=Jg bR b5 (zs:=zs) @b lx;have kF:=lO.st sF.st kE;have lF:=sF _ _ lE;have aW:Fa P w K mg base cK HF ca hs rk.word (dq mg zs lx):=⟨⟨aS,hA,ra,lx.f,eF,bq,ay,cv⟩,kF,.inl lF⟩;have bb:=hR.nt (O.nt.trans J);rwa[Oi.mk _ _ _ _ _ _ _ _ rfl aW bf @b hz bb g.ok W λz HG sG kG wt=> ?_];have Z:=J.trans sG;have aR:=Y.nt.trans Z;have bt:=ai.nt.trans Z;have aw:Fx P w K mg base HG hA ra hs rk.word zs:=⟨zh aR hH,bf,Cw sG ay,by lia,hz⟩;have aP:=(sD.nt.trans Z) _ _ (λ_ z=>by cases z) eN;have aL:=hR.nt (O.nt.trans Z);have aF:c7 HG Pf qF:=pE▸kG.2.2.2;have bo:=Ot hS bt;have bn:=aR.sqT hh;rwa[⟨⟨by decide,by decide⟩,?_⟩];rwa[cL (λj σ G=>aq HG G/\∃o8,σ=[some (.ref a),some (.ref hA),some (.ref ra),some (.int (n:Int)),some (.ref l),some (.ref np),some (.ref lx.f),some (.int z),o8,none,none,none]) ⟨.refl _,_,rfl⟩ (λj σ G hj pv=> ?_) @eL]
 ·obtain ⟨sX,o8,rfl⟩:=pv;rwa[ar (sX.seqT bn) rfl ?_];rwa[F6.mk _ _ _ _ _ rfl (bE bo sX) f2 f8 (aL.same sX) g1 g6 λl' R' HY sY a7 aT nd=> ?_];have an:=sX.trans sY;rwa[F8.mk _ _ _ _ np _ _ _ _ _ rfl ⟨aw.nt an.nt,.inl (an _ _ aP),a7,aT,aF.same an,W⟩ nd λHZ sZ=> ?_];rwa[bG rfl ?_];exact ⟨an.trans sZ,_,rfl⟩
 obtain ⟨sX,o8,rfl⟩:=pv;have ad:=sX _ _ aP;rwa[iZ (aD.of ad) λtp HY sY nY eY=> ?_];rwa[ip (.inl (aD.of (sY _ _ ad))) λlp HZ sZ nZ eZ=> ?_];rwa[ju @bL λbl HB sB nB eB=> ?_];have aK:=sY.trans (sZ.trans sB);have ag:=sX.trans aK;have bg:=aw.nt ag.nt;have a9:=aK _ _ ad;have br:=aL.same ag;have a0:pF HB tp zs:= .inr (sB _ _ (sZ _ _ eY));have bi:pF HB lp zs:= .inl (sB _ _ eZ);have bh:=aF.same ag;rwa[bD (aD.of eB) ?_];rwa[bS (xs:=[.ref tp,.ref lp]) (λj σ G=>aJ HB G/\c7 G Pf qF/\∃o8 o9 aN ak,σ=[some (.ref a),some (.ref hA),some (.ref ra),some (.int (n:Int)),some (.ref l),some (.ref np),some (.ref lx.f),some (.int z),o8,o9,aN,ak]) ⟨aJ.refl _,bh,_,_,_,_,rfl⟩ (λj σ G _ pv=>pv.1.sqL (aD.of eB)) (λj y σ G hy pv=> ?_) @eL]
 ·obtain ⟨I,a1,bx,o9,aN,ak,rfl⟩:=pv
  obtain ⟨bu,rfl,al⟩:∃b,y= .ref b/\pF G b zs:=by
   have jl:=(List.getElem?_eq_some_iff.mp hy).1
   rcases (show j=0\/j=1 by simp only [length_cons,length_nil] at jl;lia) with rfl|rfl
   ·cases hy;exact ⟨tp,rfl,a0.nt I⟩
   ·cases hy;exact ⟨lp,rfl,bi.nt I⟩
  have bd:=br.nt I;obtain ⟨us,eu,du⟩:=id bd;rwa[ip (.inl (aD.of eu)) λgl HC U nC eC=> ?_];have a4:jK K HC gl Rs:=⟨us,eC,aI.same du U⟩;rwa[Gd.mk (E:=E0) _ _ _ _ _ _ _ _ _ rfl ⟨(bg.nt I).nt U.nt,al.nt U.nt,a4,g6,a1.same U,W⟩ (.inl ⟨g.due,g.ok,λz' HK sK tK bj=> ?_⟩)];obtain rfl:z=z':=wt.uniq bj;have ba:=sK _ _ (λ_ z=>by cases z) eC;have aO:=sK.dens (aI.same du U);have aX:=sK _ _ (λ_ z=>by cases z) (U _ _ eu);have as:=(al.nt U.nt).nt sK;have a2:=(I.trans (U.nt.trans sK)) _ _ (λ_ z=>by cases z) a9;rwa[v8.mk _ rfl ?_];rwa[bG rfl ?_];rwa[EB rfl ?_];rwa[B1 (B4 (aD.of ba) aO) (B4 (aD.of aX) aO) (by have:=xA Mf Rs;show deps _+1<=60;lia) ?_];rwa[bG rfl ?_];rwa[ip (pF.sq as) λnl HL sL nL eL=> ?_];rwa[B1 (B4 (aD.of eL) (tG zs)) (B4 (aD.of (sL _ _ a2)) (tG zs)) (by have:=xA (g:=D.int) (n:=1) (λi=>by simp [vC]) zs;show deps _+1<=60;lia) ?_];rwa[bG rfl ?_];exact ⟨I.trans (U.nt.trans (sK.trans sL.nt)),tK.same sL,_,_,_,_,rfl⟩
 exact q _
end
end My
namespace My
open PySem L2 PyProof.Rows
seal PE PT PS uG PA PI PG E6 JB PW PO dz Qu bi E9 Ao Ql JC
seal vv jf pK wq Mm rE CQ lC rD vi zc Mt Mx y7 Ds zd setL FK BY ug uF E7 Ch iF CW Kh zB
seal Jq lD BM L2.zw L2.putAt L2.xa gD LY iP Tl Tn Mn Mu FT
seal tH qS qT jc og Ge we qJ mh gQ jd
theorem Iz {K:Fg}{H:Hp}{a:Addr}{ns:List Int}{E:XK}(R:aD K H a @U)(W:ns.length<=63)(z:∀i∈ns,Builtin.Int.intBits i<=2^20)(Y:∀t∈([(420,416)]:List (Addr×Addr)),H t.2=some (.tbl #[])):yB K 416 [.ref a] H (λv _=>v= .bl true) E:=⟨a,ns,rfl,⟨R,W⟩,Dt (Y (420,416) (.head _)),λ_=>rfl⟩
theorem Jd {P:Program}{w:World}{K:Fg}{mg:Str->Option Value}{base:Heap}{j z F:Addr}(J:gJ K j)(O:aT K j "turns")(U:gJ K z)(G:aT K z "turns")(I:gJ K F)(W:aT K F "turns")(L:iB P w K mg base aY 1 "left" j (je K OO))(R:iB P w K mg base aY 1 "left" z (je K hst))(Y:iB P w K mg base aY 1 "left" F (je K Ko)):Nq P w K mg base j z F:=by
 rwa[⟨λk S=> ?_,λk S=> ?_⟩]
 ·rcases S with rfl|rfl|rfl
  ·rw [PP];exact ⟨J,O⟩
  ·rw [PQ];exact ⟨U,G⟩
  ·rw [PN];exact ⟨I,W⟩
 ·rcases S with rfl|rfl|rfl
  ·rw [PP];exact L
  ·rw [PQ];exact R
  ·rw [PN];exact Y
theorem Qh {l:PySem.W.OpenLaw}{w:World}{K:Fg}{h:Heap}{mg:Str->Option Value}{fa:Addr}(X:K.In h)(G:h.Ns mainGlobals mg)(eh:mg "law"=some (.ref fa))
{u3 mL xg jY dj b9 bX eW z cP dh gt gq J kb gm ke gp ka eS av ap af bM xh cK f1 f2 f3 f4 f5 f6 f7 f8 f9 d7 be eo ep cR ca dt cV cL cY d8 dC bC am dz ec b3 ba ed cv c1 cj bc dH bA dJ dY as bV da cf bS bB cB cg d1 er cF c7 aL bF aJ cb dg bU bD bz b0 ea ef bv bh eq bG bN cs cT dV aS aW a9 dn c6 dX b7 dL aP bo cn el ch dE cr ek bx dO eb c5 ck c4 d2 bE b6 dp d9 c0 cW cH cm dW aX a1 j ad:Addr}{a5 aV:Option Addr}{a4:Array @T}{aU a7 aE a2 aN:Value}{FR:Tok}{uN:Tok}{FS:Tok}{yw:Tok}{N1:Tok}{yt:Tok}{N0:Tok}{vZ:Tok}{AB:Tok}{yu:Tok}{Z:Option Addr}{ac:Nat}{O:Array @T}{S Y R:Tok}{yv:Tok}{uO:Tok}{v4:Tok}{ai:Option Addr}{an:Nat}{ak:Array @T}{al ah:Tok}
(QG:W.nsIn K mainGlobals "Door"=some (some (.ref u3)))
(ND:W.nsIn K mainGlobals "Hasty"=some (some (.ref mL)))
(QE:W.nsIn K mainGlobals "Slow"=some (some (.ref xg)))
(QF:W.nsIn K mainGlobals "Rule"=some (some (.ref jY)))
(J3:W.nsIn K mainGlobals "Homing"=some (some (.ref dj)))
(Ff:W.nsIn K mainGlobals "Nearest"=some (some (.ref b9)))
(Fc:W.nsIn K mainGlobals "Shuttle"=some (some (.ref bX)))
(Nz:W.nsIn K mainGlobals "Table"=some (some (.ref eW)))
(Fe:W.nsIn K mainGlobals "NoFloor"=some (some (.ref z)))
(Fd:W.nsIn K mainGlobals "NoHouse"=some (some (.ref cP)))
(JV:W.nsIn K mainGlobals "NoRule"=some (some (.ref dh)))
(J0:W.nsIn K mainGlobals "NoDeal"=some (some (.ref gt)))
(JZ:W.nsIn K mainGlobals "NoDeed"=some (some (.ref gq)))
(JW:W.nsIn K mainGlobals "NoRide"=some (some (.ref J)))
(NC:W.nsIn K mainGlobals "NoIll"=some (some (.ref kb)))
(JX:W.nsIn K mainGlobals "NoLine"=some (some (.ref gm)))
(NE:W.nsIn K mainGlobals "Empty"=some (some (.ref ke)))
(JY:W.nsIn K mainGlobals "NoLift"=some (some (.ref gp)))
(Ny:W.nsIn K mainGlobals "Twice"=some (some (.ref ka)))
(Fb:W.nsIn K mainGlobals "TooMany"=some (some (.ref eS)))
(QA:W.nsIn K mainGlobals "near"=some (some (.ref av)))
(Nv:W.nsIn K mainGlobals "least"=some (some (.ref ap)))
(Dn:W.nsIn K mainGlobals "by_turns"=some (some (.ref af)))
(ya:W.nsIn K mainGlobals "CourtError"=some (some (.ref bM)))
(J2:W.nsIn K mainGlobals "Moment"=some (some (.ref xh)))
(NG:W.nsIn K mainGlobals "Court"=some (some (.ref cK)))
(ao:Nr K u3)
(ag:Nr K mL)
(aq:Nr K xg)
(cM:Aj K xh)
(cC:JP K cK)
(h1:L2.NF K "bit" OC f1)
(h2:L2.NF K "has" OB f2)
(h3:L2.NF K "with_bit" rM f3)
(h4:L2.NF K "below" Bg f4)
(h5:L2.NF K "above" Bh f5)
(h6:L2.NF K "mask_of" wJ f6)
(h7:L2.NF K "listed" wL f7)
(h8:L2.NF K "lowest" wK f8)
(h9:L2.NF K "highest" rY f9)
(bJ:L2.NF K "floor_of" rZ d7)
(ce:L2.NF K "goals_aboard" ia be)
(df:L2.NF K "way_of" Ba eo)
(a8:L2.NF K "tasks_of" rP ep)
(d3:L2.NF K "goes_along" k9 cR)
(cE:L2.NF K "here_of" wR ca)
(dG:L2.NF K "view" GM dt)
(dw:L2.NF K "turned" wD cV)
(d5:L2.NF K "bounded" sh cL)
(ei:L2.NF K "with_changes" g9 cY)
(bb:L2.NF K "steered" rQ d8)
(di:L2.NF K "may_step_in" kY dC)
(dy:L2.NF K "exchanged" lj bC)
(b4:L2.MF K u3 "__init__" "Door.__init__" oJ am)
(aZ:L2.MF K u3 "left" "Door.left" oH dz)
(aI:L2.MF K mL "left" "Hasty.left" k7 ec)
(aT:L2.MF K xg "left" "Slow.left" oo b3)
(c3:L2.NF K "door_of" wT ba)
(b8:L2.NF K "room_of" wH ed)
(cN:L2.NF K "turns_of" rO cv)
(d6:L2.NF K "kind_of" wQ c1)
(dP:L2.NF K "do_come" wV cj)
(bI:L2.NF K "dealt_to" r9 bc)
(bi:L2.NF K "do_deed" wU dH)
(cI:L2.NF K "is_serving" k6 bA)
(ee:L2.NF K "serving_from" hJ dJ)
(bP:L2.NF K "zone_of" Ct dY)
(bj:W.nsIn K mainGlobals "fixed_of"=some (some (.ref as)))(aw:K.lookup as=some ⟨aU,a5,.func (W.fnOf "fixed_of" "fixed_of" (eV cu) (cQ cu) (ae cu) .none a7 aE a2 aV (.ref 420) aN),a4⟩)(aH:W.codeIn K (.ref 420) "fixed_of"=true)(aG:W.keepIn K (.ref as)=true)
(aO:W.codeHdIn K 420 416=true)
(cw:L2.NF K "writes_number" gj bV)
(d0:L2.NF K "number_of" oy da)
(dK:L2.NF K "read_lifts" kT cf)
(dI:L2.NF K "dealer_of" oK bS)
(dS:L2.NF K "deal" Cu bB)
(dD:L2.NF K "deal_all" mx cB)
(cS:L2.NF K "log_steps" oB cg)
(dk:L2.NF K "exchange" oG d1)
(bn:L2.NF K "go_by_rule" oE er)
(dF:L2.NF K "go_without_fire" fF cF)
(dM:L2.NF K "go" Uw c7)
(cJ:L2.MF K xh "__init__" "Moment.__init__" ji aL)
(ej:L2.NF K "state_of" rR bF)
(br:L2.MF K z "__init__" "NoFloor.__init__" hV aJ)
(bd:L2.NF K "need_floor" kU cb)
(dB:L2.NF K "need_ride" oz dg)
(bf:L2.NF K "need_deed" oA bU)
(bH:L2.NF K "tags_in" wE bD)
(c8:L2.NF K "need_deeds" kW bz)
(a6:L2.MF K cK "turn" "Court.turn" ib b0)
(en:L2.NF K "swept" Bb ea)
(co:L2.NF K "nearest" rS ef)
(dU:L2.NF K "shuttled" oq bv)
(db:L2.NF K "place_in_table" gk bh)
(de:L2.NF K "seen_at" wF eq)
(az:L2.MF K jY "word" "Rule.word" ow bG)
(aM:L2.MF K dj "word" "Homing.word" jj bN)
(aD:L2.MF K b9 "word" "Nearest.word" hZ cs)
(a3:L2.MF K bX "word" "Shuttle.word" hG cT)
(ay:L2.MF K eW "word" "Table.word" kP dV)
(dl:L2.MF K bX "__init__" "Shuttle.__init__" hI aS)
(bg:L2.MF K eW "__init__" "Table.__init__" kQ aW)
(ct:L2.NF K "as_table" si a9)
(cX:L2.NF K "rule_of" wG dn)
(dT:L2.NF K "fits_lift" oF c6)
(b2:L2.NF K "fits_lifts" lh dX)
(bk:L2.NF K "fits_locked" jm b7)
(dq:L2.NF K "made_house" kZ dL)
(d4:L2.MF K cK "__init__" "Court.__init__" lm aP)
(eg:L2.NF K "cabin_of" se bo)
(a0:L2.MF K cK "begin" "Court.begin" jo cn)
(dA:L2.NF K "run" Oy el)
(bl:L2.NF K "comings" sd ch)
(cD:L2.NF K "fate_of" wS dE)
(bY:L2.NF K "fates" Be cr)
(bZ:L2.NF K "wait_of" wB ek)
(b1:L2.NF K "waits_of" rN bx)
(dm:L2.NF K "need_riders" jh dO)
(dv:L2.NF K "comings_at" lq eb)
(bW:L2.NF K "waits_under" jg c5)
(cZ:L2.NF K "dealt" Bf ck)
(cp:L2.NF K "least_of" rT c4)
(bt:L2.NF K "_law_asked" wP d2)
(dZ:L2.NF K "_law_draw" Bd bE)
(dc:L2.NF K "_law_whole" wM b6)
(bO:L2.NF K "_law_house" wO dp)
(ci:L2.NF K "_law_rule" Bc d9)
(em:L2.NF K "_law_riders" rW c0)
(c9:L2.NF K "_law_due" GN cW)
(c2:L2.NF K "_law_spoilt" rV cH)
(bK:L2.NF K "_law_others" rX cm)
(cG:L2.NF K "_law_refused" oC dW)
(aB:L2.NF K "_law_waits" wN aX)
(aR:L2.NF K "law" Oz a1)
(Np:L2.gJ K u3)
(Al:W.findIn K (.ref u3) "turns"=some none)
(JM:L2.gJ K mL)
(xU:W.findIn K (.ref mL) "turns"=some none)
(No:L2.gJ K xg)
(Ak:W.findIn K (.ref xg) "turns"=some none)
(JL:L2.gJ K jY)
(vR:W.findIn K (.ref jY) "top"=some none)
(kz:W.findIn K (.ref jY) "letters"=some none)
(xR:L2.gJ K dj)
(qr:W.findIn K (.ref dj) "top"=some none)
(iO:W.findIn K (.ref dj) "letters"=some none)
(uD:L2.gJ K b9)
(nu:W.findIn K (.ref b9) "top"=some none)
(gM:W.findIn K (.ref b9) "letters"=some none)
(nh:L2.gJ K bX)
(iC:W.findIn K (.ref bX) "top"=some none)
(eO:W.findIn K (.ref bX) "letters"=some none)
(xQ:L2.gJ K eW)
(lS:W.findIn K (.ref eW) "top"=some none)
(fP:W.findIn K (.ref eW) "letters"=some none)
(nO:W.kitOne K (.ref z) (.ref cP)=some false)
(qv:W.kitOne K (.ref z) (.ref dh)=some false)
(qA:W.kitOne K (.ref z) (.ref gt)=some false)
(qz:W.kitOne K (.ref z) (.ref gq)=some false)
(qw:W.kitOne K (.ref z) (.ref J)=some false)
(re:W.kitOne K (.ref z) (.ref kb)=some false)
(qx:W.kitOne K (.ref z) (.ref gm)=some false)
(rf:W.kitOne K (.ref z) (.ref ke)=some false)
(gA:W.kitOne K (.ref z) (.ref z)=some true)
(qy:W.kitOne K (.ref z) (.ref gp)=some false)
(rc:W.kitOne K (.ref z) (.ref ka)=some false)
(nM:W.kitOne K (.ref z) (.ref eS)=some false)
(jV:W.kitOne K (.ref z) (.type "ValueError")=some true)
(I:L2.pG K z)
(qu:W.kitOne K (.ref J) (.ref cP)=some false)
(qX:W.kitOne K (.ref J) (.ref dh)=some false)
(rb:W.kitOne K (.ref J) (.ref gt)=some false)
(q9:W.kitOne K (.ref J) (.ref gq)=some false)
(qY:W.kitOne K (.ref J) (.ref J)=some true)
(uL:W.kitOne K (.ref J) (.ref kb)=some false)
(qZ:W.kitOne K (.ref J) (.ref gm)=some false)
(uM:W.kitOne K (.ref J) (.ref ke)=some false)
(iE:W.kitOne K (.ref J) (.ref z)=some false)
(q8:W.kitOne K (.ref J) (.ref gp)=some false)
(uK:W.kitOne K (.ref J) (.ref ka)=some false)
(qt:W.kitOne K (.ref J) (.ref eS)=some false)
(kK:W.kitOne K (.ref J) (.type "ValueError")=some true)
(aa:L2.pG K J)
(Nu:W.nsIn K mainGlobals "range"=some none)
(Tz:W.nsIn K mainGlobals "len"=some none)
(Nt:W.nsIn K mainGlobals "tuple"=some none)
(Px:L2.Mk K u3 am)
(LC:L2.Mk K mL am)
(Pw:L2.Mk K xg am)
(Fh:W.nsIn K mainGlobals "NO_LIFT"=some (some (.int (-1) FR)))
(TD:W.nsIn K mainGlobals "all"=some none)
(uI:W.nsIn K mainGlobals "MOST_FIGURES"=some (some (.int 9 uN)))
(Fi:W.nsIn K mainGlobals "FIGURES"=some (some (.str "0123456789" FS)))
(TB:W.nsIn K mainGlobals "int"=some none)
(TC:W.nsIn K mainGlobals "any"=some none)
(x8:W.nsIn K mainGlobals "MOST_FIXED"=some (some (.int 9 yw)))
(QB:W.nsIn K mainGlobals "list"=some none)
(Ar:W.nsIn K mainGlobals "enumerate"=some none)
(NA:W.nsIn K mainGlobals "STUCK"=some (some (.int 0 N1)))
(jI:L2.JQ K bM)
(jv:L2.mT K z L2.E2 "ValueError.__new__"=true)
(on:W.findIn K (.ref z) "__setattr__"=some (some (.builtin "object.__setattr__")))
(cc:W.findIn K (.ref z) "floor"=some none)
(oU:W.mroIn K z (.type "object")=some true)
(Do:L2.XI K z aJ)
(qN:W.excIn K J [.type "ValueError",.type "Exception",.type "BaseException",.type "object"] "ValueError.__new__"=true)
(QC:W.nsIn K mainGlobals "dict"=some none)
(Il:L2.Mk K xh aL)
(xY:W.nsIn K mainGlobals "TABLE_SIZE"=some (some (.int 36 yt)))
(Nx:W.nsIn K mainGlobals "WORDS"=some (some (.str "oxuds" N0)))
(Ii:L2.Nm K jY)
(w9:L2.Nm K dj)
(sO:L2.Nm K b9)
(El:L2.Mk K bX aS)
(LA:L2.Mk K eW aW)
(vS:W.nsIn K mainGlobals "TABLE_START"=some (some (.str "table " vZ)))
(As:W.nsIn K mainGlobals "MOST_ROOM"=some (some (.int 6 AB)))
(xZ:W.nsIn K mainGlobals "MOST_TURNS"=some (some (.int 4 yu)))
(x9:W.nsIn K mainGlobals "DOOR_KINDS"=some (some (.ref j)))
(U:K.lookup j=some ⟨.type "tuple",Z,.seq #[.str "plain" S,.str "hasty" Y,.str "slow" R] ac,O⟩)
(x6:W.nsIn K mainGlobals "MOST_LIFTS"=some (some (.int 3 yv)))
(uJ:W.nsIn K mainGlobals "LEAST_FLOORS"=some (some (.int 2 uO)))
(vT:W.nsIn K mainGlobals "MOST_FLOORS"=some (some (.int 8 v4)))
(NB:W.nsIn K mainGlobals "SORTS"=some (some (.ref ad)))
(aj:K.lookup ad=some ⟨.type "tuple",ai,.seq #[.str "free" al,.str "way" ah] an,ak⟩)
(JJ:L2.vQ K cK)
(Tw:W.nsIn K mainGlobals "sum"=some none)
(LD:L2.Mk K cK aP)
(xW:W.nsIn K mainGlobals "isinstance"=some none)
(QD:W.nsIn K mainGlobals "bool"=some none)
(JU:W.nsIn K mainGlobals "sorted"=some none)
(xX:W.nsIn K mainGlobals "ValueError"=some none)
(zf:W.excIn K bM [.type "ValueError",.type "Exception",.type "BaseException",.type "object"] "ValueError.__new__"=true)
(jq:W.mroIn K z (.ref bM)=some true)
(jW:W.mroIn K J (.ref bM)=some true)
(oY:W.hasDictIn K z=true)
(Tx:W.nsIn K mainGlobals "str"=some none):
 ∃fd:FuncData,(∀(s:Shared) (v:Value),BindsTo s fd ⟨[v],[]⟩ [("_law_script",v)])/\∀base:Heap,K.In base->base.Ns mainGlobals mg->L2.nr base mg->ax l.prog w K mg base aY 15 fa fd ["_law_script"] (yB K 416):=by
 obtain ⟨aC,_,F101⟩:=aR;cases eh.symm.trans (W.mg_of X G aC);rwa[⟨_,F101.law,λbase KB _ BB=> ?_⟩];have T:L2.m9 l.prog w K mg base h:=⟨X,G⟩;have Sz:=T.gl QG;have P7:=T.gl ND;have Sy:=T.gl QE;have IS:=T.gl QF;have xw:=T.gl J3;have tQ:=T.gl Ff;have IQ:=T.gl Fc;have P6:=T.gl Nz;have fJ:=T.gl Fe;have tO:=T.gl Fd;have xp:=T.gl JV;have xv:=T.gl J0;have xu:=T.gl JZ;have jN:=T.gl JW;have BV:=T.gl NC;have xq:=T.gl JX;have BW:=T.gl NE;have xt:=T.gl JY;have BS:=T.gl Ny;have tN:=T.gl Fb;have IN:=T.gl QA;have BR:=T.gl Nv;have o0:=T.gl Dn;have dQ:=T.gl ya;have LR:=T.gl J2;have P8:=T.gl NG;have F37:=BX (x:="fixed_of") (qual:="fixed_of") (st:=cu) aw aH aG
 have du:=F37.binds (ps:=["lifts"]) λ_ _ _ _ _ _ us hl=>match us,hl with|[_],_=>rfl
 have S8:=Np.cl;have Qp:=JM.cl;have S6:=No.cl;have S7:=JL.cl;have ME:=xR.cl;have JI:=uD.cl;have JH:=nh.cl;have Qo:=xQ.cl;have aQ:=T.no Nu;have bR:=T.no Tz;have bQ:=T.no Nt;have cx:=T.gl Fh;have Er:=T.no TD;have kf:=T.gl uI;have zr:=T.gl Fi;have Eo:=T.no TB;have Ep:=T.no TC;have p9:=T.gl x8;have dN:=T.no QB;have bL:=T.no Ar;have IR:=T.gl NA;have Io:=T.no QC;have gb:=T.gl xY;have IP:=T.gl Nx;have mM:=T.gl vS;have tS:=T.gl As;have pW:=T.gl xZ;have qa:=T.gl x9;have jJ:∀H:L2.Hp,L2.aK K H j [.str "plain",.str "hasty",.str "slow"]:=λH=> .inr ⟨_,_,_,U,rfl,rfl,L2.bw (by show 3<=1000000;decide),(.cons ⟨_,rfl⟩ (.cons ⟨_,rfl⟩ (.cons ⟨_,rfl⟩ .nil)))⟩;have pX:=T.gl x6;have kg:=T.gl uJ;have mP:=T.gl vT;have BU:=T.gl NB;have Ca:∀H:L2.Hp,L2.aK K H ad [.str "free",.str "way"]:=λH=> .inr ⟨_,_,_,aj,rfl,rfl,L2.bw (by show 2<=1000000;decide),(.cons ⟨_,rfl⟩ (.cons ⟨_,rfl⟩ .nil))⟩;have En:=T.no Tw;have aF:=T.no xW;have Ip:=T.no QD;have xb:=T.no JU;have jt:=T.no xX;have jA:L2.Cf K bM:=⟨_,_,zf,by decide+kernel⟩;have jE:L2.gK K (.ref z) bM:= .inr ⟨z,rfl,jv,jq⟩;have Ma:L2.Cf K J:=⟨_,_,qN,by decide+kernel⟩;have jZ:L2.gK K (.ref J) bM:= .inl ⟨J,rfl,Ma,jW⟩;have Pz:=T.no Tx;have z7:=T.cal' h1 λF=>Pp F;have qG:=T.cal' h2 λF=>Pk F z7;have vD:=T.cal' h3 λF=>Hh F z7;have xK:=T.cal' h4 λF=>HR F z7;have Js:=T.cal' h5 λF=>Ia F xK;have um:=T.cal' h6 λF=>Eb F vD;have C9:=T.cal' h7 λF=>Ed F aQ qG;have C8:=T.cal' h8 λF=>Ec F C9;have zW:=T.cal' h9 λF=>Bx F;have bT:=T.cal' bJ λF=>Hz F;have cA:=T.cal' ce λF=>Hy F;have iz:=T.cal' df λF=>O5 F;have vE:=T.cal' a8 λF=>Hm F bR cA um;have qk:=T.cal' d3 λF=>HW F iz;have zX:=T.cal' cE λF=>Li F bT qG cA qk;have Ng:=T.cal' dG λF=>K8 F bT vE Js C8 xK zW zX;have C7:=T.cal' dw λF=>Bv F bR bT cA;have z6:=T.cal' d5 λF=>By F bT;have cy:=T.cal' ei λF=>K6 F;have zS:=T.cal' bb λF=>Bu F bR C7 z6 cy;have iA:=T.cal' di λF=>Pc F iz;have uv:=T.cal' dy λF=>Ln F bR bQ bT iz iA;obtain ⟨et,_,F23⟩:=b4;have ar:=T.ok (Lg F23);have Ir:=T.mkc F23 Px Sz ar;have BJ:=T.mkc F23 LC P7 ar;have Iq:=T.mkc F23 Pw Sy ar;have Ce:=T.mcal' aZ S8 aZ.1 λF=>Hx F;have Af:=T.mcal' aI Qp aI.1 λF=>Hw F;have Cd:=T.mcal' aT S6 aT.1 λF=>Hv F;have zY:=T.cal' c3 λF=>Ef F ao ag aq Ir BJ Iq;have mY:=T.cal' b8 λF=>Lb F;have jR:=T.cal' cN λF=>Bt F;have zV:=T.cal' d6 λF=>Ee F;have zZ:=T.cal' dP λF=>Lq F cM cx qG;have jT:=T.cal' bI λF=>HJ F;have m4:=T.cal' bi λF=>Sb (t1:=0) (t2:=0) F cM zZ;have qj:=T.cal' cI λF=>Pj F;have b5:=T.cal' ee λF=>R5 F bR aQ cx qj;have ui:=T.cal' bP λF=>K5 F;have bu:=L2.SD (P:=l.prog) (w:=w) (mg:=mg) (base:=base) (k:=0) (N:=["lifts"]) (lp:=CK cu) (lb:=CJ cu) (lsc:=sS cu) aw aH DN (W.codeHd_of_K KB aO) BB @gI @gI @gI rfl;have gI:L2.bp l.prog w K mg base _ "fixed_of" ["lifts"] _:=⟨_,_,bu,du,aG,T.gl bj⟩;have jF:=T.cal' cw λF=>R4 F bR Er kf zr;have uj:=T.cal' d0 λF=>O9 F Eo jF;have fR:=T.calX' dK λF=>R6 F bR Ep uj;have Au:=T.calX' dI λF=>Sc (Pf:=416) F bR p9 IN BR o0 fR ui gI;have lJ:=Au.calm;have Da:=T.cal' dS λF=>HM F cM bQ cx jT;have jU:=T.cal' dD λF=>Eg F cM dN bL cx Da;have uo:=T.cal' cS λF=>Le F cM bT;have vH:=T.cal' dk λF=>Pm F cM (Jd Np Al JM xU No Ak Ce Af Cd) bR mY jR zV uv uo zY qG cy;have ql:=T.cal' bn λF=>Po F cM mY jR Ng zS;have gH:=T.cal' dF λF=>Pl F cM vH cy ql;have bq:=T.cal' dM λF=>R9 F cM IR qG gH;have mK:=T.mkc' cJ Il LR λF=>Hu F dN;have jS:=T.cal' ej λF=>O6 F cM bQ;have qR:=T.xmk' br Do fJ λF=>D5 F jI dQ jv on cc oU;have fS:=T.calX' bd λF=>Ea F qR;have gN:=T.calX' dB λF=>Ht F fS jN qN;have lG:=gN.calm;have uk:=T.cal' bf λF=>Lc F lG;have zR:=T.cal' bH λF=>La F;have gh:=T.cal' c8 λF=>Pb F Io zR uk;have dR:=T.mcal' a6 JJ a6.1 λF=>Hl F cM bR aQ gh mK m4 jU bq jS;have xJ:=T.cal' en λF=>Ho F;have zU:=T.cal' co λF=>Bw F;have vF:=T.cal' dU λF=>yZ F;have iK:=T.cal' db λF=>Hr F;have zT:=T.cal' de λF=>D7 F;have uA:=T.mcal' az S7 az.1 λF=>Hk F xJ;have ng:=T.mcal' aM ME aM.1 λF=>Bs F xJ;have kq:=T.mcal' aD JI aD.1 λF=>yY F zU;have ko:=T.mcal' a3 JH a3.1 λF=>yX F vF;have qq:=T.mcal' ay Qo ay.1 λF=>D6 F iK;have sQ:=T.mkc' dl El IQ λF=>Hq F;have BI:=T.mkc' bg LA P6 λF=>Hn (dh:=0) F bR Ep gb IP;have py:=T.cal' ct λF=>Pq (k:=⟨jY,dj,b9,bX,eW⟩) F aQ (GQ uA ng kq ko qq JL vR kz xR qr iO uD nu gM nh iC eO xQ lS fP) gb zT;have Fj:=T.calX' cX λF=>D8 (k:=⟨jY,dj,b9,bX,eW⟩) F bR (.mk nh iC eO) (.mk xQ lS fP) IS xw tQ Ii w9 sO sQ BI mM;have jG:=Fj.calm;have ut:=T.cal' dT λF=>Lk F tS pW qa jJ;have qm:=T.cal' b2 λF=>Lj F bR Er pX ut;have m3:=T.cal' bk λF=>HH F z7 qG;have yb:=T.calX' dq λF=>Ld (cP:=0) F bQ kg mP BU Ca qm m3;have jH:=yb.calm;have oS:=T.mkc' d4 LD P8 λF=>HQ F;have vI:=T.cal' eg λF=>Pn F;have cU:=T.mcal' a0 JJ a0.1 λF=>HS F bR bQ vI;have Qf:=T.cal' dA λF=>O7 F cC dR;have z5:=T.cal' bl λF=>Lp F;have uu:=T.cal' cD λF=>Lm F;have B6:=T.cal' bY λF=>HI F dN bL z5 uu;have zQ:=T.cal' bZ λF=>K7 F;have pq:=T.cal' b1 λF=>Hj F En zQ;have cO:=T.calX' dm λF=>Pa F gN;have qo:=T.cal' dv λF=>Lr F bL;have mX:=T.cal' bW λF=>R3 F cC bR aQ b5 oS cU qo Qf B6 pq;have vU:=T.calX' cZ λF=>Sa F cO mX gI;have B7:=vU.calm;have nE:=T.calX' cp λF=>R8 F cO;have kA:=T.calX' bt λF=>Sd F vU nE;have cz:=T.cal' dZ λF=>UG F bR;have lH:=T.cal' dc λF=>Hi F aF Eo Ip;have uq:=T.cal' bO λF=>Lh F aQ cz jH;have vG:=T.cal' ci λF=>O8 (k:=⟨jY,dj,b9,bX,eW⟩) F aQ cz jG py;have qi:=T.cal' em λF=>Pe F aQ xb cz;have ur:=T.cal' c9 λF=>Ph F;have qh:=T.cal' c2 λF=>Pd F dN aQ bR cz;have L:=T.calH' bK λF=>D9 F aF aQ jt tO xp xv xu jN BV xq BW fJ xt BS tN (Tk.mk nO qv qA qz qw re qx rf gA qy rc nM jV I) (Tk.mk qu qX rb q9 qY uL qZ uM iE q8 uK qt kK aa);have mZ:=T.cal' cG λF=>Pg F aF fJ dQ jA jE jZ I aa gA iE oY cc kA L ur;have lI:=T.cal' aB λF=>R7 F cC bR aQ En cU dR;exact Pi (k:=⟨jY,dj,b9,bX,eW⟩) (Pf:=416) F101 (GQ uA ng kq ko qq JL vR kz xR qr iO uD nu gM nh iC eO xQ lS fP) cC bR aQ Pz bQ dN b5 oS lJ B7 cz lH uq vG qi lI qh mZ
theorem TK {l:PySem.W.OpenLaw}{q:Program}{j:List Str}{O:(Str->Option Value)->Heap->Prop}{Z:World->Heap->Prop}{d:DefRec}{K:Params->Fg}(I:l.most=some 63)(U:d.params.defaults=[])
(S:∀(w:World) (h:Heap),Z w h->(K w.params).In h/\∀t∈([(420,416)]:List (Addr×Addr)),h.get? t.2=some (W.tabObj #[]))(an:∀w:World,W.noTabs @bR=true)(G:∀w:World,∀t∈([(420,416)]:List (Addr×Addr)),W.codeHdIn @bR t.1 t.2=true)
(F:∀(w:World) (mg:Str->Option Value) (fa:Addr) (h:Heap),(K w.params).In h->h.Ns mainGlobals mg->mg d.name=some (.ref fa)->
   ∃fd:FuncData,(∀(s:Shared) (u:Value),BindsTo s fd ⟨[u],[]⟩ [("_law_script",u)])/\∀base:Heap,(K w.params).In base->base.Ns mainGlobals mg->L2.nr base mg->ax l.prog w @bR mg base aY 15 fa fd ["_law_script"] (yB @bR 416)):
 PySem.W.WalkO q j O Z l.row.toRowW d [] @dc:=
 L2.Fv (tabs:=λ_=>[(420,416)]) (n:=63) (k:=15) (x:="_law_script") (CX:=λ_=>aY) (sp:=λw=>yB @bR 416) I @c U ⟨rfl,by decide,by decide⟩ S an G F (λ_ _ a ns L J Y R=>Iz R L J Y) λ_ _ _ _ _ z=>z
end My
open PySem PySem.W PyProof.Rows
local macro_rules | `(tactic| walk_at "l3t") => `(tactic| first | (refine' L2.Sh ?_ ?_ ?_ ?_; all_goals try k_is) | (refine' L2.Sm ?_ ?_ ?_ ?_ ?_; all_goals try k_is) | k_is | kernel_rfl | (refine L2.Vi ?_; constructor <;> walk_at "l3t"))
set_option maxRecDepth 100000 in
set_option maxHeartbeats 0 in
theorem PySem.Challenge.cw_liftcourt_k70_dealt_holds : PySem.Challenge.rw_liftcourt_k70_dealt.Holds := by
 w_on;o_law;k_head;(case hw=>w_witness2)
 k_fill
 rwa[My.TK (l:=PySem.Challenge.rw_liftcourt_k70_dealt) rfl rfl (λw h Y=>⟨PySem.W.km_in_of Y,λt O=>PySem.W.km_tabs_of Y _ (by simp only [mem_cons,not_mem_nil,or_false] at O;rcases O with rfl<;>decide)⟩) ?lnt ?lhc ?F]
 (case lnt=>intro w;kernel_rfl)
 (case lhc=>intro w t O;simp only [mem_cons,not_mem_nil,or_false] at O;rcases O with rfl<;>kernel_rfl)
 case F=>
  intro w mg I h z G j;refine' My.Qh z G j ?_ ?_ ?_ ?_ ?_ ?_ ?_ ?_ ?_ ?_ ?_ ?_ ?_ ?_ ?_ ?_ ?_ ?_ ?_ ?_ ?_ ?_ ?_ ?_ ?_ ?_ ?_ ?_ ?_ ?_ ?_ ?_ ?_ ?_ ?_ ?_ ?_ ?_ ?_ ?_ ?_ ?_ ?_ ?_ ?_ ?_ ?_ ?_ ?_ ?_ ?_ ?_ ?_ ?_ ?_ ?_ ?_ ?_ ?_ ?_ ?_ ?_ ?_ ?_ ?_ ?_ ?_ ?_ ?_ ?_ ?_ ?_ ?_ ?_ ?_ ?_ ?_ ?_ ?_ ?_ ?_ ?_ ?_ ?_ ?_ ?_ ?_ ?_ ?_ ?_ ?_ ?_ ?_ ?_ ?_ ?_ ?_ ?_ ?_ ?_ ?_ ?_ ?_ ?_ ?_ ?_ ?_ ?_ ?_ ?_ ?_ ?_ ?_ ?_ ?_ ?_ ?_ ?_ ?_ ?_ ?_ ?_ ?_ ?_ ?_ ?_ ?_ ?_ ?_ ?_ ?_ ?_ ?_ ?_ ?_ ?_ ?_ ?_ ?_ ?_ ?_ ?_ ?_ ?_ ?_ ?_ ?_ ?_ ?_ ?_ ?_ ?_ ?_ ?_ ?_ ?_ ?_ ?_ ?_ ?_ ?_ ?_ ?_ ?_ ?_ ?_ ?_ ?_ ?_ ?_ ?_ ?_ ?_ ?_ ?_ ?_ ?_ ?_ ?_ ?_ ?_ ?_ ?_ ?_ ?_ ?_ ?_ ?_ ?_ ?_ ?_ ?_ ?_ ?_ ?_ ?_ ?_ ?_ ?_ ?_ ?_ ?_ ?_ ?_ ?_ ?_ ?_ ?_ ?_ ?_ ?_ ?_ ?_ ?_ ?_ ?_ ?_ ?_ ?_ ?_ ?_ ?_ ?_ ?_ ?_ ?_ ?_ ?_ ?_ ?_ ?_ ?_ ?_ ?_ ?_ ?_ ?_ ?_ ?_
  all_goals try walk_at "l3t"
