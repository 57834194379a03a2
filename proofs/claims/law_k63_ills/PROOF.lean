import PyProof.Rows.All
import Wide.All
import KE.KDictOf
import KE.KDictList
import KE.KNestM
import KE.KFromBytes
import KE.KIsAll
import KE.KLam
import KE.RegMulBits
import Wide.FinOn
import KE.LcSums
import KE.KIntText
import KE.KRevIter
import KE.KMinKey
import KE.KCount
import PySem.Challenge.RW_liftcourt_k63_ills
set_option Elab.async false
set_option bootstrap.genMatcherCode false
set_option linter.all false
set_option maxRecDepth 100000
set_option maxHeartbeats 4000000
local macro_rules|`(tactic|ext)=>`(tactic|conv=>whnf)
local macro_rules|`(tactic|rwa[$x:term])=>`(tactic|refine $x)
local macro_rules|`(tactic|erw[$x:term])=>`(tactic|(refine $x;conv=>whnf))
local macro_rules|`(tactic|left)=>`(tactic|walk_at "l3go")
local macro_rules|`(tactic|right)=>`(tactic|walk_at "l3dd")
namespace Lean
def wN:=Syntax.node .none
def wI(s:String):Syntax:=mkIdent (.mkSimple s)
def wA(s:String):Syntax:=if s=="_" then wN ``Parser.Term.hole #[mkAtom s] else
 let c:=s.front;if c=='?' then wN ``Parser.Term.syntheticHole #[mkAtom "?",mkAtom "_"] else if c=='@' then wN ``Parser.Term.explicit #[mkAtom "@",mkIdent (s.drop 1).toString.toName] else
 if c.isDigit then Syntax.mkNumLit s else if c=='"' then Syntax.mkStrLit ((s.drop 1).dropEnd 1).toString else if c=='!' then Unhygienic.run (match s with|"!r"=>`((by right))|"!d"=>`((by decide))|"!l"=>`((by lia))|"!a"=>`((by assumption))|"!s"=>`((by simp))|"!k"=>`((by decide+kernel))|"!c"=>`((by kernel_rfl))|"!q"=>`((by walk_at "l3sq"))|"!f"=>`((by first|assumption|decide|lia))|"!g"=>`((by first|assumption|decide))|"!h"=>`((by first|decide|lia))|_=>`((by with_unfolding_all rfl))) else
 let d p:= !(p:String).front.isDigit;if c=='.' then wN ``Parser.Term.dotIdent #[mkAtom ".",mkIdent (s.drop 1).toString.toName] else let q:=s.splitOn ".";let i:Syntax:=mkIdent ((q.takeWhile d).foldl .str .anonymous);(q.dropWhile d).foldl (λt p=>wN ``Parser.Term.proj #[t,mkAtom ".",if d p then wI p else wN `fieldIdx #[mkAtom p]]) i
def wE(x:String):Syntax->Bool|.atom _ y=>x != y|_=>true
def wF:List Syntax->Syntax|[]=>.missing|[x]=>x|x::y=>Syntax.mkApp ⟨x⟩ (y.toArray.map (⟨·⟩))
def wL(l:List Syntax):Syntax:=match l.dropWhile (wE "λ") with|[]=>wF l|_::b=>let v:TSyntaxArray ``Parser.Term.funBinder:=(b.takeWhile (wE "=>")).toArray.map (⟨·⟩);let e:Term:=⟨wF ((b.dropWhile (wE "=>")).drop 1)⟩;wF (l.takeWhile (wE "λ")++[(Unhygienic.run `(fun $v*=>$e)).raw])
def wS(l:List Syntax):Syntax:=let r:=l.foldl (λ(s:Array Syntax×List Syntax) x=>if wE "," x then (s.1,x::s.2) else (s.1.push (wL s.2.reverse),[])) (#[],[]);Syntax.mkSep (if r.2.isEmpty then r.1 else r.1.push (wL r.2.reverse)) (mkAtom ",")
def wC(c:Char)(l:List Syntax):Syntax:=if c==']' then wN `«term[_]» #[mkAtom "[",wS l,mkAtom "]"] else if c=='⟩' then wN ``Parser.Term.anonymousCtor #[mkAtom "⟨",wS l,mkAtom "⟩"] else match l with|x::y::r=>if wE ":=" y then wL l else wN ``Parser.Term.namedArgument #[mkAtom "(",x,mkAtom ":=",wL r,mkAtom ")"]|_=>wL l
def wP(s:List (List Syntax)×String)(x:Syntax):List (List Syntax)×String:=match s.1 with|[]=>s|f::g=>((x::f)::g,"")
def wG(s:List (List Syntax)×String):List (List Syntax)×String:=if s.2=="" then s else wP s (if s.2=="=>"||s.2==":=" then mkAtom s.2 else wA s.2)
def wT(s:List (List Syntax)×String)(c:Char):List (List Syntax)×String:=if " ([⟨)]⟩,λ".contains c then let s:=wG s;if c==' ' then s else if "([⟨".contains c then ([]::s.1,"") else if c==','||c=='λ' then wP s (mkAtom c.toString) else match s.1 with|f::g=>wP (g,"") (wC c f.reverse)|_=>s else (s.1,s.2.push c)
def wD(t:String):Syntax:=match (wG (t.foldl wT ([[]],""))).1 with|[f]=>wL f.reverse|_=>.missing
end Lean
def Lean.wW:=("!r~!d~!l~model X.prog X.w~!s~Nat.le_refl _~ac(ag @a)~!k~aG X scope N' C s H ex~λj A outer s H I Q E W h => ?_~λC s H ex => @a~compEnvC scope(cW X.env.cells scope.names[])C X.env~!c~aG X scope N' C F H fp~Or.inl rfl~λC s H ex => (dF(K := K)(n := 2)rfl rfl(ay @a(ay @a cz)))~model prog w~upd(upd H dx(.own a))a(.ins C dx[])~Nat.lt_of_lt_of_le(Heap.lt_size e)I.ok.above~mem_append_right _(.head _)~λC s H ex => bA~λC s H ex => (dF(K := K)(n := 4)rfl rfl(ay @a(ay @a(ay @a(ay @a cz)))))~EP X pins σ Q~Option Nat~PySem.W.instObj C s.heap.objs.size~bM pk σ~upd H' D(.lst ys)~λz => ?_~λz => absurd z.1 @b~aH hs.lo⟨cs,ws,last,false,0,[]⟩ds~Option Value~upd H p(.lst ys)~au @a(ac(ag bH))ap~λad A outer s H vs Q E hr h => ?_~aq @a am~starEach es X.env~!u~bd I q @e~au @a @g ap~ac(aS @a)~post_val_or_str⟨Nat.le_trans(Txt.slice_le z _ _)J,G⟩~aK(j := 0)rfl~λz A outer s H I Q E W h => ?_~au(dN @a)(ac(eE c7 rfl gb PySem.F.excBase_ValueError rfl dR(aq bH am)))ap~λC s H ex => (wv 0)~aq(wv 1)am~Heap.lt_size e~mem_append_right _(.tail _(.head _))~mem_append_right _(mem_append_right _(de O e))~model P w~some(.ref f)~λae A outer s H vs Q E hr h => ?_~~~~~~~~~~~excClassObj nm q C N bs bm hdct sn sub ab col dd k0 k1 k2 k3 k5 newId~ax(N' := [\"tag\",\"start\",\"goal\",\"lift\"])(pk := [none,none,none,none])@m~Nat.lt_irrefl _~U pins s σ H _ I h~λC s H ex => (eh @a)~kla_obj name qual F U scope cl pm c' ctv~upd H a o~Nat.ne_of_lt(Nat.lt_of_lt_of_le @U(I.ok.cab x c W J))~λvs H Q E h => ?_~start N vs~A.deeper(envOfC qual(ae st)s.heap.objs.size f cdv)~iV(aE.of S)(.cons(.str _)(.cons(.int _).nil))~List.map V.bl bs~λ_ _ => False~wpAny_pure⟨_,rfl,wpAny_pure h⟩~λah A outer s H vs Q E hr h => ?_~λan A outer s H vs Q E hr h => ?_~Nat.lt_succ_self _~aR @c~rs.map bj.d~ac(ag fm)~io CX P w K mg base N qual scope f j A outer s H E~mem_append_right _(mem_append_right _(de z e))~wpAny_pure ?_~~aR @e~envX qual scope s.heap.objs.size f(.ref c')cl~kla_fn name qual F U scope cl pm(.ref c')ctv~λh2 => ?_~some v~λx c z => d8.keep z st~binaryOp .Add~Nat.le_succ _~r.map bS~λy => ?_~I.ok.hd hc~upd Y D(.lst ys)~upd H p(.lst(xs.set j v))~cI hs.fl hs.ls.length~I.hok.fresh @f~upd(upd H P _)c' _~kla_obj name qual j U scope cl pm c' ctv~cN rfl(wv 0)(wv 1)~envOfC qual scope s.heap.objs.size f cd~mem_append_right _ G~length_filter_le _ _~xk P w~Value.type.inj Z~j pins s σ H _ I h~ae st~mem_append_left _ G~mem_cons_of_mem _ J~~~~~~~~~~~K w.params~λh1 => ?_~Nat.ne_of_lt @s~pi xs lo hi~starEach es env~λaf A outer s H vs Q E hr h => ?_~λaa A outer s H vs Q E hr h => ?_~aV pQ rfl wn boot_str @I~λb o j e => eb b o j e~upd H a(.ins C dx(putF f y fs))~S pos pins s σ H _ I h~ns.map V.int~CR bb outer P w H s Q E~upd H l(.lst ys)~jX Kλl => .int l.rm~dG rfl~dA so room pl s r~Builtin.Str.glued z ts~!q~λG A outer s H I Q E W h => ?_~λA outer s H vs Q E hr h => ?_~sJ Pn Pl~aq(fS(qO(wv 0)(qM qP)))am~O.st.trans(.updL(O _ _ a.el))~aV(zN rfl)rfl lJ boot_list @I~pyNext(.ref it)~some u~letOwnedTupleGo tg(.ref it)u~Value.ref j.objs.size~decide_eq_true z~cW X.env.cells scope.names[]~wpAny_standAt(wpAny_bind ?_)~ps.zip us~gQ.ok fl~jA H m lc lw ll~J pins s σ H _ I h~Y pins s σ H _ I h~PySem.F.args_tuple_add_2 _ _~aD.of a.ec~cW env.cells scope.names[]~be st~λ_ _ _ q => q~wpAny_seqItems nS.1 rfl ?_~upd H dd(.dK[])~bY hs.so c.pl c.li c.ps wd~L2.hid cs H~upd H l(.tup ys)~aD.of af~J.same O~aE.of eb~aD.of e2~U b o e F~~~~~~~~~~~g i j~compareOp .In~I.ok.hd J~assign(.Name x G)X.env~λf vs => PySem.call f vs~unhid cs H H2~bY so pl li ps wd~λz => h1 z.1~cs.map rV~aK(j := 1)rfl~cN rfl(wv 0)@a~m8 @a(qQ @a(wv 2)xE)~f(.int i t)(.int j u)~ha pos pins s σ H _ I h~~iq(j.take xs.length)f~λσ I pv => ?_~cc P w~λ_ q => q~compareOp .NotIn~typeIs_str s z t~Or.inr rfl~ps.mapλp => p.2.toNat~Option Int~ts.map V.str~rM(.lst ds)(.lst es)~jX Kλl => .int l.tn~aU h'.1~bJ h'.2~F.args_str_split_2 _ _~aE.of et~aD.of e1~I.base.free b o e n F~PySem.mem_of_lookup h~hr.deeper _~HT.sIx xs.length 0 lo~~keywordEach[]X.env~λb u z => ?_~PySem.mem_of_lookup e~rs.take i~ac iM~TP X pins σ Q~z.hok.fresh @f~y xs(G i ys _ hi p)~~PySem.W.instObj C dx~hi pins s σ H _ I h~some(.Name x pos')~λS => ?_~wP X.stack~bB st~~~~~~~~~~~σ.set j none~J.unmark I.ok~Int.le_refl _~BK @c~nL h ru df~bI cs~ac(ag(yj xF b9))~upd H4 p(.lst zs)~qh K @cv qK(xn k)~λI H Q E h => ?_~call(.ref f)[u]~au(dN @a)@bu ap~σ.set i @bD~λfl s' hs => ?_~keeperOf(.ref f)~λz => h z.2~λz => W z.1~cg rfl aZ @I~W.trans(.upd n3)~TR X pins σ tg R~xs.length~λx => x.1.isSome~au @a(ac @a)ap~decide_eq_true h1~R.seqT hT~F b _ qλz => z~tY h lc lw M.last M.fire M.bl ll~λc2 => ?_~λc4 => ?_~br q F~compareOp j~Nat.ne_of_lt @br~ns.map WData.int~E3 pk wi g tt te~EJ pk wi g tt te~typeIs_str _ _ _~λ_ _ _ => False~t6 j.heap H~ir rfl~bY so pl li ps j~gw rfl~c9 i M~eval iter X.env~s.heap.push PySem.W.emptyDict~sIx j.size 0 lo~rawInt L~λR => ?_~aa @a @g~ac(ag(wv 2))~λI => ?_~aS @a~λJ => ?_~~~~~~~~~~~λU => ?_~λY => ?_~λO => ?_~Qy r ta tb~its.push y~h1.trans z~O _ _ a.ew~λ_ => rfl~Heap.lt_size q~binaryOp .Mult~j.hok.fresh @f~XP X pins σ E~aq(wv 11)am~~qh K GG pre dl~some(.ref a)~some n~some 6~tupleKind @dr~I.freeC x c e~hb _ _ _ _ ?_~wpAny_rule ?_~upd H p o~fY F h2~Nat.zero_le _~Be X.K H .non~ps.map lD~aq(wv 7)am~ps.take i~ds.take i~aq(wv 2)am~aq(wv 0)am~rk.cl k~Str.ofString \"0123456789\"~s4 _ _ e3~ps.map uB~Option α~aq(wv 0)@T~some sp~I.stkSub b z~eval e X.env~eval o X.env~hs.ls.map RM~λ_ _ => rfl~au @a @bu ap~az.same d s2~λy => y.1 z~Option V~aG X scope N' C s H fp~hid cs H~aq @a @T~G _ _ ed~~~~~~~~~~~aq b9 am~aD.of e5~fs.lookup f~SP X pins D~λ_ => none~S.map V.int~i _ _ _ _ q~kF c v~ws.map bj.d~kJ rfl~aR @b~ls.map gQ.d~aY G R~newList[]~ac(ag b9)~λW => ?_~Str.ofString \"oxuds\"~toString i~I.tok _~Ne.symm aa~tb σ H1 Q~sL c' q~xs.set i v~O _ _ a.el~aD.of a.ew~q _ rfl~EF rfl rfl~aY O sA~pS _ @h~decide_eq_true rfl~upd H x o~Ne.symm F~Ne.symm Z~KX _ _ lk~bs.all id~eI hs~ks.map kV~dN @a~xI rfl hr~wv 10~s2.get e1~La C dx t~O.seqT h1~xG rfl hr~El K a~X.wish E~backTo pos @ce~fX kvs G.1 G.2~bg dl M.ws i M~LF lo n~ae eS~ae cP~~~~~~~~~~~kc kD kH kS k~ID K a~Txt.upper z~ge dl M p r~bg dl W i M~hH.same a.s~O.trans s5~hC.same s1~L2.jF _ _ _ _ _~L2.ao !q rfl ?_~L2.aW !q rfl ?_~L2.gy _ _ _ _~L2.bQ !q ?_~L2.dL !q ?_~L2.CK _ _ _ _ _~L2.om !q rfl ?_~L2.spDraw _ _ _ _ _~L2.drawI !q !l !l !l ?_~L2.rA _ _ _ _ _~L2.isiAnyI rfl(.tup !q)rfl ?_~L2.isiAnyI rfl(.lst !q)rfl ?_~L2.uJ _ _ _~L2.eO !f ?_~L2.dQ !f ?_~L2.Rw !f ?_~L2.Rx !f ?_~L2.bz !g ?_~L2.aP !g ?_~And(L2.R7 _ _ _ _)_~⟨.inl⟨rfl,_,!q⟩,?_⟩~And(L2.Eg _ _)_~⟨L2.RL !d !d,?_⟩~And(L2.sM _ _)_~⟨L2.cy !h !h,?_⟩".splitOn "~").toArray
local macro_rules|`(@$i:ident)=>do
 let n:=i.getId;let k:=n.toString.foldl (λk c=>k*62+(("abcdefghijklmnopqrstuvwxyzABCDEFGHIJKLMNOPQRSTUVWXYZ0123456789".splitOn c.toString).head!).length) 0;let s:=Lean.wW.getD k "";if n.hasMacroScopes||n.toString.length>2||s=="" then Lean.Macro.throwUnsupported else return Lean.wD s
open List (all_cons all_eq_false all_eq_true all_map any_cons any_eq_false any_eq_true any_filter any_map append_assoc append_nil cons_append contains_cons drop_append_of_le_length drop_eq_getElem_cons drop_length drop_of_length_le drop_zero ext_getElem filterMap_append filterMap_cons filterMap_map filter_append filter_cons filter_cons_of_neg filter_cons_of_pos filter_nil find?_cons flatMap_append flatMap_cons flatMap_nil flatten_cons foldl_append foldl_cons foldl_toArray forIn_cons forIn_nil getD_eq_getElem?_getD getElem?_append_left getElem?_append_right getElem?_drop getElem?_eq_getElem getElem?_map getElem?_replicate getElem?_set_ne getElem?_set_self getElem?_take_of_lt getElem?_zip_eq_some getElem_inj getElem_mem length_append length_cons length_drop length_eq_one_iff length_eq_zero_iff length_filter_le length_map length_nil length_pos_iff length_range length_replicate length_set length_singleton length_take length_take_le lookup_cons lookup_cons_self lookup_eq_none_iff map_append map_congr_left map_cons map_eq_nil_iff map_map map_nil map_set mem_append mem_append_left mem_append_right mem_cons mem_cons_of_mem mem_cons_self mem_filter mem_filterMap mem_flatMap mem_flatten mem_iff_getElem mem_iff_getElem? mem_map mem_map_of_mem mem_of_getElem? mem_of_mem_drop mem_of_mem_take mem_or_eq_of_mem_set mem_range mem_reverse mem_singleton nil_append nodup_append nodup_cons not_mem_nil of_mem_zip pairwise_iff_getElem pairwise_lt_range range_succ range_succ_eq_map rel_of_pairwise_cons replicate_succ set_cons_succ set_cons_zero set_getElem_self size_toArray sum_cons take_add_one take_append_of_le_length take_length take_of_length_le take_sublist take_succ take_zero)
structure PySem.W.Fast:Prop where
 (tw17650611875787654907 tw14355988033714940432 tw10611963571417501493 tw17063031650254857280 tw10971929318143507398 tw12878930428844979471 tw11181640026218672789 tw14852306270328314896 tw13746039560326786063 tw9849991560055380447 tw7375164836528473741 tw10498981829786474832 tw11281966043489610531 tw976095904886054606 tw7795693285394240762 tw11498676327716717818 tw2643819171430420683 tw10406318467706809320 tw11559909390619591315 tw15268653769311280432 tw9840309151163502944 tw3624021548590332719 tw1037287977490889616 tw14508262094866396637 tw12080542400540355097 tw4437257709739269798 tw1063921435450172895 tw6908289487515485523 tw9815870008397824419 tw706416226207714401 tw7985662247306978733 tw847943313319117902 tw7208422544411110196 tw877479327546419338 tw4460246519977575533 tw10290030413103971199 tw7268931680462953304 tw562361320152097208 tw3663195068840771199 tw12660591453761635393 tw1461880620658369067 tw4974441115702877941 tw2925768888017637576 tw15105133391925782068 tw2937511539563255574 tw10621447410558947567 tw6389072536914928419 tw2196902736267262787 tw10775752406055763511 tw12584418574030968269 tw3126536386822717615 tw5253636837274783729 tw10933023224737950665 tw227182389302216519 tw10801705881529355623 tw15237150658732409264 tw900626828837979997 tw10773609779756737122 tw15683189827138657643 tw8740817520088251770 tw15787929123701565008 tw1873237973305506893 tw6612299465986293408 tw2326607534380110668 tw8401041715602623654 tw11956114753488157511 tw1745116290283556815 tw15039891845734801773 tw715603518903729845 tw2694070363331207710 tw14084045933717934317 tw636153477484858532 tw2818238985544115796 tw2589222090412631151 tw11461261215892018817 tw13916108000519240279 tw6793839030686305315 tw7159847835218094885 tw4854782068963559743 tw6378316232896185252 tw3863838114914822486 tw10686542341898013150 tw7066835371497406142 tw13458756373758526039 tw16702301339691154003 tw15840180995583555789 tw2395075936829514497 tw9182567765920480800 tw15309475139361605086 tw12529536973963420251 tw14163460140735879747 tw8035974436900321948 tw5431949069472869282 tw9554962116486435601 tw15397052390259053225 tw4504998022617529299 tw15386775949052381910 tw1072303149319942351 tw2206082907713197864 tw2166204750068209973 tw3907849693140369421 tw18243370964420261834 tw15764583458265329419 tw3338224107206462406 tw18169764849973188122 tw2025409158448442845 tw9771659988275963541 tw13677509949993376304 tw13795450562789518288 tw14450890709087561950 tw15283418080777908907 tw5362055879354912728 tw7828639764312643993 tw3373417970539069877 tw2893599601567193717 tw7329537362879604870 tw11777389951404829814 tw18200749116385227555 tw5183575924082500855 tw16090818431218200826 tw8638841988899772513 tw1672524537372768714 tw11713243466045573890 tw13222378667646947650 tw2477752238860005788 tw2589913724805702418 tw4858559172101445377 tw13842436025580209466 tw1869682791990291285 tw14437740001002331885 tw10115247308269621787 tw15431778777518992333 tw11868123425426321123 tw16175976701470050550 tw16225167028824557711 tw2230535185269876220 tw16752950394831020546 tw2887721674206058189 tw15687238741475255412 tw10088294663803842009 tw16597880368548748583 tw3940203931425107745 tw6578222087307642494 tw11331719061738718161 tw11309547740936033878 tw16861074050165223516 tw7595012562161860322 tw227127362296653695 tw1141872642314406722 tw5863827567850845029 tw3045602883506424597 tw18113811498698748479 tw11049556168081790110 tw15240961819205242071 tw4366102073105101127 tw3794715724521881010 tw16339228718224254912 tw11349837471319941039 tw17805323892953104304 tw17498521325586368434 tw348922056218115804 tw14623475035293884839 tw14457649196364245504 tw16457564449336104898 tw15786449015807870907 tw4644143365516327566 tw10263528273959104664 tw13419692399970974988 tw11166524556186559013 tw36764193201411500 tw9807609296039218808 tw4839560199474784160 tw16118568566403619420 tw1185660457435331499 tw16416996325865532354 tw11309890608213031379 tw9805709413681218684 tw12196218146633046981 tw6162452843273124458 tw12676092192958036295 tw16450788373871006752 tw7733104135826344162 tw10885853424050985641 tw13400076213677756854 tw12348602046183947208 tw8794932658412731861 tw4268756774061503038 tw10538213828469952277 tw11441502407999513600 tw18094300341419749536 tw5977731054662911048 tw3569858749767130030 tw14906321815651199561 tw916332806250453070 tw10748426281066750969 tw2795195111631408179 tw3339577064450113393 tw8710227934319587010 tw1125006522389973343 tw5792174617721385397 tw5470436396045923166 tw16212416370153727468 tw12206699601249933442 tw16066033821228270887 tw1787113401006214839 tw12876678031846238397 tw1679279037250669454 tw6857503376169552686 tw15558025314380303978 tw3940479953558646123 tw12216628651315626981 tw14831992981714805418 tw5932524181163371027 tw15685571095317388406 tw17774271392343111666 tw3851249861170177473 tw18252696788793032793 tw10040556050557755175 tw8518339734348065844 tw11075231142723372458 tw14979426650214321041 tw14007208775337441438 tw16562847830362731036 tw4663188905324308939 tw1843296636842612213 tw6148675571741223906 tw1678189535713549680 tw17862219475195979928 tw15195547634720673179 tw5083917133855528297 tw16024541877276216281 tw16830811736501342918 tw16084469924110987368 tw12035310167658417172 tw8188735325923073689 tw5204496222182906158 tw13919663526253425619 tw8789526545703041379 tw17434772906071022364 tw584952790955512210 tw13134484375453838288 tw7303041028966058926 tw671545232130874553 tw10673835709420308094 tw10188840305925446848 tw10863589882641028835 tw14543475320327663742 tw5449619785711727833 tw1466697787148618094 tw10416522879000310137 tw13253528291344250228 tw16608831507575088240 tw10626450052180932480 tw11288097271571874543 tw12317606553728928386 tw2559033073989008463 tw17899332417697346502 tw10609212785452421080 tw1629681175418645123 tw13818013060122331414 tw3329168597489195778 tw11525595797612056846 tw17314227092432796470 tw5809381304153108336 tw5947390204563508602 tw3023769887404028040 tw10259506465339912705 tw12404486802275149943 tw8782979845756733117 tw3861842118980497347 tw11994263828923287956 tw8142513042613003756 tw12319380836595026147 tw2508212495747769917 tw15448510972083828887 tw14831192522846516403 tw2622290282029898345 tw16677513404416866774 tw17615468594664202843 tw12911543487688582007 tw3793955802875880549 tw9958661871154437774 tw14202685393375359539 tw10209091215522920618 tw14970708172028320424 tw13078334070170468821 tw12041220609097940579 tw6505674606224165611 tw8052711052063687146 tw10135933929340059542 tw3063400114140615929 tw14324679576022214559 tw7230649788171638241 tw15862083135022357083 tw7443978280516191449 tw2672367025166739712 tw720293749862084254 tw13868799833393517744 tw17568115196000058110 tw15349972271442166582 tw5703109190506242869 tw4813258831932545173 tw13827793432737795864 tw3067893673343128959 tw136839005837676762 tw11735484676773635627 tw4350668913582952423 tw4565376422135653854 tw62951329312996353 tw12091866331370897638 tw618270828036825422 tw7744566476478955562 tw13107464788487242274 tw9109039265654441412 tw7773027313726237038 tw16118841537708224429 tw4443999956966923095 tw7804773929990150258 tw14951756369196330390 tw10332545029332817672 tw18326062933975205387 tw2390531374510195977 tw3388424592193910560 tw1765713816476333936 tw9786289202873809684 tw15863274512230678697 tw655681172950604847 tw905895286540553809 tw12239200040541470938 tw12364854638383094507 tw10561777906268339788 tw5513866935605637235 tw5612466752853850099 tw3289760962338027448 tw869637968178478749 tw1992672779858726437 tw8032805707269248569 tw7523857791873490786 tw14513881547443669882 tw13440745519717969602 tw763385519468552661 tw1419660267194622466 tw6606528572014243555 tw15489867183722715935 tw10157099465131619363 tw4363348655170985861 tw15817468473294325419 tw451668388488976485 tw435923982645003701 tw3832145490595604252 tw38251290985441766 tw11369265220663287071 tw3937298864966035438 tw18115824680687887688 tw1138088918761194670 tw4720037644650529551 tw2380065311448002225 tw7940794096692711653 tw17579981937970281969 tw15995877142122872695 tw3534866162902780480 tw469303712107707806 tw4757173217786519800 tw6678359331274837786 tw14024103003194114478 tw10318975098853674004 tw2828196288639078035 tw3989043919224429227 tw5939428670639740700 tw6123296736415335305 tw946768667021727788 tw15313497177249666375 tw5266595932753860811 tw6223487191537153893 tw12640257202332454640 tw6813873712810902084 tw15454903918273410666 tw8562950277153644753 tw14901719703063918145:True)
abbrev Fg:=PySem.W.Frag
namespace L2
open PySem PySem.Spec PyProof.Rows
abbrev dE:=Sum Int Str
def uG:dE->Value->Bool
 | .inl k,v=>Value.isInt k v
 | .inr x,v=>Value.isStrOf x v
def To (w:World):dE->Int
 | .inl k=>hashInt k
 | .inr x=>hashStr w x
theorem bT:∀ {k:dE} {v:Value},uG k v=true->(∃i t,k=Sum.inl i/\v=Value.int i t)\/(∃x t,k=Sum.inr x/\v=Value.str x t)
 | .inl i,v,h=>by
   obtain ⟨t,e⟩:=Value.isInt_shape (k:=i) (v:=v) h;exact .inl ⟨i,t,rfl,e⟩
 | .inr x,v,h=>by
   obtain ⟨t,e⟩:=Value.isStrOf_shape (x:=x) (v:=v) h;exact .inr ⟨x,t,rfl,e⟩
theorem DK (i:Int)(t:Tok):uG (.inl i) (.int i t)=true:=by simp [uG,Value.isInt]
theorem DJ (x:Str)(t:Tok):uG (.inr x) (.str x t)=true:=by simp [uG,Value.isStrOf]
theorem OQ (a b:Int):decide ((Sum.inl a:dE)=Sum.inl b)=(a==b):=by
 by_cases e:a=b
 ·subst e;simp
 ·have h: ¬(Sum.inl a:dE)=Sum.inl b:=λq=>e (Sum.inl.inj q);rw [decide_eq_false h];exact (beq_eq_false_iff_ne.mpr e).symm
theorem ON (a b:Str):decide ((Sum.inr a:dE)=Sum.inr b)=decide (a=b):=by
 by_cases e:a=b
 ·subst e;simp
 ·have h: ¬(Sum.inr a:dE)=Sum.inr b:=λq=>e (Sum.inr.inj q);rw [decide_eq_false h,decide_eq_false e]
theorem OP (a:Int)(b:Str):decide ((Sum.inl a:dE)=Sum.inr b)=false:=decide_eq_false (λq=>nomatch q)
theorem OO (a:Str)(b:Int):decide ((Sum.inr a:dE)=Sum.inl b)=false:=decide_eq_false (λq=>nomatch q)
noncomputable def cc (prog:Program)(w:World):PySem.KeyKind prog w dE where
 is:=uG
 hash:=To w
 inj:=λv a b ha hb=>by
  rcases bT ha with ⟨i,t,rfl,rfl⟩|⟨x,t,rfl,rfl⟩
  ·rcases bT hb with ⟨j,u,rfl,e⟩|⟨y,u,rfl,e⟩
   ·injection e with e1 _;rw [e1]
   ·exact nomatch e
  ·rcases bT hb with ⟨j,u,rfl,e⟩|⟨y,u,rfl,e⟩
   ·exact nomatch e
   ·injection e with e1 _;rw [e1]
 byValue:=λk v h=>by
  rcases bT h with ⟨i,t,rfl,rfl⟩|⟨x,t,rfl,rfl⟩<;>rfl
 pyHash:=λhv h=>by
  rcases bT hv with ⟨i,t,rfl,rfl⟩|⟨x,t,rfl,rfl⟩
  ·exact wpAny_pyHash_int h
  ·exact wpAny_pyHash_str h
 eqBool:=λhu hv h=>by
  rcases bT hu with ⟨i,t,rfl,rfl⟩|⟨x,t,rfl,rfl⟩
  ·rcases bT hv with ⟨j,u,rfl,rfl⟩|⟨y,u,rfl,rfl⟩
   ·rw [OQ] at h;exact wpAny_eqBool_int h
   ·rw [OP] at h;exact SeqAt.EqAt.int_str i t y u _ _ _ _ h
  ·rcases bT hv with ⟨j,u,rfl,rfl⟩|⟨y,u,rfl,rfl⟩
   ·rw [OO] at h;exact SeqAt.EqAt.str_int x t j u _ _ _ _ h
   ·rw [ON] at h;exact wpAny_eqBool_str h
 «strs»:=λk x t v h=>by
  rcases bT h with ⟨i,u,rfl,e⟩|⟨y,u,rfl,e⟩
  ·exact nomatch e
  ·injection e with e1 _;subst e1;cases v<;>rfl
theorem yw (prog:Program)(w:World)(i:Int)(t:Tok):(cc prog w).is (.inl i) (.int i t)=true:=DK i t
theorem yv (prog:Program)(w:World)(x:Str)(t:Tok):(cc prog w).is (.inr x) (.str x t)=true:=DJ x t
inductive V where
 |non|bl (b:Bool)|int (i:Int)|str (x:Str)|byt (b:Array UInt8)|flt (b:UInt64)|ref (a:Addr)|ty (n:String)
 deriving DecidableEq
def aA:V->Value->Prop
 | .non,u=>u=Value.none
 | .bl b,u=>u=Value.bool b
 | .int i,u=>∃t,u=Value.int i t
 | .str x,u=>∃t,u=Value.str x t
 | .byt b,u=>∃t,u=Value.bytes b t
 | .flt b,u=>∃t,u=Value.float b t
 | .ref a,u=>u=Value.ref a
 | .ty n,u=>u=Value.type n
abbrev aJ:List V->List Value->Prop:=Paired aA
theorem aJ.length {xs:List V}{us:List Value}(r:aJ xs us):xs.length=us.length:=Paired.length r
theorem aJ.get:∀ {xs:List V} {us:List Value} {i:Nat} {x:V},aJ xs us->xs[i]? =some x->∃u,us[i]? =some u/\aA x u
 |_,_,_,_,.nil,e=>by simp at e
 |_,_,0,_,.cons r _,e=>by simp at e;subst e;exact ⟨_,rfl,r⟩
 |_,_,i+1,x,.cons _ t,e=>by
  obtain ⟨u,h1,h2⟩:=aJ.get (i:=i) (x:=x) t (by simpa using e);exact ⟨u,by simpa using h1,h2⟩
theorem aJ.set {x:V}{u:Value}(r:aA x u):∀ {xs:List V} {us:List Value} (i:Nat),aJ xs us->aJ (xs.set i x) (us.set i u)
 |_,_,_,.nil=> .nil
 |_,_,0,.cons _ t=> .cons r t
 |_,_,i+1,.cons q t=> .cons q (aJ.set r i t)
theorem aJ.append:∀ {xs ys:List V} {us ws:List Value},aJ xs us->aJ ys ws->aJ (xs++ys) (us++ws)
 |_,_,_,_,.nil,s=>s
 |_,_,_,_,.cons r t,s=> .cons r (aJ.append t s)
theorem aJ.take:∀ {xs:List V} {us:List Value} (n:Nat),aJ xs us->aJ (xs.take n) (us.take n)
 |_,_,0,_=> .nil
 |_,_,_+1,.nil=> .nil
 |_,_,n+1,.cons r t=> .cons r (aJ.take n t)
theorem aJ.drop:∀ {xs:List V} {us:List Value} (n:Nat),aJ xs us->aJ (xs.drop n) (us.drop n)
 |_,_,0,r=>r
 |_,_,_+1,.nil=> .nil
 |_,_,n+1,.cons _ t=>aJ.drop n t
def md:Option V->Option Value->Prop
 |some v,some u=>aA v u
 |none,none=>True
 |_,_=>False
def KV {κ:Type}:List (κ×V)->List (κ×Value)->Prop:=Paired λ(p:κ×V) (q:κ×Value)=>p.1=q.1/\aA p.2 q.2
def kV:dE->V
 | .inl i=> .int i
 | .inr x=> .str x
inductive HO where
 |lst (xs:List V)
 |tup (xs:List V)
 |dK (kvs:List (dE×V))|dT (kvs:List (List dE×V))
 |set (S:Int->Bool) (n:Nat)
 |ins (C dx:Addr) (fs:List (Str×V))
 |own (x:Addr)
 |xd (fs:List (Str×V))
 |met (f x:Addr)
 |rng (lo hi:Int)
 |frz (o:Obj) (u:HO)
 |tbl (ps:Array Value)
 |ext (φ:Heap->Prop)
abbrev Hp:=Addr->Option HO
def upd (H:Hp)(a:Addr)(o:HO):Hp:=λb=>if b=a then some o else H b
theorem af {H:Hp}{a:Addr}{o:HO}:upd H a o a=some o:=by unfold upd;rw [if_pos rfl]
theorem aj {H:Hp}{a b:Addr}{o:HO}(h:b≠a):upd H a o b=H b:=by unfold upd;rw [if_neg h]
theorem BH {H:Hp}{a:Addr}{o u:HO}:upd @bg a u=upd H a u:=by
 funext b;unfold upd;split<;>rfl
theorem Rn {H:Hp}{a b:Addr}{o u:HO}(h:H a=some o)(h':H b=some u)(d:o≠u):a≠b:=by
 intro e;subst e;rw [h] at h';exact d (Option.some.inj h')
theorem br {H:Hp}{a b:Addr}{o:HO}(h:H a=some o)(h':H b=none):a≠b:=by
 intro e;subst e;rw [h] at h';cases h'
section
variable (P:Program)(w:World)
def bp (H:Hp)(h:Heap)(a:Addr):HO->Prop
 | .lst xs=>xs.length<=sizeLine/\∃(its:List Value) (n:Nat),aJ xs its/\h.get? a=some {cls:= .type "list",data:= .seq its.toArray n}
 | .tup xs=>xs.length<=sizeLine/\∃its:List Value,aJ xs its/\IsTup h a its.toArray
 | .dK kvs=>kvs.length<=sizeLine/\(a==sysModules)=false/\∃vs,KV kvs vs/\h.DictOf @dr a vs
 | .dT kvs=>kvs.length<=sizeLine/\(a==sysModules)=false/\∃xs:List (List dE×Addr×Value),
    Paired (λ(p:List dE×V) (q:List dE×Addr×Value)=>p.1=q.1/\H q.2.1=some (.tup (p.1.map kV))/\aA p.2 q.2.2) kvs xs/\
    ∃o es ep,h.get? a=some o/\o.ExactDict/\o.data= .dict es ep/\es.toList=xs.map (entryOfKey @fs)/\(xs.map (·.1)).Nodup
 | .set S n=>h.SetOf (intKind P w) a S n
 | .ins C dx fs=>H dx=some (.own a)/\fs.length<=1000/\dx≠a/\h.get? a=some @dU/\
    ∃mA,h.Ns1 dx mA/\(∀f,md @gc (mA f))/\PySem.Within mA (fs.map (·.1))
 | .own _=>∃o,h.get? a=some o
 | .xd fs=>∃mA,h.Ns1 a mA/\∀f,md @gc (mA f)
 | .rng lo hi=>∃t u v,h.get? a=some {cls:= .type "range",data:= .fields #[.int lo t,.int hi u,.int 1 v]}
 | .frz o u=>h.get? a=some o/\bp H h a u
 | .tbl ps=>h.get? a=some {cls:= .none,data:= .fields ps}
 | .met f x=>h.get? a=some (W.methodObj (.ref f) (.ref x))
 | .ext φ=>φ h/\(∃o,h.get? a=some o)/\∀h1 h2:Heap,φ h1->(∀o,h1.get? a=some o->h2.get? a=some o)->φ h2
def fh (H:Hp)(h:Heap):Prop:=∀a o,H a=some o->bp P w H h a o
end
section
variable {P:Program}{w:World}{H H':Hp}{h h':Heap}{a:Addr}{o:HO}
theorem bp.lt (x:bp P w H h a o):a<h.objs.size:=by
 cases o with
 |lst xs=>obtain ⟨_,_,_,_,e⟩:=x;exact Heap.lt_size e
 |tup xs=>obtain ⟨_,_,_,p⟩:=x;exact p.lt
 |dK kvs=>obtain ⟨_,_,_,_,o,_,_,e,_⟩:=x;exact Heap.lt_size e
 |dT kvs=>obtain ⟨_,_,_,_,o,_,_,e,_⟩:=x;exact Heap.lt_size e
 |set S n=>obtain ⟨o,_,_,_,e,_⟩:=x;exact Heap.lt_size e
 |ins C dx fs=>obtain ⟨_,_,_,e,_⟩:=x;exact Heap.lt_size e
 |own y=>obtain ⟨_,e⟩:=x;exact Heap.lt_size e
 |xd fs=>obtain ⟨_,⟨_,_,_,e,_⟩,_⟩:=x;exact Heap.lt_size e
 |rng lo hi=>obtain ⟨_,_,_,e⟩:=x;exact Heap.lt_size e
 |frz ob u=>obtain ⟨e,_⟩:=x;exact Heap.lt_size e
 |tbl ps=>exact Heap.lt_size (show h.get? a=some _ from x)
 |met f y=>exact Heap.lt_size (show h.get? a=some _ from x)
 |ext φ=>obtain ⟨_,⟨_,e⟩,_⟩:=x;exact Heap.lt_size e
theorem Paired.mapP {α β:Type}{F G:α->β->Prop}:∀ {l₁:List α} {l₂:List β},Paired F l₁ l₂->(∀a b,F a b->G a b)->Paired G l₁ l₂
 |_,_,.nil,_=> .nil
 |_,_,.cons r t,f=> .cons (f _ _ r) (Paired.mapP t f)
theorem Paired.imp' {α β:Type}{F G:α->β->Prop}(f:∀a b,F a b->G a b){z:List α}{j:List β}(r:Paired F z j):Paired G z j:=Paired.mapP r f
theorem bp.stay (x:bp P w H h a o)(k:∀b u,(b=a\/H b=some (.own a))->h.get? b=some u->h'.get? b=some u)
(U:∀b,H b=some (.own a)->H' b=some (.own a))(J:∀b xs,H b=some (.tup xs)->H' b=some (.tup xs)):bp P w H' h' a o:=by
 induction o with
 |lst xs=>obtain ⟨z,its,n,r,e⟩:=x;exact ⟨z,its,n,r,k _ _ (.inl rfl) e⟩
 |tup xs=>obtain ⟨z,its,r,j,e,c⟩:=x;exact ⟨z,its,r,j,k _ _ (.inl rfl) e,c⟩
 |dK kvs=>obtain ⟨z,y,I,r,j,es,F,e,c⟩:=x;exact ⟨z,y,I,r,j,es,F,k _ _ (.inl rfl) e,c⟩
 |dT kvs=>
  obtain ⟨z,y,xs,r,j,es,F,e,c⟩:=x;exact ⟨z,y,xs,Paired.mapP r λp q z=>⟨z.1,J _ _ z.2.1,z.2.2⟩,j,es,F,k _ _ (.inl rfl) e,c⟩
 |set S n=>obtain ⟨j,es,F,t,e,c⟩:=x;exact ⟨j,es,F,t,k _ _ (.inl rfl) e,c⟩
 |ins C dx fs=>
  obtain ⟨d,z,R,e,mA,⟨G,es,F,O,c⟩,r⟩:=x;exact ⟨U _ d,z,R,k _ _ (.inl rfl) e,mA,⟨G,es,F,k _ _ (.inr d) O,c⟩,r⟩
 |own y=>obtain ⟨j,e⟩:=x;exact ⟨j,k _ _ (.inl rfl) e⟩
 |xd fs=>obtain ⟨mA,⟨G,es,F,e,c⟩,r⟩:=x;exact ⟨mA,⟨G,es,F,k _ _ (.inl rfl) e,c⟩,r⟩
 |rng lo hi=>obtain ⟨t,u,v,e⟩:=x;exact ⟨t,u,v,k _ _ (.inl rfl) e⟩
 |frz j u ih=>obtain ⟨e,q⟩:=x;exact ⟨k _ _ (.inl rfl) e,ih q⟩
 |tbl ps=>
  have e:h.get? a=some {cls:= .none,data:= .fields ps}:=x;show h'.get? a=some {cls:= .none,data:= .fields ps};exact k a _ (.inl rfl) e
 |met f y=>
  have e:h.get? a=some (W.methodObj (.ref f) (.ref y)):=x;show h'.get? a=some (W.methodObj (.ref f) (.ref y));exact k a _ (.inl rfl) e
 |ext φ=>obtain ⟨p,⟨o,e⟩,st⟩:=x;exact ⟨st _ _ p λo q=>k _ _ (.inl rfl) q,⟨o,k _ _ (.inl rfl) e⟩,st⟩
theorem fh.lt (x:fh P w H h)(e:H a=some o):a<h.objs.size:=(x a o e).lt
theorem fh.fresh (x:fh P w H h)(e:h.objs.size<=a):H a=none:=by
 cases q:H a with
 |none=>rfl
 |some u=>exact absurd (Nat.lt_of_lt_of_le (x.lt q) e) @bc
theorem fh.kept (x:fh P w H h)(k:∀b u,h.get? b=some u->h'.get? b=some u):fh P w H h':=λa o e=>
 (x a o e).stay (λb u _ q=>k b u q) @ds λ_ _ q=>q
theorem fh.laid (x:fh P w H h)(k:∀b u,h.get? b=some u->h'.get? b=some u)(G:h.objs.size<=a)(j:bp P w @bg h' a o):fh P w @bg h':=λb u e=>by
 have F:=x.fresh G;by_cases z:b=a
 ·subst z;rw [af] at e;cases e;exact j
 ·rw [aj z] at e
  exact (x b u e).stay (λc v _ q=>k c v q) (λc q=>by rw [aj @eD];exact q) λc xs q=>by rw [aj @eD];exact q
end
def Rd (H:Hp)(a:Addr)(u:HO):Prop:=H a=some u\/∃o,H a=some (.frz o u)
theorem Rd.ok {P:Program}{w:World}{H:Hp}{h:Heap}{a:Addr}{u:HO}(r:Rd H a u)(x:fh P w H h):bp P w H h a u:=by
 rcases r with r|⟨o,r⟩
 ·exact x a u r
 ·obtain ⟨_,q⟩:=x a _ r;exact q
def RX:Option HO->Prop
 |some (.lst _)=>True
 |some (.dK _)=>True
 |some (.dT _)=>True
 |some (.set _ _)=>True
 |some (.ins _ _ _)=>True
 |some (.ext _)=>True
 |_=>False
section
variable {P:Program}{w:World}{H:Hp}{h h':Heap}{x e:Addr}{o':HO}
theorem fh.write (W:fh P w H h)(I:RX (H x))(U:e=x\/H e=some (.own x))(k:∀b u,b≠e->h.get? b=some u->h'.get? b=some u)(R:∃u,h'.get? e=some u)
(S:bp P w (upd H x o') h' x o'):fh P w (upd H x o') h':=λb u q=>by
 have F:∀c y,H c=some (.own y)->c≠x:=λc y r z=>by subst z;rw [r] at I;exact I
 have G:∀c xs,H c=some (.tup xs)->c≠x:=λc xs r z=>by subst z;rw [r] at I;exact I
 by_cases O:b=x
 ·subst O;rw [af] at q;cases q;exact S
 ·rw [aj O] at q;by_cases j:b=e
  ·have q':H b=some (.own x):=by
    rcases U with z|z
    ·exact absurd (j.trans z) O
    ·rw [j];exact z
   rw [q] at q';cases q';obtain ⟨v,Y⟩:=R;exact ⟨v,by rw [j];exact Y⟩
  ·refine (W b u q).stay (λc v J r=>k c v ?_ r) (λc r=>by rw [aj (F c b r)];exact r) λc xs r=>by rw [aj (G c xs r)];exact r
   rcases J with rfl|J
   ·exact j
   ·rintro rfl
    rcases U with z|z
    ·exact F c b J z
    ·rw [J] at z;cases z;exact O rfl
end
structure Un (fs ex:List Addr)(H H':Hp)(h h':Heap):Prop where
 keep:∀b o,h.get? b=some o->H b=none->b∉fs->b∉ex->h'.get? b=some o
 slot:∀b o,h.get? b=some o->H b=none->b∈fs->b∉ex->∃sl,h'.get? b=some {o with slots:=sl}
 free:∀b o,h.get? b=some o->H b=none->b∉ex->H' b=none
 there:∀b o,h.get? b=some o->b∉ex->∃o',h'.get? b=some o'
 tups:∀b xs,H b=some (.tup xs)->H' b=some (.tup xs)
 frzs:∀b o u,H b=some (.frz o u)->H' b=some (.frz o u)
 tbls:∀b ps,H b=some (.tbl ps)->∃more,H' b=some (.tbl (ps++more))
section
variable {fs fs' ex ex':List Addr}{H H1 H2:Hp}{h h1 h2 h':Heap}{a x e:Addr}{o:HO}
theorem Un.any (u:Un fs ex H H1 h h1){b:Addr}{j:Obj}(q:h.get? b=some j)(n:H b=none)(F:b∉ex):∃sl,h1.get? b=some {j with slots:=sl}:=by
 by_cases z:b∈fs
 ·exact u.slot b j q n z F
 ·exact ⟨j.slots,u.keep b j q n z F⟩
theorem Un.kept (k:∀b u,h.get? b=some u->h'.get? b=some u):Un fs ex H H h h':=
 ⟨λb j q _ _ _=>k b j q,λb j q _ _ _=>⟨j.slots,k b j q⟩,λ_ _ _ n _=>n,λb j q _=>⟨j,k b j q⟩,λ_ _ q=>q,λ_ _ _ q=>q,λ_ ps q=>⟨#[],by rw [q];simp⟩⟩
theorem Un.refl:Un fs ex H H h h:=Un.kept λ_ _ q=>q
theorem Un.laid (k:∀b u,h.get? b=some u->h'.get? b=some u)(G:h.objs.size<=a)(F:H a=none):Un fs ex H @bg h h' where
 keep:=λb u q _ _ _=>k b u q
 slot:=λb u q _ _ _=>⟨u.slots,k b u q⟩
 free:=λb u q n _=>by rw [aj (Nat.ne_of_lt (Nat.lt_of_lt_of_le @fi G))];exact n
 there:=λb u q _=>⟨u,k b u q⟩
 tups:=λb xs q=>by rw [aj @eD];exact q
 frzs:=λb u xs q=>by rw [aj @eD];exact q
 tbls:=λb ps q=>⟨#[],by rw [aj @eD,q];simp⟩
theorem Un.write (I:RX (H x))(U:e=x\/H e=some (.own x))(k:∀b u,b≠e->h.get? b=some u->h'.get? b=some u)(R:∃u,h'.get? e=some u):Un fs ex H @gE h h':=by
 have G:∀b,H b=none->b≠x:=λb n z=>by subst z;rw [n] at I;exact I
 have J:∀b,H b=none->b≠e:=λb n z=>by
  subst z
  rcases U with r|r
  ·exact G b n r
  ·rw [n] at r;cases r
 have F:∀b u,H b=some u-> ¬RX @cA->b≠x:=λb u q nm z=>by subst z;rw [q] at I;exact nm I
 refine ⟨λb u q n _ _=>k b u (J b n) q,λb u q n _ _=>⟨u.slots,k b u (J b n) q⟩,λb u q n _=>by rw [aj (G b n)];exact n,λb u q _=> ?_,
  λb xs q=>by rw [aj @ez];exact q,λb u xs q=>by rw [aj @ez];exact q,λb ps q=>⟨#[],by rw [aj @ez,q];simp⟩⟩
 by_cases j:b=e
 ·subst j;exact R
 ·exact ⟨u,k b u j q⟩
end
def R8 (h:Heap)(H:Hp):List Addr:=(List.range h.objs.size).filter λa=>(H a).isSome
def t6 (h:Heap)(H:Hp):Heap:=W.hideAll h (R8 h H)
theorem DN (h:Heap)(H:Hp):(t6 h H).objs.size=h.objs.size:=W.hideAll_size _ _
theorem Hq {h:Heap}{H:Hp}{b:Addr}{o:Obj}(e:h.get? b=some o)(n:H b=none):(t6 h H).get? b=some o:=
 W.hideAll_get _ e λF=>by
  have q:(H b).isSome=true:=(mem_filter.mp F).2;rw [n] at q;simp at q
theorem Kz {h:Heap}{H:Hp}{b:Addr}{o:Obj}(e:(t6 h H).get? b=some o):h.get? b=some o/\H b=none:=by
 have j:h.get? b=some o:=W.of_hideAll (R8 h H) e;rwa[⟨j,?_⟩]
 cases q:H b with
 |none=>rfl
 |some x=>
  have F:b∈R8 h H:=mem_filter.mpr ⟨mem_range.mpr (Heap.lt_size j),by simp [q]⟩;have z:(t6 h H).get? b=none:=W.hideAll_none (R8 h H) F;rw [z] at e;cases e
def Lr (g h:Heap)(L:Addr):List (Addr×Obj):=(List.range h.objs.size).filterMap λa=>if a=L\/(g.get? a).isSome=true then none else (h.get? a).map λo=>(a,o)
def eN (g h:Heap)(L d:Addr):List (Addr×Obj):=(Lr g h L).filter λp=>decide (p.1≠d)
structure Mod (K:Fg)(mg:Str->Option Value)(base:Heap):Prop where
 kin:K.In base
 glob:base.Ns mainGlobals mg
 blt:∃mb,base.Ns builtinsNs mb/\∀x:Str,x≠"__name__"->mb x=bootBuiltins x
 nolimit:base.NoLimit
structure Cx where
 prog:Program
 w:World
 K:Fg
 mg:Str->Option Value
 base:Heap
 A:Around
 N:List Str
 s₀:Shared
 H₀:Hp
 env:Env
 outer:List Env
 stack:List Env
 ex:List Addr
 fn:Str->Bool
 calm:Bool
 pn:List (Addr×Obj)
 xe:Value->Shared->Prop
def wP (l:List Env):List Addr:=l.filterMap (·.frame)
abbrev Cx.fs (X:Cx):List Addr:=wP X.outer
def RU (sc:Scope)(x:Str):Prop:=sc.names.lookup x=some .local\/sc.names.lookup x=some .cell\/sc.names.lookup x=some .free
def LA (sc:Scope)(x:Str):Prop:=sc.names.lookup x=some .local\/sc.names.lookup x=some .cell
def TU (env:Env)(h:Heap)(m:Str->Option Value)(x:Str)(u:Value):Prop:=
 (env.kindOf x=some .local/\m x=some u)\/((env.kindOf x=some .cell\/env.kindOf x=some .free)/\∃c,env.cells.lookup x=some c/\h.IsCell c @cA)
structure Cx.Ok (X:Cx):Prop where
 mod:Mod X.K X.mg X.base
 kind:X.env.scope.kind= .function
 glob:X.env.globals=mainGlobals
 blt:X.env.builtins=builtinsNs
 above:X.s₀.heap.objs.size<=X.env.locals
 inj:∀x y c,X.env.cells.lookup x=some c->X.env.cells.lookup y=some c->x=y
 has:∀x,(X.env.kindOf x=some .cell\/X.env.kindOf x=some .free)->∃c,X.env.cells.lookup x=some c
 cab:∀x c,X.fn x=true->X.env.cells.lookup x=some c->X.s₀.heap.objs.size<=c
 hd:X.calm=true->X.A.handled=none
 frames:X.A.frames=some X.stack
 stk:X.stack=X.outer\/(X.stack=X.env::X.outer/\X.env.frame=some X.env.locals)
 exf:∀b∈X.ex,b≠X.env.locals/\∀x c,X.env.cells.lookup x=some c->c≠b
 bs:∀b o,X.base.get? b=some o->X.s₀.heap.get? b=some o/\X.H₀ b=none
 bsz:X.base.objs.size<=X.s₀.heap.objs.size
 noex:∀b o,X.base.get? b=some o->b∉X.ex
 exfs:∀b∈X.ex,b∉X.fs
 funs:X.s₀.heap.FunFrames X.base X.outer
 frf:∀b∈X.fs,X.H₀ b=none
structure ar (X:Cx)(pins:List (Addr×Obj))(σ:List @fV)(H:Hp)(s:Shared):Prop where
 ok:X.Ok
 os:s.os=X.s₀.os
 bare:AllBare s.gens
 base:Un X.fs X.ex X.H₀ H X.s₀.heap s.heap
 loc:∃m,s.heap.Ns X.env.locals m/\∀(i:Nat) (x:Str) (v:V),X.N[i]? =some x->σ[i]? =some @bD->RU X.env.scope x->∃u,aA v u/\TU X.env s.heap m x u
 cell:∀x c,X.env.cells.lookup x=some c->∃v,s.heap.IsCell c v
 free:H X.env.locals=none
 freeC:∀x c,X.env.cells.lookup x=some c->H c=none
 pin:∀p∈X.pn++pins,s.heap.get? p.1=some p.2/\H p.1=none/\p.1≠X.env.locals/\p.1∉X.fs/\∀v,p.2.data≠ .cell v
 hok:fh X.prog X.w H s.heap
 len:σ.length=X.N.length
section
variable {X:Cx}{pins:List (Addr×Obj)}{σ:List @fV}{H H':Hp}{s:Shared}{h':Heap}
theorem Cx.Ok.nofr (W:X.Ok){b:Addr}{o:Obj}(e:X.base.get? b=some o):b∉X.fs:=λz=>by
 have:=(W.funs.mem z).1;rw [e] at this;cases this
theorem ar.bs (I:ar X pins σ H s):∀b o,X.base.get? b=some o->s.heap.get? b=some o/\H b=none:=λb o e=>
 ⟨I.base.keep b o (I.ok.bs b o e).1 (I.ok.bs b o e).2 (I.ok.nofr e) (I.ok.noex b o e),I.base.free b o (I.ok.bs b o e).1 (I.ok.bs b o e).2 (I.ok.noex b o e)⟩
theorem ar.bk (I:ar X pins σ H s):∀b o,X.base.get? b=some o->s.heap.get? b=some o:=λb o e=>(I.bs b o e).1
theorem ar.mod (I:ar X pins σ H s):Mod X.K X.mg X.base:=I.ok.mod
theorem ar.kIn (I:ar X pins σ H s):X.K.In s.heap:=I.ok.mod.kin.keeps I.bk
theorem ar.lt (I:ar X pins σ H s):X.env.locals<s.heap.objs.size:=let ⟨_,hn,_⟩:=I.loc;hn.lt
theorem ar.sz (I:ar X pins σ H s):X.s₀.heap.objs.size<=s.heap.objs.size:=Nat.le_trans I.ok.above (Nat.le_of_lt I.lt)
theorem ar.nofs (I:ar X pins σ H s){a:Addr}(h:s.heap.objs.size<=a):a∉X.fs:=λz=>by
 obtain ⟨_,o,U,_⟩:=I.ok.funs.mem z;exact absurd (Nat.lt_of_lt_of_le (Heap.lt_size U) (Nat.le_trans I.sz h)) @bc
theorem ar.cne (I:ar X pins σ H s):∀x c,X.env.cells.lookup x=some c->c≠X.env.locals:=λx c e z=>by
 obtain ⟨v,o,U,G⟩:=I.cell x c e;obtain ⟨m,⟨o',es,J,F,j,_⟩,_⟩:=I.loc;rw [z,F] at U;cases U;rw [j] at G;cases G
theorem ar.funs (I:ar X pins σ H s):s.heap.FunFrames X.base X.outer:=by
 have F:∀(l:List Env),(∀b∈wP l,b∈X.fs)->X.s₀.heap.FunFrames X.base l->s.heap.FunFrames X.base l:=by
  intro l
  induction l with
  |nil=>intro _ _;trivial
  |cons env r ih=>
   intro hs R;obtain ⟨Y,⟨L,o,G,O,U,S⟩,W⟩:=R;have j:L∈X.fs:=hs L (by unfold wP;rw [filterMap_cons,G];exact mem_cons_self);obtain ⟨sl,e⟩:=I.base.slot L o U (I.ok.frf L j) j λz=>I.ok.exfs L z j;exact ⟨Y,⟨L,_,G,O,e,S⟩,ih (λb J=>hs b (by unfold wP;rw [filterMap_cons,G];exact mem_cons_of_mem _ J)) W⟩
 exact F X.outer (λ_ J=>J) I.ok.funs
theorem ar.stack (I:ar X pins σ H s):s.heap.FunFrames X.base X.stack:=by
 rcases I.ok.stk with e|⟨e,G⟩
 ·rw [e];exact I.funs
 ·rw [e];obtain ⟨m,F,_⟩:=I.loc;rwa[.cons (by rw [I.ok.kind];decide) G F ?_ I.funs];exact Heap.get?_none_of_le (Nat.le_trans I.ok.bsz I.ok.above)
theorem ar.stkSub (I:ar X pins σ H s):∀b∈wP X.stack,b∈X.env.locals::X.fs:=λb z=>by
 rcases I.ok.stk with e|⟨e,G⟩
 ·rw [e] at z;exact mem_cons_of_mem _ z
 ·rw [e] at z;unfold wP at z;rw [filterMap_cons,G] at z;exact z
theorem ar.stkFree (I:ar X pins σ H s):∀b∈wP X.stack,H b=none:=λb j=>by
 rcases mem_cons.mp (I.stkSub b j) with e|j
 ·rw [e];exact I.free
 ·obtain ⟨_,o,U,_⟩:=I.ok.funs.mem j;exact I.base.free b o U (I.ok.frf b j) λz=>I.ok.exfs b z j
theorem ar.step {g':Array GenState}{t':Nat}{d':Drawn}{ch:List Addr}(I:ar X pins σ H s)
(J:∀b∈ch,(b∈X.ex\/X.s₀.heap.objs.size<=b)/\b≠X.env.locals/\(∀x c,X.env.cells.lookup x=some c->c≠b)/\∀p∈X.pn++pins,p.1≠b)
(O:∀b o,b≠X.env.locals->b∉X.fs->b∉ch->s.heap.get? b=some o->H b=none->h'.get? b=some o)
(W:∀b o,b≠X.env.locals->b∈X.fs->b∉ch->s.heap.get? b=some o->H b=none->∃sl,h'.get? b=some {o with slots:=sl})(j:∀b o,b∉ch->s.heap.get? b=some o->H b=none->H' b=none)
(Y:∀b o,b∉ch->s.heap.get? b=some o->∃o',h'.get? b=some o')
(ac:∀b xs,H b=some (.tup xs)->H' b=some (.tup xs))(ad:∀b o u,H b=some (.frz o u)->H' b=some (.frz o u))(ae:∀b ps,H b=some (.tbl ps)->∃more,H' b=some (.tbl (ps++more)))
(ns:∀m,s.heap.Ns X.env.locals m->h'.Ns X.env.locals m)(ag:fh X.prog X.w H' h')(hg:AllBare g'):
 ar X pins σ H' {s with heap:=h',gens:=g',drawn:=d',toks:=t'}:=by
 have aa:∀b o,X.s₀.heap.get? b=some o->b≠X.env.locals:=λb o e=>Nat.ne_of_lt @s
 have U:∀b o,X.s₀.heap.get? b=some o->b∉X.ex->b∉ch:=λb o e F Z=>by
  rcases (J b Z).1 with z|z
  ·exact F z
  ·exact absurd (Nat.lt_of_lt_of_le @U z) @bc
 have R:∀x c,X.env.cells.lookup x=some c->∀v,s.heap.IsCell c v->h'.IsCell c v:=λx c e v ⟨o,ho,hd⟩=>by
  have G:c∉ch:=λz=>(J c z).2.2.1 x c e rfl;by_cases hc:c∈X.fs
  ·obtain ⟨sl,q⟩:=W c o (I.cne x c e) hc G ho @ft;exact ⟨_,q,hd⟩
  ·exact ⟨o,O c o (I.cne x c e) hc G ho @ft,hd⟩
 rwa[⟨I.ok,I.os,hg,⟨λb o e n Z F=> ?_,λb o e n Z F=> ?_,λb o e n F=> ?_,λb o e F=> ?_,λb xs e=>ac b xs (I.base.tups b xs e),λb o xs e=>ad b o xs (I.base.frzs b o xs e),λb ps e=> ?_⟩,?_,λx c e=> ?_,?_,λx c e=> ?_,λp hp=> ?_,ag,I.len⟩]
 ·exact O b o (aa b o e) Z @cZ (I.base.keep b o e n Z F) @dG
 ·obtain ⟨sl,S⟩:=I.base.slot b o e n Z F;obtain ⟨af,e2⟩:=W b _ (aa b o e) Z @cZ S @dG;exact ⟨af,e2⟩
 ·obtain ⟨o',S⟩:=I.base.there b o e F;exact j b o' @cZ S @dG
 ·obtain ⟨o',S⟩:=I.base.there b o e F;exact Y b o' @cZ S
 ·obtain ⟨m1,S⟩:=I.base.tbls b ps e;obtain ⟨m2,e2⟩:=ae b _ S;exact ⟨m1++m2,by rw [e2,Array.append_assoc]⟩
 ·obtain ⟨m,hn,hl⟩:=I.loc;rwa[⟨m,ns m hn,λi x v S e2 e3=> ?_⟩];obtain ⟨u,r,l⟩:=hl i x v S e2 e3;rwa[⟨u,r,?_⟩]
  rcases l with l|⟨k,c,e,z⟩
  ·exact .inl l
  ·exact .inr ⟨k,c,e,R x c e _ z⟩
 ·obtain ⟨v,z⟩:=I.cell x c e;exact ⟨v,R x c e v z⟩
 ·obtain ⟨m,⟨o,_,_,ho,_⟩,_⟩:=I.loc;exact j _ o (λz=>(J _ z).2.1 rfl) ho I.free
 ·obtain ⟨v,o,ho,hd⟩:=I.cell x c e;exact j c o (λz=>(J c z).2.2.1 x c e rfl) ho @ft
 ·obtain ⟨e,n,ne,nf,d⟩:=I.pin p hp;have G:p.1∉ch:=λz=>(J p.1 z).2.2.2 p hp rfl;exact ⟨O p.1 p.2 ne nf G e n,j p.1 p.2 G e n,ne,nf,d⟩
theorem ar.un {t':Nat}(I:ar X pins σ H s)(u:Un X.fs [] H H' s.heap h')(ag:fh X.prog X.w H' h'):ar X pins σ H' {s with heap:=h',toks:=t'}:=by
 obtain ⟨m,⟨o,es,W,U,r⟩,_⟩:=id I.loc;obtain ⟨sl,S⟩:=u.any U I.free @e
 exact I.step (g':=s.gens) (d':=s.drawn) (ch:=[]) (λ_ z=>nomatch z) (λb o _ J _ e n=>u.keep b o e n J @e) (λb o _ J _ e n=>u.slot b o e n J @e) (λb o _ e n=>u.free b o e n @e) (λb o _ e=>u.there b o e @e) u.tups u.frzs u.tbls (λY O=>by
  obtain ⟨o',G,j,F,R⟩:=O;rw [U] at F;cases F
  exact ⟨_,G,j,S,R⟩) ag I.bare
theorem ar.call {g':Array GenState}{t':Nat}{d':Drawn}{ch:List Addr}(I:ar X pins σ H s)(u:Un @dY ch H H' s.heap h')(ag:fh X.prog X.w H' h')(Y:AllBare g')
(j:∀b∈ch,(b∈X.ex\/X.s₀.heap.objs.size<=b)/\b≠X.env.locals/\(∀x c,X.env.cells.lookup x=some c->c≠b)/\∀p∈X.pn++pins,p.1≠b):
 ar X pins σ H' {s with heap:=h',gens:=g',drawn:=d',toks:=t'}:=by
 obtain ⟨m,⟨o,es,ep,U,r⟩,_⟩:=id I.loc;obtain ⟨sl,O⟩:=u.any U I.free λz=>(j _ z).2.1 rfl
 exact I.step (ch:=ch) j (λb o O Z J e n=>u.keep b o e n (λz=>(mem_cons.mp @fN).elim O Z) J) (λb o _ _ J e n=>u.any e n J) (λb o J e n=>u.free b o e n J) (λb o J e=>u.there b o e J) u.tups u.frzs u.tbls (λm' S=>by
  obtain ⟨o',R,G,F,W⟩:=S;rw [U] at F;cases F
  exact ⟨_,R,G,O,W⟩) ag Y
theorem ar.turned {t':Nat}{it:Addr}(I:ar X pins σ H s)(k:∀b o,b≠it->s.heap.get? b=some o->h'.get? b=some o)(O:H it=none)(F:it≠X.env.locals)
(h1:it∈X.ex\/X.s₀.heap.objs.size<=it)(h2:∀x c,X.env.cells.lookup x=some c->c≠it)(S:∀p∈X.pn++pins,p.1≠it):ar X pins σ H {s with heap:=h',toks:=t'}:=by
 have j:∀b u,H b=some u->b≠it:=λb u e z=>by rw [z,O] at e;cases e
 refine I.step (g':=s.gens) (d':=s.drawn) (ch:=[it]) (λb W=> ?_) (λb o _ _ J e _=>k b o (λz=>J (by simp [z])) e) (λb o _ _ J e _=>⟨o.slots,k b o (λz=>J (by simp [z])) e⟩) (λ_ _ _ _ n=>n)
  (λb o J e=>⟨o,k b o (λz=>J (by simp [z])) e⟩) (λ_ _ e=>e) (λ_ _ _ e=>e) (λb ps e=>⟨#[],by rw [e];simp⟩) (λm G=> ?_) (λb u e=> ?_) I.bare
 ·have e:b=it:=by simpa using W
  subst e;exact ⟨h1,F,h2,S⟩
 ·obtain ⟨o,es,R,U,r⟩:=G;exact ⟨o,es,R,k _ o @gF U,r⟩
 ·rwa[(I.hok b u e).stay (λc v J q=>k c v ?_ q) @ds λ_ _ q=>q]
  rcases J with z|z
  ·rw [z];exact j b u e
  ·exact j c _ z
theorem ar.tok (I:ar X pins σ H s)(t:Nat):ar X pins σ H {s with toks:=t}:=I.un (h':=s.heap) (t':=t) Un.refl I.hok
theorem ar.kept {t':Nat}(I:ar X pins σ H s)(k:∀b u,s.heap.get? b=some u->h'.get? b=some u):ar X pins σ H {s with heap:=h',toks:=t'}:=I.un (Un.kept k) (I.hok.kept k)
theorem ar.laid {a:Addr}{o:HO}{t':Nat}(I:ar X pins σ H s)(k:∀b u,s.heap.get? b=some u->h'.get? b=some u)(G:s.heap.objs.size<=a)(j:bp X.prog X.w @bg h' a o):
 ar X pins σ @bg {s with heap:=h',toks:=t'}:=I.un (Un.laid k G (I.hok.fresh G)) (I.hok.laid k G j)
theorem ar.write {x e:Addr}{o:HO}{t':Nat}(I:ar X pins σ H s)(z:RX (H x))(U:e=x\/H e=some (.own x))(k:∀b u,b≠e->s.heap.get? b=some u->h'.get? b=some u)(R:∃u,h'.get? e=some u)
(j:bp X.prog X.w @gE h' x o):ar X pins σ @gE {s with heap:=h',toks:=t'}:=I.un (Un.write z U k R) (I.hok.write z U k R j)
theorem ar.weak {j:List @fV}(I:ar X pins σ H s)(R:j.length=σ.length)(w:∀(i:Nat) v,j[i]? =some @bD->σ[i]? =some @bD):ar X pins j H s:=
 ⟨I.ok,I.os,I.bare,I.base,let ⟨m,hn,hl'⟩:=I.loc;⟨m,hn,λi x v S O z=>hl' i x v S (w i v O) z⟩,I.cell,I.free,I.freeC,I.pin,I.hok,R.trans I.len⟩
theorem ar.pins_of {j:List (Addr×Obj)}(I:ar X pins σ H s)(h:∀p∈j,s.heap.get? p.1=some p.2/\H p.1=none/\p.1≠X.env.locals/\p.1∉X.fs/\∀v,p.2.data≠ .cell v):ar X j σ H s:=
 ⟨I.ok,I.os,I.bare,I.base,I.loc,I.cell,I.free,I.freeC,λp G=>(mem_append.mp G).elim (λz=>I.pin p (mem_append_left _ z)) (h p),I.hok,I.len⟩
theorem lG {N:List Str}(z:N.Nodup){i j:Nat}{x:Str}(a:N[i]? =some x)(b:N[j]? =some x):i=j:=by
 obtain ⟨h1,S⟩:=List.getElem?_eq_some_iff.mp a;obtain ⟨h2,O⟩:=List.getElem?_eq_some_iff.mp b;exact (getElem_inj z).mp (S.trans O.symm)
theorem uu {M:Model}{A:Around}{E:Value->Shared->Prop}{i:Nat}{x:Str}{v:V}{u:Value}{Q:Unit->Shared->Prop}(I:ar X pins σ H s)(hN:X.N.Nodup)(hi:X.N[i]? =some x)(G:LA X.env.scope x)(r:aA v u)
(h:∀s',ar X pins @em H s'->(∃a,Heap.SameBut a s.heap s'.heap/\(a=X.env.locals\/X.env.cells.lookup x=some a))->Q () s')(hf:X.fn x=true\/X.env.scope.names.lookup x=some .local:=by first|exact .inl rfl|exact .inr rfl|assumption):wpAny M A (storeName X.env x u) Q E s:=by
 obtain ⟨m,hn,hl⟩:=id I.loc
 have ag:(X.env.scope.kind== .class||(X.env.scope.kind== .module&&X.env.locals != X.env.globals))=false:=by rw [I.ok.kind];rfl
 have ae:i<σ.length:=by rw [I.len];exact (List.getElem?_eq_some_iff.mp hi).1
 have U:=I.cne
 have F:∀ {a:Addr} {h':Heap},(∃o,s.heap.get? a=some o/\H a=none)->Heap.SameBut a s.heap h'->fh X.prog X.w H h':=λ{a h'} ha hs b ob e=>by
  obtain ⟨_,_,O⟩:=ha;rwa[(I.hok b ob e).stay (λc w' J q=>(hs.2 c ?_).trans q) @ds λ_ _ q=>q];rintro rfl
  rcases J with rfl|J
  ·rw [O] at e;cases e
  ·rw [O] at J;cases J
 rcases G with Y|Y
 ·rwa[wpAny_storeName_local Y hn (λh' ah hs=> ?_) ag];obtain ⟨oL,_,_,ai,_⟩:=id hn;rwa[h _ ⟨I.ok,I.os,I.bare,⟨λb o e n hb G=> ?_,λb o e n hb G=> ?_,I.base.free,λb o e G=> ?_,I.base.tups,I.base.frzs,I.base.tbls⟩,⟨_,ah,λj y v' S R e3=> ?_⟩,λy c e=> ?_,I.free,I.freeC,λp hp=> ?_,F ⟨oL,ai,I.free⟩ hs,by simpa using I.len⟩ ⟨_,hs,.inl rfl⟩]
  ·exact (hs.2 b @cc).trans (I.base.keep b o e n hb G)
  ·obtain ⟨sl,S⟩:=I.base.slot b o e n hb G;exact ⟨sl,(hs.2 b @cc).trans S⟩
  ·obtain ⟨o',S⟩:=I.base.there b o e G;exact ⟨o',(hs.2 b @cc).trans S⟩
  ·by_cases Z:j=i
   ·subst Z;rw [hi] at S;cases S;rw [getElem?_set_self ae] at R;cases R;exact ⟨u,r,.inl ⟨Y,by simp⟩⟩
   ·rw [getElem?_set_ne @gG] at R;obtain ⟨u',r',q⟩:=hl j y v' S R e3;rwa[⟨u',r',?_⟩]
    rcases q with ⟨k,e⟩|⟨k,c,e,z⟩
    ·rwa[.inl ⟨k,?_⟩];have:y≠x:=λe=>Z (lG hN S (e▸hi));simp [this,e]
    ·exact .inr ⟨k,c,e,z.sameBut hs (U y c e)⟩
  ·obtain ⟨w',z⟩:=I.cell y c e;exact ⟨w',z.sameBut hs (U y c e)⟩
  ·obtain ⟨e,n,ne,nf,d⟩:=I.pin p hp;exact ⟨(hs.2 p.1 ne).trans e,n,ne,nf,d⟩
 ·have W:X.fn x=true:=by
   rcases hf with z|z
   ·exact z
   ·rw [z] at Y;cases Y
  obtain ⟨c,J⟩:=I.ok.has x (.inl Y);obtain ⟨w',z⟩:=I.cell x c J;rwa[wpAny_storeName_cell I.ok.kind Y J z (λh' ad hs=> ?_)];obtain ⟨oc,af,ac⟩:=id z;rwa[h {s with heap:=h'} ⟨I.ok,I.os,I.bare,⟨λb o e n hb G=> ?_,λb o e n hb G=> ?_,I.base.free,λb o e G=> ?_,I.base.tups,I.base.frzs,I.base.tbls⟩,⟨m,hn.sameBut hs (Ne.symm (U x c J)),λj y v' S R e3=> ?_⟩,λy c' e=> ?_,I.free,I.freeC,λp hp=> ?_,F ⟨oc,af,I.freeC x c J⟩ hs,by simpa using I.len⟩ ⟨c,hs,.inr J⟩]
  ·exact (hs.2 b @bh).trans (I.base.keep b o e n hb G)
  ·obtain ⟨sl,S⟩:=I.base.slot b o e n hb G;exact ⟨sl,(hs.2 b @bh).trans S⟩
  ·obtain ⟨o',S⟩:=I.base.there b o e G;exact ⟨o',(hs.2 b @bh).trans S⟩
  ·by_cases Z:j=i
   ·subst Z;rw [hi] at S;cases S;rw [getElem?_set_self ae] at R;cases R;exact ⟨u,r,.inr ⟨.inl Y,c,J,ad⟩⟩
   ·rw [getElem?_set_ne @gG] at R;obtain ⟨u',r',q⟩:=hl j y v' S R e3;rwa[⟨u',r',?_⟩]
    rcases q with q|⟨k,c',e,z'⟩
    ·exact .inl q
    ·rwa[.inr ⟨k,c',e,z'.sameBut hs ?_⟩];rintro rfl;exact Z (lG hN S (I.ok.inj _ _ _ e J▸hi))
  ·by_cases aa:c'=c
   ·subst aa;exact ⟨_,ad⟩
   ·obtain ⟨w2,z2⟩:=I.cell y c' e;exact ⟨w2,z2.sameBut hs aa⟩
  ·obtain ⟨e,n,ne,nf,d⟩:=I.pin p hp;rwa[⟨(hs.2 p.1 ?_).trans e,n,ne,nf,d⟩];intro q;rw [q,af] at e;have q':oc=p.2:=Option.some.inj e;exact d w' (by rw [<-q'];exact ac)
theorem kP {M:Model}{A:Around}{E:Value->Shared->Prop}{i:Nat}{x:Str}{v:V}{u:Value}{Q:Unit->Shared->Prop}(I:ar X pins σ H s)(z:X.N.Nodup)(hi:X.N[i]? =some x)(F:LA X.env.scope x)(r:aA v u)
(h:∀s',ar X pins @em H s'->Q () s')(G:X.fn x=true\/X.env.scope.names.lookup x=some .local:=by first|exact .inl rfl|exact .inr rfl|assumption):wpAny M A (storeName X.env x u) Q E s:=
 uu I z hi F r (λs' j _=>h s' j) G
theorem ar.call' {s':Shared}{ch:List Addr}(I:ar X pins σ H s)(U:s'.os=s.os)(u:Un @dY ch H H' s.heap s'.heap)(ag:fh X.prog X.w H' s'.heap)(Y:AllBare s'.gens)
(J:∀b∈ch,(b∈X.ex\/X.s₀.heap.objs.size<=b)/\b≠X.env.locals/\(∀x c,X.env.cells.lookup x=some c->c≠b)/\∀p∈X.pn++pins,p.1≠b):ar X pins σ H' s':=by
 obtain ⟨h',F,z,j,o'⟩:=s';have e:o'=s.os:=U;subst e;exact I.call (g':=F) (t':=j) (d':=z) u ag Y J
end
abbrev XK:=Value->Option Addr->Hp->Prop
abbrev St:=List @fV
abbrev VK:=V->Hp->Prop
abbrev TE:=St->Hp->VK->Prop
abbrev TT:=St->Hp->(Bool->Hp->Prop)->Prop
abbrev TA:=St->Hp->(List V->Hp->Prop)->Prop
structure jD where
 nx:St->Hp->Prop
 rt:VK
 bk:St->Hp->Prop:=λ_ _=>False
 ct:St->Hp->Prop:=λ_ _=>False
abbrev TS:=jD->St->Hp->Prop
def EP (X:Cx)(pins:List (Addr×Obj))(σ:St)(Q:VK)(u:Value)(s':Shared):Prop:=∃v H',ar X pins σ H' s'/\aA v u/\Q v H'
def TP (X:Cx)(pins:List (Addr×Obj))(σ:St)(Q:Bool->Hp->Prop)(b:Bool)(s':Shared):Prop:=∃H',ar X pins σ H' s'/\Q b H'
def AP (X:Cx)(pins:List (Addr×Obj))(σ:St)(Q:List V->Hp->Prop)(us:List Value)(s':Shared):Prop:=∃vs H',ar X pins σ H' s'/\aJ vs us/\Q vs H'
def SP (X:Cx)(pins:List (Addr×Obj))(D:jD)(f:Flow)(s':Shared):Prop:=
 match f with
 | .next=>∃σ' H',ar X pins σ' H' s'/\D.nx σ' H'
 | .brk=>∃σ' H',ar X pins σ' H' s'/\D.bk σ' H'
 | .cont=>∃σ' H',ar X pins σ' H' s'/\D.ct σ' H'
 | .ret u=>∃v σ' H',ar X pins σ' H' s'/\aA v u/\D.rt v H'
def PE (X:Cx)(e:Expr)(t:TE):Prop:=
 ∀(pins:List (Addr×Obj)) (s:Shared) (σ:St) (H:Hp) (Q:VK),ar X pins σ H s->t σ H Q->wpAny @d X.A @fO @w X.xe s
def PT (X:Cx)(e:Expr)(t:TT):Prop:=
 ∀(pins:List (Addr×Obj)) (s:Shared) (σ:St) (H:Hp) (Q:Bool->Hp->Prop),ar X pins σ H s->t σ H Q->wpAny @d X.A (isTrue e X.env @fO) @dQ X.xe s
def PW (X:Cx)(e:Expr)(t:TT):Prop:=
 ∀(whole:Sem Value) (pins:List (Addr×Obj)) (s:Shared) (σ:St) (H:Hp) (Q:Bool->Hp->Prop),ar X pins σ H s->t σ H Q->wpAny @d X.A (isTrue e X.env whole) @dQ X.xe s
theorem PW.pt {X:Cx}{e:Expr}{t:TT}(h:PW X e t):PT X e t:=h _
def PA (X:Cx)(es:List Expr)(t:TA):Prop:=
 ∀(pos:Pos) (pins:List (Addr×Obj)) (s:Shared) (σ:St) (H:Hp) (Q:List V->Hp->Prop),ar X pins σ H s->t σ H Q->wpAny @d X.A (spliced (backTo pos @J)) (AP X pins σ Q) X.xe s
def PS (X:Cx)(st:Stmt)(t:TS):Prop:=
 ∀(pins:List (Addr×Obj)) (s:Shared) (σ:St) (H:Hp) (D:jD),ar X pins σ H s->t D σ H->wpAny @d X.A (exec st X.env) @gd X.xe s
def sE (X:Cx)(st:List Stmt)(t:TS):Prop:=
 ∀(pins:List (Addr×Obj)) (s:Shared) (σ:St) (H:Hp) (D:jD),ar X pins σ H s->t D σ H->wpAny @d X.A (execs st X.env) @gd X.xe s
theorem bv {α:Type}{t:Sem α}{Q j:α->Shared->Prop}{M:Model}{A:Around}{E:Value->Shared->Prop}{s:Shared}(h:wpAny M A t Q E s)(z:∀a s,Q a s->j a s):wpAny M A t j E s:=wpAny_mono h z λ_ _ x=>x
section
variable {X:Cx}
def SY (i:Nat):TE:=λσ H Q=>∃v,σ[i]? =some @bD/\Q v H
def tC (v:V):TE:=λ_ H Q=>Q v H
theorem Ga {i:Nat}{x:Str}{pos:Pos}(S:X.N[i]? =some x)(W:RU X.env.scope x)(G:(x==("__debug__":Str))=false:=by decide)(F:(x==("__classdict__":Str))=false:=by decide):PE X (.Name x pos) (SY i):=by
 intro pins s σ H Q I h;obtain ⟨v,e,h⟩:=h;obtain ⟨m,R,U⟩:=I.loc;obtain ⟨u,r,l⟩:=U i x v S e W;have z:EP X pins σ Q u s:=⟨v,H,I,r,h⟩
 rcases l with ⟨Y,O⟩|⟨Y,c,J,j⟩
 ·exact wpAny_Name (wpAny_loadName_local I.ok.kind Y R O z) G
 ·rcases Y with Y|Y
  ·exact wpAny_Name (wpAny_loadName_cell I.ok.kind Y J j z) G
  ·exact wpAny_Name (wpAny_loadName_free I.ok.kind Y J j z F) G
theorem b9 {i j pos}:PE X (.Constant (.int i) j pos) (tC (.int i)):=λ_ _ _ H _ I h=>wpAny_Constant_int ⟨.int i,H,I.tok _,⟨_,rfl⟩,h⟩
theorem fm {b j pos}:PE X (.Constant (.bool b) j pos) (tC (.bl b)):=λ_ _ _ H _ I h=>Constant_bool ⟨.bl b,H,I,rfl,h⟩
theorem iN {j pos}:PE X (.Constant .none j pos) (tC .non):=λ_ _ _ H _ I h=>Constant_none ⟨.non,H,I,rfl,h⟩
theorem bH {x j pos}:PE X (.Constant (.str x) j pos) (tC (.str x)):=λ_ _ _ H _ I h=>Calls.Constant_str ⟨.str x,H,I.tok _,⟨_,rfl⟩,h⟩
def Gl (X:Cx)(x:Str):Prop:=X.env.kindOf x=some .globalImplicit
theorem fF {E:Value->Shared->Prop}{pins:List (Addr×Obj)}{s:Shared}{σ:St}{H:Hp}{x:Str}{u:Value}{pos:Pos}{Q:Value->Shared->Prop}(I:ar X pins σ H s)(Y:Gl X x)(F:X.mg x=some u)(h:Q u s)
(G:(x==("__debug__":Str))=false:=by decide):wpAny @d X.A (eval (.Name x pos) X.env) Q E s:=
 Calls.Name_function_global I.ok.kind Y (Calls.loadGlobal_global (by rw [I.ok.glob];exact I.mod.glob.keeps I.bk) F h) G
theorem kq {E:Value->Shared->Prop}{pins:List (Addr×Obj)}{s:Shared}{σ:St}{H:Hp}{x:Str}{u:Value}{pos:Pos}{Q:Value->Shared->Prop}(I:ar X pins σ H s)(Y:Gl X x)(F:X.mg x=none)(z:bootBuiltins x=some u)(h:Q u s)
(j:x≠"__name__":=by decide)(G:(x==("__debug__":Str))=false:=by decide):wpAny @d X.A (eval (.Name x pos) X.env) Q E s:=by
 obtain ⟨J,h1,h2⟩:=I.mod.blt;exact Calls.Name_function_global I.ok.kind Y (Calls.loadGlobal_builtin (by rw [I.ok.glob];exact I.mod.glob.keeps I.bk) F (by rw [I.ok.blt];exact h1.keeps I.bk) ((h2 x j).trans z) h) G
theorem B0 {x:Str}{v:V}{u:Value}{pos:Pos}(Y:Gl X x)(F:X.mg x=some u)(r:aA v u)(G:(x==("__debug__":Str))=false:=by decide):PE X (.Name x pos) (tC v):=
 λ_ _ _ H _ I h=>fF I Y F ⟨v,H,I,r,h⟩ G
theorem B2 {x:Str}{v:V}{u:Value}{pos:Pos}(Y:Gl X x)(F:X.mg x=none)(z:bootBuiltins x=some u)(r:aA v u)(j:x≠"__name__":=by decide)(G:(x==("__debug__":Str))=false:=by decide):PE X (.Name x pos) (tC v):=
 λ_ _ _ H _ I h=>kq I Y F z ⟨v,H,I,r,h⟩ j G
variable {a b:Expr}{ta tb:TE}{pos:Pos}
def PC (X:Cx)(op:CmpOp)(a b:Expr)(t:TE):Prop:=
 ∀(pins:List (Addr×Obj)) (s:Shared) (σ:St) (H:Hp) (Q:VK),ar X pins σ H s->t σ H Q->
  wpAny @d X.A (eval a X.env) (λv s₁=>wpAny @d X.A (eval b X.env) (λu s₂=>wpAny @d X.A (compareOp op v u) @w X.xe s₂) X.xe s₁) X.xe s
def tB (t:TE):TT:=λσ H Q=>t σ H λx H1=>∃c,x= .bl c/\Q c H1
theorem NO {j:CmpOp}{t:TE}(h:PC X j a b t)(h1:behindInMarks j b=false:=by first|exact nobehind _ @b @b|rfl):PT X (.Compare a [j] [b] pos) (tB t):=by
 intro pins s σ H Q I J;rwa[wpAny_isTrue_Compare1 (bv (h pins s σ H _ I J) λv O h1=>bv h1 λu R h2=>bv h2 λc S ⟨x,H1,z,F,G⟩=> ?_) h1];obtain ⟨d,rfl,q⟩:=G;cases F;exact wpAny_truthy_bool ⟨H1,z,q⟩
variable {tA tB':TT}{eN:List Expr}
def o0 (t u:TT):TT:=λσ H Q=>t σ H λc H1=>if c=true then u σ H1 Q else Q false H1
def Uf (t u:TT):TT:=λσ H Q=>t σ H λc H1=>if c=true then Q true H1 else u σ H1 Q
def S2 (t:TT):TT:=λσ H Q=>t σ H λc H1=>Q (!c) H1
theorem wb (j:PT X a tA):PW X (.BoolOp .And [a] pos) tA:=by
 intro z pins s σ H Q I h;rwa[isTrue_and (bv (j pins s σ H Q I h) λc O e=> ?_)]
 cases c with
 |true=>exact isTrue_and_nil e
 |false=>exact e
theorem v9 (j:PT X a tA):PW X (.BoolOp .Or [a] pos) tA:=by
 intro z pins s σ H Q I h;rwa[isTrue_or (bv (j pins s σ H Q I h) λc O e=> ?_)]
 cases c with
 |false=>exact isTrue_or_nil e
 |true=>exact e
theorem NM (j:PT X a tA)(J:PW X (.BoolOp .And (b::eN) pos) tB'):PW X (.BoolOp .And (a::b::eN) pos) (o0 tA tB'):=by
 intro F pins s σ H Q I h;rwa[isTrue_and (bv @bW λc O ⟨H1,z,G⟩=> ?_)]
 cases c with
 |true=>exact J F pins O σ H1 Q z G
 |false=>exact ⟨H1,z,G⟩
theorem QW (j:PT X a tA)(J:PW X (.BoolOp .Or (b::eN) pos) tB'):PW X (.BoolOp .Or (a::b::eN) pos) (Uf tA tB'):=by
 intro F pins s σ H Q I h;rwa[isTrue_or (bv @bW λc O ⟨H1,z,G⟩=> ?_)]
 cases c with
 |true=>exact ⟨H1,z,G⟩
 |false=>exact J F pins O σ H1 Q z G
theorem dN (j:PT X a tA):PT X (.UnaryOp .Not a pos) (S2 tA):=by
 intro pins s σ H Q I h;exact isTrue_not (j pins s σ H (λc H1=>Q (!c) H1) I h)
theorem Gc {j}{t:TE}(h:PE X a t):PE X (.BoolOp j [a] pos) t:=λpins s σ H Q I J=>BoolOp_one (h pins s σ H Q I J)
def Ug (t:TT)(ta tb:TE):TE:=λσ H Q=>t σ H λc H1=>if c=true then ta σ H1 Q else tb σ H1 Q
theorem Ge {c:Expr}(J:PT X c tA)(j:PE X a ta)(F:PE X b tb):PE X (.IfExp c a b pos) (Ug tA ta tb):=by
 intro pins s σ H Q I h;rwa[wpAny_IfExp (bv @cJ λd O ⟨H1,z,G⟩=> ?_)]
 cases d with
 |true=>exact j pins O σ H1 Q z G
 |false=>exact F pins O σ H1 Q z G
end
def aD (K:Fg)(H:Hp)(a:Addr)(xs:List V):Prop:=
 Rd H a (.lst xs)\/
  ∃(o:Obj) (its:Array Value) (n:Nat),K.lookup a=some o/\o.cls= .type "list"/\o.dict=none/\o.data= .seq its n/\its.size<=sizeLine/\aJ xs its.toList
def aE (K:Fg)(H:Hp)(a:Addr)(xs:List V):Prop:=
 Rd H a (.tup xs)\/
  ∃(o:Obj) (its:Array Value) (n:Nat),K.lookup a=some o/\o.cls= .type "tuple"/\o.data= .seq its n/\its.size<=sizeLine/\aJ xs its.toList
noncomputable def TM:Value->Option V
 | .none=>some .non
 | .bool b=>some (.bl b)
 | .int i _=>some (.int i)
 | .str x _=>some (.str x)
 | .bytes b _=>some (.byt b)
 | .float b _=>some (.flt b)
 | .ref a=>some (.ref a)
 | .type n=>some (.ty n)
 |_=>none
theorem aA.abs {x:V}{u:Value}(r:aA x u):TM u=some x:=by
 cases x with
 |non=>cases r;rfl
 |bl _=>cases r;rfl
 |int _=>obtain ⟨t,rfl⟩:=r;rfl
 |str _=>obtain ⟨t,rfl⟩:=r;rfl
 |byt _=>obtain ⟨t,rfl⟩:=r;rfl
 |flt _=>obtain ⟨t,rfl⟩:=r;rfl
 |ref _=>cases r;rfl
 |ty _=>cases r;rfl
theorem aA.inj {x y:V}{u:Value}(r:aA x u)(q:aA y u):x=y:=Option.some.inj (r.abs.symm.trans q.abs)
theorem aJ.inj:∀ {xs ys:List V} {us:List Value},aJ xs us->aJ ys us->xs=ys
 |_,_,_,.nil,.nil=>rfl
 |_,_,_,.cons r t,.cons r' t'=>by rw [r.inj r',aJ.inj t t']
section
variable {X:Cx}{pins:List (Addr×Obj)}{σ:St}{H:Hp}{s:Shared}{a:Addr}{xs ys:List V}
theorem aD.of {K:Fg}(h:H a=some (.lst xs)):aD K H a xs:= .inl (.inl h)
theorem aE.of {K:Fg}(h:H a=some (.tup xs)):aE K H a xs:= .inl (.inl h)
theorem ar.list (I:ar X pins σ H s)(h:aD X.K H a xs):∃its:List Value,aJ xs its/\PlainL s.heap a its.toArray/\xs.length<=sizeLine:=by
 rcases h with h|⟨o,its,n,Y,J,G,hs,j,r⟩
 ·obtain ⟨z,its,n,r,e⟩:=h.ok I.hok;exact ⟨its,r,⟨_,n,e,rfl,rfl,rfl⟩,z⟩
 ·rwa[⟨its.toList,r,⟨o,n,I.kIn a o Y,J,G,by simpa using hs⟩,?_⟩];have e:=r.length;simp only [Array.length_toList] at e;lia
theorem ar.tuple (I:ar X pins σ H s)(h:aE X.K H a xs):∃its:List Value,aJ xs its/\IsTup s.heap a its.toArray/\xs.length<=sizeLine:=by
 rcases h with h|⟨o,its,n,Y,J,hs,j,r⟩
 ·obtain ⟨z,its,r,p⟩:=h.ok I.hok;exact ⟨its,r,p,z⟩
 ·rwa[⟨its.toList,r,⟨o,I.kIn a o Y,J,n,by simpa using hs⟩,?_⟩];have e:=r.length;simp only [Array.length_toList] at e;lia
theorem ar.list_inj (I:ar X pins σ H s)(h:aD X.K H a xs)(h':aD X.K H a ys):xs=ys:=by
 obtain ⟨its,r,⟨o,n,e,_,_,d⟩,_⟩:=I.list h;obtain ⟨j,R,⟨o',G,F,_,_,z⟩,_⟩:=I.list h';rw [e] at F;cases F;rw [d] at z;injection z with d1 _
 have:its=j:=by simpa using congrArg Array.toList d1
 subst this;exact r.inj R
theorem ar.tuple_inj (I:ar X pins σ H s)(h:aE X.K H a xs)(h':aE X.K H a ys):xs=ys:=by
 obtain ⟨its,r,⟨o,e,_,n,d⟩,_⟩:=I.tuple h;obtain ⟨j,R,⟨o',F,_,G,z⟩,_⟩:=I.tuple h';rw [e] at F;cases F;rw [d] at z;injection z with d1 _
 have:its=j:=by simpa using congrArg Array.toList d1
 subst this;exact r.inj R
end
abbrev Cx.wish (X:Cx)(E:Value->Shared->Prop):Cx:= {X with xe:=E}
abbrev Cx.nox (X:Cx):Cx:=X.wish λ_ _=>False
theorem Cx.Ok.wish {X:Cx}(W:X.Ok)(E:Value->Shared->Prop):(X.wish E).Ok:=
 ⟨W.mod,W.kind,W.glob,W.blt,W.above,W.inj,W.has,W.cab,W.hd,W.frames,W.stk,W.exf,W.bs,W.bsz,W.noex,W.exfs,W.funs,W.frf⟩
theorem Cx.Ok.unwish {X:Cx}{E:Value->Shared->Prop}(W:(X.wish E).Ok):X.Ok:=
 ⟨W.mod,W.kind,W.glob,W.blt,W.above,W.inj,W.has,W.cab,W.hd,W.frames,W.stk,W.exf,W.bs,W.bsz,W.noex,W.exfs,W.funs,W.frf⟩
section
variable {X:Cx}{pins:List (Addr×Obj)}{σ:St}{H:Hp}{s:Shared}{E:Value->Shared->Prop}
theorem ar.wish (I:ar X pins σ H s)(E:Value->Shared->Prop):ar @gT pins σ H s:=⟨I.ok.wish E,I.os,I.bare,I.base,I.loc,I.cell,I.free,I.freeC,I.pin,I.hok,I.len⟩
theorem ar.unwish (I:ar @gT pins σ H s):ar X pins σ H s:=⟨I.ok.unwish,I.os,I.bare,I.base,I.loc,I.cell,I.free,I.freeC,I.pin,I.hok,I.len⟩
theorem SP.unwish {D:jD}{f:Flow}{s':Shared}(h:SP @gT pins D f s'):SP X pins D f s':=by
 cases f with
 |next=>obtain ⟨j,H',I,q⟩:=h;exact ⟨j,H',I.unwish,q⟩
 |brk=>obtain ⟨j,H',I,q⟩:=h;exact ⟨j,H',I.unwish,q⟩
 |cont=>obtain ⟨j,H',I,q⟩:=h;exact ⟨j,H',I.unwish,q⟩
 |ret u=>obtain ⟨v,j,H',I,r,q⟩:=h;exact ⟨v,j,H',I.unwish,r,q⟩
theorem sE.nox {st:List Stmt}{t:TS}(h:sE X.nox st t):sE X st t:=λpins s σ H D I J=>
 wpAny_mono (h pins s σ H D (I.wish _) J) (λ_ _ q=>q.unwish) λ_ _ z=>False.elim z
end
section
variable {X:Cx}{st:Stmt}{eN:List Stmt}{t u:TS}{e:Expr}{te:TE}{pos:Pos}
def Qz:TS:=λD σ H=>D.nx σ H
def S0 (t u:TS):TS:=λD σ H=>t {D with nx:=u D} σ H
theorem ap:sE X [] Qz:=λ_ _ σ H _ I h=>wpAny_execs_nil ⟨σ,H,I,h⟩
theorem aa (h1:PS X st t)(h2:sE X eN u):sE X (st::eN) (S0 t u):=by
 intro pins s σ H D I h;rwa[wpAny_execs_cons (bv (h1 pins s σ H {D with nx:=u D} I h) λf O q=> ?_)]
 cases f with
 |next=>
  obtain ⟨j,H',z,q⟩:=q;exact h2 pins O j H' D z q
 |ret v=>exact q
 |brk=>exact q
 |cont=>exact q
theorem ac (h1:PS X st t):sE X [st] t:=by
 intro pins s σ H D I h;rwa[wpAny_execs_cons (bv (h1 pins s σ H D I h) λf O q=> ?_)]
 cases f with
 |next=>exact wpAny_execs_nil q
 |ret v=>exact q
 |brk=>exact q
 |cont=>exact q
theorem ar.quiet {pins:List (Addr×Obj)}{σ:St}{H:Hp}{s:Shared}(I:ar X pins σ H s):interactive X.env=false:=by simp [interactive,I.ok.kind]
def QF (te:TE):TS:=λD σ H=>te σ H λ_ H1=>D.nx σ H1
theorem aS (U:PE X e te)(hs:swapsWith e none pos.line X.env=pure false:=by rfl):PS X (.Expr e pos) (QF te):=by
 intro pins s σ H D I h;exact wpAny_Expr_any (bv @bd λv O ⟨x,H1,z,F,G⟩=>⟨σ,H1,z,G⟩) I.quiet hs
def S1 (te:TE):TS:=λD σ H=>te σ H D.rt
theorem ag (U:PE X e te):PS X (.Return (some e) pos) (S1 te):=by
 intro pins s σ H D I h;exact wpAny_Return_some (bv @bd λv O ⟨x,H1,z,F,G⟩=>⟨x,σ,H1,z,F,G⟩)
def Qx:TS:=λD _ H=>D.rt .non H
theorem JL:PS X (.Return none pos) Qx:=λ_ _ σ H _ I h=>wpAny_Return_none ⟨.non,σ,H,I,rfl,h⟩
def S6 (c:TT)(t u:TS):TS:=λD σ H=>c σ H λb H1=>if b=true then t D σ H1 else u D σ H1
theorem QX {c:Expr}{a b:List Stmt}{tc:TT}(J:PT X c tc)(j:sE X a t)(F:sE X b u):PS X (.If c a b pos) (S6 tc t u):=by
 intro pins s σ H D I h;rwa[wpAny_If (bv @cJ λd O ⟨H1,z,G⟩=> ?_)]
 cases d with
 |true=>exact j pins O σ H1 D z G
 |false=>exact F pins O σ H1 D z G
end
abbrev TG:=V->St->Hp->(St->Hp->Prop)->Prop
abbrev CG:=List V->St->Hp->(St->Hp->Prop)->Prop
def PG (X:Cx)(target:Expr)(t:TG):Prop:=
 ∀(pins:List (Addr×Obj)) (s:Shared) (σ:St) (H:Hp) (v:V) (u:Value) (Q:St->Hp->Prop),ar X pins σ H s->aA v u->t v σ H Q->
  wpAny @d X.A (assign target X.env u) (λ_ s'=>∃σ' H',ar X pins σ' H' s'/\Q σ' H') X.xe s
def Eb (X:Cx)(ts:List Expr)(t:CG):Prop:=
 ∀(pins:List (Addr×Obj)) (s:Shared) (σ:St) (H:Hp) (vs:List V) (us:List Value) (Q:St->Hp->Prop),ar X pins σ H s->aJ vs us->t vs σ H Q->
  wpAny @d X.A (assignInOrder ((assignEach ts X.env).map (·.2)) us) (λ_ s'=>∃σ' H',ar X pins σ' H' s'/\Q σ' H') X.xe s
abbrev Pe:=V->V->V->Hp->(Hp->Prop)->Prop
def Iw (X:Cx)(t:Pe):Prop:=
 ∀(pins:List (Addr×Obj)) (s:Shared) (σ:St) (H:Hp) (o i v:V) (ov iv u:Value) (Q:Hp->Prop),ar X pins σ H s->aA o ov->aA i iv->aA v u->t o i v H Q->
  wpAny @d X.A (setItem ov iv u) (λ_ s'=>∃H',ar X pins σ H' s'/\Q H') X.xe s
section
variable {X:Cx}{pos:Pos}
def jJ (i:Nat):TG:=λv σ H Q=>Q @em H
theorem pI {i:Nat}{x:Str}(z:X.N.Nodup)(hi:X.N[i]? =some x)(F:LA X.env.scope x)(G:X.fn x=true\/X.env.scope.names.lookup x=some .local:=by first|exact .inl rfl|exact .inr rfl|assumption):PG X (.Name x pos) (jJ i):=by
 intro pins s σ H v u Q I r h;exact wpAny_assign_Name (kP I z hi F r (λs' j=>⟨_,H,j,h⟩) G)
def Tw:CG:=λvs σ H Q=>vs=[]/\Q σ H
def RB (t:TG)(u:CG):CG:=λvs σ H Q=>∃v r,vs=v::r/\t v σ H λσ' H'=>u r σ' H' Q
theorem JR:Eb X [] Tw:=by
 intro pins s σ H z j Q I r h;obtain ⟨e,h⟩:=h;subst e;cases r;exact assignInOrder_nil ⟨σ,H,I,h⟩
theorem F8 {e:Expr}{es:List Expr}{t:TG}{u:CG}(h1:PG X e t)(h2:Eb X es u)
(hs:(assignEach (e::es) X.env).map (·.2)=assign e X.env::(assignEach es X.env).map (·.2):=by rfl):Eb X (e::es) (RB t u):=by
 intro pins s σ H F J Q I r h;obtain ⟨v,R,S,h⟩:=h;subst S
 cases r with
 |cons r rr=>
  rw [hs];rwa[assignInOrder_cons (bv (h1 pins s σ H _ _ _ I r h) λ_ O ⟨j,H1,z,G⟩=> ?_)];exact h2 pins O j H1 _ _ Q z rr G
def RA (K:Fg)(n:Nat)(t:CG):TG:=λv σ H Q=>∃a xs,v= .ref a/\aE K H a xs/\xs.length=n/\t xs σ H Q
theorem NR {es:List Expr}{k:Nat}{t:CG}{n:Nat}(U:X.calm=true)(h:Eb X es t)
(O:(assignEach es X.env).length=n:=by rfl)(j:(assignEach es X.env).findIdx? (·.1)=none:=by rfl):PG X (.Tuple es k pos) (RA X.K n t):=by
 intro pins s σ H v u Q I r J;obtain ⟨a,xs,S,R,W,J⟩:=J;subst S;cases r;obtain ⟨its,z,G,Z⟩:=I.tuple R;rwa[assign_Tuple_tuple (I.ok.hd U) G (by simp [O,<-W,z.length]) j λh' Y=> ?_];have F:ar X pins σ H {s with heap:=h'}:=I.kept (t':=s.toks) λb o e=>Y b o (Nat.ne_of_lt @U) e;exact h pins _ σ H xs _ Q F (by simpa using z) J
def Tv (to ti:TE)(t:Pe):TG:=λv σ H Q=>to σ H λo H1=>ti σ H1 λi H2=>t o i v H2 λH3=>Q σ H3
theorem qQ {o i:Expr}{to j:TE}{t:Pe}(Y:PE X o to)(hi:PE X i j)(hs:Iw X t)
(ha:∀v,assign (.Subscript o i pos) X.env v=(do
   let ov<-holding [v] @fP
   let iv<-holding [v,ov] (eval i X.env)
   standAt pos
   holding [v,ov,iv] (setItem ov iv v)
   release [v,ov,iv] []):=by intro _;rfl):PG X (.Subscript o i pos) (Tv to j t):=by
 intro pins s σ H v u Q I r h;rw [ha];rwa[wpAny_bind (wpAny_holding (bv @cK λov O ⟨x,H1,F,G,S⟩=> ?_))];rwa[wpAny_bind (wpAny_holding (bv (hi pins O σ H1 _ F S) λiv s2 ⟨y,H2,R,U,W⟩=> ?_))];rwa[wpAny_bind (wpAny_standAt (wpAny_bind (wpAny_holding (bv (hs pins s2 σ H2 x y v ov iv u _ R G U r W) λ_ s3 ⟨Z,z,J⟩=> ?_))))];exact wpAny_release ⟨σ,Z,z,J⟩
def E4 (te:TE)(g:TG):TS:=λD σ H=>te σ H λx H1=>g x σ H1 D.nx
theorem m8 {tg e:Expr}{te:TE}{g:TG}(U:PE X e te)(Y:PG X tg g)(hs:swapsWithSole [tg] e pos.line X.env=pure false:=by rfl)(J:swappedStores [tg] e X.env=pure none:=by rfl)
(h1:(assignEach [tg] X.env).map (·.2)=[assign tg X.env]:=by rfl):PS X (.Assign [tg] e pos) (E4 te g):=by
 intro pins s σ H D I h;rwa[wpAny_Assign_stores (bv @bd λv O ⟨x,H1,z,F,G⟩=> ?_) hs J];rw [h1];exact bv (Y pins O σ H1 x v _ z F G) λ_ R q=>q
theorem bq {i:Nat}{x:Str}{e:Expr}{te:TE}{pos':Pos}(j:X.N.Nodup)(hi:X.N[i]? =some x)(J:LA X.env.scope x)(U:PE X e te)(hs:swapsWith e @dW pos.line X.env=pure false:=by rfl)(O:X.fn x=true\/X.env.scope.names.lookup x=some .local:=by first|exact .inl rfl|exact .inr rfl|assumption):
 PS X (.Assign [.Name x pos'] e pos) (E4 te (jJ i)):=by
 intro pins s σ H D I h;rwa[wpAny_Assign_Name (bv @bd λv S ⟨y,H1,z,F,G⟩=> ?_) hs];exact kP z j hi J F (λW R=>⟨_,H1,R,G⟩) O
end
structure It where
 go:Nat->Hp->Prop
 yld:Nat->Hp->V->Hp->Prop
 stop:Nat->Hp->Prop
def gR (X:Cx)(pins:List (Addr×Obj))(H:Hp)(b:Addr):Prop:=
 H b=none/\b≠X.env.locals/\b∉X.fs/\(b∈X.ex\/X.s₀.heap.objs.size<=b)/\(∀x c,X.env.cells.lookup x=some c->c≠b)/\∀p∈X.pn++pins,p.1≠b
theorem ar.fpOk {X:Cx}{pins:List (Addr×Obj)}{σ:St}{H H':Hp}{s:Shared}{b:Addr}(I:ar X pins σ H s)(j:s.heap.objs.size<=b)(F:H' b=none):gR X pins H' b:=by
 rwa[⟨F,Nat.ne_of_gt (Nat.lt_of_lt_of_le I.lt j),I.nofs j,.inr (Nat.le_trans I.sz j),λx c e z=> ?_,λp G z=> ?_⟩]
 ·obtain ⟨v,q⟩:=I.cell x c e;exact absurd (Nat.lt_of_lt_of_le q.lt (by rw [z];exact j)) @bc
 ·exact absurd (Nat.lt_of_lt_of_le (Heap.lt_size (I.pin p G).1) (by rw [z];exact j)) @bc
structure xf (P:Program)(w:World)(K:Fg)(tg:Expr)(J:It)(fp:List Addr)(it:Addr)(tn:Nat->Heap->Prop):Prop where
 mem:it∈fp
 obj:∀i h,tn i h->∀b∈fp,∃o,h.get? b=some o/\∀v,o.data≠ .cell v
 keep:∀i h h',tn i h->(∀b∈fp,∀o,h.get? b=some o->h'.get? b=some o)->tn i h'
 item:∀(X:Cx),X.prog=P->X.w=w->X.K=K->X.calm=true->∀(i:Nat) (pins:List (Addr×Obj)) (s:Shared) (σ:St) (H:Hp) (E:Value->Shared->Prop),ar X pins σ H s->(∀b∈fp,gR X pins H b)->tn i s.heap->J.go i H->
  wpAny @X X.A @cz (λr s1=>∃u,r=some u/\
   wpAny @X X.A @cB (λ_ s2=>∃x H',ar X pins σ H' s2/\aA x u/\J.yld i H x H'/\tn (i+1) s2.heap/\∀b∈fp,H' b=none) E s1) E s
 done:∀(X:Cx),X.prog=P->X.w=w->X.K=K->X.calm=true->∀(i:Nat) (pins:List (Addr×Obj)) (s:Shared) (σ:St) (H:Hp) (E:Value->Shared->Prop),ar X pins σ H s->(∀b∈fp,gR X pins H b)->tn i s.heap->J.stop i H->
  wpAny @X X.A @cz (λr s1=>r=none/\ar X pins σ H s1) E s
 self:∀(A:Around) (i:Nat) (s:Shared) (Q:Value->Shared->Prop) (E:Value->Shared->Prop),tn i s.heap->Q (.ref it) s->wpAny @X A (pyIter (.ref it)) Q E s
abbrev TI:=St->Hp->(It->Hp->Prop)->Prop
def TR (X:Cx)(pins:List (Addr×Obj))(σ:St)(tg:Expr)(R:It->Hp->Prop)(itv:Value)(s2:Shared):Prop:=
 ∃(it:Addr) (fp:List Addr) (tn:Nat->Heap->Prop) (J:It) (H':Hp),itv= .ref it/\ar X pins σ H' s2/\xf X.prog X.w X.K tg J fp it tn/\tn 0 s2.heap/\(∀b∈fp,gR X pins H' b)/\R J H'
def PI (X:Cx)(tg iter:Expr)(wi:TI):Prop:=
 ∀(pins:List (Addr×Obj)) (s:Shared) (σ:St) (H:Hp) (R:It->Hp->Prop),ar X pins σ H s->wi σ H R->
  wpAny @d X.A @eQ (λv s1=>wpAny @d X.A (pyIter v) @et X.xe s1) X.xe s
theorem yI {M:Model}{A:Around}{E:Value->Shared->Prop}{s:Shared}{tg:Expr}{it:Addr}{u:Value}{o:Obj}{n:String}{vs:Array Value}{Q:Unit->Shared->Prop}(U:s.heap.get? it=some o)(J:o.cls= .type n)(G:o.data= .fields vs)
(F:["enumerate","zip","dict_itemiterator","dict_reverseitemiterator","odict_iterator","itertools.zip_longest","itertools.pairwise"].contains n=false)(z:Q () s):wpAny M A @cB Q E s:=by
 unfold letOwnedTupleGo
 cases tg<;>first
  |exact wpAny_pure z
  |(cases u<;>first
     |exact wpAny_pure z
     |(refine wpAny_bind (wpAny_load U ?_)
       rw [J,G];show wpAny M A (if (["enumerate","zip","dict_itemiterator","dict_reverseitemiterator","odict_iterator","itertools.zip_longest","itertools.pairwise"].contains n&&vs[0]? ==some (rawInt _))=true then _ else _) Q E s;rw [if_neg (by intro h;rw [F,Bool.false_and] at h;cases h)]
       exact wpAny_pure z))
def El (K:Fg)(a:Addr):It:=
 ⟨λi H=>∃xs x,aD K H a xs/\xs[i]? =some x,λi H x H'=>H'=H/\∀xs,aD K H a xs->xs[i]? =some x,λi H=>∃xs,aD K H a xs/\xs.length<=i⟩
def ID (K:Fg)(a:Addr):It:=
 ⟨λi H=>∃xs x,aE K H a xs/\xs[i]? =some x,λi H x H'=>H'=H/\∀xs,aE K H a xs->xs[i]? =some x,λi H=>∃xs,aE K H a xs/\xs.length<=i⟩
def LF (lo:Int)(n:Nat):It:=⟨λi _=>i<n,λi H x H'=>H'=H/\x= .int (lo+i),λi _=>n<=i⟩
theorem CL {P:Program}{w:World}{K:Fg}{tg:Expr}(a it:Addr):xf P w K tg @gS [it] it (λi h=>h.IsListIter it a i) where
 mem:=by simp
 obj:=λi h st b j=>by
  have e:b=it:=by simpa using j
  subst e;obtain ⟨o,e,c,d⟩:=st;exact ⟨o,e,λv z=>by rw [d] at z;cases z⟩
 keep:=λi h h' st k=>st.at λo e=>k it @e o e
 item:=by
  intro X W hw Z hc i pins s σ H E I G st Y;subst W hw Z;obtain ⟨xs,x,R,hx⟩:=Y;obtain ⟨its,rv,p,hz⟩:=I.list R;obtain ⟨u,hu,ru⟩:=rv.get hx;obtain ⟨U,S,f2,O,f4,J⟩:=G it @e;rwa[wpAny_pyNext_list_item st p.isList (x:=u) (by simpa using hu) λh' F sb=> ?_];have I1:ar X pins σ H {s with heap:=h'}:=I.turned (t':=s.toks) (λb o j e=>(sb.2 b j).trans e) U S O f4 J;obtain ⟨o,e,c,d⟩:=id F;exact ⟨u,rfl,yI (s:= {s with heap:=h'}) e c d @b ⟨x,H,I1,ru,⟨rfl,λys hy=>by rw [I.list_inj hy R];exact hx⟩,F,λb j=>(G b j).1⟩⟩
 done:=by
  intro X W hw Z hc i pins s σ H E I G st Y;subst W hw Z;obtain ⟨xs,R,hx⟩:=Y;obtain ⟨its,rv,p,hz⟩:=I.list R;obtain ⟨U,S,f2,O,f4,J⟩:=G it @e;have hl:=rv.length;exact wpAny_pyNext_list_end @bJ st p.isList (by simp;lia) λh' eb=>⟨rfl,I.turned (t':=s.toks) @ci U S O f4 J⟩
 self:=λ_ _ _ _ _ st h=>wpAny_pyIter_listiter st h
theorem zQ {P:Program}{w:World}{K:Fg}{tg:Expr}(a it:Addr):xf P w K tg @hb [it] it (λi h=>h.IsTupleIter it a i) where
 mem:=by simp
 obj:=λi h st b j=>by
  have e:b=it:=by simpa using j
  subst e;obtain ⟨o,e,c,d⟩:=st;exact ⟨o,e,λv z=>by rw [d] at z;cases z⟩
 keep:=λi h h' st k=>st.at λo e=>k it @e o e
 item:=by
  intro X W hw Z hc i pins s σ H E I G st Y;subst W hw Z;obtain ⟨xs,x,R,hx⟩:=Y;obtain ⟨its,rv,p,hz⟩:=I.tuple R;obtain ⟨u,hu,ru⟩:=rv.get hx;obtain ⟨U,S,f2,O,f4,J⟩:=G it @e;rwa[wpAny_pyNext_tuple_item st (show s.heap.IsTuple a its.toArray from p) (x:=u) (by simpa using hu) λh' F sb=> ?_];have I1:ar X pins σ H {s with heap:=h'}:=I.turned (t':=s.toks) (λb o j e=>(sb.2 b j).trans e) U S O f4 J;obtain ⟨o,e,c,d⟩:=id F;exact ⟨u,rfl,yI (s:= {s with heap:=h'}) e c d @b ⟨x,H,I1,ru,⟨rfl,λys hy=>by rw [I.tuple_inj hy R];exact hx⟩,F,λb j=>(G b j).1⟩⟩
 done:=by
  intro X W hw Z hc i pins s σ H E I G st Y;subst W hw Z;obtain ⟨xs,R,hx⟩:=Y;obtain ⟨its,rv,p,hz⟩:=I.tuple R;obtain ⟨U,S,f2,O,f4,J⟩:=G it @e;have hl:=rv.length;exact wpAny_pyNext_tuple_end @bJ st (show s.heap.IsTuple a its.toArray from p) (by simp;lia) λh' eb=>⟨rfl,I.turned (t':=s.toks) @ci U S O f4 J⟩
 self:=λ_ _ _ _ _ st h=>wpAny_pyIter_tupleiter st h
theorem zR {P:Program}{w:World}{K:Fg}{tg:Expr}(it:Addr)(lo:Int)(n:Nat):xf P w K tg @gX [it] it (λi h=>IsRangeIter h it (lo+(i:Nat)*1) ((n:Int) - (i:Nat)) 1) where
 mem:=by simp
 obj:=λi h st b j=>by
  have e:b=it:=by simpa using j
  subst e
  exact ⟨_,st,λv z=>by
   have z':Data.fields _=Data.cell v:=z
   cases z'⟩
 keep:=λi h h' st k=>k it @e _ st
 item:=by
  intro X Z hw hK R i pins s σ H E I G st Y;subst Z hw hK;obtain ⟨U,S,f2,O,f4,J⟩:=G it @e;have W:=Walks.range (prog:=X.prog) (w:=X.w) (I.ok.hd R) it lo 1 n;rwa[W.item i s _ _ Y st λv h' tk hv F kk=> ?_];obtain ⟨t,rfl⟩:=hv;have I1:ar X pins σ H {s with heap:=h',toks:=tk}:=I.turned (λb o j e=>kk b o (by simpa using j) e) U S O f4 J;rwa[⟨_,rfl,yI (s:= {s with heap:=h',toks:=tk}) (n:="range_iterator") F rfl rfl @b ⟨.int (lo+i),H,I1,⟨t,?_⟩,⟨rfl,rfl⟩,F,λb j=>(G b j).1⟩⟩];rw [Int.mul_one]
 done:=by
  intro X Z hw hK R i pins s σ H E I G st Y;subst Z hw hK;obtain ⟨U,S,f2,O,f4,J⟩:=G it @e;exact wpAny_pyNext_range_end (I.ok.hd R) st (by have:n<=i:=Y;lia) λh' eb=>⟨rfl,I.turned (t':=s.toks) @ci U S O f4 J⟩
 self:=λ_ _ _ _ _ st h=>wpAny_pyIter_rangeiter st h
section
variable {X:Cx}{tg:Expr}
theorem FY {pins:List (Addr×Obj)}{σ:St}{H:Hp}{s:Shared}{R:It->Hp->Prop}{E:Value->Shared->Prop}{lo hi:Int}{t u v:Tok}{tk:Nat}(I:ar X pins σ H s)(h1: -(2^62)<=lo)(h2:lo<2^62)(S: -(2^62)<=hi)(j:hi<2^62)
(q:R (LF lo (hi - lo).toNat) H):wpAny @d X.A (pyIter (.ref s.heap.objs.size)) @et E {s with heap:=s.heap.push {cls:= .type "range",data:= .fields #[.int lo t,.int hi u,.int 1 v]},toks:=tk}:=by
 rwa[wpAny_pyIter_range (IsRange.new ..) (small_one h1 h2 S j) ?_];have z:ar X pins σ H {s with heap:=s.heap.push {cls:= .type "range",data:= .fields #[.int lo t,.int hi u,.int 1 v]},toks:=tk}:=I.kept λb o e=>Heap.get?_push_of_some _ e
 refine ⟨(s.heap.push {cls:= .type "range",data:= .fields #[.int lo t,.int hi u,.int 1 v]}).objs.size,[(s.heap.push {cls:= .type "range",data:= .fields #[.int lo t,.int hi u,.int 1 v]}).objs.size],_,_,H,rfl,
  z.kept (t':=tk) λb o e=>Heap.get?_push_of_some _ e,zR _ lo (hi - lo).toNat,?_,λb F=> ?_,q⟩
 ·have G:lo+((0:Nat):Int)*1=lo:=by simp
  have O:(((hi - lo).toNat:Nat):Int) - ((0:Nat):Int)=Builtin.Range.rangeSize lo hi 1:=by rw [rangeSize_one];split<;>lia
  show IsRangeIter _ _ (lo+((0:Nat):Int)*1) ((((hi - lo).toNat:Nat):Int) - ((0:Nat):Int)) 1;rw [G,O];exact Heap.get?_push_size _ rfl
 ·have e:b=(s.heap.push {cls:= .type "range",data:= .fields #[.int lo t,.int hi u,.int 1 v]}).objs.size:=by simpa using F
  subst e;exact z.fpOk @f @dR
def S7 (wi:TI)(g:TG)(tb:TS):TS:=λD σ H=>wi σ H λJ H1=>∃W:Nat->Nat->St->Hp->Prop,(∃m,W 0 m σ H1)/\∀i m σ H,W i m σ H->
 (J.stop i H/\D.nx σ H)\/(J.go i H/\∃N:St->Hp->Prop,(∀σ' H',N σ' H'->∃m',m'<m/\W (i+1) m' σ' H')/\∀x H',J.yld i H x H'->g x σ H' λσ2 H2=>tb {D with nx:=N,ct:=N,bk:=D.nx} σ2 H2)
def kj (fp:List Addr)(h:Heap):List (Addr×Obj):=fp.filterMap λb=>(h.get? b).map λo=>(b,o)
theorem de {fp:List Addr}{h:Heap}{b:Addr}{o:Obj}(z:b∈fp)(e:h.get? b=some o):(b,o)∈kj fp h:=mem_filterMap.mpr ⟨b,z,by rw [e];rfl⟩
theorem Dv {fp:List Addr}{h:Heap}{p:Addr×Obj}(G:p∈kj fp h):p.1∈fp/\h.get? p.1=some p.2:=by
 obtain ⟨b,z,e⟩:=mem_filterMap.mp G
 cases q:h.get? b with
 |none=>rw [q] at e;cases e
 |some o=>
  rw [q] at e;have j:(b,o)=p:=Option.some.inj e;subst j;exact ⟨z,q⟩
theorem ar.pinned {pins:List (Addr×Obj)}{σ:St}{H:Hp}{s:Shared}{fp:List Addr}(I:ar X pins σ H s)(O:∀b∈fp,gR X pins H b)(R:∀b∈fp,∃o,s.heap.get? b=some o/\∀v,o.data≠ .cell v):ar X (pins++kj fp s.heap) σ H s:=
 I.pins_of λp J=>(mem_append.mp J).elim (λz=>I.pin p (mem_append_right _ z)) λz=>by
  obtain ⟨F,e⟩:=Dv z;obtain ⟨U,S,G,_⟩:=O p.1 F;obtain ⟨o,j,d⟩:=R p.1 F;rw [e] at j;cases j;exact ⟨e,U,S,G,d⟩
theorem ar.unpinned {pins pl:List (Addr×Obj)}{σ:St}{H:Hp}{s:Shared}(I:ar X (pins++pl) σ H s):ar X pins σ H s:=I.pins_of λp G=>I.pin p (mem_append_right _ @bY)
theorem NP {iter:Expr}{U:List Stmt}{wi:TI}{g:TG}{tb:TS}{pos:Pos}(hp:PassesOwn @d X.A X.env X.xe)(hc:X.calm=true)(hi:PI X tg iter wi)(hg:PG X tg g)(z:sE X U tb)
(hs:∀x,foldedSetIterable iter X.env x=pure x:=by intro _;rfl):PS X (.For tg iter U [] pos) (S7 wi g tb):=by
 intro pins s σ H D I h;rwa[wpAny_For (bv @dV λv s1 h1=>bv h1 λah s2 h2=> ?_) hs];obtain ⟨it,fp,tn,J,H2,e,I2,T,ag,f2,W,⟨m0,w0⟩,Z⟩:=h2;subst e;have F:∀ {H':Hp},(∀b∈fp,H' b=none)->∀b∈fp,gR X pins H' b:=λhn b z=>⟨hn b z,(f2 b z).2⟩;rwa[codeAny_forLoop_any (λn s'=>∃i σ' H',ar X pins σ' H' s'/\tn i s'.heap/\(∀b∈fp,H' b=none)/\W i n σ' H') ?_ m0 ⟨0,σ,H2,I2,ag,λb z=>(f2 b z).1,w0⟩];rintro n s3 ⟨i,σ3,H3,I3,aa,ae,w3⟩
 rcases Z i n σ3 H3 w3 with ⟨ad,qn⟩|⟨go,N,hN,ac⟩
 ·rwa[wpAny_passesOwn hp (bv (T.done X rfl rfl rfl hc i pins s3 σ3 H3 X.xe I3 (F ae) aa ad) λr s4 ⟨hr,I4⟩=> ?_)];subst hr;exact wpAny_execs_nil ⟨σ3,H3,I4,qn⟩
 ·rwa[wpAny_passesOwn hp (bv (T.item X rfl rfl rfl hc i pins s3 σ3 H3 X.xe I3 (F ae) aa go) λr s4 ⟨u,hr,h4⟩=> ?_)];subst hr;rwa[wpAny_passesOwn hp (bv h4 λ_ s5 ⟨x,H5,I5,r5,y5,Y,af⟩=> ?_)];have I5':=I5.pinned (F af) (T.obj _ _ Y);rwa[wpAny_passesOwn hp (bv (hg _ s5 σ3 H5 x u _ I5' r5 (ac x H5 y5)) λ_ s6 ⟨σ6,H6,I6,q6⟩=> ?_)];rwa[wpAny_passesOwn hp (bv (z _ s6 σ6 H6 _ I6 q6) λf s7 S=> ?_)]
  have j:∀ {O:St} {G:Hp},ar X (pins++kj fp s5.heap) O G s7->N O G->∃m,m<n/\∃i σ' H',ar X pins σ' H' s7/\tn i s7.heap/\(∀b∈fp,H' b=none)/\W i m σ' H':=λ{O G} R n7=>by
   obtain ⟨m',hm,w7⟩:=hN O G n7;rwa[⟨m',hm,i+1,O,G,R.unpinned,T.keep _ _ _ Y λb z o e=>(R.pin (b,o) @bw).1,λb z=> ?_,w7⟩];obtain ⟨o,e,d⟩:=T.obj _ _ Y b z;exact (R.pin (b,o) @bw).2.1
  cases f with
  |next=>obtain ⟨O,G,R,n7⟩:=S;exact j R n7
  |cont=>obtain ⟨O,G,R,n7⟩:=S;exact j R n7
  |brk=>obtain ⟨O,G,R,S⟩:=S;exact ⟨O,G,R.unpinned,S⟩
  |ret v=>obtain ⟨x7,O,G,R,r7,S⟩:=S;exact ⟨x7,O,G,R.unpinned,r7,S⟩
end
theorem Hy {K:Fg}{a:Addr}{xs:List V}{g:TG}{tb:TS}{D:jD}{σ:St}{H:Hp}(j:Nat->St->Hp->Prop)(I:j 0 σ H)(R:∀i σ H,i<=xs.length->j i σ H->aD K H a xs)
(hs:∀i x σ H,xs[i]? =some x->j i σ H->g x σ H λσ2 H2=>tb {D with nx:=j (i+1),ct:=j (i+1),bk:=D.nx} σ2 H2)(G:∀σ H,j xs.length σ H->D.nx σ H):
 ∃W:Nat->Nat->St->Hp->Prop,(∃m,W 0 m σ H)/\∀i m σ H,W i m σ H->
  ((El K a).stop i H/\D.nx σ H)\/((El K a).go i H/\∃N:St->Hp->Prop,(∀σ' H',N σ' H'->∃m',m'<m/\W (i+1) m' σ' H')/\∀x H',(El K a).yld i H x H'->g x σ H' λσ2 H2=>tb {D with nx:=N,ct:=N,bk:=D.nx} σ2 H2):=by
 rwa[⟨λi m σ H=>m=xs.length - i/\i<=xs.length/\j i σ H,⟨xs.length,by simp,Nat.zero_le _,I⟩,?_⟩];rintro i m σ H ⟨rfl,hi,p⟩;have q:=R i σ H hi p;by_cases z:i<xs.length
 ·rwa[.inr ⟨⟨xs,xs[i],q,by simp [z]⟩,j (i+1),λσ' H' F=>⟨xs.length - (i+1),by lia,rfl,z,F⟩,λx H' y=> ?_⟩];obtain ⟨e,y⟩:=y;subst e;exact hs i x σ _ (y xs q) p
 ·have e:i=xs.length:=by lia
  subst e;exact .inl ⟨⟨xs,q,Nat.le_refl _⟩,G σ H p⟩
theorem K3 {K:Fg}{a:Addr}{xs:List V}{g:TG}{tb:TS}{D:jD}{σ:St}{H:Hp}(j:Nat->St->Hp->Prop)(I:j 0 σ H)(R:∀i σ H,i<=xs.length->j i σ H->aE K H a xs)
(hs:∀i x σ H,xs[i]? =some x->j i σ H->g x σ H λσ2 H2=>tb {D with nx:=j (i+1),ct:=j (i+1),bk:=D.nx} σ2 H2)(G:∀σ H,j xs.length σ H->D.nx σ H):
 ∃W:Nat->Nat->St->Hp->Prop,(∃m,W 0 m σ H)/\∀i m σ H,W i m σ H->
  ((ID K a).stop i H/\D.nx σ H)\/((ID K a).go i H/\∃N:St->Hp->Prop,(∀σ' H',N σ' H'->∃m',m'<m/\W (i+1) m' σ' H')/\∀x H',(ID K a).yld i H x H'->g x σ H' λσ2 H2=>tb {D with nx:=N,ct:=N,bk:=D.nx} σ2 H2):=by
 rwa[⟨λi m σ H=>m=xs.length - i/\i<=xs.length/\j i σ H,⟨xs.length,by simp,Nat.zero_le _,I⟩,?_⟩];rintro i m σ H ⟨rfl,hi,p⟩;have q:=R i σ H hi p;by_cases z:i<xs.length
 ·rwa[.inr ⟨⟨xs,xs[i],q,by simp [z]⟩,j (i+1),λσ' H' F=>⟨xs.length - (i+1),by lia,rfl,z,F⟩,λx H' y=> ?_⟩];obtain ⟨e,y⟩:=y;subst e;exact hs i x σ _ (y xs q) p
 ·have e:i=xs.length:=by lia
  subst e;exact .inl ⟨⟨xs,q,Nat.le_refl _⟩,G σ H p⟩
theorem DQ {lo:Int}{n:Nat}{g:TG}{tb:TS}{D:jD}{σ:St}{H:Hp}(j:Nat->St->Hp->Prop)(I:j 0 σ H)
(hs:∀i σ H,i<n->j i σ H->g (.int (lo+i)) σ H λσ2 H2=>tb {D with nx:=j (i+1),ct:=j (i+1),bk:=D.nx} σ2 H2)(G:∀σ H,j n σ H->D.nx σ H):
 ∃W:Nat->Nat->St->Hp->Prop,(∃m,W 0 m σ H)/\∀i m σ H,W i m σ H->
  ((LF lo n).stop i H/\D.nx σ H)\/((LF lo n).go i H/\∃N:St->Hp->Prop,(∀σ' H',N σ' H'->∃m',m'<m/\W (i+1) m' σ' H')/\∀x H',(LF lo n).yld i H x H'->g x σ H' λσ2 H2=>tb {D with nx:=N,ct:=N,bk:=D.nx} σ2 H2):=by
 rwa[⟨λi m σ H=>m=n - i/\i<=n/\j i σ H,⟨n,by simp,Nat.zero_le _,I⟩,?_⟩];rintro i m σ H ⟨rfl,hi,p⟩;by_cases z:i<n
 ·rwa[.inr ⟨z,j (i+1),λσ' H' F=>⟨n - (i+1),by lia,rfl,z,F⟩,λx H' y=> ?_⟩];obtain ⟨e,y⟩:=y;subst e y;exact hs i σ _ z p
 ·have e:i=n:=by lia
  subst e;exact .inl ⟨Nat.le_refl _,G σ H p⟩
abbrev R2:=V->V->Hp->VK->Prop
def cX (X:Cx)(f:Value->Value->Sem Value)(r:R2):Prop:=
 ∀(pins:List (Addr×Obj)) (s:Shared) (σ:St) (H:Hp) (x y:V) (v u:Value) (Q:VK),ar X pins σ H s->aA x v->aA y u->r x y H Q->
  wpAny @d X.A (f v u) @w X.xe s
def Ps (X:Cx)(f:Value->Sem Value)(r:V->Hp->VK->Prop):Prop:=
 ∀(pins:List (Addr×Obj)) (s:Shared) (σ:St) (H:Hp) (x:V) (v:Value) (Q:VK),ar X pins σ H s->aA x v->r x H Q->
  wpAny @d X.A (f v) @w X.xe s
def bc (X:Cx)(f:Value)(r:List V->Hp->VK->Prop):Prop:=
 ∀(pins:List (Addr×Obj)) (s:Shared) (σ:St) (H:Hp) (xs:List V) (us:List Value) (Q:VK),ar X pins σ H s->aJ xs us->r xs H Q->
  wpAny @d X.A (call f us) @w X.xe s
def TQ (X:Cx)(r:V->Hp->(Bool->Hp->Prop)->Prop):Prop:=
 ∀(pins:List (Addr×Obj)) (s:Shared) (σ:St) (H:Hp) (x:V) (v:Value) (Q:Bool->Hp->Prop),ar X pins σ H s->aA x v->r x H Q->
  wpAny @d X.A (truthy v) @dQ X.xe s
def Qy (r:R2)(ta tb:TE):TE:=λσ H Q=>ta σ H λx H1=>tb σ H1 λy H2=>r x y H2 Q
def Ud (r:V->Hp->VK->Prop)(ta:TE):TE:=λσ H Q=>ta σ H λx H1=>r x H1 Q
def rI (C:Int->Int->Prop)(g:Int->Int->V):R2:=λx y H Q=>∃i j,x= .int i/\y= .int j/\C i j/\Q @da H
def F0 (g:Int->Int->V):R2:=λx y H Q=>∃i j,x= .int i/\y= .int j/\Q @da H
def rU (g:Int->V):V->Hp->VK->Prop:=λx H Q=>∃i,x= .int i/\Q (g i) H
section
variable {X:Cx}{a b c:Expr}{ta tb tc:TE}{pos:Pos}
theorem Pa (J:PE X a ta)(Y:PE X b tb){pins:List (Addr×Obj)}{s:Shared}{σ:St}{H:Hp}{R:V->V->Hp->Prop}(I:ar X pins σ H s)
(h:ta σ H λx H1=>tb σ H1 λy H2=>R x y H2){Q:Value->Shared->Prop}{f:Value->Value->Sem Value}
(S:∀v u s2 x y H2,ar X pins σ H2 s2->aA x v->aA y u->R x y H2->wpAny @d X.A (f v u) Q X.xe s2):
 wpAny @d X.A (eval a X.env) (λv s₁=>wpAny @d X.A (eval b X.env) (λu s₂=>wpAny @d X.A (f v u) Q X.xe s₂) X.xe s₁) X.xe s:=by
 rwa[bv @cJ λv O ⟨x,H1,z,F,G⟩=> ?_];rwa[bv (Y pins O σ H1 _ z G) λu s2 ⟨y,H2,j,U,W⟩=> ?_];exact S v u s2 x y H2 j F U W
theorem dO {j:Operator}{r:R2}(U:cX X (binaryOp j) r)(F:PE X a ta)(J:PE X b tb):PE X (.BinOp a j b pos) @fd:=by
 intro pins s σ H Q I h;exact wpAny_BinOp (Pa F J I h λv u G x y H2 R z O q=>U pins G σ H2 x y v u Q R z O q)
theorem yj {j:UnaryOp}{r:V->Hp->VK->Prop}(U:Ps X (unaryOp j) r)(G:PE X a ta):PE X (.UnaryOp j a pos) (Ud r ta):=by
 intro pins s σ H Q I h;exact UnaryOp_ (bv (G pins s σ H _ I h) λv O ⟨x,H1,z,F,J⟩=>U pins O σ H1 x v Q z F J)
theorem Q7 {f:Value->Value->Sem Value}{C:Int->Int->Prop}{g:Int->Int->Int}
(z:∀(i j:Int) (t u:Tok) (s:Shared) (Q:Value->Shared->Prop) (E:Value->Shared->Prop),C i j->Q (.int @da s.toks) {s with toks:=s.toks+1}->wpAny @d X.A @dm Q E s):
 cX X f (rI C λi j=> .int @da):=by
 intro pins s σ H x y v u Q I G O h;obtain ⟨i,j,rfl,rfl,J,q⟩:=h;obtain ⟨t,rfl⟩:=G;obtain ⟨F,rfl⟩:=O;exact z i j t F s _ _ J ⟨.int @da,H,I.tok _,⟨_,rfl⟩,q⟩
theorem J6 {f:Value->Value->Sem Value}{g:Int->Int->Int}
(z:∀(i j:Int) (t u:Tok) (s:Shared) (Q:Value->Shared->Prop) (E:Value->Shared->Prop),Q (.int @da s.toks) {s with toks:=s.toks+1}->wpAny @d X.A @dm Q E s):
 cX X f (F0 λi j=> .int @da):=by
 intro pins s σ H x y v u Q I G O h;obtain ⟨i,j,rfl,rfl,q⟩:=h;obtain ⟨t,rfl⟩:=G;obtain ⟨F,rfl⟩:=O;exact z i j t F s _ _ ⟨.int @da,H,I.tok _,⟨_,rfl⟩,q⟩
theorem Ka {f:Value->Value->Sem Value}{g:Int->Int->Bool}
(z:∀(i j:Int) (t u:Tok) (s:Shared) (Q:Value->Shared->Prop) (E:Value->Shared->Prop),Q (.bool @da) s->wpAny @d X.A @dm Q E s):
 cX X f (F0 λi j=> .bl @da):=by
 intro pins s σ H x y v u Q I G O h;obtain ⟨i,j,rfl,rfl,q⟩:=h;obtain ⟨t,rfl⟩:=G;obtain ⟨F,rfl⟩:=O;exact z i j t F s _ _ ⟨.bl @da,H,I,rfl,q⟩
def Eg (i j:Int):Prop:=0<j/\j<1073741824
def Bx (i j:Int):Prop:=0<=j/\j<=1000000/\i.natAbs<2^64
def sM (i j:Int):Prop:=(-(2^64)<i/\i<2^64)\/(-(2^64)<j/\j<2^64)
theorem sM.ok {i j:Int}(h:sM i j):IntMulOk i j:=by
 rcases h with ⟨h1,h2⟩|⟨h1,h2⟩
 ·exact .of_left (intBits_le_64 h1 h2)
 ·exact .of_right (intBits_le_64 h1 h2)
theorem N6:cX X @bF (F0 λi j=> .int (i+j)):=J6 λ_ _ _ _ _ _ _ q=>add_int q
theorem NY:cX X (binaryOp .Sub) (F0 λi j=> .int (i - j)):=J6 λ_ _ _ _ _ _ _ q=>sub_int q
theorem N1:cX X @fj (rI sM λi j=> .int (i*j)):=Q7 λ_ _ _ _ _ _ _ J q=>mul_int q J.ok
theorem JZ:cX X (binaryOp .FloorDiv) (rI Eg λi j=> .int (i / j)):=Q7 λi j _ _ _ _ _ J q=>by
 have h1:(0:Int)<j:=J.1;have h2:j<1073741824:=J.2;exact floordiv_int @c (by rw [Int.fdiv_eq_ediv_of_nonneg i @c];exact q) (.inl (PyProof.noPylong_small @c))
theorem N2:cX X (binaryOp .Mod) (rI (λ_ j=>0<j) λi j=> .int (i% j)):=Q7 λi j _ _ _ _ _ J q=>by
 have h1:(0:Int)<j:=J;exact mod_int' @c (by rw [Int.fmod_eq_emod_of_nonneg i @c];exact q)
theorem N0:cX X (binaryOp .Pow) (rI Bx λi j=> .int (i^j.toNat)):=Q7 λ_ _ _ _ _ _ _ J q=>pow_int_small J.1 J.2.1 J.2.2 q
theorem NZ:cX X (binaryOp .LShift) (rI Bx λi j=> .int (i*2^j.toNat)):=Q7 λ_ _ _ _ _ _ _ J q=>lshift_int_small J.1 J.2.1 J.2.2 q
theorem N5:cX X (binaryOp .BitAnd) (F0 λi j=> .int (Builtin.bitAnd i j)):=J6 λ_ _ _ _ _ _ _ q=>and_int q
theorem Q0:cX X (binaryOp .BitOr) (F0 λi j=> .int (Builtin.bitOr i j)):=J6 λ_ _ _ _ _ _ _ q=>or_int q
theorem Uc {f:Value->Sem Value}{g:Int->Int}
(z:∀(i:Int) (t:Tok) (s:Shared) (Q:Value->Shared->Prop) (E:Value->Shared->Prop),Q (.int (g i) s.toks) {s with toks:=s.toks+1}->wpAny @d X.A (f (.int i t)) Q E s):
 Ps X f (rU λi=> .int (g i)):=by
 intro pins s σ H x v Q I j h;obtain ⟨i,rfl,q⟩:=h;obtain ⟨t,rfl⟩:=j;exact z i t s _ _ ⟨.int (g i),H,I.tok _,⟨_,rfl⟩,q⟩
theorem MW:Ps X (unaryOp .USub) (rU λi=> .int (-i)):=Uc λ_ _ _ _ _ q=>neg_int q
end
noncomputable def Nv:V->V->Bool
 | .non,.non=>true| .non,.int _=>true| .int _,.non=>true| .non,.bl _=>true| .bl _,.non=>true| .non,.str _=>true| .str _,.non=>true
 | .int _,.int _=>true| .bl _,.bl _=>true| .str _,.str _=>true| .byt _,.byt _=>true
 | .int _,.str _=>true| .str _,.int _=>true| .bl _,.str _=>true| .str _,.bl _=>true
 |_,_=>false
def Ui:R2:=λx y H Q=>Nv x y=true/\Q (.bl (decide (x=y))) H
def Uh:R2:=λx y H Q=>Nv x y=true/\Q (.bl (!decide (x=y))) H
theorem Cm {i j:Int}:decide (V.int i=V.int j)=(i==j):=by
 rw [Bool.eq_iff_iff];simp
theorem HU {i j:Bool}:decide (V.bl i=V.bl j)=(i==j):=by
 rw [Bool.eq_iff_iff];simp
theorem Ck {i j:Str}:decide (V.str i=V.str j)=(i==j):=by
 rw [Bool.eq_iff_iff];simp
theorem Cn {i j:Array UInt8}:decide (V.byt i=V.byt j)=(i.toList==j.toList):=by
 rw [Bool.eq_iff_iff];cases i;cases j;simp
section
variable {X:Cx}{a b c:Expr}{ta tb tc:TE}{pos:Pos}
theorem bd {pins:List (Addr×Obj)}{σ:St}{H:Hp}{s:Shared}{Q:VK}{k j:Bool}(I:ar X pins σ H s)(q:Q (.bl k) H)(e:k=j):EP X pins σ Q (.bool j) s:=by
 subst e;exact ⟨.bl k,H,I,rfl,q⟩
theorem Q6:cX X (compareOp .Eq) Ui:=by
 intro pins s σ H x y v u Q I F O h;obtain ⟨hs,q⟩:=h
 cases x with
 |non=>
  cases F
  cases y with
  |non=>cases O;exact PySem.EqNone.eq_none_none @L
  |bl j=>cases O;exact PySem.EqNone.eq_none_bool @L
  |int j=>obtain ⟨z,rfl⟩:=O;exact PySem.EqNone.eq_none_int @L
  |str j=>obtain ⟨z,rfl⟩:=O;exact PySem.EqNone.eq_none_str @L
  |_=>exact absurd (show false=true from hs) Bool.false_ne_true
 |bl i=>
  cases F
  cases y with
  |non=>cases O;exact PySem.EqNone.eq_bool_none @L
  |bl j=>cases O;exact eq_bool (bd I q HU)
  |str j=>obtain ⟨z,rfl⟩:=O;exact PySem.EqMixed.eq_bool_str @L
  |_=>exact absurd (show false=true from hs) Bool.false_ne_true
 |int i=>
  obtain ⟨t,rfl⟩:=F
  cases y with
  |non=>cases O;exact PySem.EqNone.eq_int_none @L
  |int j=>obtain ⟨z,rfl⟩:=O;exact eq_int (bd I q Cm)
  |str j=>obtain ⟨z,rfl⟩:=O;exact PySem.EqMixed.eq_int_str @L
  |_=>exact absurd (show false=true from hs) Bool.false_ne_true
 |str i=>
  obtain ⟨t,rfl⟩:=F
  cases y with
  |non=>cases O;exact PySem.EqNone.eq_str_none @L
  |bl j=>cases O;exact PySem.EqMixed.eq_str_bool @L
  |int j=>obtain ⟨z,rfl⟩:=O;exact PySem.EqMixed.eq_str_int @L
  |str j=>obtain ⟨z,rfl⟩:=O;exact eq_str (bd I q Ck)
  |_=>exact absurd (show false=true from hs) Bool.false_ne_true
 |byt i=>
  obtain ⟨t,rfl⟩:=F
  cases y with
  |byt j=>obtain ⟨z,rfl⟩:=O;exact W.eq_bytes (bd I q Cn)
  |_=>exact absurd (show false=true from hs) Bool.false_ne_true
 |_=>cases y<;>exact absurd (show false=true from hs) Bool.false_ne_true
theorem Q1:cX X (compareOp .NotEq) Uh:=by
 intro pins s σ H x y v u Q I F O h;obtain ⟨hs,q⟩:=h
 cases x with
 |non=>
  cases F
  cases y with
  |non=>cases O;exact PySem.EqNone.ne_none_none @L
  |bl j=>cases O;exact PySem.EqNone.ne_none_bool @L
  |int j=>obtain ⟨z,rfl⟩:=O;exact PySem.EqNone.ne_none_int @L
  |str j=>obtain ⟨z,rfl⟩:=O;exact PySem.EqNone.ne_none_str @L
  |_=>exact absurd (show false=true from hs) Bool.false_ne_true
 |bl i=>
  cases F
  cases y with
  |non=>cases O;exact PySem.EqNone.ne_bool_none @L
  |bl j=>cases O;exact ne_bool (bd I q (congrArg not HU))
  |str j=>obtain ⟨z,rfl⟩:=O;exact PySem.EqMixed.ne_bool_str @L
  |_=>exact absurd (show false=true from hs) Bool.false_ne_true
 |int i=>
  obtain ⟨t,rfl⟩:=F
  cases y with
  |non=>cases O;exact PySem.EqNone.ne_int_none @L
  |int j=>obtain ⟨z,rfl⟩:=O;exact ne_int (bd I q (congrArg not Cm))
  |str j=>obtain ⟨z,rfl⟩:=O;exact PySem.EqMixed.ne_int_str @L
  |_=>exact absurd (show false=true from hs) Bool.false_ne_true
 |str i=>
  obtain ⟨t,rfl⟩:=F
  cases y with
  |non=>cases O;exact PySem.EqNone.ne_str_none @L
  |bl j=>cases O;exact PySem.EqMixed.ne_str_bool @L
  |int j=>obtain ⟨z,rfl⟩:=O;exact PySem.EqMixed.ne_str_int @L
  |str j=>obtain ⟨z,rfl⟩:=O;exact ne_str (bd I q (congrArg not Ck))
  |_=>exact absurd (show false=true from hs) Bool.false_ne_true
 |byt i=>
  obtain ⟨t,rfl⟩:=F
  cases y with
  |byt j=>obtain ⟨z,rfl⟩:=O;exact W.ne_bytes (bd I q (congrArg not Cn))
  |_=>exact absurd (show false=true from hs) Bool.false_ne_true
 |_=>cases y<;>exact absurd (show false=true from hs) Bool.false_ne_true
theorem Q2:cX X (compareOp .Lt) (F0 λi j=> .bl (decide (i<j))):=Ka λ_ _ _ _ _ _ _ q=>lt_int q
theorem Q3:cX X (compareOp .LtE) (F0 λi j=> .bl (decide (i<=j))):=Ka λ_ _ _ _ _ _ _ q=>le_int q
theorem Q4:cX X (compareOp .Gt) (F0 λi j=> .bl (decide (j<i))):=Ka λ_ _ _ _ _ _ _ q=>gt_int q
theorem Q5:cX X (compareOp .GtE) (F0 λi j=> .bl (decide (j<=i))):=Ka λ_ _ _ _ _ _ _ q=>ge_int q
theorem Dh:cX X @db (λx y H Q=>∃i j,x= .str i/\y= .str j/\Q (.bl (!(Builtin.Str.occurrences j i 0 j.length 1).isEmpty)) H):=by
 intro pins s σ H x y v u Q I z O h;obtain ⟨i,j,rfl,rfl,q⟩:=h;obtain ⟨t,rfl⟩:=z;obtain ⟨F,rfl⟩:=O;exact in_str (bd I q rfl)
theorem N3:cX X (compareOp .Is) (λx y H Q=>y= .non/\Q (.bl (decide (x= .non))) H):=by
 intro pins s σ H x y v u Q I z O h;obtain ⟨rfl,q⟩:=h;cases O;rwa[is_none_gen (bd I q ?_)]
 cases x<;>first
  |(cases z;rfl)
  |(obtain ⟨t,rfl⟩:=z;rfl)
theorem we:cX X @dt (λx y H Q=>∃i j,x= .str i/\y= .str j/\Q (.bl (!(!(Builtin.Str.occurrences j i 0 j.length 1).isEmpty))) H):=by
 intro pins s σ H x y v u Q I z O h;obtain ⟨i,j,rfl,rfl,q⟩:=h;obtain ⟨t,rfl⟩:=z;obtain ⟨F,rfl⟩:=O;exact notIn_str (bd I q rfl)
theorem cX.or {f:Value->Value->Sem Value}{r R:R2}(h:cX X f r)(h':cX X f R):cX X f (λx y H Q=>r x y H Q\/R x y H Q):=by
 intro pins s σ H x y v u Q I z O q
 rcases q with q|q
 ·exact h pins s σ H x y v u Q I z O q
 ·exact h' pins s σ H x y v u Q I z O q
theorem bV (b:Expr){j:CmpOp}(h:j≠ .In:=by decide)(h2:j≠ .NotIn:=by decide):behindInMarks j b=false:=by
 have S:(j==CmpOp.In)=false:=by cases j<;>first|rfl|exact absurd rfl h
 have O:(j==CmpOp.NotIn)=false:=by cases j<;>first|rfl|exact absurd rfl h2
 cases b<;>simp [behindInMarks,S,O]
theorem c5 {j:CmpOp}{r:R2}(U:cX X @eE r)(G:PE X a ta)(O:PE X b tb)(F:behindInMarks j b=false):PE X (.Compare a [j] [b] pos) @fd:=by
 intro pins s σ H Q I h;exact wpAny_Compare1 (Pa G O I h λv u J x y H2 R z S q=>U pins J σ H2 x y v u Q R z S q) F
def RV (K:Fg)(x:V)(H:Hp)(k:Bool):Prop:=
 match x with
 | .non=>k=false
 | .bl b=>k=b
 | .int i=>k=(i != 0)
 | .str y=>y.length<=sizeLine/\k=((y.length:Int) != 0)
 | .byt y=>y.size<=sizeLine/\k=((y.size:Int) != 0)
 | .ref p=>(∃xs,aD K H p xs/\k= !xs.isEmpty)\/(∃xs,aE K H p xs/\k= !xs.isEmpty)\/∃kvs,H p=some (.dK kvs)/\k= !kvs.isEmpty
 |_=>False
theorem A7 {κ:Type}{j:List (κ×V)}{vs:List (κ×Value)}(r:KV j vs):(!vs.isEmpty)= !j.isEmpty:=by
 cases r<;>rfl
theorem rB {xs:List V}{its:List Value}(r:aJ xs its):(!its.toArray.isEmpty)= !xs.isEmpty:=by
 cases r<;>simp
theorem ko:(sizeLine:Nat)<2^63:=by rw [sizeLine_eq];decide
theorem iw:TQ X (λx H Q=>∃k,RV X.K x H k/\Q k H):=by
 intro pins s σ H x v Q I G h;obtain ⟨k,e,q⟩:=h;have Y:=ko;have hs:sizeLine=16777216:=sizeLine_eq
 cases x with
 |non=>
  cases G;have j:k=false:=e;subst j;exact truthy_none ⟨H,I,q⟩
 |bl b=>
  cases G;have j:k=b:=e;subst j;exact wpAny_truthy_bool ⟨H,I,q⟩
 |int i=>
  obtain ⟨t,rfl⟩:=G;have j:k=(i != 0):=e;subst j;exact PySem.P.truthy_int ⟨H,I,q⟩
 |str y=>
  obtain ⟨t,rfl⟩:=G;obtain ⟨S,j⟩:y.length<=sizeLine/\k=((y.length:Int) != 0):=e;subst j;exact PySem.P.truthy_str @c ⟨H,I.tok _,q⟩
 |byt y=>
  obtain ⟨t,rfl⟩:=G;obtain ⟨S,j⟩:y.size<=sizeLine/\k=((y.size:Int) != 0):=e;subst j;exact W.truthy_bytes @c ⟨H,I.tok _,q⟩
 |ref p=>
  cases G;have j:(∃xs,aD X.K H p xs/\k= !xs.isEmpty)\/(∃xs,aE X.K H p xs/\k= !xs.isEmpty)\/∃z,H p=some (.dK z)/\k= !z.isEmpty:=e
  rcases j with ⟨xs,J,j⟩|⟨xs,J,j⟩|⟨z,J,j⟩
  ·subst j;obtain ⟨its,r,pl,R⟩:=I.list J;have F:=r.length;exact wpAny_truthy_list pl.isList (by simp only [size_toArray];lia) ⟨H,I.tok _,by rw [rB r];exact q⟩
  ·subst j;obtain ⟨its,r,pl,R⟩:=I.tuple J;have F:=r.length;exact truthy_tuple pl (by simp only [size_toArray];lia) ⟨H,I.tok _,by rw [rB r];exact q⟩
  ·subst j;obtain ⟨R,U,O,r,m⟩:z.length<=sizeLine/\(p==sysModules)=false/\∃O,KV z O/\s.heap.DictOf (cc X.prog X.w) p O:=I.hok p _ J;have F:z.length=O.length:=Paired.length r;exact wpAny_truthy_dict U m @c ⟨H,I.tok _,by rw [A7 r];exact q⟩
 |_=>exact (show False from e).elim
theorem AL:cX X @bF (λx y H Q=>∃i j,x= .str i/\y= .str j/\i.length+j.length<=sizeLine/\Q (.str (i++j)) H):=by
 intro pins s σ H x y v u Q I F O h;obtain ⟨i,j,rfl,rfl,G,q⟩:=h;obtain ⟨t,rfl⟩:=F;obtain ⟨z,rfl⟩:=O;exact add_str (λz tk=>⟨.str (i++j),H,I.tok _,⟨_,rfl⟩,q⟩) G
theorem fC {x:V}{us:List Value}(r:aJ [x] us):∃u,us=[u]/\aA x u:=by
 cases r with
 |cons r1 r2=>cases r2;exact ⟨_,rfl,r1⟩
theorem BG {x y:V}{us:List Value}(r:aJ [x,y] us):∃u w',us=[u,w']/\aA x u/\aA y w':=by
 cases r with
 |cons r1 r2=>
  cases r2 with
  |cons r3 r4=>cases r4;exact ⟨_,_,rfl,r1,r3⟩
theorem Ig:bc X (.builtin "abs") (λxs H Q=>∃i,xs=[.int i]/\Q (.int (if i<0 then -i else i)) H):=by
 intro pins s σ H xs j Q I r h;obtain ⟨i,rfl,q⟩:=h;obtain ⟨u,rfl,t,rfl⟩:=fC r;exact call_abs_int λu tk=>⟨.int (if i<0 then -i else i),H,I.tok _,⟨_,rfl⟩,q⟩
theorem DY (J:X.calm=true):bc X (.builtin "max") (λxs H Q=>∃i j,xs=[.int i,.int j]/\Q (.int (if j>i then j else i)) H):=by
 intro pins s σ H xs F Q I r h;obtain ⟨i,j,rfl,q⟩:=h;obtain ⟨u,G,rfl,⟨t,rfl⟩,⟨z,rfl⟩⟩:=BG r;rwa[max_two_ints @dc λh' tk k=>⟨_,H,I.kept k,?_,q⟩];by_cases Z:j>i
 ·rw [if_pos Z,if_pos Z];exact ⟨_,rfl⟩
 ·rw [if_neg Z,if_neg Z];exact ⟨_,rfl⟩
theorem DX (J:X.calm=true):bc X (.builtin "min") (λxs H Q=>∃i j,xs=[.int i,.int j]/\Q (.int (if j<i then j else i)) H):=by
 intro pins s σ H xs F Q I r h;obtain ⟨i,j,rfl,q⟩:=h;obtain ⟨u,G,rfl,⟨t,rfl⟩,⟨z,rfl⟩⟩:=BG r;rwa[min_two_ints @dc λh' tk k=>⟨_,H,I.kept k,?_,q⟩];by_cases Z:j<i
 ·rw [if_pos Z,if_pos Z];exact ⟨_,rfl⟩
 ·rw [if_neg Z,if_neg Z];exact ⟨_,rfl⟩
theorem D4:bc X (.type "int") (λxs H Q=>(∃i,xs=[.int i]/\Q (.int i) H)\/∃k,xs=[.bl k]/\Q (.int (if k then 1 else 0)) H):=by
 intro pins s σ H xs j Q I r h
 rcases h with ⟨i,rfl,q⟩|⟨k,rfl,q⟩
 ·obtain ⟨u,rfl,t,rfl⟩:=fC r;exact call_int_int ⟨.int i,H,I,⟨_,rfl⟩,q⟩
 ·obtain ⟨u,rfl,F⟩:=fC r;cases F;exact call_int_bool ⟨.int (if k then 1 else 0),H,I.tok _,⟨_,rfl⟩,q⟩
theorem wS:bc X (.type "str") (λxs H Q=>∃i,xs=[.int i]/\i.natAbs.log2<1920/\Q (.str @gr) H):=by
 intro pins s σ H xs z Q I r h;obtain ⟨i,rfl,j,q⟩:=h;obtain ⟨u,rfl,t,rfl⟩:=fC r;exact PySem.P.str_of_int j ⟨.str _,H,I.tok _,⟨_,rfl⟩,q⟩
end
structure Bu (h:Heap)(x dx C:Addr)(mA:Str->Option Value):Prop where
 obj:h.get? x=some @dU
 ns:h.Ns1 dx mA
 ne:dx≠x
theorem DE {h:Heap}{dx:Addr}{mA:Str->Option Value}(n:h.Ns1 dx mA):∃od,h.get? dx=some od/\∀name,W.lookIn name od=some (mA name):=by
 obtain ⟨o,es,J,U,I,Y,_,F⟩:=n;rwa[⟨o,U,λname=> ?_⟩];have e:=F name;unfold nsFind findBy at e;rw [<-Array.find?_toList] at e;unfold W.lookIn;rw [I];dsimp only;split
 ·rename_i y q;rw [q] at e;exact congrArg some e
 ·rename_i q;rw [q] at e
  have a:es.toList.any (·.refKey)=false:=by
   rw [any_eq_false];intro y S;obtain ⟨z,t,j⟩:=Y y (Array.mem_toList_iff.mp S);simp [DictEntry.refKey,j]
  have G: ¬es.toList.any (·.refKey)=true:=by rw [a];exact Bool.false_ne_true
  rw [if_neg G];exact congrArg some e
theorem Bu.look {h:Heap}{x dx C:Addr}{mA:Str->Option Value}(I:Bu h x dx C mA):∃od,PySem.W.InstAt h x @dU C (some od)/\∀name,W.lookIn name od=some (mA name):=
 let ⟨od,ho,hl⟩:=DE I.ns
 ⟨od,⟨I.obj,rfl,rfl,ho⟩,hl⟩
section
variable {prog:Program}{w:World}{A:Around}{E:Value->Shared->Prop}{s:Shared}{K:Fg}{x dx C f:Addr}{mA:Str->Option Value}{name:Str}{v:Value}
theorem K1 {j:Bool}{Q:Value->Shared->Prop}(X:K.In s.heap)(I:Bu s.heap x dx C mA)(Y:W.plainGet K C name=true)(F:W.hasDictIn K C=true)
(G:W.findIn K (.ref C) name=some none)(O:mA name=some v)(z:W.handedIn v=true)(h:Q v {s with toks:=s.toks+1}):
 wpAny @q A (getAttr (.ref x) name j) Q E s:=by
 obtain ⟨S,J,R⟩:=I.look;exact W.get_value X J (W.plainGet_of Y).1 (W.findObj_own F G rfl (by rw [R,O])) z h
theorem Ht {pl:Sem Bool}{Q:Value×List Value->Shared->Prop}(X:K.In s.heap)(I:Bu s.heap x dx C mA)(Y:W.plainGet K C name=true)
(z:W.findIn K (.ref C) name=some @Y)(j:W.isFn K (.ref f)=true)(F:mA name=none)(h:Q (.ref f,[.ref x]) s):
 wpAny @q A (getMethod (.ref x) name pl) Q E s:=by
 obtain ⟨G,J,R⟩:=I.look;exact W.method_fn X J (W.plainGet_of Y).1 (W.plainGet_of Y).2 z (beq_iff_eq.mp j) (by show (W.lookIn name G).map (·.isSome)=some false;rw [R,F];rfl) h
theorem Jw {S:List Str}{Q:Unit->Shared->Prop}(X:K.In s.heap)(I:Bu s.heap x dx C mA)
(hs:W.findIn K (.ref C) "__setattr__"=some (some (.builtin "object.__setattr__")))(hp:W.plainOver K C=true)(U:W.takerIn K C name=some none)(hh:W.hasDictIn K C=true)
(hw:PySem.Within mA S)(hsz:S.length<=sizeLine)
(h:∀h',Bu h' x dx C (λy=>if y=name then some v else mA y)->Heap.SameBut dx s.heap h'->Q () {s with heap:=h',toks:=s.toks+2}):
 wpAny @q A (setAttr (.ref x) name v) Q E s:=by
 obtain ⟨od,J,hl⟩:=I.look;rwa[W.set_plain X J hs (W.osa_open (s:= {s with toks:=s.toks+1}) (r:=none) X J hp U λb=> ?_)];obtain ⟨cd,Z,G⟩:=W.any_some hh;have hx:s.heap.get? x=some ⟨.ref C,some dx,.plain,#[]⟩:=I.obj;rwa[wpAny_bind (wpAny_pure (wpAny_bind (wpAny_bind (wpAny_loadPart hx (wpAny_bind (PySem.W.Looks.here (s:= {s with toks:=s.toks+1}) (W.looks_clsIn X Z) ?_))))))];rw [G];rwa[wpAny_pure (a:=some dx) (wpAny_bind (wpAny_pure (wpAny_bind ?_)))];rwa[wpAny_nsSet1 (s:= {s with toks:=s.toks+1}) I.ns λh' z j=> ?_];obtain ⟨oD,aa,Y,F,R,O⟩:=z.count (PySem.Within.cons name v hw);rwa[wpAny_bind (wpAny_lookBehind F (by rw [R];exact pastItsLine_dict (Nat.le_trans O (by rw [length_cons];lia))) ?_)];exact wpAny_pure (h _ ⟨(j.2 _ (Ne.symm I.ne)).trans I.obj,z,I.ne⟩ j)
theorem G4 {R:Result->Shared->Prop}{vs:List Value}{z:List (Str×Value)}(X:K.In s.heap)(F:W.makesIn K C=true)
(hi:W.findIn K (.ref C) "__init__"=some @Y)(G:W.typeIn K (.ref f)=some (.type "function"))
(h:codeAny @q (A.under (.builtin "type.__call__" ⟨.ref C::vs,z⟩)) (.call (.ref f) ⟨.ref (s.heap.objs.size+1)::vs,z⟩) (PySem.W.InitBack (s.heap.objs.size+1) R)
   {s with heap:=(s.heap.push W.emptyDict).push @y}):
 codeAny @q A (.call (.ref C) ⟨vs,z⟩) R s:=by
 obtain ⟨I,g,d,t,os⟩:=s;exact W.make_core (W.makes_of X F) (W.looks_findIn X hi) (λj=>W.bind_fn X j G) (.inl rfl) h
theorem DB {R:Result->Shared->Prop}(X:K.In s.heap)(F:W.makesIn K C=true)
(hi:W.findIn K (.ref C) "__init__"=some (some (.builtin "object.__init__")))
(z:∀self,PySem.W.Looks @q s.heap (bindSpecial (.builtin "object.__init__") self) (.builtin "object.__init__",[self]))
(h:codeAny @q (A.under (.builtin "type.__call__" ⟨[.ref C],[]⟩)) (.call (.builtin "object.__init__") ⟨[.ref (s.heap.objs.size+1)],[]⟩) (PySem.W.InitBack (s.heap.objs.size+1) R)
   {s with heap:=(s.heap.push W.emptyDict).push @y}):
 codeAny @q A (.call (.ref C) ⟨[],[]⟩) R s:=by
 obtain ⟨j,g,d,t,os⟩:=s;exact W.make_core (W.makes_of X F) (W.looks_findIn X hi) z (.inr ⟨rfl,rfl⟩) h
end
noncomputable def putF (f:Str)(v:V):List (Str×V)->List (Str×V)
 |[]=>[(f,v)]
 |(g,x)::r=>if g=f then (g,v)::r else (g,x)::putF f v r
theorem oz (f g:Str)(v:V):∀fs:List (Str×V),(putF f v fs).lookup g=if g=f then some v else fs.lookup g
 |[]=>by
  show List.lookup g [(f,v)]=_;by_cases h:g=f
  ·have z:(g==f)=true:=beq_iff_eq.mpr h;simp only [List.lookup,z,if_pos h]
  ·have z:(g==f)=false:=beq_eq_false_iff_ne.mpr h;simp only [List.lookup,z,if_neg h]
 |(k,x)::r=>by
  have j:=oz f g v r;rw [show putF f v ((k,x)::r)=(if k=f then (k,v)::r else (k,x)::putF f v r) from rfl];by_cases Y:k=f
  ·rw [if_pos Y];by_cases h:g=k
   ·have z:(g==k)=true:=beq_iff_eq.mpr h;simp only [List.lookup,z,if_pos (h.trans Y)]
   ·have z:(g==k)=false:=beq_eq_false_iff_ne.mpr h;simp only [List.lookup,z,if_neg (λe:g=f=>h (e.trans Y.symm))]
  ·rw [if_neg Y];by_cases h:g=k
   ·have z:(g==k)=true:=beq_iff_eq.mpr h;simp only [List.lookup,z,if_neg (λe:g=f=>Y (h.symm.trans e))]
   ·have z:(g==k)=false:=beq_eq_false_iff_ne.mpr h;simp only [List.lookup,z];exact j
theorem nr (f:Str)(v:V):∀fs:List (Str×V),f∈(putF f v fs).map (·.1)/\∀g,g∈fs.map (·.1)->g∈(putF f v fs).map (·.1)
 |[]=>⟨by simp [putF],λg h=>by simp at h⟩
 |(k,x)::r=>by
  obtain ⟨z,j⟩:=nr f v r;rw [show putF f v ((k,x)::r)=(if k=f then (k,v)::r else (k,x)::putF f v r) from rfl];by_cases Y:k=f
  ·rw [if_pos Y];subst Y;exact ⟨by simp,λg h=>by simpa using h⟩
  ·rw [if_neg Y];rwa[⟨?_,λg h=> ?_⟩]
   ·rw [map_cons];exact mem_cons_of_mem _ z
   ·rw [map_cons] at h ⊢
    rcases mem_cons.mp h with e|e
    ·exact mem_cons.mpr (.inl e)
    ·exact mem_cons_of_mem _ (j g e)
theorem oA (f:Str)(v:V):∀fs:List (Str×V),(putF f v fs).length<=fs.length+1
 |[]=>by simp [putF]
 |(k,x)::r=>by
  have j:=oA f v r;rw [show putF f v ((k,x)::r)=(if k=f then (k,v)::r else (k,x)::putF f v r) from rfl];by_cases Y:k=f
  ·rw [if_pos Y,length_cons,length_cons];lia
  ·rw [if_neg Y,length_cons,length_cons];lia
theorem md.some_of {v:V}{o:Option Value}(r:md @bD o):∃u,o=some u/\aA v u:=by
 cases o with
 |none=>exact (show False from r).elim
 |some u=>exact ⟨u,rfl,r⟩
theorem md.none_of {o:Option Value}(r:md none o):o=none:=by
 cases o with
 |none=>rfl
 |some u=>exact (show False from r).elim
theorem DO {v:V}{u:Value}(r:aA v u):W.handedIn u=true:=by
 cases v with
 |non=>cases (show u=Value.none from r);rfl
 |bl b=>cases (show u=Value.bool b from r);rfl
 |int i=>obtain ⟨t,e⟩:=(show ∃t,u=Value.int i t from r);cases e;rfl
 |str x=>obtain ⟨t,e⟩:=(show ∃t,u=Value.str x t from r);cases e;rfl
 |byt b=>obtain ⟨t,e⟩:=(show ∃t,u=Value.bytes b t from r);cases e;rfl
 |flt b=>obtain ⟨t,e⟩:=(show ∃t,u=Value.float b t from r);cases e;rfl
 |ref a=>cases (show u=Value.ref a from r);rfl
 |ty n=>cases (show u=Value.type n from r);rfl
section
variable {P:Program}{w:World}{H H':Hp}{h h':Heap}{a C dx:Addr}{fs fs':List (Str×V)}
theorem pL (ag:fh P w H h)(e:H a=some (.ins C dx fs)):∃mA,Bu h a dx C mA/\(∀f,md @gc (mA f))/\PySem.Within mA (fs.map (·.1))/\fs.length<=1000/\H dx=some (.own a):=by
 obtain ⟨d,z,R,j,mA,n,r,q⟩:=(show bp P w H h a (.ins C dx fs) from ag a _ e);exact ⟨mA,⟨j,n,R⟩,r,q,z,d⟩
end
structure uj (K:Fg)(C:Addr):Prop where
 pg:W.plainGet K C Str.empty=true
 hd:W.hasDictIn K C=true
 po:W.plainOver K C=true
 sa:W.findIn K (.ref C) "__setattr__"=some (some (.builtin "object.__setattr__"))
theorem uj.get {K:Fg}{C:Addr}(c:uj K C)(f:Str):W.plainGet K C f=true:=c.pg
def aQ (K:Fg)(C:Addr)(f:Str):Prop:=W.findIn K (.ref C) f=some none
theorem aQ.taker {K:Fg}{C:Addr}{f:Str}(n:aQ K C f):W.takerIn K C f=some none:=by
 unfold W.takerIn;rw [show W.findIn K (.ref C) f=some none from n];rfl
structure Con (K:Fg)(C:Addr)(f:Str)(v:V)(u:Value):Prop where
 at_:W.findIn K (.ref C) f=some @cA
 rel:aA v u
 get:W.specialIn K u "__get__"=some none
 cp:W.copiedNames.contains f=false
structure Ix (K:Fg)(C:Addr)(m:Str)(f:Addr):Prop where
 at_:W.findIn K (.ref C) m=some @Y
 fn:W.isFn K (.ref f)=true
 kp:W.keepIn K (.ref f)=true
section
variable {X:Cx}{pins:List (Addr×Obj)}{σ:St}{H:Hp}{s:Shared}{a C dx:Addr}{fs:List (Str×V)}{f:Str}{v:V}{A:Around}{E:Value->Shared->Prop}
theorem A8 {b:Bool}{Q:Value->Shared->Prop}(I:ar X pins σ H s)(e:H a=some (.ins C dx fs))(c:uj X.K C)(n:aQ X.K C f)(l:fs.lookup f=some v)
(h:∀u s',ar X pins σ H s'->aA v u->Q u s'):wpAny @d A (getAttr (.ref a) f b) Q E s:=by
 obtain ⟨mA,O,r,_,_,_⟩:=pL I.hok e;obtain ⟨u,z,j⟩:=md.some_of (v:=v) (o:=mA f) (by rw [<-l];exact r f);exact K1 I.kIn O (c.get f) c.hd n z (DO j) (h u _ @gs j)
theorem rC {m:Str}{g:Addr}{pl:Sem Bool}{Q:Value×List Value->Shared->Prop}(I:ar X pins σ H s)(e:H a=some (.ins C dx fs))(c:uj X.K C)(k:Ix X.K C m g)(l:fs.lookup m=none)
(h:Q (.ref g,[.ref a]) s):wpAny @d A (getMethod (.ref a) m pl) Q E s:=by
 obtain ⟨mA,O,r,_,_,_⟩:=pL I.hok e;have F:mA m=none:=md.none_of (by rw [<-l];exact r m);exact Ht I.kIn O (c.get m) k.at_ k.fn F h
theorem Ad {y:V}{u:Value}{Q:Unit->Shared->Prop}(I:ar X pins σ H s)(e:H a=some (.ins C dx fs))(c:uj X.K C)(n:aQ X.K C f)(W:fs.length<1000)(R:aA y u)
(h:∀s',ar X pins σ @cj s'->Q () s'):wpAny @d A (setAttr (.ref a) f u) Q E s:=by
 obtain ⟨mA,O,r,wi,_,U⟩:=pL I.hok e
 have F:(fs.map (·.1)).length<=sizeLine:=by rw [length_map,sizeLine_eq];lia
 rwa[Jw I.kIn O c.sa c.po n.taker c.hd wi F λh' j G=>h _ ?_];have J:∃o,h'.get? dx=some o:=let ⟨o,_,_,e',_⟩:=j.ns;⟨o,e'⟩;rwa[I.write (x:=a) (e:=dx) (by rw [e];exact True.intro) (.inr U) (λb q S z=>(G.2 b S).trans z) J ?_];rwa[⟨by rw [aj O.ne];exact U,?_,O.ne,j.obj,_,j.ns,λg=> ?_,λg Y=> ?_⟩]
 ·have:=oA f y fs;lia
 ·show md ((putF f y fs).lookup g) (if g=f then some u else mA g);rw [oz];by_cases q:g=f
  ·rw [if_pos q,if_pos q];exact R
  ·rw [if_neg q,if_neg q];exact r g
 ·by_cases q:g=f
  ·rw [q];exact (nr f y fs).1
  ·rwa[(nr f y fs).2 g (wi g λz=>Y ?_)];show (if g=f then some u else mA g)=none;rw [if_neg q];exact z
theorem ar.made (I:ar X pins σ H s):ar X pins σ (upd (upd H s.heap.objs.size (.own (s.heap.objs.size+1))) (s.heap.objs.size+1) (.ins C s.heap.objs.size []))
 {s with heap:=(s.heap.push W.emptyDict).push @y}:=by
 have S:(s.heap.push W.emptyDict).get? s.heap.objs.size=some W.emptyDict:=Heap.get?_push_size s.heap rfl
 have O:((s.heap.push W.emptyDict).push @y).get? (s.heap.objs.size+1)=some @y:=by
  have:=Heap.get?_push_size @eR (o:=W.instObj C s.heap.objs.size) rfl;rwa [Heap.size_push] at this
 have F:(s.heap.push W.emptyDict).Ns s.heap.objs.size @ge:=⟨W.emptyDict,#[],_,S,rfl,(λe U=>absurd U @e),λ_=>rfl⟩;have z:=I.laid (a:=s.heap.objs.size) (o:= .own (s.heap.objs.size+1)) (h':=s.heap.push W.emptyDict) (t':=s.toks) (λb u q=>Heap.get?_push_of_some _ q) @f ⟨_,S⟩;rwa[z.laid (a:=s.heap.objs.size+1) (o:= .ins C s.heap.objs.size []) (t':=s.toks) (λb u q=>Heap.get?_push_of_some _ q) (Nat.le_of_eq (Heap.size_push _ _)) ?_];have R:s.heap.objs.size≠s.heap.objs.size+1:=Nat.ne_of_lt @br;rwa[⟨by rw [aj R,af],Nat.zero_le _,R,O,λ_=>none,(Heap.Ns1.of_empty F).at λo q=>Heap.get?_push_of_some _ q,λ_=>True.intro,λy j=>absurd rfl j⟩]
theorem Lm {prog:Program}{w:World}{env:Env}{e:Expr}{f:Str}{pos:Pos}{s:Shared}{Q:Value->Shared->Prop}(z:attributeBase e f env (eval e env)=eval e env)
(h:wpAny @q A (eval e env) (λo s₁=>wpAny @q A (getAttr o f true) Q E s₁) E s):wpAny @q A (eval (.Attribute e f pos) env) Q E s:=
 Attribute_any_ h (by rw [arm_eval_Attribute,z])
end
section
variable {X:Cx}{pins:List (Addr×Obj)}{σ:St}{H:Hp}{s:Shared}{A:Around}{E:Value->Shared->Prop}{Q:Value->Shared->Prop}{c:Value}{b:Bool}
inductive jC (K:Fg)(H:Hp):V->Value->Prop where
 |non:jC K H .non (.type "NoneType")
 |bl (x:Bool):jC K H (.bl x) (.type "bool")
 |int (i:Int):jC K H (.int i) (.type "int")
 |str (x:Str):jC K H (.str x) (.type "str")
 |flt (x:UInt64):jC K H (.flt x) (.type "float")
 |lst {a:Addr} {xs:List V} (e:H a=some (.lst xs)):jC K H (.ref a) (.type "list")
 |frz {a:Addr} {o:Obj} {xs:List V} (e:H a=some (.frz o (.lst xs))):jC K H (.ref a) (.type "list")
 |tup {a:Addr} {xs:List V} (e:H a=some (.tup xs)):jC K H (.ref a) (.type "tuple")
 |dK {a:Addr} {kvs:List (dE×V)} (e:H a=some (.dK kvs)):jC K H (.ref a) (.type "dict")
 |dT {a:Addr} {kvs:List (List dE×V)} (e:H a=some (.dT kvs)):jC K H (.ref a) (.type "dict")
 |ins {a C dx:Addr} {fs:List (Str×V)} (e:H a=some (.ins C dx fs)) (cl:uj K C) (ha:W.findIn K (.ref C) "__class__"=some (some (.builtin "object.__class__")))
   (hn:W.specialIn K (.builtin "object.__class__") "__get__"=some (some (.builtin "getset_descriptor.__get__"))) (htk:W.takesIn K (.builtin "object.__class__")=some true)
   (hm:W.mroIn K C (.type "object")=some true):jC K H (.ref a) (.ref C)
theorem DL {x:V}{u t:Value}(I:ar X pins σ H s)(j:aA x u)(ty:jC X.K H x t)(e:W.kitOne X.K t c=some b)(h:∀tk,Q (.bool b) {s with toks:=tk}):
 wpAny @d A (call (.builtin "isinstance") [u,c]) Q E s:=by
 cases ty with
 |non=>cases (show u=Value.none from j);exact W.kia_one W.kitx_none I.kIn True.intro e (λz=>nomatch z) h
 |bl y=>cases (show u=Value.bool y from j);exact W.kia_one W.kitx_bool I.kIn True.intro e (λz=>nomatch z) h
 |int i=>obtain ⟨t,q⟩:=(show ∃t,u=Value.int i t from j);cases q;exact W.kia_one W.kitx_int I.kIn True.intro e (λz=>nomatch z) h
 |str y=>obtain ⟨t,q⟩:=(show ∃t,u=Value.str y t from j);cases q;exact W.kia_one W.kitx_str I.kIn True.intro e (λz=>nomatch z) h
 |flt y=>obtain ⟨t,q⟩:=(show ∃t,u=Value.float y t from j);cases q;exact W.kia_one W.kitx_float I.kIn True.intro e (λz=>nomatch z) h
 | @lst a xs ea=>
   cases (show u=Value.ref a from j);obtain ⟨_,_,n,_,h1⟩:=(show bp X.prog X.w H s.heap a (.lst xs) from I.hok a _ ea);exact W.kia_one W.kitx_list I.kIn ⟨_,h1,rfl⟩ e (λz=>nomatch z) h
 | @frz a ob xs ea=>
   cases (show u=Value.ref a from j);obtain ⟨_,_,_,n,_,h1⟩:=(show bp X.prog X.w H s.heap a (.frz ob (.lst xs)) from I.hok a _ ea);exact W.kia_one W.kitx_list I.kIn ⟨_,h1,rfl⟩ e (λz=>nomatch z) h
 | @tup a xs ea=>
   cases (show u=Value.ref a from j);obtain ⟨_,_,_,p⟩:=(show bp X.prog X.w H s.heap a (.tup xs) from I.hok a _ ea);obtain ⟨o,h1,h2,_⟩:=p;exact W.kia_one W.kitx_tuple I.kIn ⟨o,h1,h2⟩ e (λz=>nomatch z) h
 | @dK a kvs ea=>
   cases (show u=Value.ref a from j);obtain ⟨_,_,G,_,p⟩:=(show bp X.prog X.w H s.heap a (.dK kvs) from I.hok a _ ea);obtain ⟨o,es,F,h1,h2,_⟩:=p;exact W.kia_one W.kitx_dict I.kIn ⟨o,h1,h2.1⟩ e (λz=>nomatch z) h
 | @dT a kvs ea=>
   cases (show u=Value.ref a from j);obtain ⟨_,_,xs,_,o,es,F,h1,h2,_⟩:=(show bp X.prog X.w H s.heap a (.dT kvs) from I.hok a _ ea);exact W.kia_one W.kitx_dict I.kIn ⟨o,h1,h2.1⟩ e (λz=>nomatch z) h
 | @ins a C dx fs ea cl ha hn htk hm=>
   cases (show u=Value.ref a from j);obtain ⟨mA,O,_⟩:=pL I.hok ea;obtain ⟨R,J,_⟩:=O.look;exact W.kia_one (W.kitx_own (cl.get _) cl.hd ha hn htk hm) I.kIn J e (λz=>nomatch z) h
end
structure bx (k:Nat)(A:Around):Prop where
 hd:A.handled=none
 dp:A.depth+3*k+5<recursionLimit
 un:A.units+16*k+200<cLine
theorem bx.mono {j k:Nat}{A:Around}(r:bx k A)(h:j<=k):bx j A:=⟨r.hd,by have:=r.dp;lia,by have:=r.un;lia⟩
theorem bx.deeper {k:Nat}{A:Around}(r:bx (k+1) A)(env:Env):bx k (A.deeper env):=
 ⟨r.hd,by have:=r.dp;show A.depth+1+3*k+5<_;lia,by have:=r.un;show A.units+3+16*k+200<_;lia⟩
theorem bx.in1 {k:Nat}{A:Around}(r:bx (k+1) A):bx k A.in1:=
 ⟨r.hd,by have:=r.dp;show A.depth+3*k+5<_;lia,by have:=r.un;show A.units+1+16*k+200<_;lia⟩
theorem AZ {A:Around}{C:Addr}{us:List Value}{z:List (Str×Value)}:(A.under (.builtin "type.__call__" ⟨.ref C::us,z⟩)).depth=A.depth+1:=by
 first|rfl|simp [Around.under,Code.weight,Code.isCreation,Code.isGuard,Code.isCaller,Code.frames,Code.isFrame,guardIds]
theorem AY {A:Around}{C:Addr}{us:List Value}{z:List (Str×Value)}:(A.under (.builtin "type.__call__" ⟨.ref C::us,z⟩)).units=A.units+1:=by
 first|rfl|simp [Around.under,Code.cUnits,Code.frames,Code.isFrame]
theorem bx.make {k:Nat}{A:Around}(r:bx (k+1) A)(C:Addr)(us:List Value)(z:List (Str×Value)):bx k (A.under (.builtin "type.__call__" ⟨.ref C::us,z⟩)):=
 ⟨r.hd,by have:=r.dp;rw [AZ];lia,by have:=r.un;rw [AY];lia⟩
theorem bx.depth {k:Nat}{A:Around}(r:bx k A):A.depth<recursionLimit:=by have:=r.dp;lia
theorem bx.units {k:Nat}{A:Around}(r:bx k A):A.units+64<cLine:=by have:=r.un;lia
def Jl:TA:=λ_ H Q=>Q [] H
def E2 (ta:TE)(tr:TA):TA:=λσ H Q=>ta σ H λx H1=>tr σ H1 λxs H2=>Q (x::xs) H2
section
variable {X:Cx}{e:Expr}{es:List Expr}{te:TE}{t:TA}{pos:Pos}
theorem am:PA X [] Jl:=λ_ _ _ _ H Q I h=>Calls.spliced_nil ⟨[],H,I,.nil,h⟩
theorem JX (j:PE X e te)(J:PA X es t)(hs:starEach (e::es) X.env=(false,eval e X.env)::starEach es X.env:=by rfl):PA X (e::es) (E2 te t):=by
 intro pos pins s σ H Q I h;rw [hs];show wpAny _ _ (spliced ((false,eval e X.env)::backTo pos @J)) _ _ s;rwa[Calls.spliced_cons (bv @bW λu O ⟨x,H1,z,F,G⟩=> ?_)];exact bv (J pos pins O σ H1 _ z G) λS Y ⟨xs,H2,R,U,W⟩=>⟨x::xs,H2,R,.cons F U,W⟩
def SZ (t:TA):TE:=λσ H Q=>t σ H λxs H1=>xs.length<=sizeLine/\∀p,H1 p=none->Q (.ref p) (upd H1 p (.tup xs))
def S4 (t:TA):TE:=λσ H Q=>t σ H λxs H1=>xs.length<=sizeLine/\∀p,H1 p=none->Q (.ref p) (upd H1 p (.lst xs))
theorem NS {x1}(h:PA X es t):PE X (.Tuple es x1 pos) (SZ t):=by
 intro pins s σ H Q I R;rwa[wpAny_Tuple_spliced (bv (h pos pins s σ H _ I R) λF O ⟨xs,H1,j,r,z,q⟩=>⟨by rw [<-r.length];exact z,?_⟩)];have G:H1 O.heap.objs.size=none:=j.hok.fresh @f;rwa[⟨.ref O.heap.objs.size,upd H1 O.heap.objs.size (.tup xs),j.laid (t':=O.toks) (λb u e=>Heap.get?_push_of_some _ e) @f ?_,rfl,q _ G⟩];exact ⟨z,F,r,⟨_,Heap.get?_push_size _ rfl,rfl,_,rfl⟩⟩
theorem NU (h:PA X es t):PE X (.List es pos) (S4 t):=by
 intro pins s σ H Q I R;rwa[wpAny_List_spliced (bv (h pos pins s σ H _ I R) λF O ⟨xs,H1,j,r,z,q⟩=>⟨by rw [<-r.length];exact z,?_⟩)];have G:H1 O.heap.objs.size=none:=j.hok.fresh @f;rwa[⟨.ref O.heap.objs.size,upd H1 O.heap.objs.size (.lst xs),j.laid (t':=O.toks) (λb u e=>Heap.get?_push_of_some _ e) @f ?_,rfl,q _ G⟩];exact ⟨z,F,0,r,Heap.get?_push_size _ rfl⟩
end
abbrev Sp:=List V->Hp->VK->XK->Prop
abbrev ml:=List Env->Hp->Shared->XK->Value->Shared->Prop
structure gS (P:Program)(w:World)(K:Fg)(mg:Str->Option Value)(base:Heap)(A:Around)(outer:List Env)(s:Shared)(H:Hp):Prop where
 frames:A.frames=some outer
 mod:Mod K mg base
 bs:∀b o,base.get? b=some o->s.heap.get? b=some o/\H b=none
 bsz:base.objs.size<=s.heap.objs.size
 funs:s.heap.FunFrames base outer
 frf:∀b∈wP outer,H b=none
 hok:fh P w H s.heap
 bare:AllBare s.gens
def CE (outer:List Env)(P:Program)(w:World)(H:Hp)(s:Shared)(Q:VK)(u:Value)(s':Shared):Prop:=
 ∃v H',s'.os=s.os/\AllBare s'.gens/\Un (wP outer) [] H H' s.heap s'.heap/\fh P w H' s'.heap/\aA v u/\Q v H'
def CR (CX:ml)(outer:List Env)(P:Program)(w:World)(H:Hp)(s:Shared)(Q:VK)(E:XK)(r:Result)(s':Shared):Prop:=
 match r with
 | .ok (.ret u)=>CE outer P w H s Q u s'
 | .ok _=>False
 | .error e=>CX outer H s E e s'
structure av (P:Program)(w:World)(K:Fg)(mg:Str->Option Value)(base:Heap)(CX:ml)(k:Nat)(f:Addr)(fd:FuncData)(ps:List Str)(sp:Sp):Prop where
 len:∀vs H Q E,sp vs H Q E->vs.length=ps.length
 run:∀(A:Around) (outer:List Env) (s:Shared) (H:Hp) (args:Args) (us:List Value) (vs:List V) (Q:VK) (E:XK),bx k A->gS P w K mg base A outer s H->BindsTo s fd args @cG->aJ vs us->sp vs H Q E->
  codeAny @X A (.call (.ref f) args) (CR CX outer P w H s Q E) s
theorem av.mono {P:Program}{w:World}{K:Fg}{mg:Str->Option Value}{base:Heap}{CX:ml}{j k:Nat}{f:Addr}{fd:FuncData}{ps:List Str}{sp:Sp}(F:av P w K mg base CX j f fd ps sp)(h:j<=k):
 av P w K mg base CX k f fd ps sp:=⟨F.len,λA outer s H z G I Q E W=>F.run A outer s H z G I Q E (W.mono h)⟩
theorem av.imp {P:Program}{w:World}{K:Fg}{mg:Str->Option Value}{base:Heap}{CX:ml}{k:Nat}{f:Addr}{fd:FuncData}{ps:List Str}{sp j:Sp}(F:av P w K mg base CX k f fd ps sp)
(h:∀vs H Q E,j vs H Q E->sp vs H Q E):av P w K mg base CX k f fd ps j:=
 ⟨λvs H Q E q=>F.len vs H Q E (h _ _ _ _ q),λA outer s H z I vs Q E W U G Y hs=>F.run A outer s H z I vs Q E W U G Y (h _ _ _ _ hs)⟩
theorem gS.make {P:Program}{w:World}{K:Fg}{mg:Str->Option Value}{base:Heap}{A:Around}{outer:List Env}{s:Shared}{H:Hp}(e:gS P w K mg base A outer s H)(C:Addr)(us:List Value)(z:List (Str×Value)):
 gS P w K mg base (A.under (.builtin "type.__call__" ⟨.ref C::us,z⟩)) outer s H:=⟨by first|exact e.frames|(simpa [Around.under,Code.envs,Code.isFrame,pushEnvs] using e.frames),e.mod,e.bs,e.bsz,e.funs,e.frf,e.hok,e.bare⟩
theorem gS.in1 {P:Program}{w:World}{K:Fg}{mg:Str->Option Value}{base:Heap}{A:Around}{outer:List Env}{s:Shared}{H:Hp}(e:gS P w K mg base A outer s H):
 gS P w K mg base A.in1 outer s H:=⟨e.frames,e.mod,e.bs,e.bsz,e.funs,e.frf,e.hok,e.bare⟩
section
variable {X:Cx}{pins:List (Addr×Obj)}{σ:St}{H:Hp}{s s':Shared}
theorem ar.env0 (I:ar X pins σ H s):gS X.prog X.w X.K X.mg X.base X.A X.stack s H:=
 ⟨I.ok.frames,I.ok.mod,I.bs,Nat.le_trans I.ok.bsz I.sz,I.stack,I.stkFree,I.hok,I.bare⟩
theorem ar.after {Q:VK}{u:Value}(I:ar X pins σ H s)(h:CE X.stack X.prog X.w H s Q u s'):EP X pins σ Q u s':=by
 obtain ⟨v,H',os,j,G,ag,r,q⟩:=h;obtain ⟨J,g,d,t,F⟩:=s';obtain rfl:F=s.os:=os;exact ⟨v,H',I.call (h':=J) (g':=g) (d':=d) (t':=t) (ch:=[]) G ag j (λb z=>absurd z @e),r,q⟩
end
def p9 (sp:Sp)(dvs:List V)(E:XK)(t:TA):TE:=λσ H Q=>t σ H λvs H1=>sp (vs++dvs) H1 Q E
def QC (C:Addr)(sp:Sp)(dvs:List V)(E:XK)(t:TA):TE:=λσ H Q=>t σ H λvs H1=>∀x dx,H1 x=none->H1 dx=none->dx≠x->
 sp (.ref x::(vs++dvs)) (upd (upd H1 dx (.own x)) x (.ins C dx [])) (λv H2=>v= .non/\Q (.ref x) H2) E
def eK (K:Fg)(fd:FuncData)(ps:List Str)(ds:List Value):Prop:=
 ∀(s:Shared) (us:List Value),K.In s.heap->(us++ds).length=ps.length->BindsTo s fd ⟨us,[]⟩ (ps.zip (us++ds))
theorem eK.all {K:Fg}{fd:FuncData}{ps:List Str}(h:∀us:List Value,us.length=ps.length->bindArgs fd ⟨us,[]⟩=pure @cG):eK K fd ps []:=λs us _ R=>by
 rw [append_nil] at R ⊢;exact .of_eq (h us R)
def fR (CX:ml)(X:Cx)(E:XK):Prop:=∀(pins:List (Addr×Obj)) (σ:St) (H:Hp) (s:Shared) (e:Value) (s':Shared),ar X pins σ H s->CX X.stack H s E e s'->X.xe e s'
section
variable {X:Cx}{CX:ml}{k:Nat}{f C:Addr}{fd:FuncData}{ps:List Str}{sp:Sp}{dvs:List V}{ds:List Value}{E:XK}{x m:Str}{p pos apos:Pos}{e o:Expr}{es:List Expr}{ta:TE}{t:TA}
theorem AC {pins:List (Addr×Obj)}{σ:St}{H:Hp}{s:Shared}{Q:VK}{us:List Value}{vs:List V}(F:av X.prog X.w X.K X.mg X.base CX k f fd ps sp)(W:bx k X.A)(J:eK X.K fd ps ds)(G:aJ dvs ds)(z:fR CX X E)
(I:ar X pins σ H s)(r:aJ vs us)(h:sp (vs++dvs) H Q E):wpAny @d X.A (call (.ref f) us) @w X.xe s:=by
 have U:aJ (vs++dvs) (us++ds):=r.append G
 have j:(us++ds).length=ps.length:=by rw [<-U.length];exact F.len _ _ _ _ h
 rwa[wpAny_call (codeAny_mono (F.run X.A X.stack s H ⟨us,[]⟩ (us++ds) (vs++dvs) Q E W I.env0 (J s us I.kIn j) U h) λr s' R=> ?_)]
 cases r with
 |error e=>exact z pins σ H s e s' I R
 |ok fl=>
  cases fl with
  |ret u=>exact I.after R
  |next=>exact False.elim R
  |brk=>exact False.elim R
  |cont=>exact False.elim R
theorem B1 (F:av X.prog X.w X.K X.mg X.base CX k f fd ps sp)(Z:bx k X.A)(Y:Gl X x)(J:X.mg x=some (.ref f))(hk:W.keepIn X.K (.ref f)=true)(hb:eK X.K fd ps ds)(O:aJ dvs ds)(R:fR CX X E)
(S:PA X (e::es) t)(j:(x==("__debug__":Str))=false:=by decide)(U:starEach (e::es) X.env=(false,eval e X.env)::starEach es X.env:=by rfl)(z:(backTo pos @J).any (·.1)=false:=by rfl):
 PE X (.Call (.Name x p) (e::es) [] pos) (p9 sp dvs E t):=by
 intro pins s σ H Q I h;rwa[wpAny_Call_Name_kw (fF I Y J ?_ j)];rwa[W.callWith_K (h₀:=X.base) I.ok.mod.kin hk (bv @ck λus s1 ⟨vs,H1,G,r,q⟩=>⟨G.kIn,?_⟩) U z];exact AC F Z hb O R G r q
structure Mk (K:Fg)(C f:Addr):Prop where
 makes:W.makesIn K C=true
 init:W.findIn K (.ref C) "__init__"=some @Y
 fn:W.isFn K (.ref f)=true
 kp:W.keepIn K (.ref C)=true
theorem FT {pins:List (Addr×Obj)}{σ:St}{H:Hp}{s:Shared}{Q:VK}{us:List Value}{vs:List V}(M:Mk X.K C f)(F:av X.prog X.w X.K X.mg X.base CX k f fd ps sp)(hr:bx (k+1) X.A)(hb:eK X.K fd ps ds)(W:aJ dvs ds)
(Y:fR CX X E)(I:ar X pins σ H s)(r:aJ vs us)
(h:∀x dx,H x=none->H dx=none->dx≠x->sp (.ref x::(vs++dvs)) (upd (upd H dx (.own x)) x (.ins C dx [])) (λv H2=>v= .non/\Q (.ref x) H2) E):
 wpAny @d X.A (call (.ref C) us) @w X.xe s:=by
 have z:=h (s.heap.objs.size+1) s.heap.objs.size (I.hok.fresh @bG) @bN @eF;have R:=ar.made (C:=C) I;have U:aJ (V.ref (s.heap.objs.size+1)::(vs++dvs)) (Value.ref (s.heap.objs.size+1)::(us++ds)):= .cons rfl (r.append W)
 have S:(Value.ref (s.heap.objs.size+1)::us++ds).length=ps.length:=by
  have e:=U.length;rw [F.len _ _ _ _ z] at e;exact e.symm
 refine wpAny_call (G4 (f:=f) I.kIn M.makes M.init (beq_iff_eq.mp M.fn) (codeAny_mono (F.run _ X.stack _ _ ⟨Value.ref (s.heap.objs.size+1)::us,[]⟩ (Value.ref (s.heap.objs.size+1)::(us++ds)) _ _ E (hr.make C us [])
  (R.env0.make C us []) (hb _ (Value.ref (s.heap.objs.size+1)::us) R.kIn S) U z) λr s' j=> ?_))
 cases r with
 |error e=>exact Y pins σ _ _ e s' R j
 |ok fl=>
  cases fl with
  |ret u=>
   obtain ⟨v,H',G,Z,O,J⟩:=R.after j;subst O;exact ⟨Z,⟨V.ref (s.heap.objs.size+1),H',G,rfl,J⟩⟩
  |next=>exact False.elim j
  |brk=>exact False.elim j
  |cont=>exact False.elim j
theorem JT (M:Mk X.K C f)(F:av X.prog X.w X.K X.mg X.base CX k f fd ps sp)(Z:bx (k+1) X.A)(Y:Gl X x)(J:X.mg x=some (.ref C))(hb:eK X.K fd ps ds)(O:aJ dvs ds)(R:fR CX X E)
(S:PA X (e::es) t)(j:(x==("__debug__":Str))=false:=by decide)(U:starEach (e::es) X.env=(false,eval e X.env)::starEach es X.env:=by rfl)(z:(backTo pos @J).any (·.1)=false:=by rfl):
 PE X (.Call (.Name x p) (e::es) [] pos) (QC C sp dvs E t):=by
 intro pins s σ H Q I h;rwa[wpAny_Call_Name_kw (fF I Y J ?_ j)];rwa[W.callWith_K (h₀:=X.base) I.ok.mod.kin M.kp (bv @ck λus s1 ⟨vs,H1,G,r,q⟩=>⟨G.kIn,?_⟩) U z];exact FT M F Z hb O R G r q
end
section
variable {X:Cx}{CX:ml}{k:Nat}{f C:Addr}{fd:FuncData}{ps ks:List Str}{sp:Sp}{E:XK}{x m:Str}{p pos apos kpos:Pos}{e o:Expr}{es:List Expr}{kws:List Keyword}{te ta:TE}{t tk:TA}{nm:Option Str}
structure KBinds (K:Fg)(fd:FuncData)(ps ks:List Str)(g:List Value->List Value->List Value)(gV:List V->List V->List V):Prop where
 to:∀(s:Shared) (us ws:List Value),K.In s.heap->(g us ws).length=ps.length->BindsTo s fd ⟨us,ks.zip ws⟩ (ps.zip (g us ws))
 rel:∀ {vs:List V} {us:List Value} {zs:List V} {ws:List Value},aJ vs us->aJ zs ws->aJ (gV vs zs) (g us ws)
variable {g:List Value->List Value->List Value}{gV:List V->List V->List V}
end
structure ai (N P:List Str)(sc:Scope):Prop where
 kind:sc.kind= .function
 co:sc.isCoroutine=false
 gen:sc.isGenerator=false
 nd:N.Nodup
 pre:N.take P.length=P
 par:∀x∈P,sc.names.lookup x=some .local\/sc.names.lookup x=some .cell
 nofree:∀y∈sc.names,y.2≠ .free
theorem u4 {j:Str->Option NameKind}{x:Str}:∀ {binds:List (Str×Value)} {m:Str->Option Value},(∀v,(x,v)∉binds)->bindL j binds m x=m x
 |[],_,_=>rfl
 |(n,v)::r,m,h=>by
  unfold bindL;rw [u4 λw J=>h w @bZ];split
  ·have:x≠n:=by rintro rfl;exact h v mem_cons_self
   simp [this]
  ·rfl
theorem u6 {j:Str->Option NameKind}{x:Str}:∀ {binds:List (Str×Value)} {m:Str->Option Value},(∀v,(x,v)∉binds)->bindC j binds m x=m x
 |[],_,_=>rfl
 |(n,v)::r,m,h=>by
  unfold bindC;rw [u6 λw J=>h w @bZ];split
  ·rfl
  ·have:x≠n:=by rintro rfl;exact h v mem_cons_self
   simp [this]
theorem u5 {j:Str->Option NameKind}{x:Str}{v:Value}:∀ {P:List Str} {vs:List Value} {i:Nat} {m:Str->Option Value},P.Nodup->P[i]? =some x->vs[i]? =some v->j x=some .local->
 bindL j (P.zip vs) m x=some v
 |[],_,_,_,_,h,_,_=>by simp at h
 |_::_,[],_,_,_,_,h,_=>by simp at h
 |p::P,w::vs,0,m,nd,h1,h2,hk=>by
  simp at h1 h2;subst h1;subst h2;show bindL j ((p,w)::P.zip vs) m p=_;unfold bindL;rw [u4 λv Y=>(nodup_cons.mp nd).1 (of_mem_zip Y).1,if_pos hk];simp
 |p::P,w::vs,i+1,m,nd,h1,h2,hk=>by
  show bindL j ((p,w)::P.zip vs) m x=_;unfold bindL;exact u5 (i:=i) (nodup_cons.mp nd).2 (by simpa using h1) (by simpa using h2) hk
theorem u7 {j:Str->Option NameKind}{x:Str}{v:Value}:∀ {P:List Str} {vs:List Value} {i:Nat} {m:Str->Option Value},P.Nodup->P[i]? =some x->vs[i]? =some v->j x≠some .local->
 bindC j (P.zip vs) m x=some v
 |[],_,_,_,_,h,_,_=>by simp at h
 |_::_,[],_,_,_,_,h,_=>by simp at h
 |p::P,w::vs,0,m,nd,h1,h2,hk=>by
  simp at h1 h2;subst h1;subst h2;show bindC j ((p,w)::P.zip vs) m p=_;unfold bindC;rw [u6 λv Y=>(nodup_cons.mp nd).1 (of_mem_zip Y).1,if_neg hk];simp
 |p::P,w::vs,i+1,m,nd,h1,h2,hk=>by
  show bindC j ((p,w)::P.zip vs) m x=_;unfold bindC;exact u7 (i:=i) (nodup_cons.mp nd).2 (by simpa using h1) (by simpa using h2) hk
def start (N:List Str)(vs:List V):St:=vs.map some++List.replicate (N.length - vs.length) none
noncomputable def io (CX:ml)(P:Program)(w:World)(K:Fg)(mg:Str->Option Value)(base:Heap)(N:List Str)(qual:Str)(scope:Scope)(f:Addr)(cd:Value)(A:Around)(outer:List Env)(s:Shared)(H:Hp)(E:XK):Cx where
 prog:=P
 w:=w
 K:=K
 mg:=mg
 base:=base
 A:=A.deeper @bR
 N:=N
 s₀:=s
 H₀:=H
 env:=envOfC qual scope s.heap.objs.size f cd
 outer:=outer
 stack:=envOfC qual scope s.heap.objs.size f cd::outer
 ex:=[]
 calm:=true
 fn:=λ_=>true
 pn:=[]
 xe:=λe s'=>wpAny @X (A.deeper @bR) (leaving @bR e) (λ_ s''=>CX outer H s E e s'') (λe' s''=>CX outer H s E e' s'') s'
theorem y6 {j:Scope}{n:Nat}{x:Str}(h:j.names.lookup x=some .cell):∃c,(cellsFrom n j.names []).lookup x=some c:=by
 have q:=W.cellsFrom_some j.names n [] (.inl h);exact Option.isSome_iff_exists.mp q
theorem nu {CX:ml}{P:Program}{w:World}{K:Fg}{mg:Str->Option Value}{base:Heap}{N ps:List Str}{qual:Str}{scope:Scope}{f:Addr}{cd:Value}{A:Around}{outer:List Env}{s O:Shared}{H:Hp}{E:XK}{us:List Value}{vs:List V}
(S:ai N ps scope)(Z:A.handled=none)(j:gS P w K mg base A outer s H)(hl:vs.length=ps.length)(r:aJ vs us)
(x:InCallC s s.heap.objs.size (bindL (envOfC qual scope s.heap.objs.size f cd).kindOf @cG λ_=>none) (cellsFrom (s.heap.objs.size+1) scope.names []) (bindC (envOfC qual scope s.heap.objs.size f cd).kindOf @cG λ_=>none) O):
 ar (io CX P w K mg base N qual scope f cd A outer s H E) [] @bj H O:=by
 have W:ps.length<=N.length:=by have:=congrArg List.length S.pre;rw [length_take] at this;lia
 obtain ⟨h1,tk,rfl,Y⟩:=x.done;have G:∀b:Addr,b∉(io CX P w K mg base N qual scope f cd A outer s H E).ex:=λb z=>absurd (show b∈([]:List Addr) from z) @e
 refine ⟨⟨j.mod,S.kind,rfl,rfl,Nat.le_refl _,λy z c h1 h2=> ?_,λy F=> ?_,λy c _ h=> ?_,λ_=>Z,Around.frames_deeper j.frames,.inr ⟨rfl,rfl⟩,λb z=>absurd z (G b),j.bs,j.bsz,λb _ _=>G b,λb z=>absurd z (G b),j.funs,j.frf⟩,
  rfl,j.bare,Un.kept Y,⟨_,x.toInCall.ns,λi y v h1 h2 h3=> ?_⟩,λy c h=>⟨_,x.cell y c h⟩,j.hok.fresh @f,λy c h=> ?_,λp J=>absurd (show p∈([]:List (Addr×Obj)) from J) @e,j.hok.kept Y,?_⟩
 ·exact name_of_addr x.apart (PySem.mem_of_lookup h1) (PySem.mem_of_lookup h2)
 ·have F:scope.names.lookup y=some .cell\/scope.names.lookup y=some .free:=F
  rcases F with F|F
  ·exact y6 F
  ·exact absurd rfl (S.nofree _ (PySem.mem_of_lookup F))
 ·exact Nat.le_of_lt (x.above y c @dH)
 ·have hi:i<vs.length:=by
   unfold start at h2;by_cases hi:i<vs.length
   ·exact hi
   ·rw [getElem?_append_right (by simpa using hi)] at h2;rw [getElem?_replicate] at h2;split at h2<;>cases h2
  have U:vs[i]? =some v:=by
   unfold start at h2;rw [getElem?_append_left (by simpa using hi),getElem?_map] at h2
   cases e:vs[i]? with
   |none=>rw [e] at h2;cases h2
   |some a=>rw [e] at h2;cases h2;rfl
  obtain ⟨u,R,rv⟩:=r.get U
  have J:ps[i]? =some y:=by
   rw [<-S.pre,getElem?_take_of_lt @c];exact h1
  have I:ps.Nodup:=by rw [<-S.pre];exact S.nd.sublist (take_sublist _ _)
  rwa[⟨u,rv,?_⟩]
  rcases S.par y (mem_of_getElem? J) with k|k
  ·exact .inl ⟨k,u5 I J R k⟩
  ·obtain ⟨c,e⟩:=y6 (n:=s.heap.objs.size+1) k;rwa[.inr ⟨.inl k,c,e,?_⟩];have q:=x.cell y c e;rw [u7 I J R (by show scope.names.lookup y≠_;rw [k];decide)] at q;exact q
 ·exact j.hok.fresh (Nat.le_of_lt (x.above y c @dH))
 ·unfold start;show _=N.length;rw [length_append,length_map,length_replicate];lia
theorem HE {CX:ml}{P:Program}{w:World}{K:Fg}{mg:Str->Option Value}{base:Heap}{k:Nat}{f:Addr}{name qual:Str}{z:Arguments}{U:List Stmt}{scope:Scope}{dV kV Y pm j ct oc:Value}{an od:Option Addr}
{ad:Array @E}{N ps:List Str}{sp:Sp}(lk:K.lookup f=some ⟨oc,od,.func (W.fnOf name qual z U scope dV kV Y pm an j ct),ad⟩)(ac:W.codeIn K j qual=true)(S:ai N ps scope)
(aa:∀vs H Q E,sp vs H Q E->vs.length=ps.length)
(F:∀(A:Around) (outer:List Env) (s:Shared) (H:Hp) (vs:List V) (Q:VK) (E:XK),bx k (A.deeper (envOfC qual scope s.heap.objs.size f j))->sp vs H Q E->
   ∃t,sE @bv U t/\t {nx:=λ_ H'=>Q .non H',rt:=Q} @bj H):
 av P w K mg base CX (k+1) f (W.fnOf name qual z U scope dV kV Y pm an j ct) ps sp:=by
 rwa[⟨aa,λA outer s H af us vs Q E hr Z hb r O=> ?_⟩];have hl:=aa _ _ _ _ O;have KX:K.In s.heap:=Z.mod.kin.keeps λb o e=>(Z.bs b o e).1;have ae:s.heap.NoLimit:=Z.mod.nolimit.keeps λb o e=>(Z.bs b o e).1
 have G:∀y∈ps.zip us,scope.names.lookup y.1=some .local\/(scope.names.lookup y.1=some .cell/\((cellsFrom (s.heap.objs.size+1) scope.names []).lookup y.1).isSome=true):=λ⟨n,v⟩ hy=>by
  rcases S.par n (of_mem_zip hy).1 with q|q
  ·exact .inl q
  ·exact .inr ⟨q,W.cellsFrom_some _ _ _ (.inl q)⟩
 rwa[codeAny_call_function hr.depth @gH rfl S.co S.gen rfl (W.codeRec_of KX ac) @fu];rwa[wpAny_newFunctionEnv_cells S.kind G λenv he s1 x=> ?_];subst he;rwa[⟨ae.keeps x.toInCall.keep,codeAny_func ?_⟩];obtain ⟨t,ht,hq⟩:=F A outer s H vs Q E @dI O;have I:ar @bv [] @bj H s1:=nu S hr.hd Z hl r x;rwa[wpAny_mono (ht [] s1 @bj H _ I hq) @en λe s' hs=>hs]
 have R:∀ {σ':St} {H':Hp} {v:V} {u:Value},ar @bv [] σ' H' s'->aA v u->Q v H'->CE outer P w H s Q u s':=
  λ{σ' H' v u} J rv q=>⟨v,H',J.os,J.bare,J.base,J.hok,rv,q⟩
 cases fl with
 |ret u=>
  obtain ⟨v,σ',H',J,rv,q⟩:=hs;exact R J rv q
 |next=>
  obtain ⟨σ',H',J,q⟩:=hs;exact R (v:=V.non) (u:=Value.none) J rfl q
 |brk=>
  obtain ⟨_,_,_,q⟩:=hs;exact False.elim q
 |cont=>
  obtain ⟨_,_,_,q⟩:=hs;exact False.elim q
section
variable {X:Cx}{x:Str}{p pos:Pos}{e:Expr}{es:List Expr}{t:TA}{id T:String}{r:List V->Hp->VK->Prop}
def R9 (r:List V->Hp->VK->Prop)(t:TA):TE:=λσ H Q=>t σ H λvs H1=>r vs H1 Q
theorem Gh (Y:bc X (.builtin id) r)(hg:Gl X x)(F:X.mg x=none)(hv:bootBuiltins x=some (.builtin id))(ha:PA X (e::es) t)(R:x≠"__name__":=by decide)(j:(x==("__debug__":Str))=false:=by decide)
(Z:starEach (e::es) X.env=(false,eval e X.env)::starEach es X.env:=by rfl)(z:(backTo pos @J).any (·.1)=false:=by rfl):PE X (.Call (.Name x p) (e::es) [] pos) (R9 r t):=by
 intro pins s σ H Q I h;rwa[wpAny_Call_Name_kw (kq I hg F hv ?_ R j)];exact PyProof.Rows.callWith_builtin1 (bv @dn λU S ⟨G,H1,J,O,W⟩=>Y pins S σ H1 G U Q J O W) Z z
theorem Df (Y:bc X (.type T) r)(hg:Gl X x)(F:X.mg x=none)(hv:bootBuiltins x=some (.type T))(ha:PA X (e::es) t)(R:x≠"__name__":=by decide)(j:(x==("__debug__":Str))=false:=by decide)
(Z:starEach (e::es) X.env=(false,eval e X.env)::starEach es X.env:=by rfl)(z:(backTo pos @J).any (·.1)=false:=by rfl):PE X (.Call (.Name x p) (e::es) [] pos) (R9 r t):=by
 intro pins s σ H Q I h;rwa[wpAny_Call_Name_kw (kq I hg F hv ?_ R j)];exact PyProof.Rows.callWith_type1 (bv @dn λU S ⟨G,H1,J,O,W⟩=>Y pins S σ H1 G U Q J O W) Z z
end
end L2
namespace HT
open PySem PyProof.Rows
section
variable {prog:Program}{w:World}{A:Around}{E:Value->Shared->Prop}{s:Shared}
theorem cat_tup {t b:Addr}{vs ws:List Value}{Q:Value->Shared->Prop}(ht:IsTup s.heap t vs.toArray)(hb:IsTup s.heap b ws.toArray)(hv:vs≠[])
(h1:ws=[]->Q (.ref t) s)(h2:ws≠[]->Q (.ref s.heap.objs.size) {s with heap:=s.heap.push {cls:= .type "tuple",data:= .seq (vs++ws).toArray}})
(hsz:vs.length+ws.length<=sizeLine):wpAny @q A (binaryOp .Add (.ref t) (.ref b)) Q E s:=by
 obtain ⟨⟨cls,dd,data,sl⟩,U,Y,n,Z⟩:=id ht;obtain ⟨⟨W,z,R,J⟩,j,G,S,I⟩:=id hb;simp only at Y Z G I;subst Y Z G I
 have e:vs.toArray++ws.toArray=(vs++ws).toArray:=by simp
 by_cases O:ws=[]
 ·exact concat_meets ⟨_,U,rfl⟩ ⟨_,j,rfl⟩ noFill_tuple_add seq_tuple_add PySem.F.slot_tuple_add PySem.F.entry_tuple_add @cL
   (tuple_addW1 t b vs.toArray ws.toArray n S dd z sl J (by simpa using hv) (by simp [O])) ⟨U,j,h1 O⟩
 ·refine concat_meets ⟨_,U,rfl⟩ ⟨_,j,rfl⟩ noFill_tuple_add seq_tuple_add PySem.F.slot_tuple_add PySem.F.entry_tuple_add @cL
   (tuple_addW2 t b vs.toArray ws.toArray n S dd z sl J (by simpa using hv) (by simpa using O) (by rw [size_toArray,size_toArray];exact hsz)) ⟨U,j,?_⟩
  rw [e];exact h2 O
noncomputable def sIx (n d:Nat):Option Int->Nat
 |none=>d
 |some v=>if v<0 then (v+(n:Int)).toNat else min v.toNat n
theorem sIx_none (n d:Nat):sIx n d none=d:=rfl
theorem sIx_nat (n d k:Nat):sIx n d (some (k:Int))=min k n:=by
 show (if (k:Int)<0 then ((k:Int)+(n:Int)).toNat else min (k:Int).toNat n)=min k n;rw [if_neg @c,Int.toNat_natCast]
theorem NC (n d:Nat)(G:d<=n)(o:Option Int):sIx n d o<=n:=by
 cases o with
 |none=>exact G
 |some v=>
  show (if v<0 then (v+(n:Int)).toNat else min v.toNat n)<=n;by_cases Y:v<0
  ·rw [if_pos Y];lia
  ·rw [if_neg Y];exact Nat.min_le_right _ _
theorem Cq (v:Int)(n d:Nat):(if v<0 then max (v+(n:Int)) 0 else min v (n:Int))=((sIx n d @bD:Nat):Int):=by
 show (if v<0 then max (v+(n:Int)) 0 else min v (n:Int))=(((if v<0 then (v+(n:Int)).toNat else min v.toNat n):Nat):Int);by_cases Y:v<0
 ·simp only [if_pos Y];lia
 ·simp only [if_neg Y];lia
theorem Bs (lo hi:Option Int)(n:Nat):Builtin.Slice.sliceAdjust lo hi 1 (n:Int)=(((sIx n 0 lo:Nat):Int),((sIx n n hi:Nat):Int)):=by
 have h1: ¬((1:Int)<0):=by lia
 unfold Builtin.Slice.sliceAdjust;simp only [h1,if_false];rwa[Prod.ext ?_ ?_]
 ·cases lo with
  |none=>rfl
  |some v=>exact Cq v n 0
 ·cases hi with
  |none=>rfl
  |some v=>exact Cq v n n
theorem AG (i j:Nat):Builtin.Slice.slicePlaces (i:Int) (j:Int) 1=j - i:=by
 unfold Builtin.Slice.slicePlaces
 have h1:(1:Int)>0:=by lia
 simp only [h1,if_true,Int.ediv_one];split<;>lia
theorem qi {v:Value}{o:Option Int}{Q:Option Int->Shared->Prop}(p:IsPart v o)(h:Q o s):wpAny @q A (Builtin.Slice.slicePartIndex v) Q E s:=by
 cases p with
 |none=>exact slicePart_none h
 |int i t=>exact slicePart_int h
theorem mJ {sl:Addr}{G F:Value}{lo hi:Option Int}{n:Nat}{Q:Int×Int×Nat->Shared->Prop}(hs:s.heap.IsSliceOf sl G F .none)(pl:IsPart G lo)(I:IsPart F hi)
(h:Q (((sIx n 0 lo:Nat):Int),1,sIx n n hi - sIx n 0 lo) s):wpAny @q A (Builtin.Slice.sliceApplied (.ref sl) (pure (n:Int))) Q E s:=by
 obtain ⟨os,z,J,j⟩:=id hs;unfold Builtin.Slice.sliceApplied Builtin.Slice.sliceFields;rwa[wpAny_bind (wpAny_bind (wpAny_field z j (x:=G) rfl (wpAny_bind (wpAny_field z j (x:=F) rfl (wpAny_bind (wpAny_field z j (x:= .none) rfl @bx))))))];rwa[wpAny_bind (slicePart_none ?_)];show wpAny _ _ (if ((1:Int)==0)=true then _ else _) _ _ s;rw [if_neg @b];rwa[wpAny_bind (qi pl (wpAny_bind (qi I (wpAny_bind @bx))))];show wpAny _ _ (match Builtin.Slice.sliceAdjust lo hi 1 (n:Int) with|(lo,hi)=>pure (lo,(1:Int),Builtin.Slice.slicePlaces lo hi 1)) _ _ s;rw [Bs lo hi n];show wpAny _ _ (pure (((sIx n 0 lo:Nat):Int),(1:Int),Builtin.Slice.slicePlaces ((sIx n 0 lo:Nat):Int) ((sIx n n hi:Nat):Int) 1)) _ _ s;rw [AG];exact wpAny_pure h
theorem F7 (xs:Array Value)(i k:Nat):((List.range k).filterMap λ(m:Nat)=>xs[((i:Int)+(m:Int)*1).toNat]?).toArray=((xs.toList.drop i).take k).toArray:=by
 have e:(λ(m:Nat)=>xs[((i:Int)+(m:Int)*1).toNat]?)=λm=>xs[i+m]? :=by
  funext m
  have:((i:Int)+(m:Int)*1).toNat=i+m:=by lia
  rw [this]
 rw [e];have:=pick_run xs i k;rw [filterMap_map] at this;have O:((λx=>xs[x]?)∘λx=>i+x)=λm=>xs[i+m]? :=rfl;rw [O] at this;rw [this]
theorem getItem_tuple_cut {t sl:Addr}{j:Array Value}{R S:Value}{lo hi:Option Int}{Q:Value->Shared->Prop}(J:IsTup s.heap t j)(hs:s.heap.IsSliceOf sl R S .none)(pl:IsPart R lo)(W:IsPart S hi)
(Y: ¬(sIx j.size 0 lo=0/\sIx j.size j.size hi=j.size))
(h:Q (.ref s.heap.objs.size) {s with heap:=s.heap.push {cls:= .type "tuple",data:= .seq ((j.toList.drop @eS).take (sIx j.size j.size hi - sIx j.size 0 lo)).toArray}})
(hsz:j.size<=sizeLine):wpAny @q A (getItem (.ref t) (.ref sl)) Q E s:=by
 have z:sizeOk (.seq ((j.toList.drop @eS).take (sIx j.size j.size hi - sIx j.size 0 lo)).toArray):=by
  show ((j.toList.drop @eS).take (sIx j.size j.size hi - sIx j.size 0 lo)).toArray.size<=sizeLine;rw [size_toArray,length_take,length_drop,Array.length_toList];lia
 have hj:sIx j.size j.size hi<=j.size:=NC _ _ @f hi;obtain ⟨os,O,I,U⟩:=id hs;have G:s.TypeIs (.ref sl) "slice":=⟨os,O,I⟩;unfold getItem
 try with_reducible refine wpAny_holding ?_
 first|refine wpAny_bind @bx|skip
 rwa[wpAny_bind (wpAny_sequenceKey J.typeIs @b ?_)]
 refine wpAny_bind (wpAny_callSpecial?_slot (name:=Str.ofString "__getitem__") J.typeIs PyProof.Rows.slot_tuple_getitem
  (wpAny_call_entry PyProof.Rows.slot_tuple_getitem J.typeIs entry_tuple_getitem ?_ (args_tuple_getitem _ _)))
 show wpAny _ _ (Builtin.Tuple.tupleItemsOf (.ref t)>>=_) _ _ s;rwa[wpAny_bind (tupleItemsOf_ J ?_)];rwa[wpAny_bind (wpAny_typeOf G ?_)];rw [if_pos @b];rwa[wpAny_bind (mJ hs pl W ?_)]
 have F: ¬((((sIx j.size 0 lo:Nat):Int)==0&&(1:Int)==1&&(sIx j.size j.size hi - sIx j.size 0 lo)==j.size)=true):=by
  intro q;rw [Bool.and_eq_true,Bool.and_eq_true] at q;have Z:((sIx j.size 0 lo:Nat):Int)=0:=eq_of_beq q.1.1;have q2:sIx j.size j.size hi - sIx j.size 0 lo=j.size:=eq_of_beq q.2;exact Y ⟨by lia,by lia⟩
 show wpAny _ _ (if (((sIx j.size 0 lo:Nat):Int)==0&&(1:Int)==1&&(sIx j.size j.size hi - sIx j.size 0 lo)==j.size)=true then _ else _) _ _ s;rw [if_neg F,F7]
 first
  |exact wpAny_bind (m:=Builtin.Tuple.tupleExact _) (wpAny_newObj_type @bo z)
  |exact wpAny_bind (m:=Builtin.Tuple.tupleExact _) (wpAny_newObj_type (wpAny_bind (wpAny_pure @bo)) z)
  |exact wpAny_bind (wpAny_bind (m:=Builtin.Tuple.tupleExact _) (wpAny_newObj_type (wpAny_pure @bo) z))
  |exact wpAny_bind (wpAny_bind (m:=Builtin.Tuple.tupleExact _) (wpAny_newObj_type @bo z))
end
end HT
namespace L2
open PySem PySem.Spec PyProof.Rows
abbrev TO:=St->Hp->(Option Int->Hp->Prop)->Prop
def PO (X:Cx)(e:Option Expr)(t:TO):Prop:=
 ∀(pins:List (Addr×Obj)) (s:Shared) (σ:St) (H:Hp) (Q:Option Int->Hp->Prop),ar X pins σ H s->t σ H Q->
  wpAny @d X.A (evalPart e X.env) (λu s'=>∃o H',ar X pins σ H' s'/\IsPart u o/\Q o H') X.xe s
def Jk:TO:=λ_ H Q=>Q none H
section
variable {X:Cx}{e:Expr}{te:TE}{lo hi:Option Expr}{tl th:TO}{pos p2:Pos}
theorem JO:PO X none Jk:=by
 intro pins s σ H Q I h;rw [evalPart_none];exact wpAny_pure ⟨none,H,I,.none,h⟩
def Pg (X:Cx)(r:V->Option Int->Option Int->Hp->VK->Prop):Prop:=
 ∀(pins:List (Addr×Obj)) (s:Shared) (σ:St) (H:Hp) (x:V) (v vl vu:Value) (lo hi:Option Int) (sl:Addr) (Q:VK),ar X pins σ H s->aA x v->s.heap.IsSliceOf sl vl vu .none->IsPart vl lo->IsPart vu hi->r x lo hi H Q->
  ∃T id,typeLookup (.type T) "__getitem__"=pure (some (.builtin id))/\s.TypeIs v T/\wpAny @d X.A (getItem v (.ref sl)) @w X.xe s
def Ue (r:V->Option Int->Option Int->Hp->VK->Prop)(te:TE)(tl th:TO):TE:=λσ H Q=>te σ H λx H1=>tl σ H1 λl H2=>th σ H2 λu H3=>r x l u H3 Q
theorem Gb {r:V->Option Int->Option Int->Hp->VK->Prop}(hr:Pg X r)(U:PE X e te)(hl:PO X lo tl)(W:PO X hi th):PE X (.Subscript e (.Slice lo hi none p2) pos) (Ue r te tl th):=by
 intro pins s σ H Q I h;rwa[Subscript_ (bv @bd λv O ⟨x,H1,z,j,q1⟩=> ?_)];rwa[wpAny_Slice (bv (hl pins O σ H1 _ z q1) λG s2 ⟨l,H2,R,pl,q2⟩=>bv (W pins s2 σ H2 _ R q2) λF S ⟨u,Z,I3,pu,q3⟩=> ?_)];rw [evalPart_none];rwa[wpAny_pure ?_];have I4:ar X pins σ Z {S with heap:=S.heap.push {cls:= .type "slice",data:= .fields #[G,F,.none]}}:=I3.kept (t':=S.toks) λb ob q=>Heap.get?_push_of_some _ q;obtain ⟨T,id,hT,J,Y⟩:=hr pins {S with heap:=S.heap.push {cls:= .type "slice",data:= .fields #[G,F,.none]}} σ Z x v G F l u S.heap.objs.size Q I4 j (Heap.IsSliceOf.new ..) pl pu q3;show wpAny @d X.A (subscriptTail e (.Slice lo hi none p2) v (.ref S.heap.objs.size)) @w X.xe {S with heap:=S.heap.push {cls:= .type "slice",data:= .fields #[G,F,.none]}};exact tail_any (ops:=[.ref S.heap.objs.size,v]) J hT Y @K
noncomputable def pi (xs:List V)(lo hi:Option Int):List V:=(xs.drop @dJ).take (HT.sIx xs.length xs.length hi - HT.sIx xs.length 0 lo)
theorem oM (xs:List V)(lo hi:Option Int):(pi xs lo hi).length<=xs.length:=by
 unfold pi;rw [length_take,length_drop];lia
def Td (K:Fg):V->Option Int->Option Int->Hp->VK->Prop:=λx lo hi H Q=>∃a xs,x= .ref a/\aE K H a xs/\
 ¬(HT.sIx xs.length 0 lo=0/\HT.sIx xs.length xs.length hi=xs.length)/\∀p,H p=none->Q (.ref p) (upd H p (.tup @cd))
theorem Np:Pg X (Td X.K):=by
 intro pins s σ H x v S W lo hi sl Q I G hs pl z h;obtain ⟨a,xs,rfl,O,R,q⟩:=h;cases G;obtain ⟨its,r,J,j⟩:=I.tuple O
 have F:its.toArray.size=xs.length:=by rw [size_toArray];exact r.length.symm
 rwa[⟨"tuple",_,PyProof.Rows.slot_tuple_getitem.lookup,J.typeIs,?_⟩];rwa[HT.getItem_tuple_cut J hs pl z (by rw [F];exact R) ?_ (by rw [F];exact j)];rw [F];rwa[⟨.ref s.heap.objs.size,_,I.laid (t':=s.toks) (o:= .tup @cd) (λb U q=>Heap.get?_push_of_some _ q) @f ?_,rfl,q _ @bN⟩];exact ⟨Nat.le_trans (oM xs lo hi) j,_,(r.drop @dJ).take (HT.sIx xs.length xs.length hi - HT.sIx xs.length 0 lo),IsTup.new _ _⟩
def QS (K:Fg):R2:=λx y H Q=>∃a b xs ys,x= .ref a/\y= .ref b/\aE K H a xs/\aE K H b ys/\xs≠[]/\xs.length+ys.length<=sizeLine/\
 (ys=[]->Q (.ref a) H)/\(ys≠[]->∀p,H p=none->Q (.ref p) (upd H p (.tup (xs++ys))))
theorem aJ.nil_iff {xs:List V}{us:List Value}(r:aJ xs us):us=[]↔xs=[]:=by
 cases r with
 |nil=>simp
 |cons _ _=>simp
theorem J4:cX X @bF (QS X.K):=by
 intro pins s σ H x y v u Q I O Z h;obtain ⟨a,b,xs,ys,rfl,rfl,R,hb,Y,j,J,W⟩:=h;cases O;cases Z;obtain ⟨its,F,S,_⟩:=I.tuple R;obtain ⟨G,U,p2,_⟩:=I.tuple hb;rwa[HT.cat_tup S p2 (λz=>Y (F.nil_iff.mp z)) (λz=>⟨.ref a,H,I,rfl,J (U.nil_iff.mp z)⟩) @B (by rw [<-F.length,<-U.length];exact j)];rwa[⟨.ref s.heap.objs.size,_,I.laid (t':=s.toks) (o:= .tup (xs++ys)) (λb ob q=>Heap.get?_push_of_some _ q) @f ?_,rfl,W (λw=>z (U.nil_iff.mpr w)) _ @bN⟩];exact ⟨by rw [length_append];exact j,_,F.append U,IsTup.new _ _⟩
end
def Cd (n:Nat)(i:Int):Option Nat:=if 0<=i then (if i<n then some i.toNat else none) else if -(n:Int)<=i then some (i+n).toNat else none
def lY {α:Type}(xs:List α)(i:Int):Option α:=(Cd xs.length i).bind λj=>xs[j]?
theorem Cc {n:Nat}{i:Int}{j:Nat}(h:Cd n i=some j):seqIndex? i n=some j/\j<n/\ -(n:Int)<=i/\i<n:=by
 unfold Cd at h;by_cases I:0<=i
 ·rw [if_pos I] at h;by_cases h1:i<n
  ·rw [if_pos h1] at h;have e:i.toNat=j:=Option.some.inj h;exact ⟨by rw [seqIndex_of I h1,e],by lia,by lia,h1⟩
  ·rw [if_neg h1] at h;cases h
 ·rw [if_neg I] at h;by_cases h1: -(n:Int)<=i
  ·rw [if_pos h1] at h;have e:(i+n).toNat=j:=Option.some.inj h;exact ⟨by rw [seqIndex_neg @c h1,e],by lia,h1,by lia⟩
  ·rw [if_neg h1] at h;cases h
theorem xc {α:Type}{xs:List α}{i:Int}{v:α}(h:lY xs i=some v):∃j,seqIndex? i xs.length=some j/\xs[j]? =some v/\j<xs.length/\ -(xs.length:Int)<=i/\i<xs.length:=by
 unfold lY at h
 cases e:Cd xs.length i with
 |none=>rw [e] at h;cases h
 |some j=>
  rw [e] at h;obtain ⟨h1,h2,S,z⟩:=Cc e;exact ⟨j,h1,h,h2,S,z⟩
theorem aK {α:Type}{xs:List α}{j:Nat}{v:α}(h:xs[j]? =some v):lY xs (j:Int)=some v:=by
 have Z:j<xs.length:=(List.getElem?_eq_some_iff.mp h).1
 have e:Cd xs.length (j:Int)=some j:=by
  unfold Cd;rw [if_pos @c,if_pos @c];simp
 unfold lY;rw [e];exact h
def Lz (b:Expr):Prop:=∀o i,subscripted b false o i=operate [o,i] (getItem o i)
def Ek (X:Cx)(r:R2):Prop:=
 ∀(value slice:Expr) (pins:List (Addr×Obj)) (s:Shared) (σ:St) (H:Hp) (x y:V) (v u:Value) (Q:VK),ar X pins σ H s->aA x v->aA y u->r x y H Q->
  subscripted slice false v u=operate [v,u] (getItem v u)->wpAny @d X.A (subscriptTail value slice v u) @w X.xe s
def xg (X:Cx)(id:String)(r:V->List V->Hp->VK->Prop):Prop:=
 ∀(pins:List (Addr×Obj)) (s:Shared) (σ:St) (H:Hp) (x:V) (xs:List V) (v:Value) (us:List Value) (Q:VK),ar X pins σ H s->aA x v->aJ xs us->r x xs H Q->
  wpAny @d X.A (call (.builtin id) (v::us)) @w X.xe s
section
variable {X:Cx}{a b:Expr}{ta tb:TE}{pos:Pos}
theorem BZ {r:R2}(W:Ek X r)(j:PE X a ta)(G:PE X b tb)(hs:Lz b):PE X (.Subscript a b pos) @fd:=by
 intro pins s σ H Q I h;exact Subscript_ (Pa j G I h λv u F x y H2 R z O q=>W a b pins F σ H2 x y v u Q R z O q (hs _ _))
def Th (K:Fg):R2:=λx y H Q=>∃p xs i v,x= .ref p/\y= .int i/\aD K H p xs/\lY xs i=some v/\Q v H
def Tf (K:Fg):R2:=λx y H Q=>∃p xs i v,x= .ref p/\y= .int i/\aE K H p xs/\lY xs i=some v/\Q v H
def Tg:R2:=λx y H Q=>∃z i c,x= .str z/\y= .int i/\z.length<=sizeLine/\lY z.cps.toList i=some c/\Q (.str ⟨#[c]⟩) H
theorem KR:Ek X (Th X.K):=by
 intro value J pins s σ H x y v u Q I U ry h hs;obtain ⟨p,xs,i,z,rfl,rfl,S,W,q⟩:=h;cases U;obtain ⟨t,rfl⟩:=ry;obtain ⟨its,r,pl,hz⟩:=I.list S;obtain ⟨j,h1,h2,h3,h4,Y⟩:=xc W;obtain ⟨w,O,G⟩:=r.get h2;have hl:=r.length;have hn:=ko;have F:EP X pins σ Q w s:=⟨z,H,I,G,q⟩;by_cases R:0<=i
 ·have Z:i.toNat=j:=by
   rw [seqIndex_of R Y] at h1;exact Option.some.inj h1
  exact item_listR pl.isList R @c (by rw [Z];simpa using O) F hs
 ·have Z:(i+(its.toArray.size:Int)).toNat=j:=by
   rw [seqIndex_neg @c h4] at h1;rw [size_toArray,<-hl];exact Option.some.inj h1
  exact subscriptTail_builtinR (x:=w) pl.isList.typeIs slot_list_getitem.lookup
   (wpAny_getItem_list_neg (Q:=λr s'=>r=w/\EP X pins σ Q r s') pl.isList @c (by rw [size_toArray]<;>lia) @c (by rw [Z];simpa using O) ⟨rfl,F⟩) hs
theorem OV:Ek X (Tf X.K):=by
 intro value J pins s σ H x y v u Q I O Y h hs;obtain ⟨p,xs,i,z,rfl,rfl,R,U,q⟩:=h;cases O;obtain ⟨t,rfl⟩:=Y;obtain ⟨its,r,pl,hz⟩:=I.tuple R;obtain ⟨j,h1,h2,h3,Z,h5⟩:=xc U;obtain ⟨w,W,G⟩:=r.get h2;have S:=r.length;have hn:=ko;have F:EP X pins σ Q w s:=⟨z,H,I,G,q⟩
 exact subscriptTail_builtinR (x:=w) pl.typeIs slot_tuple_getitem.lookup
  (getItem_tuple (j:=j) (Q:=λr s'=>r=w/\EP X pins σ Q r s') pl @c @c (by rw [size_toArray,<-S];exact h1) (by simpa using W) ⟨rfl,F⟩) hs
theorem OW:Ek X Tg:=by
 intro value J pins s σ H x y v u Q I G W h hs;obtain ⟨z,i,c,rfl,rfl,hz,U,q⟩:=h;obtain ⟨t,rfl⟩:=G;obtain ⟨Z,rfl⟩:=W;obtain ⟨j,h1,h2,h3,F,Y⟩:=xc U
 have R:z.cps.toList.length=z.length:=by simp [Str.length]
 rw [R] at h1 F Y;have hn:=ko
 exact tail_any @du slot_str_getitem.lookup (getItem_str (c:=c) (by
  have S:decide (i< -(2^63:Int))=false:=decide_eq_false @c;have O:decide (i≥2^63)=false:=decide_eq_false @c
  rw [S,O,Bool.or_false]) (by rw [h1];simpa using h2) ⟨.str ⟨#[c]⟩,H,I.tok _,⟨_,rfl⟩,q⟩) hs
theorem AX (its:List Value)(n j:Nat)(u:Value):Obj.mapSeq (·.setIfInBounds j u) {cls:= .type "list",data:= .seq its.toArray n}= {cls:= .type "list",data:= .seq (its.set j u).toArray n}:=by
 simp [Obj.mapSeq]
theorem ar.lst {pins:List (Addr×Obj)}{σ:St}{H:Hp}{s:Shared}{p:Addr}{xs:List V}(I:ar X pins σ H s)(h:H p=some (.lst xs)):
 ∃(its:List Value) (n:Nat),aJ xs its/\s.heap.get? p=some {cls:= .type "list",data:= .seq its.toArray n}/\xs.length<=sizeLine:=by
 obtain ⟨z,its,n,r,e⟩:=I.hok p _ h;exact ⟨its,n,r,e,z⟩
theorem ar.lstUpd {pins:List (Addr×Obj)}{σ:St}{H:Hp}{s:Shared}{p:Addr}{xs ys:List V}{its its':List Value}{n G:Nat}{f:Obj->Obj}(I:ar X pins σ H s)(h:H p=some (.lst xs))
(U:s.heap.get? p=some {cls:= .type "list",data:= .seq its.toArray n})(j:f {cls:= .type "list",data:= .seq its.toArray n}= {cls:= .type "list",data:= .seq its'.toArray G})(r:aJ ys its')(z:ys.length<=sizeLine)(t:Nat):
 ar X pins σ @F {s with heap:=s.heap.update p f,toks:=t}:=by
 have e:(s.heap.update p f).get? p=some {cls:= .type "list",data:= .seq its'.toArray G}:=by
  rw [Heap.get?_update_self f U (by rw [j]<;>rfl),j]
 rwa[I.write (x:=p) (e:=p) (by rw [h];trivial) (.inl rfl) (λb u F q=>(Heap.get?_update_other _ _ @gF).trans q) ⟨_,e⟩ ?_];exact ⟨z,its',G,r,e⟩
def QO:V->V->V->Hp->(Hp->Prop)->Prop:=λo i v H Q=>∃p xs k j,o= .ref p/\i= .int k/\H p=some (.lst xs)/\Cd xs.length k=some j/\Q @bL
theorem Fw:Iw X QO:=by
 intro pins s σ H o i v ov iv u Q I ro ri O h;obtain ⟨p,xs,k,j,rfl,rfl,J,hj,q⟩:=h;cases ro;obtain ⟨t,rfl⟩:=ri;obtain ⟨its,n,r,U,Z⟩:=I.lst J;obtain ⟨h1,h2,S,F⟩:=Cc hj;have R:=r.length;have hn:=ko
 have z:ar X pins σ @bL {s with heap:=s.heap.update p (Obj.mapSeq (·.setIfInBounds j u))}:=
  I.lstUpd J U (AX its n j u) (r.set O j) (by rw [length_set];exact Z) s.toks
 by_cases G:0<=k
 ·have Y:k.toNat=j:=by
   rw [seqIndex_of G F] at h1;exact Option.some.inj h1
  exact W.ki_setAt U G @c (by rw [size_toArray,<-R];exact F) (by rw [Y];exact ⟨_,z,q⟩)
 ·have Y:(k+(its.toArray.size:Int)).toNat=j:=by
   rw [seqIndex_neg @c S] at h1;rw [size_toArray,<-R];exact Option.some.inj h1
  exact W.ki_setBack U @c (by rw [size_toArray,<-R];exact S) @c (by rw [Y];exact ⟨_,z,q⟩)
theorem vF (lo hi:Option Int)(n:Nat):(sliceBounds lo hi none n).1=((HT.sIx n 0 lo:Nat):Int)/\(sliceBounds lo hi none n).2.1=((HT.sIx n n hi:Nat):Int)/\(sliceBounds lo hi none n).2.2=1:=by
 rwa[⟨?_,?_,rfl⟩]
 ·cases lo with
  |none=>simp [sliceBounds,HT.sIx]
  |some i=>
   simp only [sliceBounds,HT.sIx,Option.getD_none,show (1:Int)>0 by decide,if_true];by_cases h:i<0
   ·simp only [h,if_true]<;>lia
   ·simp only [h,if_false]<;>lia
 ·cases hi with
  |none=>simp [sliceBounds,HT.sIx]
  |some i=>
   simp only [sliceBounds,HT.sIx,Option.getD_none,show (1:Int)>0 by decide,if_true];by_cases h:i<0
   ·simp only [h,if_true]<;>lia
   ·simp only [h,if_false]<;>lia
theorem tK (its:List Value)(lo hi:Option Int):slicePick its.toArray lo hi none=((its.drop (HT.sIx its.length 0 lo)).take (HT.sIx its.length its.length hi - HT.sIx its.length 0 lo)).toArray:=by
 obtain ⟨h1,h2,S⟩:=vF lo hi its.toArray.size;unfold slicePick;rw [h1,h2,S];simp only [sliceRange_one,pick_run,size_toArray]<;>rfl
def Te (K:Fg):V->Option Int->Option Int->Hp->VK->Prop:=λx lo hi H Q=>∃a xs,x= .ref a/\aD K H a xs/\∀p,H p=none->Q (.ref p) (upd H p (.lst @cd))
theorem Jv:Pg X (Te X.K):=by
 intro pins s σ H x v R U lo hi sl Q I G hs pl j h;obtain ⟨a,xs,rfl,O,q⟩:=h;cases G;obtain ⟨its,r,J,z⟩:=I.list O;have F:=r.length;rwa[⟨"list",_,slot_list_getitem.lookup,J.isList.typeIs,?_⟩];rwa[wpAny_getItem_list_slice J.isList hs pl j .none @e ?_ (by rw [size_toArray]<;>lia)];rw [tK,<-F];rwa[⟨.ref s.heap.objs.size,_,I.laid (t':=s.toks) (o:= .lst @cd) (λb S q=>Heap.get?_push_of_some _ q) @f ?_,rfl,q _ @bN⟩];exact ⟨Nat.le_trans (oM xs lo hi) z,_,0,(r.drop @dJ).take (HT.sIx xs.length xs.length hi - HT.sIx xs.length 0 lo),Heap.get?_push_size _ rfl⟩
def cY:V->Bool
 | .non=>true
 | .bl _=>true
 | .int _=>true
 | .str _=>true
 |_=>false
noncomputable def L8:V->V->Bool
 | .non,.non=>true
 | .bl a,.bl b=>a==b
 | .bl a,.int b=>(if a then 1 else 0)==b
 | .int a,.bl b=>a==(if b then 1 else 0)
 | .int a,.int b=>a==b
 | .str a,.str b=>a==b
 |_,_=>false
theorem HM {A:Around}{s:Shared}{y x:V}{u v:Value}(O:aA y u)(z:aA x v)(G:cY y=true)(F:cY x=true):SeqAt.EqAt A s u v (L8 y x):=by
 cases y with
 |non=>
  cases O
  cases x with
  |non=>cases z;exact SeqAt.EqAt.same _
  |bl b=>cases z;exact SeqAt.EqAt.none_bool b
  |int b=>obtain ⟨t,rfl⟩:=z;exact SeqAt.EqAt.none_int b t
  |str b=>obtain ⟨t,rfl⟩:=z;exact SeqAt.EqAt.none_str b t
  |_=>exact absurd (show false=true from F) Bool.false_ne_true
 |bl a=>
  cases O
  cases x with
  |non=>cases z;exact SeqAt.EqAt.bool_none a
  |bl b=>cases z;exact SeqAt.EqAt.bool_bool a b
  |int b=>obtain ⟨t,rfl⟩:=z;exact SeqAt.EqAt.bool_int a b t
  |str b=>obtain ⟨t,rfl⟩:=z;exact SeqAt.EqAt.bool_str a b t
  |_=>exact absurd (show false=true from F) Bool.false_ne_true
 |int a=>
  obtain ⟨j,rfl⟩:=O
  cases x with
  |non=>cases z;exact SeqAt.EqAt.int_none a j
  |bl b=>cases z;exact SeqAt.EqAt.int_bool a j b
  |int b=>obtain ⟨t,rfl⟩:=z;exact SeqAt.EqAt.int_int a j b t
  |str b=>obtain ⟨t,rfl⟩:=z;exact SeqAt.EqAt.int_str a j b t
  |_=>exact absurd (show false=true from F) Bool.false_ne_true
 |str a=>
  obtain ⟨j,rfl⟩:=O
  cases x with
  |non=>cases z;exact SeqAt.EqAt.str_none a j
  |bl b=>cases z;exact SeqAt.EqAt.str_bool a j b
  |int b=>obtain ⟨t,rfl⟩:=z;exact SeqAt.EqAt.str_int a j b t
  |str b=>obtain ⟨t,rfl⟩:=z;exact SeqAt.EqAt.str_str a j b t
  |_=>exact absurd (show false=true from F) Bool.false_ne_true
 |_=>exact absurd (show false=true from G) Bool.false_ne_true
noncomputable def Bf (x:V)(u:Value):Bool:=match u with
 | .none=>L8 .non x
 | .bool b=>L8 (.bl b) x
 | .int i _=>L8 (.int i) x
 | .str z _=>L8 (.str z) x
 |_=>false
theorem HK {x y:V}{u:Value}(r:aA y u)(f:cY y=true):Bf x u=L8 y x:=by
 cases y with
 |non=>cases r;rfl
 |bl b=>cases r;rfl
 |int i=>obtain ⟨t,rfl⟩:=r;rfl
 |str z=>obtain ⟨t,rfl⟩:=r;rfl
 |_=>exact absurd (show false=true from f) Bool.false_ne_true
theorem lZ {x:V}:∀ {xs:List V} {us:List Value},aJ xs us->xs.all cY=true->us.any (Bf x)=xs.any λy=>L8 y x
 |_,_,.nil,_=>rfl
 |y::xs,u::us,.cons r t,f=>by
  rw [all_cons,Bool.and_eq_true] at f;rw [any_cons,any_cons,HK r f.1,lZ t f.2]
theorem iP {A:Around}{s:Shared}{x:V}{v:Value}(j:aA x v)(F:cY x=true):∀ {xs:List V} {us:List Value},aJ xs us->xs.all cY=true->∀u∈us,SeqAt.EqAt A s u v (Bf x u)
 |_,_,.nil,_=>λu z=>by cases z
 |y::xs,u::us,.cons r t,f=>λG z=>by
  rw [all_cons,Bool.and_eq_true] at f
  rcases mem_cons.mp z with rfl|z
  ·rw [HK r f.1];exact HM r j f.1 F
  ·exact iP j F t f.2 G z
noncomputable def sO (x:V)(xs:List V):Bool:=xs.any λy=>L8 y x
def Sb (K:Fg)(neg:Bool):R2:=λx y H Q=>∃p xs,y= .ref p/\(aD K H p xs\/aE K H p xs)/\cY x=true/\xs.all cY=true/\Q (.bl (if neg then !sO x xs else sO x xs)) H
theorem Di:cX X @db (Sb X.K false):=by
 intro pins s σ H x y v u Q I z O h;obtain ⟨p,xs,rfl,R,F,fs,q⟩:=h;cases O
 rcases R with R|R
 ·obtain ⟨its,r,pl,j⟩:=I.list R;rwa[SeqAt.in_listAt (Bf x) pl.isList (λw J=>iP z F r fs w (by simpa using J)) ⟨.bl _,H,I,rfl,?_⟩];rw [show its.toArray.any (Bf x)=its.any (Bf x) by simp,lZ r fs];exact q
 ·obtain ⟨its,r,pl,j⟩:=I.tuple R;rwa[SeqAt.in_tupleAt (Bf x) pl (λw J=>iP z F r fs w (by simpa using J)) ⟨.bl _,H,I,rfl,?_⟩];rw [show its.toArray.any (Bf x)=its.any (Bf x) by simp,lZ r fs];exact q
theorem wg:cX X @dt (Sb X.K true):=by
 intro pins s σ H x y v u Q I z O h;obtain ⟨p,xs,rfl,R,F,fs,q⟩:=h;cases O
 rcases R with R|R
 ·obtain ⟨its,r,pl,j⟩:=I.list R;rwa[SeqAt.notIn_listAt (Bf x) pl.isList (λw J=>iP z F r fs w (by simpa using J)) ⟨.bl _,H,I,rfl,?_⟩];rw [show its.toArray.any (Bf x)=its.any (Bf x) by simp,lZ r fs];exact q
 ·obtain ⟨its,r,pl,j⟩:=I.tuple R;rwa[SeqAt.notIn_tupleAt (Bf x) pl (λw J=>iP z F r fs w (by simpa using J)) ⟨.bl _,H,I,rfl,?_⟩];rw [show its.toArray.any (Bf x)=its.any (Bf x) by simp,lZ r fs];exact q
theorem wW:bc X (.builtin "len") (λxs H Q=>∃p ys,xs=[.ref p]/\(aD X.K H p ys\/aE X.K H p ys)/\Q (.int ys.length) H):=by
 intro pins s σ H xs O Q I r h;obtain ⟨p,ys,rfl,R,q⟩:=h;obtain ⟨u,rfl,z⟩:=fC r;cases z;have J:=ko
 rcases R with R|R
 ·obtain ⟨its,j,pl,G⟩:=I.list R;have F:=j.length;exact Calls.call_len_list pl.isList (by simp only [size_toArray]<;>lia) ⟨.int ys.length,H,I.tok _,⟨s.toks+1,by rw [size_toArray,F]⟩,q⟩
 ·obtain ⟨its,j,pl,G⟩:=I.tuple R;have F:=j.length;exact len_tuple pl (by simp only [size_toArray]<;>lia) ⟨.int ys.length,H,I.tok _,⟨s.toks+1,by rw [size_toArray,F]⟩,q⟩
theorem wV:bc X (.builtin "len") (λxs H Q=>∃z,xs=[.str z]/\z.length<=sizeLine/\Q (.int z.length) H):=by
 intro pins s σ H xs j Q I r h;obtain ⟨z,rfl,F,q⟩:=h;obtain ⟨u,rfl,t,rfl⟩:=fC r;have G:=ko;exact len_str @c ⟨.int z.length,H,I.tok _,⟨_,rfl⟩,q⟩
theorem bc.or {f:Value}{r R:List V->Hp->VK->Prop}(h:bc X f r)(h':bc X f R):bc X f (λxs H Q=>r xs H Q\/R xs H Q):=by
 intro pins s σ H xs j Q I z q
 rcases q with q|q
 ·exact h pins s σ H xs j Q I z q
 ·exact h' pins s σ H xs j Q I z q
theorem wU:bc X (.type "list") (λxs H Q=>∃p ys,xs=[.ref p]/\(aD X.K H p ys\/aE X.K H p ys)/\∀l,H l=none->Q (.ref l) @cn):=by
 intro pins s σ H xs Z Q I r h;obtain ⟨p,ys,rfl,F,q⟩:=h;obtain ⟨u,rfl,Y⟩:=fC r;cases Y
 have O:∀(its:List Value),aJ ys its->ys.length<=sizeLine->∀(h':Heap) (j:Nat),(∀b o',s.heap.get? b=some o'->h'.get? b=some o')->
  h'.get? s.heap.objs.size=some {cls:= .type "list",dict:=none,data:= .seq its.toArray j,slots:= #[]}->EP X pins σ Q (.ref s.heap.objs.size) {s with heap:=h'}:=λits R G h' j z e=>
  ⟨.ref s.heap.objs.size,_,I.laid (t':=s.toks) z @f (show bp X.prog X.w _ h' _ (.lst ys) from ⟨G,its,j,R,e⟩),rfl,q _ @bN⟩
 rcases F with F|F
 ·obtain ⟨its,R,pl,G⟩:=I.list F;have J:=R.length;obtain ⟨o,U,S,n,W⟩:=pl.isList;exact call_list_seq p (.inl rfl) U S W (λh' j z e=>O its R G h' j z e) (by simp only [size_toArray]<;>lia)
 ·obtain ⟨its,R,pl,G⟩:=I.tuple F;have J:=R.length;obtain ⟨o,U,S,n,W⟩:=pl;exact call_list_seq p (.inr rfl) U S W (λh' j z e=>O its R G h' j z e) (by simp only [size_toArray]<;>lia)
theorem ug:bc X (.type "tuple") (λxs H Q=>∃p ys,xs=[.ref p]/\((aD X.K H p ys/\∀l,H l=none->Q (.ref l) @cU)\/(aE X.K H p ys/\Q (.ref p) H))):=by
 intro pins s σ H xs U Q I r h;obtain ⟨p,ys,rfl,h⟩:=h;obtain ⟨u,rfl,S⟩:=fC r;cases S
 rcases h with ⟨j,q⟩|⟨j,q⟩
 ·obtain ⟨its,R,pl,F⟩:=I.list j;have G:=R.length;rwa[call_tuple_list pl.isList (λh' J=> ?_) (by simp only [size_toArray]<;>lia)];have z:ar X pins σ H {s with heap:=h'}:=I.kept (t':=s.toks) J
  have O:ar X pins σ (upd H h'.objs.size (.tup ys)) {s with heap:=h'.push {cls:= .type "tuple",data:= .seq its.toArray}}:=
   z.laid (t':=s.toks) (λb o e=>Heap.get?_push_of_some _ e) @f (show bp X.prog X.w _ _ _ (.tup ys) from ⟨F,its,R,IsTup.new _ _⟩)
  exact ⟨.ref h'.objs.size,_,O,rfl,q _ @dR⟩
 ·obtain ⟨its,R,pl,F⟩:=I.tuple j;exact call_tuple_same pl ⟨.ref p,H,I,rfl,q⟩
def R7 (K:Fg)(T:String)(x:V)(H:Hp):Prop:=match x with
 | .str _=>T="str"
 | .int _=>T="int"
 | .ref p=>(T="list"/\∃xs,aD K H p xs)\/(T="tuple"/\∃o,K.lookup p=some o/\o.cls= .type "tuple"/\o.dict=none)\/
    (T="dict"/\((∃kvs,H p=some (.dK kvs))\/∃kvs,H p=some (.dT kvs)))\/(T="set"/\∃S n,H p=some (.set S n))
 |_=>False
theorem EM {pins:List (Addr×Obj)}{σ:St}{H:Hp}{s:Shared}{T:String}{x:V}{v:Value}(I:ar X pins σ H s)(r:aA x v)(ty:R7 X.K T x H):
 s.TypeIs v T/\∀a,v= .ref a->∃ob,s.heap.get? a=some ob/\ob.dict=none:=by
 cases x with
 |str z=>
  obtain ⟨t,rfl⟩:=r;cases (show T="str" from ty);exact ⟨typeIs_str s z t,λ_ e=>nomatch e⟩
 |int i=>
  obtain ⟨t,rfl⟩:=r;cases (show T="int" from ty);exact ⟨typeIs_int s i t,λ_ e=>nomatch e⟩
 |ref p=>
  cases r
  rcases ty with ⟨rfl,xs,R⟩|⟨rfl,o,Y,J,G⟩|⟨rfl,Y⟩|⟨rfl,S,n,Y⟩
  ·obtain ⟨its,_,pl,_⟩:=I.list R;rwa[⟨pl.isList.typeIs,λa e=> ?_⟩];cases e;obtain ⟨o,n,e,c,G,_⟩:=pl;exact ⟨o,e,G⟩
  ·rwa[⟨⟨o,I.kIn p o Y,J⟩,λa e=> ?_⟩];cases e;exact ⟨o,I.kIn _ o Y,G⟩
  ·have z:∃o,s.heap.get? p=some o/\o.ExactDict:=by
    rcases Y with ⟨j,Y⟩|⟨j,Y⟩
    ·obtain ⟨_,_,_,_,o,_,_,e,ex,_⟩:=I.hok p _ Y;exact ⟨o,e,ex⟩
    ·obtain ⟨_,_,_,_,o,_,_,e,ex,_⟩:=I.hok p _ Y;exact ⟨o,e,ex⟩
   obtain ⟨o,e,ex⟩:=z;rwa[⟨⟨o,e,ex.1⟩,λa O=> ?_⟩];cases O;exact ⟨o,e,ex.2.1⟩
  ·obtain ⟨o,_,_,_,e,ex,_⟩:=I.hok p _ Y;rwa[⟨⟨o,e,ex.1⟩,λa O=> ?_⟩];cases O;exact ⟨o,e,ex.2.1⟩
 |_=>exact False.elim ty
variable {o e:Expr}{es:List Expr}{to:TE}{t:TA}{name:Str}{apos cpos:Pos}{T id:String}{r:V->List V->Hp->VK->Prop}
end
def T6 (X:Cx)(id:String)(r:V->List V->Hp->VK->Prop):Prop:=
 ∀(pins:List (Addr×Obj)) (s:Shared) (σ:St) (H:Hp) (x:V) (xs:List V) (v:Value) (us:List Value) (Q:VK),ar X pins σ H s->aA x v->aJ xs us->r x xs H Q->
  wpAny @d X.A (call (.builtin id) (v::us)) @w X.xe s
theorem aJ.one:∀ {x:V} {us:List Value},aJ [x] us->∃u,us=[u]/\aA x u
 |_,_,.cons r .nil=>⟨_,rfl,r⟩
section
variable {X:Cx}{pins:List (Addr×Obj)}{σ:St}{H:Hp}{s:Shared}{l b:Addr}{xs ys zs:List V}
theorem ar.lset {its its':List Value}{n:Nat}{f:Array Value->Array Value}{t':Nat}(I:ar X pins σ H s)(j:H l=some (.lst xs))
(e:s.heap.get? l=some {cls:= .type "list",data:= .seq its.toArray n})(G:f its.toArray=its'.toArray)(Y:aJ ys its')(F:ys.length<=sizeLine):
 ar X pins σ @cn {s with heap:=s.heap.update l (Obj.mapSeq f),toks:=t'}:=by
 have q:=PySem.IsL.update e f;rw [G] at q;rwa[I.write (x:=l) (e:=l) (by rw [j];exact trivial) (.inl rfl) (λO u J z=>(Heap.get?_update_other s.heap (Obj.mapSeq f) (Ne.symm J)).trans z) ⟨_,q⟩ ?_];exact ⟨F,its',_,Y,q⟩
theorem ar.lnew {its:List Value}{t':Nat}(I:ar X pins σ H s)(Y:aJ ys its)(j:ys.length<=sizeLine):
 ar X pins σ (upd H s.heap.objs.size (.lst ys)) {s with heap:=s.heap.push {cls:= .type "list",data:= .seq its.toArray},toks:=t'}:=
 I.laid (λ_ _ q=>Heap.get?_push_of_some _ q) @f ⟨j,its,0,Y,Heap.get?_push_size _ rfl⟩
theorem ar.fresh (I:ar X pins σ H s):H s.heap.objs.size=none:=I.hok.fresh @f
theorem ar.lstM (I:ar X pins σ H s)(j:H l=some (.lst xs)):xs.length<=sizeLine/\∃(its:List Value) (n:Nat),aJ xs its/\xs.length=its.length/\s.heap.get? l=some {cls:= .type "list",data:= .seq its.toArray n}:=by
 obtain ⟨z,its,n,r,e⟩:=I.hok l _ j;exact ⟨z,its,n,r,r.length,e⟩
theorem qY {n:Nat}(h:n<=sizeLine):Builtin.List.listTooLong n=false:=by
 unfold Builtin.List.listTooLong;exact decide_eq_false @c
end
section
variable {X:Cx}
def JI:V->List V->Hp->VK->Prop:=λx vs H Q=>∃l xs y,x= .ref l/\vs=[y]/\H l=some (.lst xs)/\xs.length<sizeLine/\Q .non (upd H l (.lst (xs++[y])))
theorem Dy:T6 X "list.append" JI:=by
 intro pins s σ H x R v S Q I G O h;obtain ⟨l,xs,y,rfl,rfl,j,U,q⟩:=h;cases G;obtain ⟨u,rfl,J⟩:=O.one;obtain ⟨z,its,n,r,W,e⟩:=I.lstM j;rwa[call_meets F.slot_list_append ⟨_,e,rfl⟩ F.entry_list_append (F.args_list_append_2 _ _) (PySem.list_append l its.toArray n u (by rw [size_toArray];lia)) ⟨e,?_⟩];rwa[⟨.non,_,I.lset (its':=its++[u]) j e @e (r.append (.cons J .nil)) ?_,rfl,q⟩];rw [length_append,length_singleton];lia
def JH:V->List V->Hp->VK->Prop:=λx vs H Q=>∃l b xs zs,x= .ref l/\vs=[.ref b]/\H l=some (.lst xs)/\H b=some (.lst zs)/\xs.length+zs.length<=sizeLine/\Q .non (upd H l (.lst (xs++zs)))
theorem Dx:T6 X "list.extend" JH:=by
 intro pins s σ H x vs v us Q I R U h;obtain ⟨l,b,xs,zs,rfl,rfl,O,Z,hz,q⟩:=h;cases R;obtain ⟨u,rfl,S⟩:=U.one;cases S;obtain ⟨z,its,n,r,hl,e⟩:=I.lstM O;obtain ⟨z2,G,W,r2,Y,e2⟩:=I.lstM Z
 have J:its.toArray.size+G.toArray.size<=sizeLine:=by rw [size_toArray,size_toArray];lia
 have j: ¬(!its.toArray.isEmpty&&Builtin.List.listTooLong (its.toArray.size+G.toArray.size))=true:=by
  rw [qY J,Bool.and_false];exact Bool.false_ne_true
 refine call_meets F.slot_list_extend ⟨_,e,rfl⟩ F.entry_list_extend (F.args_list_extend_2 _ _)
  (AutoSeq1.list_extend_list_list_0 l its.toArray n b G.toArray W j (by rw [size_toArray];lia) @c) ⟨e,e2,?_⟩
 rwa[⟨.non,_,I.lset (its':=its++G) O e @e (r.append r2) ?_,rfl,q⟩];rw [length_append];lia
def Ti:R2:=λx y H Q=>∃l b xs zs,x= .ref l/\y= .ref b/\H l=some (.lst xs)/\H b=some (.lst zs)/\xs.length+zs.length<=sizeLine/\∀p,H p=none->Q (.ref p) (upd H p (.lst (xs++zs)))
theorem N4:cX X @bF Ti:=by
 intro pins s σ H x y v u Q I F J h;obtain ⟨l,b,xs,zs,rfl,rfl,R,Z,W,q⟩:=h;cases F;cases J;obtain ⟨z,its,n,r,hl,e⟩:=I.lstM R;obtain ⟨z2,G,S,U,Y,O⟩:=I.lstM Z;rwa[PySem.P.add_list e O ?_ (by rw [size_toArray,size_toArray];lia)]
 have j:its.toArray++G.toArray=(its++G).toArray:=by simp
 rw [j];exact ⟨.ref _,_,I.lnew (t':=s.toks) (r.append U) (by rw [length_append];lia),rfl,q _ I.fresh⟩
end
end L2
namespace Att
open PySem PySem.W PySem.Calls PyProof.Rows
theorem pf {P:Params}{h:Heap}:∀(ns:List Int) (vs:List Value),WellAll P h vs @eG->IntsAre vs ns:=by
 intro ns
 induction ns with
 |nil=>
  intro vs w;rw [map_nil] at w;cases w;exact .nil
 |cons n ns ih=>
  intro vs w;rw [map_cons] at w
  cases w with
  |cons a b=>
   cases a;exact .cons _ _ (ih _ b)
theorem CT {l:OpenLaw}{n:Nat}(S:l.most=some n){P:Params}{h:Heap}{z:List WData}{F:List Value}
(j:l.row.toRowW.claim.pre z=true)(O:WellAll P h F z):
 ∃a vs ns,F=[Value.ref a]/\z=[WData.list @eG]/\h.get? a=some {cls:= .type "list",data:= .seq vs.toArray}/\IntsAre vs ns/\ns.length<=n:=by
 have J:WShape.hasAll [] z [.list .int]=true:=(pre_splitW j).1;have R:l.pre.holds [] {args:=z}=true:=(pre_splitW j).2;obtain ⟨d,r,rfl,h1,h2⟩:=hasAllW_cons J;obtain rfl:=hasAllW_nil h2;obtain ⟨xs,rfl,U⟩:=hasW_list h1;obtain ⟨ns,rfl⟩:=items_int U
 have G:ns.length<=n:=by
  unfold OpenLaw.pre at R
  have I:(WTm.not (.lt (.lit (.int (n:Int))) (.len (.arg 0)))).holds [] {args:=[.list (ns.map .int)]}=true:=by
   have I:=(holds_andW R).1;rw [S] at I;exact I
  have Y:=condW_of I (w_not (w_lt w_lit (w_len_list (w_arg rfl))));rw [length_map] at Y;rwa[Nat.le_of_not_lt λq=> ?_]
  have q':(n:Int)<((ns.length:Nat):Int):=by lia
  first
   |(rw [decide_eq_true q'] at Y;exact absurd Y @b)
   |(simp at Y;lia)
 cases O with
 |cons w1 w2=>
  cases w2
  cases w1 with
  |list ho hall=>exact ⟨_,_,ns,rfl,rfl,ho,pf ns _ hall,G⟩
theorem De (l:OpenLaw)(z:List WData):l.row.toRowW.claim.post z (.bool true) z=true:=
 postW_of (r:=l.row.toRowW) (X:=(true==true))
  (show WShape.has [] (.bool true) .bool=true by first|rfl|decide|simp [WShape.has,WShape.arms,WShape.armsAll])
  (show (WTm.eq .res (.lit (.bool true))).value [] {args:=z,res:=some (.bool true),after:=z}=some (.bool (true==true)) from w_eq_bool (w_res rfl) w_lit) rfl
end Att
namespace L2
open PySem PySem.Spec PyProof.Rows
theorem um:∀ {vs:List Value} {ns:List Int},IntsAre vs ns->aJ @cl vs
 |_,_,.nil=> .nil
 |_,_,.cons n t h=> .cons ⟨t,rfl⟩ (um h)
def bB (s:Stmt):Arguments:=match s with
 | .FunctionDef _ a _ _ _ _ _ _ _ _=>a
 |_=> {posonlyargs:=[],args:=[],vararg:=none,kwonlyargs:=[],kw_defaults:=[],kwarg:=none,defaults:=[]}
def be (s:Stmt):List Stmt:=match s with
 | .FunctionDef _ _ b _ _ _ _ _ _ _=>b
 |_=>[]
def ae (s:Stmt):Scope:=match s with
 | .FunctionDef _ _ _ _ _ _ sc _ _ _=>sc
 |_=> {kind:= .function,names:=[],isGenerator:=false,isCoroutine:=false}
abbrev bb:ml:=λ_ _ _ _ _ _=>False
abbrev E0:XK:=λ_ _ _=>False
theorem hV {X:Cx}:fR bb X E0:=λ_ _ _ _ _ _ _ h=>h.elim
structure bo (K:Fg)(x qual:Str)(st:Stmt)(f:Addr)(fd:FuncData):Prop where
 ex:∃(oc:Value) (od:Option Addr) (kV doc pm:Value) (an:Option Addr) (cdv ct:Value) (osl:Array @E),
  fd=W.fnOf x qual @dZ @cO @bX .none kV doc pm an cdv ct/\K.lookup f=some ⟨oc,od,.func fd,osl⟩/\W.codeIn K cdv qual=true
 kp:W.keepIn K (.ref f)=true
section
variable {P:Program}{w:World}{K:Fg}{mg:Str->Option Value}{base:Heap}
theorem bo.ok {x qual:Str}{st:Stmt}{f:Addr}{fd:FuncData}{N ps:List Str}{k:Nat}{sp:Sp}(F:bo K x qual st f fd)(S:ai N ps @bX)(aa:∀vs H Q E,sp vs H Q E->vs.length=ps.length)
(j:∀(cdv:Value) (A:Around) (outer:List Env) (s:Shared) (H:Hp) (vs:List V) (Q:VK) (E:XK),bx k @bk->sp vs H Q E->
   ∃t,sE (io bb P w K mg base N qual @bX f cdv A outer s H E).nox @cO t/\t {nx:=λ_ H'=>Q .non H',rt:=Q} @bj H):av P w K mg base bb (k+1) f fd ps sp:=by
 obtain ⟨R,U,kV,Y,I,J,cdv,Z,ad,rfl,G,z⟩:=F.ex;rwa[HE G z S aa λA outer s H vs Q E W O=> ?_];obtain ⟨t,h,q⟩:=j cdv A outer s H vs Q E W O;exact ⟨t,h.nox,q⟩
theorem bo.binds {x qual:Str}{st:Stmt}{f:Addr}{fd:FuncData}{ps:List Str}(F:bo K x qual st f fd)
(h:∀(kV doc pm:Value) (an:Option Addr) (cdv ct:Value) (us:List Value),us.length=ps.length->bindArgs (W.fnOf x qual @dZ @cO @bX .none kV doc pm an cdv ct) ⟨us,[]⟩=pure @cG):eK K fd ps []:=by
 obtain ⟨R,G,kV,doc,pm,an,cdv,ct,ad,rfl,z,j⟩:=F.ex;exact .all (h kV doc pm an cdv ct)
theorem rH {x qual:Str}{st:Stmt}{f:Addr}{R:Value}{od J:Option Addr}{ad:Array @E}{z Y I j Z:Value}(l:K.lookup f=some ⟨R,od,.func (W.fnOf x qual @dZ @cO @bX .none z Y I J j Z),ad⟩)
(c:W.codeIn K j qual=true)(k:W.keepIn K (.ref f)=true):bo K x qual st f (W.fnOf x qual @dZ @cO @bX .none z Y I J j Z):=⟨⟨R,od,z,Y,I,J,j,Z,ad,rfl,l,c⟩,k⟩
end
theorem LZ {A:Around}{k:Nat}(W:bx k A):A.units+1<cLine:=Nat.lt_of_le_of_lt (Nat.add_le_add_left (by decide:1<=64) _) W.units
def ak (H H':Hp):Prop:=∀b o,H b=some o->H' b=some o
theorem ak.refl (H:Hp):ak H H:=λ_ _ h=>h
theorem ak.trans {H H1 H2:Hp}(a:ak H H1)(b:ak H1 H2):ak H H2:=λc o h=>b c o (a c o h)
theorem ak.free {H H':Hp}(e:ak H H'){l:Addr}(h:H' l=Option.none):H l=Option.none:=by
 cases q:H l with
 |none=>rfl
 |some o=>
  rw [e l o q] at h;cases h
theorem ak.seq {K:Fg}{H H':Hp}{a:Addr}{xs:List V}(e:ak H H')(h:aD K H a xs):aD K H' a xs:=by
 rcases h with (h|⟨o,h⟩)|h
 ·exact .inl (.inl (e _ _ h))
 ·exact .inl (.inr ⟨o,e _ _ h⟩)
 ·exact .inr h
noncomputable def cW (cells:List (Str×Addr)):List (Str×NameKind)->List (Str×Addr)->List (Str×Addr)
 |[],cs=>cs
 |(n,.free)::r,cs=>cW cells r (match cells.lookup n with|some a=>(n,a)::cs|none=>cs)
 |(_,_)::r,cs=>cW cells r cs
theorem nN {j:List (Str×Addr)}{n:Str}{r:List (Str×NameKind)}{cs:List (Str×Addr)}{a:Addr}(h:j.lookup n=some a):cW j ((n,.free)::r) cs=cW j r ((n,a)::cs):=by
 show cW j r (match j.lookup n with|some a=>(n,a)::cs|none=>cs)=_;rw [h]
theorem gL {j:List (Str×Addr)}{n:Str}{k:NameKind}{r:List (Str×NameKind)}{cs:List (Str×Addr)}(h:k≠ .free):cW j ((n,k)::r) cs=cW j r cs:=by
 cases k<;>first|rfl|exact absurd rfl h
theorem lU {j:List (Str×Addr)}:∀ {l:List (Str×NameKind)} {cs:List (Str×Addr)},(∀p∈cs,j.lookup p.1=some p.2)->∀p∈cW j l cs,j.lookup p.1=some p.2
 |[],_,h=>h
 |(n,k)::r,cs,h=>by
  by_cases Y:k= .free
  ·subst Y
   cases e:j.lookup n with
   |none=>
    have:cW j ((n,.free)::r) cs=cW j r cs:=by
     show cW j r (match j.lookup n with|some a=>(n,a)::cs|none=>cs)=_;rw [e]
    rw [this];exact lU h
   |some a=>
    rw [nN e];rwa[lU λp G=> ?_]
    rcases mem_cons.mp G with rfl|G
    ·exact e
    ·exact h p G
  ·rw [gL Y];exact lU h
theorem gM {j:List (Str×Addr)}:∀ {l:List (Str×NameKind)} {cs:List (Str×Addr)} {p:Str×Addr},p∈cs->p∈cW j l cs
 |[],_,_,h=>h
 |(n,k)::r,cs,p,h=>by
  by_cases Y:k= .free
  ·subst Y;show p∈cW j r (match j.lookup n with|some a=>(n,a)::cs|none=>cs)
   cases e:j.lookup n with
   |none=>exact gM h
   |some a=>exact gM (mem_cons_of_mem _ h)
  ·rw [gL Y];exact gM h
theorem rT {j:List (Str×Addr)}{x:Str}{c:Addr}(J:j.lookup x=some c):∀ {l:List (Str×NameKind)} {cs:List (Str×Addr)},(x,NameKind.free)∈l->(x,c)∈cW j l cs
 |(n,k)::r,cs,h=>by
  rcases mem_cons.mp h with e|h2
  ·cases e;rw [nN J];exact gM mem_cons_self
  ·by_cases Y:k= .free
   ·subst Y;show (x,c)∈cW j r (match j.lookup n with|some a=>(n,a)::cs|none=>cs);exact rT J h2
   ·rw [gL Y];exact rT J h2
theorem jG {α β:Type}[BEq α][LawfulBEq α]{x:α}{c:β}:∀ {l:List (α×β)},(x,c)∈l->∃d,l.lookup x=some d
 |(n,a)::r,h=>by
  cases e:x==n with
  |true=>exact ⟨a,by simp only [lookup_cons,e]⟩
  |false=>
   rcases mem_cons.mp h with q|q
   ·cases q;simp at e
   ·obtain ⟨d,G⟩:=jG q;exact ⟨d,by simp only [lookup_cons,e];exact G⟩
theorem nM {j:List (Str×Addr)}{l:List (Str×NameKind)}{x:Str}{c:Addr}(h:(cW j l []).lookup x=some c):j.lookup x=some c:=
 lU (l:=l) (cs:=[]) (λ_ G=>absurd G @e) (x,c) @dH
theorem Ia {j:List (Str×Addr)}{l:List (Str×NameKind)}{x:Str}{c:Addr}(J:j.lookup x=some c)(h:(x,NameKind.free)∈l):(cW j l []).lookup x=some c:=by
 obtain ⟨d,G⟩:=jG (rT (cs:=[]) J h);rw [G,<-J,nM G]
theorem fQ {scope:Scope}{env:Env}(h:∀n,(n,NameKind.free)∈scope.names->∃c,env.cells.lookup n=some c):closureFor scope env=pure @cN:=by
 have z:∀(l:List (Str×NameKind)) (j:List (Str×Addr)),(∀n,(n,NameKind.free)∈l->∃c,env.cells.lookup n=some c)->
  (forIn l j (λ(x:Str×NameKind) (r:List (Str×Addr))=>match x with
    |(name,kind)=>if (kind==NameKind.free)=true then (do let c<-cellOf env name;pure (ForInStep.yield ((name,c)::r))) else (do pure PUnit.unit;pure (ForInStep.yield r))):Sem (List (Str×Addr)))=pure (cW env.cells l j):=by
  intro l
  induction l with
  |nil=>intro j _;rfl
  |cons p r ih=>
   intro j R;obtain ⟨n,k⟩:=p;have W:=ih;by_cases Y:k= .free
   ·subst Y;obtain ⟨c,J⟩:=R n mem_cons_self;rw [nN J];rw [<-ih ((n,c)::j) λm F=>R m (mem_cons_of_mem _ F)];rw [forIn_cons];simp only [cellOf,J,beq_self_eq_true,if_true];rfl
   ·rw [gL Y];rw [<-ih j λm F=>R m (mem_cons_of_mem _ F)];rw [forIn_cons]
    have G:(k==NameKind.free)=false:=by simpa using Y
    simp only [G,Bool.false_eq_true,if_false];rfl
 have e:=z scope.names [] h;unfold closureFor
 first
  |exact congrArg (λm=>m>>=pure) e
  |(simp only [bind_pure];exact e)
  |(rw [show (pure @cN:Sem (List (Str×Addr)))=(pure @cN>>=pure) from rfl,<-e];rfl)
noncomputable def aG (X:Cx)(scope:Scope)(N':List Str)(C:Addr)(s:Shared)(H:Hp)(ex:List Addr):Cx where
 prog:=X.prog
 w:=X.w
 K:=X.K
 mg:=X.mg
 base:=X.base
 A:=X.A
 N:=N'
 s₀:=s
 H₀:=H
 env:=compEnvC scope @cE C X.env
 outer:=X.stack
 stack:=X.stack
 ex:=ex
 fn:=λ_=>false
 calm:=X.calm
 pn:=[]
 xe:=λ_ _=>False
structure bO (X:Cx)(scope:Scope)(N':List Str)(pk:List @x):Prop where
 kind:scope.kind= .function
 nocell:∀y∈scope.names,y.2≠ .cell
 loc:∀y∈scope.names,y.2= .local->scope.names.lookup y.1=some .local
 free:∀n,(n,NameKind.free)∈scope.names->X.env.kindOf n=some .cell\/X.env.kindOf n=some .free
 nofl:∀n,(n,NameKind.free)∈scope.names->scope.names.lookup n≠some .local
 pl:pk.length=N'.length
 pn:∀(j i:Nat) (x:Str),pk[j]? =some (some i)->N'[j]? =some x->X.N[i]? =some x/\(x,NameKind.free)∈scope.names
def bM (pk:List @x)(σ:St):St:=pk.map λo=>o.bind λi=>(σ[i]?).join
theorem q8 {scope:Scope}{env:Env}{x:Str}(S:∀y∈scope.names,y.2≠ .cell)(h:(relabel scope env).names.lookup x=some .cell\/(relabel scope env).names.lookup x=some .free):(x,NameKind.free)∈scope.names:=by
 have I:∀k,(relabel scope env).names.lookup x=some k->(k= .cell\/k= .free)->(x,NameKind.free)∈scope.names:=λk e Y=>by
  have m:=PySem.mem_of_lookup e;obtain ⟨p,G,O⟩:=mem_map.mp m;obtain ⟨n,z⟩:=p;dsimp only at O;by_cases J:(z==NameKind.free&&env.scope.kind== .function&&env.kindOf n==some .cell)=true
  ·rw [if_pos J] at O
   have F:z= .free:=by
    simp only [Bool.and_eq_true] at J;simpa using J.1.1
   have j:n=x:=(Prod.mk.inj O).1;rw [<-j,<-F];exact G
  ·rw [if_neg J] at O;have j:n=x:=(Prod.mk.inj O).1;have R:z=k:=(Prod.mk.inj O).2
   rcases Y with Y|Y
   ·exact absurd (R.trans Y) (S _ G)
   ·rw [<-j,<-Y,<-R];exact G
 rcases h with h|h
 ·exact I _ h (.inl rfl)
 ·exact I _ h (.inr rfl)
section
variable {X:Cx}{pins:List (Addr×Obj)}{σ:St}{H:Hp}{s:Shared}{scope:Scope}{N':List Str}{pk:List @x}{fp:List Addr}
theorem Lc (I:ar X pins σ H s)(S:bO X scope N' pk){C:Addr}(J:s.heap.objs.size<=C)(G:∀b∈fp,gR X pins H b)(F:∀b∈fp,b<s.heap.objs.size):(aG X scope N' C s H fp).Ok where
 mod:=I.ok.mod
 kind:=S.kind
 glob:=I.ok.glob
 blt:=I.ok.blt
 above:=J
 inj:=λx y c h1 h2=>I.ok.inj x y c (nM h1) (nM h2)
 has:=λx h=>by
  have m:(x,NameKind.free)∈scope.names:=q8 S.nocell h;obtain ⟨c,O⟩:=I.ok.has x (S.free x m);exact ⟨c,Ia O m⟩
 cab:=λx c h _=>nomatch h
 hd:=I.ok.hd
 frames:=I.ok.frames
 stk:= .inl rfl
 exf:=λb j=>⟨Nat.ne_of_lt (Nat.lt_of_lt_of_le (F b j) J),λx c e=>(G b j).2.2.2.2.1 x c (nM e)⟩
 bs:=I.bs
 bsz:=Nat.le_trans I.ok.bsz I.sz
 noex:=λb o e j=>by
  rcases (G b j).2.2.2.1 with z|z
  ·exact I.ok.noex b o e z
  ·exact absurd (Nat.lt_of_lt_of_le @U (Nat.le_trans I.ok.bsz z)) @bc
 exfs:=λb j z=>by
  rcases mem_cons.mp @fN with e|e
  ·exact (G b j).2.1 e
  ·exact (G b j).2.2.1 e
 funs:=I.stack
 frf:=I.stkFree
theorem F6 {pk:List @x}{σ:St}{j:Nat}{v:V}(h:(bM pk σ)[j]? =some @bD):∃i,pk[j]? =some (some i)/\σ[i]? =some @bD:=by
 unfold bM at h;rw [getElem?_map] at h
 cases e:pk[j]? with
 |none=>rw [e] at h;cases h
 |some o=>
  rw [e] at h
  cases o with
  |none=>cases h
  |some i=>
   rwa[⟨i,rfl,?_⟩];have h':(σ[i]?).join=some v:=Option.some.inj h
   cases q:σ[i]? with
   |none=>rw [q] at h';cases h'
   |some z=>rw [q] at h';rw [show z=some v from h']
theorem yZ {O:Shared}{C D:Addr}{od:Obj}(I:ar X pins σ H s)(S:bO X scope N' pk)(hC:s.heap.objs.size<=C)(hf:∀b∈fp,gR X pins H b)(ae:∀b∈fp,b<s.heap.objs.size)
(af:O.os=s.os)(hg:O.gens=s.gens)(F:∀b o,s.heap.get? b=some o->O.heap.get? b=some o)(ac:O.heap.Ns C λ_=>none)(hD:s.heap.objs.size<=D)(aa:D≠C)(Z:O.heap.get? D=some od)(ad:∀v,od.data≠ .cell v):
 ar @fW [(D,od)] @z H O where
 ok:=Lc I S hC hf ae
 os:=af
 bare:=by rw [hg];exact I.bare
 base:=Un.kept F
 loc:=⟨_,ac,λj x v h1 h2 J=>by
  obtain ⟨i,e1,e2⟩:=F6 h2;obtain ⟨hN,Y⟩:=S.pn j i x e1 h1;obtain ⟨m,hn,hl⟩:=I.loc;have hk:=S.free x Y;obtain ⟨c,hc⟩:=I.ok.has x hk
  have hv:RU X.env.scope x:=by
   rcases hk with k|k
   ·exact .inr (.inl k)
   ·exact .inr (.inr k)
  obtain ⟨u,r,l⟩:=hl i x v hN e2 hv;rwa[⟨u,r,.inr ⟨?_,c,Ia hc Y,?_⟩⟩]
  ·rcases J with J|J|J
   ·exfalso;have W:(relabel scope X.env).names.lookup x=some .local:=J;obtain ⟨p,hp,e⟩:=mem_map.mp (PySem.mem_of_lookup W);obtain ⟨n,R⟩:=p;dsimp only at e;by_cases G:(R==NameKind.free&&X.env.scope.kind== .function&&X.env.kindOf n==some .cell)=true
    ·rw [if_pos G] at e;exact nomatch (Prod.mk.inj e).2
    ·rw [if_neg G] at e;have en:n=x:=(Prod.mk.inj e).1;have ek:R= .local:=(Prod.mk.inj e).2;have q:=S.loc _ hp ek;have q2:(relabel scope X.env).names.lookup x=some .local:=W;exact S.nofl x Y (by rw [<-en];exact q)
   ·exact .inl J
   ·exact .inr J
  ·rcases l with ⟨k,_⟩|⟨_,c',e,z⟩
   ·rcases hk with R|R<;>(rw [R] at k;cases k)
   ·rw [hc] at e;cases e;obtain ⟨o,U,hd⟩:=z
    exact ⟨o,F _ _ U,hd⟩⟩
 cell:=λx c h=>by
  obtain ⟨v,o,U,hd⟩:=I.cell x c (nM h);exact ⟨v,o,F _ _ U,hd⟩
 free:=I.hok.fresh hC
 freeC:=λx c h=>I.freeC x c (nM h)
 pin:=λp hp=>by
  have e:p=(D,od):=by simpa using (show p∈([]:List (Addr×Obj))++[(D,od)] from hp)
  subst e;rwa[⟨Z,I.hok.fresh hD,aa,λz=> ?_,ad⟩];obtain ⟨_,o,U,_⟩:=I.stack.mem z;exact absurd (Nat.lt_of_lt_of_le (Heap.lt_size U) hD) @bc
 hok:=I.hok.kept F
 len:=by unfold bM;rw [length_map];exact S.pl
end
theorem su {prog:Program}{w:World}{A:Around}{E:Value->Shared->Prop}{s:Shared}{l:Addr}{its:Array Value}{n:Nat}{x:Value}{Q:Value->Shared->Prop}
(e:s.heap.get? l=some {cls:= .type "list",data:= .seq its n})(hsz:its.size<=sizeLine)
(z:∀h' n',h'.get? l=some {cls:= .type "list",data:= .seq (its.push x) n'}->Heap.SameBut l s.heap h'->Q .none {s with heap:=h'}):
 wpAny @q A (call (.builtin "list.append") [.ref l,x]) Q E s:=by
 have R:s.heap.IsList l its:=PySem.IsL.isList e;rwa[wpAny_call_entry slot_list_append R.typeIs entry_list_append ?_ (args_list_append _ _)];show wpAny _ _ (updateSeq l (·.push x)>>=λ_=>ret .none) _ _ s;rwa[wpAny_bind ?_];have q:(s.heap.update l (Obj.mapSeq (·.push x))).get? l=some (Obj.mapSeq (·.push x) {cls:= .type "list",data:= .seq its n}):=Heap.get?_update_self _ e rfl;exact wpAny_updateSeq e rfl (wpAny_pure ⟨.none,rfl,z _ _ q (Heap.SameBut.update ..)⟩)
section
variable {X:Cx}{pins:List (Addr×Obj)}{σ:St}{H H':Hp}{s s':Shared}{scope:Scope}{N':List Str}{pk:List @x}{fp:List Addr}
theorem fh.track {P:Program}{w:World}{H:Hp}{h:Heap}{a:Addr}{o:HO}(x:fh P w H h)(F:H a=none)(j:bp P w @bg h a o):fh P w @bg h:=λb u e=>by
 by_cases z:b=a
 ·subst z;rw [af] at e;cases e;exact j
 ·rw [aj z] at e
  exact (x b u e).stay (λc v _ q=>q) (λc q=>by rw [aj @eD];exact q) λc xs q=>by rw [aj @eD];exact q
theorem fh.but {P:Program}{w:World}{H:Hp}{h h':Heap}{a:Addr}(x:fh P w H h)(F:H a=none)(k:∀b o,b≠a->h.get? b=some o->h'.get? b=some o):fh P w H h':=λb u e=>
 (x b u e).stay (λc v J q=>k c v (by
   rcases J with rfl|J
   ·exact λz=>by rw [z,F] at e;cases e
   ·exact br J F) q) @ds λ_ _ q=>q
theorem rQ {C D:Addr}{h':Heap}{ys:List V}{its:List Value}{n:Nat}{σ':St}{R:List (Addr×Obj)}(I:ar X pins σ H s)(U:∀b∈fp,gR X pins H b)
(J:ar @fW R σ' H' s')(Y:s.heap.objs.size<=C)(hD:s.heap.objs.size<=D)(aa:D≠C)(F:H' D=none)(e:s'.heap.get? D=some {cls:= .type "list",data:= .seq its.toArray n})(r:aJ ys its)
(Z:ys.length<=sizeLine)(sb:Heap.SameBut C s'.heap h'):ar X pins σ @A {s' with heap:=h'}:=by
 have u:Un @dY fp H H' s.heap s'.heap:=J.base;have O:∀b o,b≠C->s'.heap.get? b=some o->h'.get? b=some o:=λb o j q=>(sb.2 b j).trans q;have G:∀b o,s.heap.get? b=some o->b≠C/\b≠D:=λb o q=>⟨Nat.ne_of_lt (Nat.lt_of_lt_of_le @fi Y),Nat.ne_of_lt (Nat.lt_of_lt_of_le @fi hD)⟩;have W:H' C=none:=J.free
 have ag:fh X.prog X.w @A h':=by
  rwa[fh.but (a:=C) (fh.track (h:=s'.heap) J.hok F ⟨Z,its,n,r,e⟩) ?_ O];rw [aj @gt];exact W
 rwa[I.call' (s':= {s' with heap:=h'}) (ch:=fp) J.os ?_ ag J.bare λb j=>⟨(U b j).2.2.2.1,(U b j).2.1,(U b j).2.2.2.2.1,(U b j).2.2.2.2.2⟩];rwa[⟨λb o q n j S=> ?_,λb o q n j S=> ?_,λb o q n S=> ?_,λb o q S=> ?_,λb xs q=> ?_,λb o xs q=> ?_,λb ps q=> ?_⟩]
 ·exact O b o (G b o q).1 (u.keep b o q n j S)
 ·obtain ⟨sl,z⟩:=u.slot b o q n j S;exact ⟨sl,O b _ (G b o q).1 z⟩
 ·rw [aj (G b o q).2];exact u.free b o q n S
 ·obtain ⟨o',z⟩:=u.there b o q S;exact ⟨o',O b o' (G b o q).1 z⟩
 ·have z:=u.tups b xs q;rw [aj (br z F)];exact z
 ·have z:=u.frzs b o xs q;rw [aj (br z F)];exact z
 ·obtain ⟨m,z⟩:=u.tbls b ps q;exact ⟨m,by rw [aj (br z F)];exact z⟩
end
def Ea (X:Cx)(es:List Expr)(t:TT):Prop:=
 ∀(pins:List (Addr×Obj)) (s:Shared) (σ:St) (H:Hp) (Q:Bool->Hp->Prop),ar X pins σ H s->t σ H Q->
  wpAny @d X.A (forIn es true λc r=>if r=true then do let ok<-isTrue c X.env (eval c X.env);pure (ForInStep.yield ok) else pure (ForInStep.yield r)) @dQ X.xe s
def Qv:TT:=λ_ H Q=>Q true H
theorem bA {X:Cx}:Ea X [] Qv:=λpins s σ H Q I h=>wpAny_tests_nil ⟨H,I,h⟩
theorem eh {X:Cx}{c:Expr}{t:TT}(h:PT X c t):Ea X [c] t:=λpins s σ H Q I R=>wpAny_tests_one (h pins s σ H Q I R)
def pA (σ σ':St):Prop:=σ'.length=σ.length/\∀(i:Nat) v,σ[i]? =some @bD->σ'[i]? =some @bD
def E3 (pk:List @x)(wi:TI)(g:TG)(tt:TT)(te:TE):TE:=λσ H Q=>wi σ H λJ H1=>∃W:Nat->Nat->List V->Hp->Prop,(∃m,W 0 m [] H1)/\∀i m ys H,W i m ys H->
 (J.stop i H/\ys.length<=sizeLine/\∀p,H p=none->Q (.ref p) @F)\/
 (J.go i H/\ys.length<sizeLine/\∃N:List V->Hp->Prop,(∀zs H',N zs H'->∃m',m'<m/\W (i+1) m' zs H')/\∀x H',J.yld i H x H'->g x @z H' λσ2 H2=>pA @z σ2/\tt σ2 H2 λb H3=>
   if b=true then te σ2 H3 λv H4=>N (ys++[v]) H4 else N ys H3)
structure zx (P:Program)(w:World)(K:Fg)(A₀:Around)(c:Bool)(tg:Expr)(J:It)(fp:List Addr)(it:Addr)(tn:Nat->Heap->Prop):Prop where
 mem:it∈fp
 obj:∀i h,tn i h->∀b∈fp,∃o,h.get? b=some o/\∀v,o.data≠ .cell v
 keep:∀i h h',tn i h->(∀b∈fp,∀o,h.get? b=some o->h'.get? b=some o)->tn i h'
 item:∀(X:Cx),X.prog=P->X.w=w->X.K=K->X.A=A₀->X.calm=c->∀(i:Nat) (pins:List (Addr×Obj)) (s:Shared) (σ:St) (H:Hp) (E:Value->Shared->Prop),ar X pins σ H s->(∀b∈fp,gR X pins H b)->tn i s.heap->J.go i H->
  wpAny @X X.A @cz (λr s1=>∃u,r=some u/\
   wpAny @X X.A @cB (λ_ s2=>∃x H',ar X pins σ H' s2/\aA x u/\J.yld i H x H'/\tn (i+1) s2.heap/\∀b∈fp,H' b=none) E s1) E s
 done:∀(X:Cx),X.prog=P->X.w=w->X.K=K->X.A=A₀->X.calm=c->∀(i:Nat) (pins:List (Addr×Obj)) (s:Shared) (σ:St) (H:Hp) (E:Value->Shared->Prop),ar X pins σ H s->(∀b∈fp,gR X pins H b)->tn i s.heap->J.stop i H->
  wpAny @X X.A @cz (λr s1=>r=none/\ar X pins σ H s1) E s
 self:∀(A:Around) (i:Nat) (s:Shared) (Q:Value->Shared->Prop) (E:Value->Shared->Prop),tn i s.heap->Q (.ref it) s->wpAny @X A (pyIter (.ref it)) Q E s
theorem xf.toA {P:Program}{w:World}{K:Fg}{F:Around}{c:Bool}{tg:Expr}{J:It}{fp:List Addr}{it:Addr}{j:Nat->Heap->Prop}(T:xf P w K tg J fp it j)(z:c=true):zx P w K F c tg J fp it j:=
 ⟨T.mem,T.obj,T.keep,λX h1 h2 S _ Y=>T.item X h1 h2 S (Y.trans z),λX h1 h2 S _ Y=>T.done X h1 h2 S (Y.trans z),T.self⟩
def RW (X:Cx)(pins:List (Addr×Obj))(σ:St)(tg:Expr)(R:It->Hp->Prop)(itv:Value)(s2:Shared):Prop:=
 ∃(it:Addr) (fp:List Addr) (tn:Nat->Heap->Prop) (J:It) (H':Hp),itv= .ref it/\ar X pins σ H' s2/\zx X.prog X.w X.K X.A X.calm tg J fp it tn/\tn 0 s2.heap/\(∀b∈fp,gR X pins H' b)/\R J H'
def Sg (X:Cx)(tg iter:Expr)(t:TI):Prop:=
 ∀(pins:List (Addr×Obj)) (s:Shared) (σ:St) (H:Hp) (R:It->Hp->Prop),ar X pins σ H s->t σ H R->
  wpAny @d X.A @eQ (λv s1=>wpAny @d X.A (pyIter v) (RW X pins σ tg R) X.xe s1) X.xe s
theorem PI.toA {X:Cx}{tg iter:Expr}{t:TI}(h:PI X tg iter t)(G:X.calm=true):Sg X tg iter t:=λpins s σ H R I q=>
 bv (h pins s σ H R I q) λv O h1=>bv h1 λah S ⟨j,fp,z,J,H2,e,F,T,r⟩=>⟨j,fp,z,J,H2,e,F,T.toA G,r⟩
set_option maxHeartbeats 4000000 in
theorem rR {X:Cx}{pins:List (Addr×Obj)}{σ:St}{H:Hp}{F:Shared}{scope:Scope}{N':List Str}{pk:List @x}{fp:List Addr}{tg elt iter:Expr}{ifs:List Expr}{pos:Pos}{g:TG}{tt:TT}{te:TE}
{J:It}{it:Addr}{tn:Nat->Heap->Prop}{R:Value->Addr->Result->Shared->Prop}{E:Value->Shared->Prop}{Q:VK}
(S:bO X scope N' pk)(hg:∀C s H ex,PG @i tg g)(ht:∀C s H ex,Ea @i ifs tt)(he:∀C s H ex,PE @i elt te)
(I:ar X pins σ H F)(T:zx X.prog X.w X.K X.A X.calm tg J fp it tn)(st:tn 0 F.heap)(hf:∀b∈fp,gR X pins H b)
(hW:∃W:Nat->Nat->List V->Hp->Prop,(∃m,W 0 m [] H)/\∀i m ys H,W i m ys H->
   (J.stop i H/\ys.length<=sizeLine/\∀p,H p=none->Q (.ref p) @F)\/
   (J.go i H/\ys.length<sizeLine/\∃N:List V->Hp->Prop,(∀zs H',N zs H'->∃m',m'<m/\W (i+1) m' zs H')/\∀x H',J.yld i H x H'->g x @z H' λσ2 H2=>pA @z σ2/\tt σ2 H2 λb H3=>
     if b=true then te σ2 H3 λv H4=>N (ys++[v]) H4 else N ys H3))
(hR:∀(C D:Addr) (s':Shared) (ys:List V) (H':Hp),(∃m,s'.heap.Ns C m)->Q (.ref D) @A->(∀h',Heap.SameBut C s'.heap h'->ar X pins σ @A {s' with heap:=h'})->F.heap.objs.size<=C->upd H' D (.lst ys) C=none->
   R (.ref D) C (.ok .next) s'):
 wpAny @d X.A @gn (λacc s₃=>wpAny @d X.A (newFunctionEnv scope X.env.globals @cE [] X.env.qual none .none (some X.env)) (λcenv s₄=>
  codeAny @d X.A (.compStart (.ListComp elt [⟨tg,iter,ifs,0⟩] scope pos) 0 (.ref it) acc {cenv with scope:=relabel scope X.env}) (R acc cenv.locals) s₄) E s₃) E F:=by
 obtain ⟨W,⟨m0,w0⟩,ap⟩:=hW;rwa[wpAny_newObj_type (wpAny_newFunctionEnv S.nocell (by intro y hy;simp at hy) (λh₁ ae aa=> ?_) S.kind)];dsimp only at ae aa ⊢;generalize am:F.heap.push {cls:= .type "list",dict:=none,data:= .seq ([]:List Value).toArray}=H2 at ae aa ⊢
 have hC:H2.objs.size=F.heap.objs.size+1:=by rw [<-am,Heap.size_push]
 have ac:F.heap.objs.size≠H2.objs.size:=by rw [hC];exact Nat.ne_of_lt @br
 have Y:F.heap.objs.size<=H2.objs.size:=by rw [hC];exact Nat.le_succ _
 have ay:∀b o,F.heap.get? b=some o->h₁.get? b=some o:=λb o e=>
  aa.extBut b o (Nat.ne_of_lt (Nat.lt_of_lt_of_le @U Y)) (Heap.get?_push_of_some _ (am▸Heap.get?_push_of_some _ e))
 have ax:h₁.get? F.heap.objs.size=some {cls:= .type "list",data:= .seq ([]:List Value).toArray}:=
  aa.extBut _ _ ac (Heap.get?_push_of_some _ (am▸Heap.get?_push_size _ rfl))
 have ao:∀b∈fp,b<F.heap.objs.size:=λb O=>by
  obtain ⟨o,e,_⟩:=T.obj 0 _ st b O;exact Heap.lt_size e
 have as:tn 0 h₁:=T.keep 0 _ _ st λb _ o e=>ay b o e;have aI:X.env.locals≠H2.objs.size:=Nat.ne_of_lt (Nat.lt_of_lt_of_le I.lt Y);generalize aH:H2.objs.size=C at *;generalize an:F.heap.objs.size=D at *
 have Z:F.heap.objs.size<=D:=by rw [an];exact Nat.le_refl _
 have ad:F.heap.objs.size<=C:=by rw [an];exact Y
 have ah:∀s₃:Shared,s₃= {F with heap:=h₁,toks:=F.toks+([]:List (Str×Value)).length}->
  codeAny @d X.A (.compLoop (.ListComp elt [⟨tg,iter,ifs,0⟩] scope pos) 0 (.ref it) (.ref D) @l) (R (.ref D) C) s₃:=by
  rintro s₃ rfl
  refine codeAny_loop rfl (λn s'=>∃i H' ys its k,ar @n [(D,{cls:= .type "list",data:= .seq its k})] @z H' s'/\aJ ys its.toList/\tn i s'.heap/\(∀b∈fp,H' b=none)/\W i n ys H') ?_ m0
   ⟨0,H,[],#[],0,yZ I S ad hf (λb O=>by rw [an];exact ao b O) rfl rfl ay (by simpa using ae) Z ac ax (λv z=>nomatch z),.nil,as,λb O=>(hf b O).1,w0⟩
  rintro n s3 ⟨i,H3,ys,its,k,I3,af,au,aA,w3⟩;show wpAny _ _ ((compTurn (.ListComp elt [⟨tg,iter,ifs,0⟩] scope pos) 0 (.ref it) (.ref D) @l).onRaise (λx=>do noteFrame x @l;theTreesLotGoes x)) _ _ s3;rwa[wpAny_noted ?_];rw [compTurn_list];have G:∀ {α:Type} {t:Sem α} {Q':α->Shared->Prop} {E':Value->Shared->Prop} {s':Shared},wpAny @d X.A t Q' @bn s'->wpAny @d X.A t Q' E' s':=λh=>wpAny_mono h (λ_ _ x=>x) λ_ _ x=>x.elim
  have ak:∀ {H':Hp} {j},(∀b∈fp,H' b=none)->(∀p∈j,p.1=D)->∀b∈fp,gR @n j H' b:=λ{H' j} hn hp b O=>
   ⟨hn b O,(I3.ok.exf b O).1,I3.ok.exfs b O,.inl O,(I3.ok.exf b O).2,λp aD z=>by
     have aF:p∈j:=by simpa using (show p∈([]:List (Addr×Obj))++j from aD)
     have q:=ao b O;rw [<-z,hp p aF] at q
     exact Nat.lt_irrefl _ q⟩
  have U:∀p∈[(D,({cls:= .type "list",data:= .seq its k}:Obj))],p.1=D:=λp hp=>by
   have e:p=(D,({cls:= .type "list",data:= .seq its k}:Obj)):=by simpa using hp
   rw [e]
  have ag:∀ {j:List (Addr×Obj)} {σ' H' s'},ar @n j σ' H' s'->(D,({cls:= .type "list",data:= .seq its k}:Obj))∈j->s'.heap.get? D=some {cls:= .type "list",data:= .seq its k}/\H' D=none:=λ{j σ' H' s'} J hm=>by
   obtain ⟨a1,a2,_⟩:=J.pin _ (show (D,({cls:= .type "list",data:= .seq its k}:Obj))∈([]:List (Addr×Obj))++j by simpa using hm);exact ⟨a1,a2⟩
  rwa[wpAny_bind @cF]
  rcases ap i n ys H3 w3 with ⟨az,hz,qn⟩|⟨go,hz,N,hN,av⟩
  ·rwa[G (bv (T.done @n rfl rfl rfl rfl rfl i _ s3 _ H3 @bn I3 (ak aA U) au az) λr s4 ⟨hr,I4⟩=> ?_)];subst hr;rwa[wpAny_pure ?_];obtain ⟨a1,a2⟩:=ag I4 @e;obtain ⟨mC,aB,_⟩:=I4.loc;exact hR C D s4 ys H3 ⟨mC,aB⟩ (qn D a2) (λh' sb=>rQ I hf I4 ad Z ac a2 (its:=its.toList) (n:=k) (by simpa using a1) af hz sb) Y (by rw [aj (Ne.symm ac)];exact I4.free)
  ·rwa[G (bv (T.item @n rfl rfl rfl rfl rfl i _ s3 _ H3 @bn I3 (ak aA U) au go) λr s4 ⟨u,hr,h4⟩=> ?_)];subst hr;rwa[wpAny_bind (G (bv h4 λ_ s5 ⟨x,H5,I5,r5,y5,al,aE⟩=> ?_))];have I5':=I5.pinned (ak aE U) (T.obj _ _ al);rwa[wpAny_bind (G (bv (hg C F H fp _ s5 _ H5 x u _ I5' r5 (av x H5 y5)) λ_ s6 ⟨σ6,H6,I6,aw,q6⟩=> ?_))];rwa[wpAny_bind (G (bv (ht C F H fp _ s6 σ6 H6 _ I6 q6) λb s7 ⟨H7,I7,q7⟩=> ?_))]
   have ai:∀ {H':Hp} {s':Shared},ar @n ([(D,{cls:= .type "list",data:= .seq its k})]++kj fp s5.heap) σ6 H' s'->
    ar @n [(D,{cls:= .type "list",data:= .seq its k})] @z H' s'/\tn (i+1) s'.heap/\∀b∈fp,H' b=none:=λ{H' s'} I7=>by
    rwa[⟨I7.unpinned.weak aw.1.symm aw.2,T.keep _ _ _ al λb O o e=>(I7.pin (b,o) @W).1,λb O=> ?_⟩];obtain ⟨o,e,d⟩:=T.obj _ _ al b O;exact (I7.pin (b,o) @W).2.1
   cases b with
   |false=>
    rw [if_neg Bool.false_ne_true] at q7;obtain ⟨m',hm,w7⟩:=hN _ _ q7;obtain ⟨J7,t7,f7⟩:=ai I7;rw [if_neg Bool.false_ne_true]
    first
     |exact wpAny_pure ⟨rfl,m',hm,i+1,H7,ys,its,k,J7,af,t7,f7,w7⟩
     |exact wpAny_bind (wpAny_pure (wpAny_pure ⟨rfl,m',hm,i+1,H7,ys,its,k,J7,af,t7,f7,w7⟩))
   |true=>
    rw [if_pos rfl] at q7;rw [if_pos rfl];rwa[wpAny_bind (wpAny_bind (G (bv (he C F H fp _ s7 σ6 H7 _ I7 q7) λy s8 ⟨v,H8,I8,r8,n8⟩=> ?_)))];obtain ⟨m',hm,w8⟩:=hN _ _ n8;obtain ⟨J8,t8,f8⟩:=ai I8;obtain ⟨a1,a2⟩:=ag J8 @e
    have aC:its.size<=sizeLine:=by
     have e:=af.length
     have e2:its.toList.length=its.size:=by simp
     lia
    rwa[wpAny_bind (su a1 aC λh' k' e' sb=> ?_)]
    have J9:ar @n [] @z H8 {s8 with heap:=h'}:=
     ar.turned (t':=s8.toks) (it:=D) (J8.pins_of λp hp=>nomatch hp) (λb o O e=>(sb.2 b O).trans e) a2 ac (.inr Z) (λx c e z=>by
      obtain ⟨w',o,ho,hd⟩:=J8.cell x c e
      rw [z,a1] at ho;cases ho;cases hd) λp hp=>nomatch (show p∈([]:List (Addr×Obj))++[] from hp)
    have J10:ar @n [(D,{cls:= .type "list",data:= .seq @fe k'})] @z H8 {s8 with heap:=h'}:=
     J9.pins_of λp hp=>by
      have e:p=(D,({cls:= .type "list",data:= .seq @fe k'}:Obj)):=by simpa using hp
      subst e;rwa[⟨e',a2,ac,λz=> ?_,λv z=>nomatch z⟩];obtain ⟨_,o,ho,_⟩:=I.stack.mem z;exact absurd (Nat.lt_of_lt_of_le (Heap.lt_size ho) Z) @bc
    have t9:tn (i+1) h':=T.keep _ _ _ t8 λb O o e=>(sb.2 b (λz=>Nat.lt_irrefl D (by have:=ao b O;rw [z] at this;exact this))).trans e
    have aq:aJ (ys++[v]) (its.push y).toList:=by
     rw [Array.toList_push];exact aJ.append af (.cons r8 .nil)
    first
     |exact wpAny_pure (wpAny_pure ⟨rfl,m',hm,i+1,H8,ys++[v],its.push y,k',J10,aq,t9,f8,w8⟩)
     |exact wpAny_bind (wpAny_pure (wpAny_pure ⟨rfl,m',hm,i+1,H8,ys++[v],its.push y,k',J10,aq,t9,f8,w8⟩))
 exact codeAny_compStart_list (ah _ rfl) (T.self _ 0 _ _ _ as (ah _ rfl))
section
variable {X:Cx}{scope:Scope}{N':List Str}{pk:List @x}{tg elt iter:Expr}{ifs:List Expr}{pos:Pos}{wi:TI}{g:TG}{tt:TT}{te:TE}
theorem yk (S:bO X scope N' pk)(hi:Sg X tg iter wi)(hg:∀C s H ex,PG @i tg g)(G:∀C s H ex,Ea @i ifs tt)
(Z:∀C s H ex,PE @i elt te)(hs:∀x,foldedSetIterable iter X.env x=pure x:=by intro _;rfl):PE X (.ListComp elt [⟨tg,iter,ifs,0⟩] scope pos) @eH:=by
 intro pins s σ H Q I h;rw [eval_ListComp];rwa[wpAny_comprehension_free (use:=none) rfl hs (fQ λn F=>I.ok.has n (S.free n F)) S.kind S.loc ?_];rwa[bv @dV λv s1 h1=>bv h1 λah s2 h2=> ?_];obtain ⟨it,fp,tn,J,H2,e,U,T,ag,O,W⟩:=h2;subst e;rwa[rR (R:=λj C=>compPost @d X.A X.xe none @w j C) S hg G Z U T ag O W ?_];intro C D s' ys H' F q hv _ _;obtain ⟨m,z⟩:=F;exact ⟨m,z,λh' Y=>⟨.ref D,_,hv h' Y,rfl,q⟩⟩
theorem JU (j:X.calm=true)(S:bO X scope N' pk)(hi:PI X tg iter wi)(Y:∀C s H ex,PG @i tg g)(J:∀C s H ex,Ea @i ifs tt)
(U:∀C s H ex,PE @i elt te)(hs:∀x,foldedSetIterable iter X.env x=pure x:=by intro _;rfl):PE X (.ListComp elt [⟨tg,iter,ifs,0⟩] scope pos) @eH:=yk S (hi.toA j) Y J U hs
theorem JK {i:Nat}{x:Str}{G j:Pos}(hc:X.calm=true)(hN:X.N.Nodup)(hx:X.N[i]? =some x)(hl:LA X.env.scope x)(S:bO X scope N' pk)(hi:PI X tg iter wi)(hg:∀C s H ex,PG @i tg g)
(ht:∀C s H ex,Ea @i ifs tt)(he:∀C s H ex,PE @i elt te)(hs:∀x,foldedSetIterable iter X.env x=pure x:=by intro _;rfl)
(ac:swapsWith (.ListComp elt [⟨tg,iter,ifs,0⟩] scope pos) (some (.Name x G)) j.line X.env=pure true:=by rfl)(hf:X.fn x=true\/X.env.scope.names.lookup x=some .local:=by first|exact .inl rfl|exact .inr rfl|assumption):
 PS X (.Assign [.Name x G] (.ListComp elt [⟨tg,iter,ifs,0⟩] scope pos) j) (E4 @eH (jJ i)):=by
 intro pins s σ H D0 I h;rw [exec_Assign_Name_used _ _ _ _ ac];rwa[wpAny_bind @cF];show wpAny _ _ (comprehension (.ListComp elt [⟨tg,iter,ifs,0⟩] scope pos) scope X.env (firstIterPos [⟨tg,iter,ifs,0⟩] pos) @gn false @eQ (some @dd)>>=λ_=>pure ()) _ _ s;rwa[wpAny_bind (wpAny_comprehension_free (use:=some @dd) rfl hs (fQ λn hn=>I.ok.has n (S.free n hn)) S.kind S.loc ?_)];rwa[bv ((hi.toA hc) pins s σ H _ I h) λv s1 h1=>bv h1 λah s2 h2=> ?_];obtain ⟨it,fp,tn,J,H2,e,F,T,ag,f2,hW⟩:=h2;subst e;rwa[rR (Q:=λx H1=>jJ i x σ H1 D0.nx) (R:=λad C=>compPost @d X.A X.xe (some @dd) _ ad C) S hg ht he F T ag f2 hW ?_];intro C D s' ys H' hn q hv Y W;obtain ⟨m,hm⟩:=hn;have I':ar X pins σ @A s':=hv s'.heap (Heap.SameBut.refl ..);rwa[wpAny_assign_Name (uu (v:= .ref D) I' hN hx hl rfl (λaa I'' ch=> ?_) hf)];obtain ⟨a,sb,O⟩:=ch
 have Z:C≠a:=by
  rcases O with O|O
  ·rw [O];exact Nat.ne_of_gt (Nat.lt_of_lt_of_le F.lt Y)
  ·obtain ⟨v,z⟩:=F.cell x a O;exact Nat.ne_of_gt (Nat.lt_of_lt_of_le z.lt Y)
 rwa[⟨m,hm.sameBut sb Z,λh' U=>wpAny_pure (wpAny_pure ⟨_,_,?_,q⟩)⟩];rwa[ar.turned (t':=aa.toks) (it:=C) I'' (λb o hb e=>(U.2 b hb).trans e) W (Nat.ne_of_gt (Nat.lt_of_lt_of_le F.lt Y)) (.inr (Nat.le_trans F.sz Y)) (λy c e z=> ?_) λp hp z=> ?_]
 ·obtain ⟨v,q⟩:=F.cell y c e;exact absurd (Nat.lt_of_lt_of_le q.lt Y) (by rw [z];exact Nat.lt_irrefl _)
 ·exact absurd (Nat.lt_of_lt_of_le (Heap.lt_size (F.pin p hp).1) Y) (by rw [z];exact Nat.lt_irrefl _)
end
theorem bZ {pk:List @x}{σ:St}{x:V}:pA (bM (none::pk) σ) ((bM (none::pk) σ).set 0 (some x)):=by
 rwa[⟨by simp,λi v h=> ?_⟩]
 cases i with
 |zero=>exact nomatch (show (none:Option V)=some v from Option.some.inj h)
 |succ i=>simpa [bM] using h
section
variable {X:Cx}
def cV:V->Option Value
 | .ty n=>some (.type n)
 | .ref C=>some (.ref C)
 |_=>none
theorem Me {c:V}{t u:Value}(h:cV c=some t)(r:aA c u):u=t:=by
 cases c with
 |ty n=>cases h;exact r
 |ref C=>cases h;exact r
 |_=>cases h
theorem y9:bc X (.builtin "isinstance") (λxs H Q=>∃x c cv t b,xs=[x,c]/\cV c=some cv/\jC X.K H x t/\W.kitOne X.K t cv=some b/\Q (.bl b) H):=by
 intro pins s σ H xs j Q I r h;obtain ⟨x,c,cv,t,b,rfl,J,ty,e,q⟩:=h;obtain ⟨u,G,rfl,F,U⟩:=BG r;cases Me J U;exact DL I F ty e λtk=>⟨.bl b,H,I.tok _,rfl,q⟩
theorem zr {bs:List Bool}:∀ {us:List Value},aJ @bm us->LSm.BoolsAre us bs:=by
 induction bs with
 |nil=>intro us r;rw [map_nil] at r;cases r;exact .nil
 |cons b bs ih=>
  intro us r;rw [map_cons] at r
  cases r with
  |cons r1 r2=>cases r1;exact .cons b (ih r2)
theorem D7 (O:X.calm=true):bc X (.builtin "all") (λxs H Q=>∃(a:Addr) (bs:List Bool),xs=[.ref a]/\aD X.K H a @bm/\Q (.bl @gI) H):=by
 intro pins s σ H xs Z Q I r h;obtain ⟨a,bs,rfl,G,q⟩:=h;obtain ⟨u,rfl,J⟩:=fC r;cases J;obtain ⟨its,S,pl,hz⟩:=I.list G;have R:s.heap.IsList a its.toArray:=pl.isList;have j:=zr S
 have z:a<s.heap.objs.size:=by obtain ⟨_,e,_⟩:=R;exact Heap.lt_size e
 rwa[call_all_walk (wpAny_pyIter_list R ?_)]
 refine ⟨s.heap.objs.size,[s.heap.objs.size,a],[s.heap.objs.size],its.toArray.size,_,_,λi=>(bs[i]?).getD true,rfl,Walks.list (A:=X.A.in1) (I.ok.hd O) _ a (Nat.ne_of_lt z) its.toArray,
  ⟨⟨_,Heap.get?_push_size _ rfl,rfl,rfl⟩,R.push _⟩,λi v s' Q' U W F=> ?_,λh' tk Y=> ?_⟩
 ·obtain ⟨b,e,rfl⟩:=j.get i v (by simpa using W);simp only [e,Option.getD_some] at F;exact wpAny_truthy_bool F
 ·have e:((List.range its.toArray.size).all λi=>(bs[i]?).getD true)=bs.all id:=by
   rw [size_toArray,j.length];exact LSm.range_all bs
  rw [e];exact ⟨.bl _,H,I.kept (LSm.kept_iter Y),rfl,q⟩
def LC (x:Str):It:=⟨λi _=>i<x.cps.size,λi H v H'=>H'=H/\∃c,x.cps[i]? =some c/\v= .str ⟨#[c]⟩,λi _=>x.cps.size<=i⟩
theorem uq {P:Program}{w:World}{K:Fg}{tg:Expr}{it:Addr}{x:Str}{t:Tok}{T:String}(O:T="str_ascii_iterator"\/T="str_iterator"):
 xf P w K tg (LC x) [it] it (λi h=>i<=x.cps.size/\h.IsStrIter it T x t i) where
 mem:=by simp
 obj:=λi h st b j=>by
  have e:b=it:=by simpa using j
  subst e;obtain ⟨o,U,J,hd⟩:=st.2;exact ⟨o,U,λv z=>by rw [hd] at z;cases z⟩
 keep:=λi h h' st k=>⟨st.1,let ⟨o,U,r⟩:=st.2;⟨o,k it @e o U,r⟩⟩
 item:=by
  intro X hP hw hK J i pins s σ H E I G st Y;subst hP hw hK;obtain ⟨f0,f1,f2,Z,f4,S⟩:=G it @e
  have W:Walks X.prog X.w X.A it [it] [it] x.cps.size (SignAt x) (λi h=>h.IsStrIter it T x t i):=by
   rcases O with rfl|rfl
   ·exact Walks.strAscii @dc it x t
   ·exact Walks.strWide @dc it x t
  rwa[W.item i s _ _ Y st.2 λv h' tk hv F R=> ?_];obtain ⟨c,u,hx,rfl⟩:=hv;have I1:ar X pins σ H {s with heap:=h',toks:=tk}:=I.turned (λb o j e=>R b o (by simpa using j) e) f0 f1 Z f4 S;obtain ⟨o,U,aa,hd⟩:=id F;exact ⟨_,rfl,yI (s:= {s with heap:=h',toks:=tk}) U aa hd (by rcases O with rfl|rfl<;>decide) ⟨.str ⟨#[c]⟩,H,I1,⟨_,rfl⟩,⟨rfl,c,hx,rfl⟩,⟨Y,F⟩,λb j=>(G b j).1⟩⟩
 done:=by
  intro X hP hw hK J i pins s σ H E I G st Y;subst hP hw hK;obtain ⟨f0,f1,f2,Z,f4,S⟩:=G it @e
  have W:Walks X.prog X.w X.A it [it] [it] x.cps.size (SignAt x) (λi h=>h.IsStrIter it T x t i):=by
   rcases O with rfl|rfl
   ·exact Walks.strAscii @dc it x t
   ·exact Walks.strWide @dc it x t
  have e:i=x.cps.size:=Nat.le_antisymm st.1 Y;subst e;exact W.done s _ _ st.2 λh' tk R=>⟨rfl,I.turned (λb o j e=>R b o (by simpa using j) e) f0 f1 Z f4 S⟩
 self:=λA i s Q E st h=>by
  rcases O with rfl|rfl
  ·exact wpAny_pyIter_striter_ascii st.2 h
  ·exact wpAny_pyIter_striter_wide st.2 h
theorem K4 {x:Str}{g:TG}{tb:TS}{D:jD}{σ:St}{H:Hp}(j:Nat->St->Hp->Prop)(I:j 0 σ H)
(hs:∀(i:Nat) (c:Nat) σ H,x.cps[i]? =some c->j i σ H->g (.str ⟨#[c]⟩) σ H λσ2 H2=>tb {D with nx:=j (i+1),ct:=j (i+1),bk:=D.nx} σ2 H2)(G:∀σ H,j x.cps.size σ H->D.nx σ H):
 ∃W:Nat->Nat->St->Hp->Prop,(∃m,W 0 m σ H)/\∀i m σ H,W i m σ H->
  ((LC x).stop i H/\D.nx σ H)\/((LC x).go i H/\∃N:St->Hp->Prop,(∀σ' H',N σ' H'->∃m',m'<m/\W (i+1) m' σ' H')/\∀x' H',(LC x).yld i H x' H'->g x' σ H' λσ2 H2=>tb {D with nx:=N,ct:=N,bk:=D.nx} σ2 H2):=by
 rwa[⟨λi m σ H=>m=x.cps.size - i/\i<=x.cps.size/\j i σ H,⟨x.cps.size,by simp,Nat.zero_le _,I⟩,?_⟩];rintro i m σ H ⟨rfl,hi,p⟩;by_cases z:i<x.cps.size
 ·rwa[.inr ⟨z,j (i+1),λσ' H' F=>⟨x.cps.size - (i+1),by lia,rfl,z,F⟩,λv H' y=> ?_⟩];obtain ⟨e,c,J,Y⟩:=y;subst e Y;exact hs i c σ _ J p
 ·have e:i=x.cps.size:=by lia
  subst e;exact .inl ⟨Nat.le_refl _,G σ H p⟩
theorem Jn {ts:List Str}:∀ {us:List Value},aJ @dy us->∃l:List (Str×Tok),us=strValues l/\l.map (·.1)=ts:=by
 induction ts with
 |nil=>intro us r;rw [map_nil] at r;cases r;exact ⟨[],rfl,rfl⟩
 |cons b bs ih=>
  intro us r;rw [map_cons] at r
  cases r with
  |cons r1 r2=>
   obtain ⟨t,rfl⟩:=r1;obtain ⟨l,rfl,e⟩:=ih r2;exact ⟨(b,t)::l,rfl,by rw [map_cons,e]⟩
theorem G0:xg X "str.join" (λx xs H Q=>∃z a ts,x= .str z/\xs=[.ref a]/\aD X.K H a @dy/\(ts.toArray.foldl (· + ·.length+z.length) 0)<=sizeLine/\(Builtin.Str.glued z ts).length<=sizeLine/\Q (.str @cr) H):=by
 intro pins s σ H x xs v Y Q I J U h;obtain ⟨z,a,ts,rfl,rfl,G,O,j,q⟩:=h;obtain ⟨t,rfl⟩:=J;obtain ⟨u,rfl,S⟩:=fC U;cases S;obtain ⟨its,W,pl,_⟩:=I.list G;obtain ⟨l,rfl,R⟩:=Jn W;rwa[call_meets F.slot_str_join @du F.entry_str_join (F.args_str_join_2 _ _) (meets_str_join_list z t a l ?_) ⟨pl.isList,?_⟩]
 ·rw [R];exact qY O
 ·subst R
  cases l with
  |nil=>exact ⟨j,.str _,H,I.tok _,⟨_,rfl⟩,q⟩
  |cons p r=>
   cases r with
   |nil=>exact ⟨.str _,H,I,⟨p.2,rfl⟩,q⟩
   |cons p2 r=>exact ⟨j,.str _,H,I.tok _,⟨_,rfl⟩,q⟩
theorem D3:bc X (.type "int") (λxs H Q=>∃x n,xs=[.str x]/\PySem.intText? x=some n/\x.length<=640/\Q (.int n) H):=by
 intro pins s σ H xs j Q I r h;obtain ⟨x,n,rfl,F,R,q⟩:=h;obtain ⟨u,rfl,t,rfl⟩:=fC r;exact PySem.W.KIN.call_text F R ⟨.int n,H,I.tok _,⟨_,rfl⟩,q⟩
theorem AJ:cX X @fj (λx y H Q=>∃z n,x= .str z/\y= .int n/\1<n/\n<=1000/\0<z.length/\z.length<=1000/\Q (.str ⟨(List.replicate n.toNat z.cps).foldl (· ++ ·) #[]⟩) H):=by
 intro pins s σ H x y v u Q I J O h;obtain ⟨z,n,rfl,rfl,h1,h2,Z,U,q⟩:=h;obtain ⟨t,rfl⟩:=J;obtain ⟨W,rfl⟩:=O;have S:(z.length:Int)*n<=1000*1000:=Int.mul_le_mul @c h2 @c @b
 have Y:z.length*n.toNat<=1000000:=by
  have e:((z.length*n.toNat:Nat):Int)=(z.length:Int)*n:=by rw [Int.natCast_mul,Int.toNat_of_nonneg @c]
  lia
 have hs:sizeLine=16777216:=sizeLine_eq;have G:(n==1)=false:=beq_eq_false_iff_ne.mpr @c;have F:(z.length==0)=false:=beq_eq_false_iff_ne.mpr @c;rwa[PySem.P.mul_str ?_ (λ_ _=> ?_) (λ_ _=>qY @c) ?_]
 ·rw [decide_eq_false @c,decide_eq_false @c];rfl
 ·have:=Int.le_ediv_of_mul_le (a:=(z.length:Int)) (b:=2^63 - 1) (c:=n) @c @c;lia
 ·rw [if_neg @c,G,F];rwa[⟨?_,.str _,H,I.tok _,⟨_,rfl⟩,q⟩];show ((List.replicate n.toNat z.cps).foldl (· ++ ·) #[]).size<=sizeLine
  have R:∀(k:Nat) (j:Array Nat),((List.replicate k z.cps).foldl (· ++ ·) j).size=j.size+z.length*k:=by
   intro k
   induction k with
   |zero=>intro j;simp
   |succ k ih=>
    intro j;rw [replicate_succ,foldl_cons,ih,Array.size_append,Nat.mul_succ];have e:z.cps.size=z.length:=rfl;lia
  rw [R];simp only [size_toArray,length_nil];lia
theorem KA:xg X "int.bit_length" (λx xs H Q=>∃i,x= .int i/\xs=[]/\Q (.int (Builtin.Int.intBits i)) H):=by
 intro pins s σ H x xs v F Q I z j h;obtain ⟨i,rfl,rfl,q⟩:=h;obtain ⟨t,rfl⟩:=z;cases j;exact call_int_bit_length ⟨.int _,H,I.tok _,⟨_,rfl⟩,q⟩
end
structure bf (P:Program)(w:World)(K:Fg)(mg:Str->Option Value)(base:Heap)(n:Nat)(x:Str)(ps:List Str)(sp:Sp):Prop where
 ex:∃f fd,av P w K mg base bb n f fd ps sp/\eK K fd ps []/\W.keepIn K (.ref f)=true/\mg x=some (.ref f)
section
variable {X:Cx}{x:Str}{p pos:Pos}{e:Expr}{es:List Expr}{t:TA}{ps:List Str}{sp:Sp}{n m:Nat}
theorem QY (c:bf X.prog X.w X.K X.mg X.base n x ps sp)(W:bx m X.A)(I:n<=m)(Y:Gl X x)(J:PA X (e::es) t)(j:(x==("__debug__":Str))=false:=by decide)
(U:starEach (e::es) X.env=(false,eval e X.env)::starEach es X.env:=by rfl)(z:(backTo pos @J).any (·.1)=false:=by rfl):
 PE X (.Call (.Name x p) (e::es) [] pos) (p9 sp [] E0 t):=by
 obtain ⟨f,fd,F,b,k,G⟩:=c.ex;exact B1 (F.mono I) W Y G k b .nil hV J j U z
end
noncomputable def rS (sc:Scope)(N:List Str)(scope:Scope)(N':List Str)(pk:List @x):Bool:=
 (scope.kind== .function)&&scope.names.all (λy=>y.2 != .cell)&&scope.names.all (λy=> !(y.2== .local)||scope.names.lookup y.1==some .local)&&
 scope.names.all (λy=> !(y.2== .free)||((sc.names.lookup y.1==some .cell||sc.names.lookup y.1==some .free)&&scope.names.lookup y.1 != some .local))&&
 (pk.length==N'.length)&&(List.range pk.length).all λj=>match pk[j]?,N'[j]? with
   |some (some i),some x=>N[i]? ==some x&&scope.names.contains (x,NameKind.free)
   |_,_=>true
theorem ax {X:Cx}{scope:Scope}{N':List Str}{pk:List @x}(h:rS X.env.scope X.N scope N' pk=true):bO X scope N' pk:=by
 unfold rS at h;simp only [Bool.and_eq_true] at h;obtain ⟨⟨⟨⟨⟨h1,h2⟩,O⟩,G⟩,Y⟩,J⟩:=h;rwa[⟨by simpa using h1,λy S=> ?_,λy S R=> ?_,λn F=> ?_,λn F=> ?_,by simpa using Y,λj i x I U=> ?_⟩]
 ·have:=all_eq_true.mp h2 y S;simpa using this
 ·have:=all_eq_true.mp O y S;rw [R] at this;simpa using this
 ·have:=all_eq_true.mp G _ F;simp only [beq_self_eq_true,Bool.not_true,Bool.false_or,Bool.and_eq_true,Bool.or_eq_true] at this
  rcases this.1 with z|z
  ·exact .inl (show X.env.scope.names.lookup n=_ by simpa using z)
  ·exact .inr (show X.env.scope.names.lookup n=_ by simpa using z)
 ·have:=all_eq_true.mp G _ F;simp only [beq_self_eq_true,Bool.not_true,Bool.false_or,Bool.and_eq_true,Bool.or_eq_true] at this;simpa using this.2
 ·have Z:j<pk.length:=(List.getElem?_eq_some_iff.mp I).1;have:=all_eq_true.mp J j (mem_range.mpr Z);rw [I,U] at this;simp only [Bool.and_eq_true] at this;exact ⟨by simpa using this.1,by simpa using this.2⟩
section
variable {X:Cx}
theorem DZ:bc X (.builtin "len") (λxs H Q=>∃x,xs=[x]/\((∃z,x= .str z/\z.length<=sizeLine/\Q (.int z.length) H)\/∃p,x= .ref p/\∃ys,(aD X.K H p ys\/aE X.K H p ys)/\Q (.int ys.length) H)):=by
 intro pins s σ H xs j Q I r h;obtain ⟨x,rfl,h⟩:=h
 rcases h with ⟨z,rfl,F,q⟩|⟨p,rfl,ys,R,q⟩
 ·exact wV pins s σ H _ j Q I r ⟨z,rfl,F,q⟩
 ·exact wW pins s σ H _ j Q I r ⟨p,ys,rfl,R,q⟩
def QQ (K:Fg):R2:=λx y H Q=>∃i,y= .int i/\((∃z,x= .str z/\z.length<=sizeLine/\∃c,lY z.cps.toList i=some c/\Q (.str ⟨#[c]⟩) H)\/∃p,x= .ref p/\∃xs,(aD K H p xs\/aE K H p xs)/\∃v,lY xs i=some v/\Q v H)
theorem OX:Ek X (QQ X.K):=by
 intro value J pins s σ H x y v u Q I j O h hs;obtain ⟨i,rfl,h⟩:=h
 rcases h with ⟨z,rfl,F,c,S,q⟩|⟨p,rfl,xs,R|R,G,Y,q⟩
 ·exact OW value J pins s σ H _ _ v u Q I j O ⟨z,i,c,rfl,rfl,F,S,q⟩ hs
 ·exact KR value J pins s σ H _ _ v u Q I j O ⟨p,xs,i,G,rfl,rfl,R,Y,q⟩ hs
 ·exact OV value J pins s σ H _ _ v u Q I j O ⟨p,xs,i,G,rfl,rfl,R,Y,q⟩ hs
theorem Ip {S:List Int}{k:Int}(I:0<=k)(h1:k<S.length):lY @gf k=some (.int (S.getD k.toNat 0)):=by
 obtain ⟨j,rfl⟩:=Int.eq_ofNat_of_zero_le I;rwa[aK ?_]
 have Z:j<S.length:=by lia
 rw [getElem?_map,getElem?_eq_getElem Z];simp [List.getD,getElem?_eq_getElem Z]
def pq (J:It)(pk:List @x)(g:TG)(tt:TT)(te:TE)(σ:St)(H:Hp)(Q:VK):Prop:=∃W:Nat->Nat->List V->Hp->Prop,(∃m,W 0 m [] H)/\∀i m ys H,W i m ys H->
 (J.stop i H/\ys.length<=sizeLine/\∀p,H p=none->Q (.ref p) @F)\/
 (J.go i H/\ys.length<sizeLine/\∃N:List V->Hp->Prop,(∀zs H',N zs H'->∃m',m'<m/\W (i+1) m' zs H')/\∀x H',J.yld i H x H'->g x @z H' λσ2 H2=>pA @z σ2/\tt σ2 H2 λb H3=>
   if b=true then te σ2 H3 λv H4=>N (ys++[v]) H4 else N ys H3)
def yN (J:It)(g:TG)(tb:TS)(D:jD)(σ:St)(H:Hp):Prop:=∃W:Nat->Nat->St->Hp->Prop,(∃m,W 0 m σ H)/\∀i m σ H,W i m σ H->
 (J.stop i H/\D.nx σ H)\/(J.go i H/\∃N:St->Hp->Prop,(∀σ' H',N σ' H'->∃m',m'<m/\W (i+1) m' σ' H')/\∀x H',J.yld i H x H'->g x σ H' λσ2 H2=>tb {D with nx:=N,ct:=N,bk:=D.nx} σ2 H2)
section
variable {K:Fg}{a:Addr}{xs:List V}{g:TG}{tb:TS}{D:jD}{σ:St}{H:Hp}
theorem fg (j:Nat->St->Hp->Prop)(I:j 0 σ H)(R:∀i σ H,i<=xs.length->j i σ H->aD K H a xs)
(hs:∀i x σ H,xs[i]? =some x->j i σ H->g x σ H λσ2 H2=>tb {D with nx:=j (i+1),ct:=j (i+1),bk:=D.nx} σ2 H2)(G:∀σ H,j xs.length σ H->D.nx σ H):yN @gS g tb D σ H:=Hy j I R hs G
theorem yM (j:Nat->St->Hp->Prop)(I:j 0 σ H)(R:∀i σ H,i<=xs.length->j i σ H->aE K H a xs)
(hs:∀i x σ H,xs[i]? =some x->j i σ H->g x σ H λσ2 H2=>tb {D with nx:=j (i+1),ct:=j (i+1),bk:=D.nx} σ2 H2)(G:∀σ H,j xs.length σ H->D.nx σ H):yN @hb g tb D σ H:=K3 j I R hs G
theorem dh {lo:Int}{n:Nat}(j:Nat->St->Hp->Prop)(I:j 0 σ H)
(hs:∀i σ H,i<n->j i σ H->g (.int (lo+i)) σ H λσ2 H2=>tb {D with nx:=j (i+1),ct:=j (i+1),bk:=D.nx} σ2 H2)(G:∀σ H,j n σ H->D.nx σ H):yN @gX g tb D σ H:=DQ j I hs G
theorem Hz {x:Str}(j:Nat->St->Hp->Prop)(I:j 0 σ H)
(hs:∀(i:Nat) (c:Nat) σ H,x.cps[i]? =some c->j i σ H->g (.str ⟨#[c]⟩) σ H λσ2 H2=>tb {D with nx:=j (i+1),ct:=j (i+1),bk:=D.nx} σ2 H2)(G:∀σ H,j x.cps.size σ H->D.nx σ H):yN (LC x) g tb D σ H:=K4 j I hs G
end
theorem kA {lo:Int}{n:Nat}{pk:List @x}{g:TG}{tt:TT}{te:TE}{σ:St}{H:Hp}{Q:VK}(j:Nat->List V->Hp->Prop)(O:n<=sizeLine)(F:∀i ys H,j i ys H->ys.length<=i)(I:j 0 [] H)
(hs:∀i ys H,i<n->j i ys H->g (.int (lo+i)) @z H λσ2 H2=>pA @z σ2/\tt σ2 H2 λb H3=>if b=true then te σ2 H3 λv H4=>j (i+1) (ys++[v]) H4 else j (i+1) ys H3)
(J:∀ys H,j (n) ys H->∀p,H p=none->Q (.ref p) @F):
 pq @gX pk g tt te σ H Q:=by
 rwa[⟨λi m ys H=>m=n - i/\i<=n/\j i ys H,⟨n,by simp,Nat.zero_le _,I⟩,?_⟩];rintro i m ys H ⟨rfl,hi,p⟩;have R:=F _ _ _ p;by_cases z:i<n
 ·rwa[.inr ⟨z,by lia,j (i+1),λzs H' G=>⟨n - (i+1),by lia,rfl,z,G⟩,λx H' y=> ?_⟩];obtain ⟨e,y⟩:=y;subst e y;exact hs i ys _ z p
 ·have e:i=n:=by lia
  subst e;exact .inl ⟨Nat.le_refl _,by lia,J ys H p⟩
theorem bK {K:Fg}{a:Addr}{xs:List V}{pk:List @x}{g:TG}{tt:TT}{te:TE}{σ:St}{H:Hp}{Q:VK}(j:Nat->List V->Hp->Prop)(R:xs.length<=sizeLine)(F:∀i ys H,j i ys H->ys.length<=i)(J:j 0 [] H)(G:∀i ys H,i<=xs.length->j i ys H->aD K H a xs)
(hs:∀i x ys H,xs[i]? =some x->j i ys H->g x @z H λσ2 H2=>pA @z σ2/\tt σ2 H2 λb H3=>if b=true then te σ2 H3 λv H4=>j (i+1) (ys++[v]) H4 else j (i+1) ys H3)
(O:∀ys H,j @eu ys H->∀p,H p=none->Q (.ref p) @F):
 pq @gS pk g tt te σ H Q:=by
 rwa[⟨λi m ys H=>m=xs.length - i/\i<=xs.length/\j i ys H,⟨xs.length,by simp,Nat.zero_le _,J⟩,?_⟩];rintro i m ys H ⟨rfl,hi,p⟩;have S:=F _ _ _ p;by_cases z:i<xs.length
 ·rwa[.inr ⟨⟨xs,xs[i],G i ys H hi p,by simp [z]⟩,by lia,j (i+1),λzs H' I=>⟨xs.length - (i+1),by lia,rfl,z,I⟩,λx H' y=> ?_⟩];obtain ⟨e,y⟩:=y;subst e;exact hs i x ys _ @dS p
 ·have e:i=xs.length:=by lia
  subst e;exact .inl ⟨⟨xs,G _ ys H @f p,Nat.le_refl _⟩,by lia,O ys H p⟩
theorem cK {K:Fg}{a:Addr}{xs:List V}{pk:List @x}{g:TG}{tt:TT}{te:TE}{σ:St}{H:Hp}{Q:VK}(j:Nat->List V->Hp->Prop)(R:xs.length<=sizeLine)(F:∀i ys H,j i ys H->ys.length<=i)(J:j 0 [] H)(G:∀i ys H,i<=xs.length->j i ys H->aE K H a xs)
(hs:∀i x ys H,xs[i]? =some x->j i ys H->g x @z H λσ2 H2=>pA @z σ2/\tt σ2 H2 λb H3=>if b=true then te σ2 H3 λv H4=>j (i+1) (ys++[v]) H4 else j (i+1) ys H3)
(O:∀ys H,j @eu ys H->∀p,H p=none->Q (.ref p) @F):
 pq @hb pk g tt te σ H Q:=by
 rwa[⟨λi m ys H=>m=xs.length - i/\i<=xs.length/\j i ys H,⟨xs.length,by simp,Nat.zero_le _,J⟩,?_⟩];rintro i m ys H ⟨rfl,hi,p⟩;have S:=F _ _ _ p;by_cases z:i<xs.length
 ·rwa[.inr ⟨⟨xs,xs[i],G i ys H hi p,by simp [z]⟩,by lia,j (i+1),λzs H' I=>⟨xs.length - (i+1),by lia,rfl,z,I⟩,λx H' y=> ?_⟩];obtain ⟨e,y⟩:=y;subst e;exact hs i x ys _ @dS p
 ·have e:i=xs.length:=by lia
  subst e;exact .inl ⟨⟨xs,G _ ys H @f p,Nat.le_refl _⟩,by lia,O ys H p⟩
theorem yX {z:Str}{pk:List @x}{g:TG}{tt:TT}{te:TE}{σ:St}{H:Hp}{Q:VK}(j:Nat->List V->Hp->Prop)(S:z.cps.size<=sizeLine)(G:∀i ys H,j i ys H->ys.length<=i)(J:j 0 [] H)
(hs:∀i c ys H,z.cps[i]? =some c->j i ys H->g (.str ⟨#[c]⟩) @z H λσ2 H2=>pA @z σ2/\tt σ2 H2 λb H3=>if b=true then te σ2 H3 λv H4=>j (i+1) (ys++[v]) H4 else j (i+1) ys H3)
(R:∀ys H,j (z.cps.size) ys H->∀p,H p=none->Q (.ref p) @F):
 pq (LC z) pk g tt te σ H Q:=by
 rwa[⟨λi m ys H=>m=z.cps.size - i/\i<=z.cps.size/\j i ys H,⟨z.cps.size,by simp,Nat.zero_le _,J⟩,?_⟩];rintro i m ys H ⟨rfl,hi,p⟩;have U:=G _ _ _ p;by_cases F:i<z.cps.size
 ·rwa[.inr ⟨F,by lia,j (i+1),λzs H' I=>⟨z.cps.size - (i+1),by lia,rfl,F,I⟩,λx H' y=> ?_⟩];obtain ⟨e,c,O,Y⟩:=y;subst e Y;exact hs i c ys _ O p
 ·have e:i=z.cps.size:=by lia
  subst e;exact .inl ⟨Nat.le_refl _,by lia,R ys H p⟩
end
section
variable {X:Cx}{K:Fg}
theorem AK (Z:X.K=K):cX X @db (Sb K false):=Z▸Di
theorem tU (Z:X.K=K):cX X @dt (Sb K true):=Z▸wg
theorem KS (Z:X.K=K):Ek X (QQ K):=Z▸OX
def QP (K:Fg):List V->Hp->VK->Prop:=λxs H Q=>∃x,xs=[x]/\((∃z,x= .str z/\z.length<=sizeLine/\Q (.int z.length) H)\/∃p,x= .ref p/\∃ys,(aD K H p ys\/aE K H p ys)/\Q (.int ys.length) H)
theorem D1 (Z:X.K=K):bc X (.builtin "len") (QP K):=Z▸DZ
def QR (K:Fg):List V->Hp->VK->Prop:=λxs H Q=>∃x c cv t b,xs=[x,c]/\cV c=some cv/\jC K H x t/\W.kitOne K t cv=some b/\Q (.bl b) H
theorem D2 (Z:X.K=K):bc X (.builtin "isinstance") (QR K):=Z▸y9
def QU (K:Fg):List V->Hp->VK->Prop:=λxs H Q=>∃(a:Addr) (bs:List Bool),xs=[.ref a]/\aD K H a @bm/\Q (.bl @gI) H
theorem D6 (Z:X.K=K)(J:X.calm=true):bc X (.builtin "all") (QU K):=Z▸D7 J
def JG (K:Fg):List V->Hp->VK->Prop:=λxs H Q=>∃p ys,xs=[.ref p]/\(aD K H p ys\/aE K H p ys)/\∀l,H l=none->Q (.ref l) @cn
theorem Bq (Z:X.K=K):bc X (.type "list") (JG K):=Z▸wU
def FZ (K:Fg):List V->Hp->VK->Prop:=λxs H Q=>∃p ys,xs=[.ref p]/\((aD K H p ys/\∀l,H l=none->Q (.ref l) @cU)\/(aE K H p ys/\Q (.ref p) H))
theorem y8 (Z:X.K=K):bc X (.type "tuple") (FZ K):=Z▸ug
def NL (K:Fg):V->List V->Hp->VK->Prop:=λx xs H Q=>∃z a ts,x= .str z/\xs=[.ref a]/\aD K H a @dy/\(ts.toArray.foldl (· + ·.length+z.length) 0)<=sizeLine/\(Builtin.Str.glued z ts).length<=sizeLine/\Q (.str @cr) H
theorem G1 (Z:X.K=K):xg X "str.join" (NL K):=Z▸G0
theorem JS (Z:X.K=K){es:List Expr}{k:Nat}{t:CG}{n:Nat}{pos:Pos}(J:X.calm=true)(h:Eb X es t)
(F:(assignEach es X.env).length=n:=by rfl)(j:(assignEach es X.env).findIdx? (·.1)=none:=by rfl):PG X (.Tuple es k pos) (RA K n t):=Z▸NR J h F j
end
theorem pA.refl (σ:St):pA σ σ:=⟨rfl,λ_ _ h=>h⟩
theorem pA.cons {σ j:St}{o o':Option V}(h:o=none\/o=o')(s:pA σ j):pA (o::σ) (o'::j):=by
 rwa[⟨by simp [s.1],λi v e=> ?_⟩]
 cases i with
 |zero=>
  rcases h with rfl|rfl
  ·exact nomatch (show (none:Option V)=some v from Option.some.inj e)
  ·exact e
 |succ i=>exact s.2 i v (by simpa using e)
theorem QG {σ:St}{x:V}:pA (none::σ) (some x::σ):= .cons (.inl rfl) (.refl _)
def bw:Expr->Bool
 | .Starred _ _=>false
 |_=>true
theorem aU {e:Expr}{es:List Expr}{env:Env}(h:bw e=true):starEach (e::es) env=(false,eval e env)::starEach es env:=by
 cases e<;>first|rfl|cases h
def aI:List Expr->Bool
 |[]=>true
 |e::es=>bw e&&aI es
theorem bJ {pos:Pos}{env:Env}:∀ {es:List Expr},aI es=true->(backTo pos @ce).any (·.1)=false
 |[],_=>rfl
 |e::es,h=>by
  have h':(bw e&&aI es)=true:=h;rw [Bool.and_eq_true] at h';rw [aU h'.1];show (false||(backTo pos @ce).any (·.1))=false;rw [bJ h'.2];rfl
theorem m9 {pos:Pos}{env:Env}:∀ {es:List Expr},aI es=true->(backTo pos @ce).all (λx=> !x.1)=true
 |[],_=>rfl
 |e::es,h=>by
  have h':(bw e&&aI es)=true:=h;rw [Bool.and_eq_true] at h';rw [aU h'.1];show (true&&(backTo pos @ce).all (λx=> !x.1))=true;rw [m9 h'.2];rfl
def eF:Expr->Bool
 | .Call _ [] [] _=>false
 |_=>true
theorem w9 {o:Expr}{name:Str}{env:Env}{z:Sem Value}(h:eF o=true):attributeBase o name env z=z:=by
 unfold attributeBase;split
 ·cases h
 ·rfl
def uA:Expr->Bool
 | .UnaryOp _ _ _=>false
 | .BoolOp _ _ _=>false
 | .IfExp _ _ _ _=>false
 | .Compare _ _ _ _=>false
 |_=>true
theorem Hl {e:Expr}{env:Env}{z:Sem Value}(h:uA e=true):isTrue e env z=(do let v<-z;standAt e.pos;holding [v] (truthy v)):=by
 cases e<;>first|rfl|cases h
section
variable {X:Cx}{K:Fg}{x:Str}{p pos apos cpos:Pos}{e o a:Expr}{es:List Expr}{t:TA}{te to ta:TE}{ps:List Str}{sp:Sp}{n m:Nat}{id T:String}{r:List V->Hp->VK->Prop}{name:Str}{rm:V->List V->Hp->VK->Prop}
theorem aq (j:PE X e te)(W:PA X es t)(hs:bw e=true:=by rfl):PA X (e::es) (E2 te t):=JX j W (aU hs)
theorem c8 (c:bf X.prog X.w X.K X.mg X.base n x ps sp)(W:bx m X.A)(F:n<=m)(Y:Gl X x)(z:PA X (e::es) t)(j:(x==("__debug__":Str))=false:=by decide)(G:aI (e::es)=true:=by rfl):
 PE X (.Call (.Name x p) (e::es) [] pos) (p9 sp [] E0 t):=by
 have h':(bw e&&aI es)=true:=G;rw [Bool.and_eq_true] at h';exact QY c W F Y z j @dB @dC
theorem aM (J:bc X (.builtin id) r)(Y:Gl X x)(F:X.mg x=none)(O:bootBuiltins x=some (.builtin id))(I:PA X (e::es) t)(z:x≠"__name__":=by decide)(j:(x==("__debug__":Str))=false:=by decide)
(G:aI (e::es)=true:=by rfl):PE X (.Call (.Name x p) (e::es) [] pos) (R9 r t):=by
 have h':(bw e&&aI es)=true:=G;rw [Bool.and_eq_true] at h';exact Gh J Y F O I z j @dB @dC
theorem aV (J:bc X (.type T) r)(Y:Gl X x)(F:X.mg x=none)(O:bootBuiltins x=some (.type T))(I:PA X (e::es) t)(z:x≠"__name__":=by decide)(j:(x==("__debug__":Str))=false:=by decide)
(G:aI (e::es)=true:=by rfl):PE X (.Call (.Name x p) (e::es) [] pos) (R9 r t):=by
 have h':(bw e&&aI es)=true:=G;rw [Bool.and_eq_true] at h';exact Df J Y F O I z j @dB @dC
end
def uJ (b:Bool)(A B:Prop):Prop:=if b=true then A else B
theorem iR {b:Bool}{A B:Prop}(h1:b=true->A)(h2:b=false->B):uJ b A B:=by
 cases b with
 |true=>exact h1 rfl
 |false=>exact h2 rfl
theorem bz {b:Bool}{A B:Prop}(e:b=true)(h:A):uJ b A B:=by subst e;exact h
theorem aP {b:Bool}{A B:Prop}(e:b=false)(h:B):uJ b A B:=by subst e;exact h
theorem fe {c:Prop}[Decidable c]{A B:Prop}(h1:c->A)(h2: ¬c->B):uJ (decide c) A B:=iR (λh=>h1 (of_decide_eq_true h)) (λh=>h2 (of_decide_eq_false h))
theorem eO {c:Prop}[Decidable c]{A B:Prop}(J:c)(h:A):uJ (decide c) A B:=bz (decide_eq_true J) h
theorem dQ {c:Prop}[Decidable c]{A B:Prop}(J: ¬c)(h:B):uJ (decide c) A B:=aP (decide_eq_false J) h
theorem Sd {c:Prop}[Decidable c]{A B:Prop}(h1: ¬c->A)(h2:c->B):uJ (!decide c) A B:=by
 by_cases h:c
 ·rw [decide_eq_true h];exact aP rfl (h2 h)
 ·rw [decide_eq_false h];exact bz rfl (h1 h)
theorem PE.imp {X:Cx}{e:Expr}{t t':TE}(h:PE X e t)(i:∀σ H Q,t' σ H Q->t σ H Q):PE X e t':=λpins s σ H Q I q=>h pins s σ H Q I (i σ H Q q)
theorem cX.imp {X:Cx}{f:Value->Value->Sem Value}{r R:R2}(h:cX X f r)(i:∀x y H Q,R x y H Q->r x y H Q):cX X f R:=λpins s σ H x y v u Q I z O q=>h pins s σ H x y v u Q I z O @gg
theorem Ek.imp {X:Cx}{r R:R2}(h:Ek X r)(i:∀x y H Q,R x y H Q->r x y H Q):Ek X R:=λvalue J pins s σ H x y v u Q I z O q=>h value J pins s σ H x y v u Q I z O @gg
theorem bc.imp {X:Cx}{f:Value}{r R:List V->Hp->VK->Prop}(h:bc X f r)(i:∀xs H Q,R xs H Q->r xs H Q):bc X f R:=λpins s σ H xs j Q I z q=>h pins s σ H xs j Q I z (i _ _ _ q)
theorem xg.imp {X:Cx}{id:String}{r R:V->List V->Hp->VK->Prop}(h:xg X id r)(i:∀x xs H Q,R x xs H Q->r x xs H Q):xg X id R:=λpins s σ H x xs v j Q I z F q=>h pins s σ H x xs v j Q I z F @gg
def EG (i:Nat):TE:=λσ H Q=>match σ[i]? with|some @bD=>Q v H|_=>False
theorem wv {X:Cx}(i:Nat){x:Str}{pos:Pos}(z:X.N[i]? =some x:=by rfl)(Y:RU X.env.scope x:=by first|exact Or.inl rfl|exact Or.inr @o|exact Or.inr @dv)(G:(x==("__debug__":Str))=false:=by decide)
(F:(x==("__classdict__":Str))=false:=by decide):PE X (.Name x pos) (EG i):=
 (Ga z Y G F).imp λσ H Q h=>by
   unfold EG at h
   cases e:σ[i]? with
   |none=>rw [e] at h;exact h.elim
   |some o=>
    cases o with
    |none=>rw [e] at h;exact h.elim
    |some v=>rw [e] at h;exact ⟨v,e,h⟩
def wI (g:Int->Int->V):R2:=λx y H Q=>match x,y with| .int i,.int j=>Q @da H|_,_=>False
def wC (C:Int->Int->Prop)(g:Int->Int->V):R2:=λx y H Q=>match x,y with| .int i,.int j=>C i j/\Q @da H|_,_=>False
theorem jU {g:Int->Int->V}:∀x y H Q,wI g x y H Q->F0 g x y H Q:=λx y H Q h=>by
 cases x with
 |int i=>cases y with
  |int j=>exact ⟨i,j,rfl,rfl,h⟩
  |_=>exact False.elim h
 |_=>exact False.elim h
theorem vh {C:Int->Int->Prop}{g:Int->Int->V}:∀x y H Q,wC C g x y H Q->rI C g x y H Q:=λx y H Q h=>by
 cases x with
 |int i=>cases y with
  |int j=>exact ⟨i,j,rfl,rfl,h⟩
  |_=>exact False.elim h
 |_=>exact False.elim h
section
variable {X:Cx}{K:Fg}
theorem LJ:cX X (binaryOp .Sub) (wI λi j=> .int (i - j)):=NY.imp jU
theorem MI:cX X (binaryOp .FloorDiv) (wC Eg λi j=> .int (i / j)):=JZ.imp vh
def SG:R2:=λx y H Q=>match x,y with| .int i,.int j=>0<j/\Q (.int (i% j)) H|_,_=>False
theorem PP:cX X (binaryOp .Mod) SG:=N2.imp λx y H Q h=>vh (C:=λ_ j=>0<j) (g:=λi j=> .int (i% j)) x y H Q (by
 cases x with
 |int i=>cases y with
  |int j=>exact h
  |_=>exact False.elim h
 |_=>exact False.elim h)
theorem PN:cX X (binaryOp .Pow) (wC Bx λi j=> .int (i^j.toNat)):=N0.imp vh
theorem PM:cX X (binaryOp .LShift) (wC Bx λi j=> .int (i*2^j.toNat)):=NZ.imp vh
theorem P2:cX X (binaryOp .BitAnd) (wI λi j=> .int (Builtin.bitAnd i j)):=N5.imp jU
theorem Sw:cX X (binaryOp .BitOr) (wI λi j=> .int (Builtin.bitOr i j)):=Q0.imp jU
theorem w_lt:cX X (compareOp .Lt) (wI λi j=> .bl (decide (i<j))):=Q2.imp jU
theorem xH:cX X (compareOp .LtE) (wI λi j=> .bl (decide (i<=j))):=Q3.imp jU
theorem MH:cX X (compareOp .Gt) (wI λi j=> .bl (decide (j<i))):=Q4.imp jU
theorem PZ:cX X (compareOp .GtE) (wI λi j=> .bl (decide (j<=i))):=Q5.imp jU
def Li (p q:Addr)(H:Hp)(Q:VK):Prop:=∃xs ys,H p=some (.lst xs)/\H q=some (.lst ys)/\xs.length+ys.length<=sizeLine/\∀l,H l=none->Q (.ref l) (upd H l (.lst (xs++ys)))
def SW:R2:=λx y H Q=>match x,y with
 | .int i,.int j=>Q (.int (i+j)) H
 | .str a,.str b=>a.length+b.length<=sizeLine/\Q (.str (a++b)) H
 | .ref p,.ref q=>Li p q H Q
 |_,_=>False
theorem P3:cX X @bF SW:=(N6.or (AL.or N4)).imp λx y H Q h=>by
 cases x with
 |int i=>cases y with
  |int j=>exact .inl ⟨i,j,rfl,rfl,h⟩
  |_=>exact False.elim h
 |str a=>cases y with
  |str b=>exact .inr (.inl ⟨a,b,rfl,rfl,h⟩)
  |_=>exact False.elim h
 |ref p=>cases y with
  |ref q=>obtain ⟨xs,ys,h1,h2,S,z⟩:=h;exact .inr (.inr ⟨p,q,xs,ys,rfl,rfl,h1,h2,S,z⟩)
  |_=>exact False.elim h
 |_=>exact False.elim h
def SF:R2:=λx y H Q=>match x,y with
 | .int i,.int j=>sM i j/\Q (.int (i*j)) H
 | .str z,.int n=>(1<n/\n<=1000/\0<z.length/\z.length<=1000)/\Q (.str ⟨(List.replicate n.toNat z.cps).foldl (· ++ ·) #[]⟩) H
 |_,_=>False
theorem ED:cX X @fj SF:=(N1.or AJ).imp λx y H Q h=>by
 cases x with
 |int i=>cases y with
  |int j=>exact .inl ⟨i,j,rfl,rfl,h⟩
  |_=>exact False.elim h
 |str z=>cases y with
  |int n=>exact .inr ⟨z,n,rfl,rfl,h.1.1,h.1.2.1,h.1.2.2.1,h.1.2.2.2,h.2⟩
  |_=>exact False.elim h
 |_=>exact False.elim h
def SE:V->Hp->VK->Prop:=λx H Q=>match x with| .int i=>Q (.int (-i)) H|_=>False
theorem xF:Ps X (unaryOp .USub) SE:=λpins s σ H x v Q I z h=>by
 cases x with
 |int i=>exact MW pins s σ H _ v Q I z ⟨i,rfl,h⟩
 |_=>exact False.elim h
noncomputable def RG:V->V->Option Bool
 | .non,.non=>some true
 | .int i,.int j=>some (decide (i=j))
 | .str a,.str b=>some (decide (a=b))
 | .bl a,.bl b=>some (decide (a=b))
 | .non,.int _=>some false| .int _,.non=>some false| .non,.str _=>some false| .str _,.non=>some false| .non,.bl _=>some false| .bl _,.non=>some false
 | .int _,.str _=>some false| .str _,.int _=>some false| .bl _,.str _=>some false| .str _,.bl _=>some false
 |_,_=>none
theorem HL {x y:V}{b:Bool}(h:RG x y=some b):Nv x y=true/\decide (x=y)=b:=by
 cases x<;>cases y<;>first|cases h|skip
 all_goals first
  |exact ⟨rfl,by simp⟩
  |(refine ⟨rfl,?_⟩;simp)
def SK (neg:Bool):R2:=λx y H Q=>match y with
 | .non=>(match x with| .non=>Q (.bl (!neg)) H|_=>Q (.bl neg) H)
 |_=>False
theorem LK:cX X (compareOp .Is) (SK false):=N3.imp λx y H Q h=>by
 cases y with
 |non=>cases x<;>exact ⟨rfl,h⟩
 |_=>exact False.elim h
def on (K:Fg)(neg:Bool)(x:V)(p:Addr)(H:Hp)(Q:VK):Prop:=∃xs,(aD K H p xs\/aE K H p xs)/\cY x=true/\xs.all cY=true/\Q (.bl (if neg then !sO x xs else sO x xs)) H
def hG (a b:Str):Bool:= !(Builtin.Str.occurrences b a 0 b.length 1).isEmpty
def SN (K:Fg)(neg:Bool):R2:=λx y H Q=>match y with
 | .str b=>(match x with| .str a=>Q (.bl (if neg then !hG a b else hG a b)) H|_=>False)
 | .ref p=>on K neg x p H Q
 |_=>False
theorem MG (Z:X.K=K):cX X @db (SN K false):=(Dh.or (AK Z)).imp λx y H Q h=>by
 cases y with
 |str b=>cases x with
  |str a=>exact .inl ⟨a,b,rfl,rfl,h⟩
  |_=>exact False.elim h
 |ref p=>obtain ⟨xs,h1,h2,S,j⟩:=h;exact .inr ⟨p,xs,rfl,h1,h2,S,j⟩
 |_=>exact False.elim h
theorem kJ (Z:X.K=K):cX X @dt (SN K true):=(we.or (tU Z)).imp λx y H Q h=>by
 cases y with
 |str b=>cases x with
  |str a=>exact .inl ⟨a,b,rfl,rfl,h⟩
  |_=>exact False.elim h
 |ref p=>obtain ⟨xs,h1,h2,S,j⟩:=h;exact .inr ⟨p,xs,rfl,h1,h2,S,j⟩
 |_=>exact False.elim h
def jF (K:Fg)(p:Addr)(i:Int)(H:Hp)(Q:VK):Prop:=∃xs,(aD K H p xs\/aE K H p xs)/\∃v,lY xs i=some v/\Q v H
def vG (z:Str)(i:Int)(H:Hp)(Q:VK):Prop:=z.length<=sizeLine/\∃c,lY z.cps.toList i=some c/\Q (.str ⟨#[c]⟩) H
def T9 (K:Fg):R2:=λx y H Q=>match x,y with
 | .str z,.int i=>vG z i H Q
 | .ref p,.int i=>jF K p i H Q
 |_,_=>False
theorem IZ (Z:X.K=K):Ek X (T9 K):=(KS Z).imp λx y H Q h=>by
 cases x with
 |str z=>cases y with
  |int i=>obtain ⟨h1,h2⟩:=h;exact ⟨i,rfl,.inl ⟨z,rfl,h1,h2⟩⟩
  |_=>exact False.elim h
 |ref p=>cases y with
  |int i=>obtain ⟨xs,h1,h2⟩:=h;exact ⟨i,rfl,.inr ⟨p,rfl,xs,h1,h2⟩⟩
  |_=>exact False.elim h
 |_=>exact False.elim h
def gy (K:Fg)(p:Addr)(H:Hp)(Q:VK):Prop:=∃ys,(aD K H p ys\/aE K H p ys)/\Q (.int ys.length) H
def SJ (K:Fg):List V->Hp->VK->Prop:=λxs H Q=>match xs with
 |[.str z]=>z.length<=sizeLine/\Q (.int z.length) H
 |[.ref p]=>gy K p H Q
 |_=>False
theorem PU (Z:X.K=K):bc X (.builtin "len") (SJ K):=(D1 Z).imp λxs H Q h=>by
 match xs,h with
 |[.str z],h=>exact ⟨_,rfl,.inl ⟨z,rfl,h⟩⟩
 |[.ref p],h=>exact ⟨_,rfl,.inr ⟨p,rfl,h⟩⟩
def yF (x:Str)(H:Hp)(Q:VK):Prop:=∃n,PySem.intText? x=some n/\x.length<=640/\Q (.int n) H
def SL:List V->Hp->VK->Prop:=λxs H Q=>match xs with
 |[.int i]=>Q (.int i) H
 |[.bl k]=>Q (.int (if k then 1 else 0)) H
 |[.str x]=>yF x H Q
 |_=>False
theorem LL:bc X (.type "int") SL:=(D4.or D3).imp λxs H Q h=>by
 match xs,h with
 |[.int i],h=>exact .inl (.inl ⟨i,rfl,h⟩)
 |[.bl k],h=>exact .inl (.inr ⟨k,rfl,h⟩)
 |[.str x],h=>obtain ⟨n,h1,h2,S⟩:=h;exact .inr ⟨x,n,rfl,h1,h2,S⟩
noncomputable def KU:V->String->Option Bool
 | .non,T=>some (T=="NoneType")
 | .bl _,T=>some (T=="bool"||T=="int")
 | .int _,T=>some (T=="int")
 | .str _,T=>some (T=="str")
 |_,_=>none
def kt (K:Fg)(x c:V)(H:Hp)(Q:VK):Prop:=∃cv t b,cV c=some cv/\jC K H x t/\W.kitOne K t cv=some b/\Q (.bl b) H
noncomputable def wc (T:String):Bool:=T=="int"||T=="str"||T=="bool"||T=="list"||T=="tuple"||T=="dict"
def MO (K:Fg):List V->Hp->VK->Prop:=λxs H Q=>match xs with
 |[x,.ty T]=>(match KU x T with|some b=>wc T=true/\Q (.bl b) H|none=>kt K x (.ty T) H Q)
 |[x,c]=>kt K x c H Q
 |_=>False
end
theorem DI {K:Fg}{H:Hp}{x:V}{T:String}{b:Bool}(h:KU x T=some b)(G:wc T=true):∃t,jC K H x t/\W.kitOne K t (.type T)=some b:=by
 have U:T="int"\/T="str"\/T="bool"\/T="list"\/T="tuple"\/T="dict":=by
  unfold wc at G;simp only [Bool.or_eq_true,beq_iff_eq] at G
  rcases G with ((((h|h)|h)|h)|h)|h<;>simp [h]
 cases x with
 |non=>refine ⟨_,.non,?_⟩;rcases U with rfl|rfl|rfl|rfl|rfl|rfl<;>(cases h;rfl)
 |bl y=>refine ⟨_,.bl y,?_⟩;rcases U with rfl|rfl|rfl|rfl|rfl|rfl<;>(cases h;rfl)
 |int y=>refine ⟨_,.int y,?_⟩;rcases U with rfl|rfl|rfl|rfl|rfl|rfl<;>(cases h;rfl)
 |str y=>refine ⟨_,.str y,?_⟩;rcases U with rfl|rfl|rfl|rfl|rfl|rfl<;>(cases h;rfl)
 |_=>cases h
section
variable {X:Cx}{K:Fg}{a b c e:Expr}{ta tb te:TE}{tA tB':TT}{eN:List Expr}{pos:Pos}
theorem PV (Z:X.K=K):bc X (.builtin "isinstance") (MO K):=(D2 Z).imp λxs H Q h=>by
 have j:∀x c,kt K x c H Q->QR K [x,c] H Q:=λx c ⟨F,t,b,h1,h2,S,z⟩=>⟨x,c,F,t,b,rfl,h1,h2,S,z⟩
 match xs,h with
 |[x,.ty T],h=>
  have h':(match KU x T with|some b=>wc T=true/\Q (.bl b) H|none=>kt K x (.ty T) H Q):=h
  cases e:KU x T with
  |none=>rw [e] at h';exact j _ _ h'
  |some b=>
   rw [e] at h';obtain ⟨t,h1,h2⟩:=DI (K:=K) (H:=H) e h'.1;exact ⟨x,.ty T,_,t,b,rfl,rfl,h1,h2,h'.2⟩
 |[x,.ref C],h=>exact j _ _ h
 |[x,.non],h=>exact j _ _ h
 |[x,.bl _],h=>exact j _ _ h
 |[x,.int _],h=>exact j _ _ h
 |[x,.str _],h=>exact j _ _ h
 |[x,.byt _],h=>exact j _ _ h
 |[x,.flt _],h=>exact j _ _ h
def P7 (t:TE):TT:=λσ H Q=>t σ H λx H'=>match x with| .bl k=>Q k H'|_=>False
theorem cq {j:CmpOp}{r:R2}(W:cX X @eE r)(Y:PE X a ta)(hb:PE X b tb)(F:behindInMarks j b=false):PT X (.Compare a [j] [b] pos) (P7 @fd):=by
 intro pins s σ H Q I h
 refine wpAny_isTrue_Compare1 (bv @cK λv S ⟨x,H1,G,O,q1⟩=>bv (hb pins S σ H1 _ G q1) λu s2 ⟨y,H2,U,r2,q2⟩=>
  bv (W pins s2 σ H2 x y v u _ U O r2 q2) λcv s3 ⟨z,Z,I3,R,J⟩=> ?_) F
 cases z with
 |bl k=>cases R;exact wpAny_truthy_bool ⟨Z,I3,J⟩
 |_=>exact False.elim J
def qj (K:Fg)(p:Addr)(H:Hp)(Q:Bool->Hp->Prop):Prop:=(∃xs,(aD K H p xs\/aE K H p xs)/\Q (!xs.isEmpty) H)\/∃kvs,H p=some (.dK kvs)/\Q (!kvs.isEmpty) H
def P6 (K:Fg)(ta:TE):TT:=λσ H Q=>ta σ H λx H'=>match x with
 | .bl k=>Q k H'
 | .non=>Q false H'
 | .int i=>Q (i != 0) H'
 | .str y=>y.length<=sizeLine/\Q ((y.length:Int) != 0) H'
 | .ref p=>qj K p H' Q
 |_=>False
theorem pP (Z:X.K=K)(J:PE X a ta)(S:uA a=true:=by rfl):PT X a (P6 K ta):=by
 subst Z;intro pins s σ H Q I h;rwa[isTrue_plain (bv @cJ λv O ⟨x,H1,z,F,G⟩=> ?_) (Hl S)]
 cases x with
 |bl k=>exact iw pins O σ H1 _ v Q z F ⟨k,rfl,G⟩
 |non=>exact iw pins O σ H1 _ v Q z F ⟨false,rfl,G⟩
 |int i=>exact iw pins O σ H1 _ v Q z F ⟨_,rfl,G⟩
 |str y=>exact iw pins O σ H1 _ v Q z F ⟨_,⟨G.1,rfl⟩,G.2⟩
 |ref p=>
  rcases G with ⟨xs,R|R,q⟩|⟨j,R,q⟩
  ·exact iw pins O σ H1 _ v Q z F ⟨_,.inl ⟨xs,R,rfl⟩,q⟩
  ·exact iw pins O σ H1 _ v Q z F ⟨_,.inr (.inl ⟨xs,R,rfl⟩),q⟩
  ·exact iw pins O σ H1 _ v Q z F ⟨_,.inr (.inr ⟨j,R,rfl⟩),q⟩
 |_=>exact False.elim G
def SV (t u:TT):TT:=λσ H Q=>t σ H λc H1=>uJ c (u σ H1 Q) (Q false H1)
def T8 (t u:TT):TT:=λσ H Q=>t σ H λc H1=>uJ c (Q true H1) (u σ H1 Q)
theorem ve (j:PT X a tA)(z:PW X (.BoolOp .And (b::eN) pos) tB'):PW X (.BoolOp .And (a::b::eN) pos) (SV tA tB'):=NM j z
theorem By (j:PT X a tA)(z:PW X (.BoolOp .Or (b::eN) pos) tB'):PW X (.BoolOp .Or (a::b::eN) pos) (T8 tA tB'):=QW j z
def Qk (ta tb:TE):TE:=λσ H Q=>ta σ H λx H1=>match x with| .bl c=>uJ c @gu (Q (.bl false) H1)|_=>False
def SC (ta tb:TE):TE:=λσ H Q=>ta σ H λx H1=>match x with| .bl c=>uJ c (Q (.bl true) H1) @gu|_=>False
theorem EA (j:PE X a ta)(J:PE X (.BoolOp .And (b::eN) pos) tb):PE X (.BoolOp .And (a::b::eN) pos) (Qk ta tb):=by
 intro pins s σ H Q I h;rwa[BoolOp_and (bv @bW λv O ⟨x,H1,z,F,G⟩=> ?_)]
 cases x with
 |bl c=>
  cases F;rwa[wpAny_truthy_bool ?_]
  cases c with
  |true=>exact J pins O σ H1 Q z G
  |false=>exact ⟨.bl false,H1,z,rfl,G⟩
 |_=>exact False.elim G
theorem PK (j:PE X a ta)(J:PE X (.BoolOp .Or (b::eN) pos) tb):PE X (.BoolOp .Or (a::b::eN) pos) (SC ta tb):=by
 intro pins s σ H Q I h;rwa[BoolOp_or (bv @bW λv O ⟨x,H1,z,F,G⟩=> ?_)]
 cases x with
 |bl c=>
  cases F;rwa[wpAny_truthy_bool ?_]
  cases c with
  |false=>exact J pins O σ H1 Q z G
  |true=>exact ⟨.bl true,H1,z,rfl,G⟩
 |_=>exact False.elim G
def SD (K:Fg)(ta:TE):TE:=λσ H Q=>ta σ H λx H'=>match x with
 | .bl k=>Q (.bl (!k)) H'
 | .non=>Q (.bl true) H'
 | .int i=>Q (.bl (!(i != 0))) H'
 | .str y=>y.length<=sizeLine/\Q (.bl (!((y.length:Int) != 0))) H'
 | .ref p=>qj K p H' λk H2=>Q (.bl (!k)) H2
 |_=>False
theorem MD (Z:X.K=K)(U:PE X a ta):PE X (.UnaryOp .Not a pos) (SD K ta):=by
 subst Z;intro pins s σ H Q I h;rwa[UnaryOp_ (bv @bd λv O ⟨x,H1,F,J,G⟩=> ?_)]
 have z:(∃k,RV X.K x H1 k/\Q (.bl (!k)) H1)->wpAny @d X.A (unaryOp .Not v) @w X.xe O:=λh=>
  not_of (bv (iw pins O σ H1 x v (λk H2=>Q (.bl (!k)) H2) F J h) λk Y ⟨H2,S,W⟩=>⟨.bl (!k),H2,S,rfl,W⟩)
 cases x with
 |bl k=>exact z ⟨k,rfl,G⟩
 |non=>exact z ⟨false,rfl,G⟩
 |int i=>exact z ⟨_,rfl,G⟩
 |str y=>exact z ⟨_,⟨G.1,rfl⟩,G.2⟩
 |ref p=>
  rcases G with ⟨xs,R|R,q⟩|⟨j,R,q⟩
  ·exact z ⟨_,.inl ⟨xs,R,rfl⟩,q⟩
  ·exact z ⟨_,.inr (.inl ⟨xs,R,rfl⟩),q⟩
  ·exact z ⟨_,.inr (.inr ⟨j,R,rfl⟩),q⟩
 |_=>exact False.elim G
def SQ (t:TT)(ta tb:TE):TE:=λσ H Q=>t σ H λc H1=>uJ c (ta σ H1 Q) @gu
theorem BD (J:PT X c tA)(j:PE X a ta)(z:PE X b tb):PE X (.IfExp c a b pos) (SQ tA ta tb):=Ge J j z
def SO (c:TT)(t u:TS):TS:=λD σ H=>c σ H λb H1=>uJ b (t D σ H1) (u D σ H1)
theorem au {t u:TS}{p q:List Stmt}(J:PT X c tA)(j:sE X p t)(z:sE X q u):PS X (.If c p q pos) (SO tA t u):=QX J j z
def uw (K:Fg)(p:Addr)(lo hi:Option Int)(H:Hp)(Q:VK):Prop:=(∃xs,aD K H p xs/\∀l,H l=none->Q (.ref l) (upd H l (.lst @cd)))\/
 ∃xs,aE K H p xs/\ ¬(HT.sIx xs.length 0 lo=0/\HT.sIx xs.length xs.length hi=xs.length)/\∀l,H l=none->Q (.ref l) (upd H l (.tup @cd))
def T7 (K:Fg):V->Option Int->Option Int->Hp->VK->Prop:=λx lo hi H Q=>match x with| .ref p=>uw K p lo hi H Q|_=>False
theorem Sv (Z:X.K=K):Pg X (T7 K):=by
 subst Z;intro pins s σ H x v G F lo hi sl Q I z hs pl j h
 cases x with
 |ref p=>
  rcases h with ⟨xs,h1,h2⟩|⟨xs,h1,h2,S⟩
  ·exact Jv pins s σ H _ v G F lo hi sl Q I z hs pl j ⟨p,xs,rfl,h1,h2⟩
  ·exact Np pins s σ H _ v G F lo hi sl Q I z hs pl j ⟨p,xs,rfl,h1,h2,S⟩
 |_=>exact False.elim h
def Qa (t:TE):TO:=λσ H Q=>t σ H λx H1=>match x with| .int i=>Q (some i) H1|_=>False
theorem IX (h:PE X e te):PO X (some e) (Qa te):=by
 intro pins s σ H Q I J;rw [evalPart_some];rwa[bv (h pins s σ H _ I J) λu O ⟨x,H1,z,F,G⟩=> ?_]
 cases x with
 |int i=>obtain ⟨t,rfl⟩:=F;exact ⟨some i,H1,z,.int i t,G⟩
 |_=>exact False.elim G
def EH (K:Fg)(T:String)(x:V)(H:Hp)(P:Prop):Prop:=match x with
 | .str _=>T="str"/\P
 | .int _=>T="int"/\P
 | .ref _=>R7 K T x H/\P
 |_=>False
def Ub (K:Fg)(T:String)(r:V->List V->Hp->VK->Prop)(to:TE)(t:TA):TE:=λσ H Q=>to σ H λx H1=>EH K T x H1 (t σ H1 λxs H2=>r x xs H2 Q)
end
section
variable {X:Cx}{K:Fg}{o e:Expr}{es:List Expr}{to:TE}{t:TA}{name:Str}{apos cpos:Pos}{T id:String}{r:V->List V->Hp->VK->Prop}
theorem xK {x:V}{H:Hp}{P:Prop}(h:EH K T x H P):R7 K T x H/\P:=by
 cases x with
 |str z=>exact h
 |int i=>exact h
 |ref p=>exact h
 |_=>exact False.elim h
theorem gW (hK:X.K=K)(pa:PlainAttrs T)(W:Slot T name id)(J:typeOf (.builtin id)=pure (.type "method_descriptor"))(Y:xg X id r)(ho:PE X o to)(ha:PA X (e::es) t)
(hb:eF o=true:=by rfl)(U:aI (e::es)=true:=by rfl)(hl:(e::es).length<29:=by decide)(z:(apos.endLine==cpos.line)=true:=by rfl):
 PE X (.Call (.Attribute o name apos) (e::es) [] cpos) (Ub K T r to t):=by
 subst hK;have h':(bw e&&aI es)=true:=U;rw [Bool.and_eq_true] at h';have hs:starEach (e::es) X.env=(false,eval e X.env)::starEach es X.env:=aU h'.1;have j:(backTo cpos @J).any (·.1)=false:=bJ h'.2
 have F:((backTo cpos (starEach (e::es) X.env)).all (λx=> !x.1)&&(backToKw cpos @dL).all @ev
  &&decide ((e::es).length+([]:List Keyword).length+(if ([]:List Keyword).isEmpty then 0 else 1)<30))=true:=by
  rw [m9 U,arm_keywordEach_nil];show (true&&true&&decide ((e::es).length+0+0<30))=true;rw [decide_eq_true @c];rfl
 intro pins s σ H Q I h;rwa[wpAny_Call_method_late (w9 hb) F z rfl (bv (ho pins s σ H _ I h) λv s1 ⟨x,H1,O,R,G⟩=> ?_)];obtain ⟨ty,G⟩:=xK G;obtain ⟨h1,h2⟩:=EM O R ty;rwa[⟨T,id,pa,W,J,h1,h2,?_⟩];have S:=ha cpos pins s1 σ H1 _ O G;rw [hs] at S ⊢;rwa[Calls.callWith_builtin (by show (false||(backTo cpos @J).any (·.1))=false;rw [j]<;>rfl) (Calls.evalArgs_plain ?_)];exact bv S λus s2 ⟨Z,H2,I2,r2,q2⟩=>Y pins s2 σ H2 x Z v us Q I2 R r2 q2
def SU (K:Fg)(T:String)(r:V->List V->Hp->VK->Prop)(to:TE):TE:=λσ H Q=>to σ H λx H1=>EH K T x H1 (r x [] H1 Q)
theorem zM (Z:X.K=K)(R:PlainAttrs T)(W:Slot T name id)(J:typeOf (.builtin id)=pure (.type "method_descriptor"))(O:xg X id r)(U:PE X o to)
(Y:eF o=true:=by rfl)(z:(apos.endLine==cpos.line)=true:=by rfl):PE X (.Call (.Attribute o name apos) [] [] cpos) (SU K T r to):=by
 subst Z;intro pins s σ H Q I h;rwa[wpAny_Call_method0_late (w9 Y) z (bv @bd λv S ⟨x,H1,j,F,G⟩=> ?_)];obtain ⟨ty,G⟩:=xK G;obtain ⟨h1,h2⟩:=EM j F ty;exact ⟨T,id,R,W,J,h1,h2,Calls.callWith_builtin rfl (PySem.evalArgs_none (O pins S σ H1 x [] v [] Q j F .nil G))⟩
def Ci (z y:Str):Int:=match Builtin.Str.occurrences z y 0 z.length 1 with|i::_=>(i:Int)|[]=> -1
def B9 (K:Fg)(z:Str)(a:Addr)(H:Hp)(Q:VK):Prop:=∃ts:List Str,aD K H a @dy/\(ts.toArray.foldl (· + ·.length+z.length) 0)<=sizeLine/\(Builtin.Str.glued z ts).length<=sizeLine/\Q (.str @cr) H
def Qf (K:Fg):V->List V->Hp->VK->Prop:=λx xs H Q=>match x,xs with| .str z,[.ref a]=>B9 K z a H Q|_,_=>False
theorem zO (Z:X.K=K):xg X "str.join" (Qf K):=(G1 Z).imp λx xs H Q h=>by
 match x,xs,h with
 | .str z,[.ref a],h=>obtain ⟨j,h1⟩:=h;exact ⟨z,a,j,rfl,rfl,h1⟩
def Qi:V->List V->Hp->VK->Prop:=λx xs H Q=>match x,xs with| .int i,[]=>Q (.int (Builtin.Int.intBits i)) H|_,_=>False
theorem EE:xg X "int.bit_length" Qi:=KA.imp λx xs H Q h=>by
 match x,xs,h with
 | .int i,[],h=>exact ⟨i,rfl,rfl,h⟩
def Ln (a:Addr)(y:V)(H:Hp)(Q:VK):Prop:=∃xs,H a=some (.lst xs)/\xs.length<sizeLine/\Q .non (upd H a (.lst (xs++[y])))
def Jd:V->List V->Hp->VK->Prop:=λx xs H Q=>match x,xs with| .ref a,[y]=>Ln a y H Q|_,_=>False
theorem xJ:xg X "list.append" Jd:=by
 intro pins s σ H x xs v j Q I z F h
 match x,xs,h with
 | .ref a,[y],h=>
   obtain ⟨ys,h1,h2,S⟩:=h;exact Dy pins s σ H _ _ v j Q I z F ⟨a,ys,y,rfl,rfl,h1,h2,S⟩
def Ls (K:Fg)(a:Addr)(H:Hp)(Q:VK):Prop:=∃bs:List Bool,aD K H a @bm/\Q (.bl (bs.all _root_.id)) H
def Ql (K:Fg):List V->Hp->VK->Prop:=λxs H Q=>match xs with|[.ref a]=>Ls K a H Q|_=>False
theorem EF (Z:X.K=K)(J:X.calm=true):bc X (.builtin "all") (Ql K):=(D6 Z J).imp λxs H Q h=>by
 match xs,h with
 |[.ref a],h=>obtain ⟨bs,h1⟩:=h;exact ⟨a,bs,rfl,h1⟩
def yz (K:Fg)(p:Addr)(H:Hp)(Q:VK):Prop:=∃ys,(aD K H p ys\/aE K H p ys)/\∀l,H l=none->Q (.ref l) @cn
def Qe (K:Fg):List V->Hp->VK->Prop:=λxs H Q=>match xs with|[.ref a]=>yz K a H Q|_=>False
theorem zN (Z:X.K=K):bc X (.type "list") (Qe K):=(Bq Z).imp λxs H Q h=>by
 match xs,h with
 |[.ref a],h=>obtain ⟨ys,h1⟩:=h;exact ⟨a,ys,rfl,h1⟩
def CM (K:Fg)(p:Addr)(H:Hp)(Q:VK):Prop:=∃ys,(aD K H p ys/\∀l,H l=none->Q (.ref l) @cU)\/(aE K H p ys/\Q (.ref p) H)
def ML (K:Fg):List V->Hp->VK->Prop:=λxs H Q=>match xs with|[.ref a]=>CM K a H Q|_=>False
theorem gw (Z:X.K=K):bc X (.type "tuple") (ML K):=(y8 Z).imp λxs H Q h=>by
 match xs,h with
 |[.ref a],h=>obtain ⟨ys,h1⟩:=h;exact ⟨a,ys,rfl,h1⟩
def yE (K:Fg)(p:Addr)(H:Hp)(R:It->Hp->Prop):Prop:=(∃xs,aD K H p xs/\R (El K p) H)\/∃xs,aE K H p xs/\R (ID K p) H
def SA (K:Fg)(te:TE):TI:=λσ H R=>te σ H λx H1=>match x with| .str z=>R (LC z) H1| .ref p=>yE K p H1 R|_=>False
end
theorem vf {X:Cx}{K:Fg}(hK:X.K=K){tg e:Expr}{te:TE}(Y:PE X e te):PI X tg e (SA K te):=by
 subst hK;intro pins s σ H R I h;rwa[bv @cK λv O ⟨x,H1,j,G,q⟩=> ?_];have Z:∀ {t:TE},True:=λ{_}=>trivial
 have S:((∃z,x= .str z/\R (LC z) H1)\/(∃a,x= .ref a/\(∃xs,aD X.K H1 a xs)/\R (El X.K a) H1)\/(∃a,x= .ref a/\(∃xs,aE X.K H1 a xs)/\R (ID X.K a) H1))->
  wpAny @d X.A (pyIter v) @et X.xe O:=λq=>by
  rcases q with ⟨z,rfl,q⟩|⟨a,rfl,⟨xs,J⟩,q⟩|⟨a,rfl,⟨xs,J⟩,q⟩
  ·obtain ⟨t,rfl⟩:=G
   have fp:∀b∈[O.heap.objs.size],gR X pins H1 b:=λb F=>by
    have e:b=O.heap.objs.size:=by simpa using F
    subst e;exact j.fpOk @f @fk
   cases U:z.cps.all (· <128)
   ·exact wpAny_pyIter_wide U ⟨O.heap.objs.size,[O.heap.objs.size],_,_,H1,rfl,j.kept (t':=O.toks) λb o e=>Heap.get?_push_of_some _ e,uq (.inr rfl),⟨Nat.zero_le _,_,Heap.get?_push_size _ rfl,rfl,rfl⟩,fp,q⟩
   ·exact wpAny_pyIter_ascii U ⟨O.heap.objs.size,[O.heap.objs.size],_,_,H1,rfl,j.kept (t':=O.toks) λb o e=>Heap.get?_push_of_some _ e,uq (.inl rfl),⟨Nat.zero_le _,_,Heap.get?_push_size _ rfl,rfl,rfl⟩,fp,q⟩
  ·cases G;obtain ⟨its,rv,p,W⟩:=j.list J;rwa[wpAny_pyIter_list p.isList ?_];rwa[⟨O.heap.objs.size,[O.heap.objs.size],_,_,H1,rfl,j.kept (t':=O.toks) λb o e=>Heap.get?_push_of_some _ e,CL a _,⟨_,Heap.get?_push_size _ rfl,rfl,rfl⟩,λb F=> ?_,q⟩]
   have e:b=O.heap.objs.size:=by simpa using F
   subst e;exact j.fpOk @f @fk
  ·cases G;obtain ⟨its,rv,p,W⟩:=j.tuple J;rwa[wpAny_pyIter_tuple (show O.heap.IsTuple a its.toArray from p) ?_];rwa[⟨O.heap.objs.size,[O.heap.objs.size],_,_,H1,rfl,j.kept (t':=O.toks) λb o e=>Heap.get?_push_of_some _ e,zQ a _,⟨_,Heap.get?_push_size _ rfl,rfl,rfl⟩,λb F=> ?_,q⟩]
   have e:b=O.heap.objs.size:=by simpa using F
   subst e;exact j.fpOk @f @fk
 cases x with
 |str z=>exact S (.inl ⟨z,rfl,q⟩)
 |ref p=>
  rcases q with ⟨xs,h1,h2⟩|⟨xs,h1,h2⟩
  ·exact S (.inr (.inl ⟨p,rfl,⟨xs,h1⟩,h2⟩))
  ·exact S (.inr (.inr ⟨p,rfl,⟨xs,h1⟩,h2⟩))
 |_=>exact False.elim q
section
variable {X:Cx}{tg:Expr}
def P9 (ta:TA):TI:=λσ H R=>ta σ H λvs H1=>match vs with|[.int j]=>(-4611686018427387904<=j/\j<4611686018427387904)/\R (LF 0 j.toNat) H1|_=>False
theorem cg {a:Expr}{ta:TA}{p pos:Pos}(Y:Gl X "range")(F:X.mg "range"=none)(S:PA X [a] ta)(hs:bw a=true:=by rfl):PI X tg (.Call (.Name "range" p) [a] [] pos) (P9 ta):=by
 intro pins s σ H R I h;rwa[Call_ (kq I Y F boot_range (PyProof.Rows.callWith_type1 (bv @ck λW U ⟨z,H1,J,O,G⟩=> ?_) (aU hs) rfl))]
 match z,G with
 |[.int j],G=>
  cases O with
  |cons r rr=>
   cases rr;obtain ⟨t,rfl⟩:=r;have h1: -4611686018427387904<=j:=G.1.1;have h2:j<4611686018427387904:=G.1.2;exact call_range_1 (FY J @c @c @c @c (by simpa using G.2))
def setL (p:Addr)(k:Int)(v:V)(H:Hp)(Q:Hp->Prop):Prop:=∃xs j,H p=some (.lst xs)/\Cd xs.length k=some j/\Q @bL
def Sz:V->V->V->Hp->(Hp->Prop)->Prop:=λo i v H Q=>match o,i with| .ref p,.int k=>setL p k v H Q|_,_=>False
theorem xE:Iw X Sz:=by
 intro pins s σ H o i v F z u Q I O J G h
 match o,i,h with
 | .ref p,.int k,h=>
   obtain ⟨xs,j,h1,h2,S⟩:=h;exact Fw pins s σ H _ _ v F z u Q I O J G ⟨p,xs,k,j,rfl,rfl,h1,h2,S⟩
def CK (K:Fg)(n:Nat)(a:Addr)(H:Hp)(P:List V->Prop):Prop:=∃xs,aE K H a xs/\xs.length=n/\P xs
def Sx (K:Fg)(n:Nat)(t:CG):TG:=λv σ H Q=>match v with| .ref a=>CK K n a H λxs=>t xs σ H Q|_=>False
def zL (t:TG)(u:CG):CG:=λvs σ H Q=>match vs with|v::r=>t v σ H λσ' H'=>u r σ' H' Q|[]=>False
def LH:CG:=λvs σ H Q=>match vs with|[]=>Q σ H|_=>False
theorem cz:Eb X [] LH:=λpins s σ H z j Q I r h=>by
 match z,h with
 |[],h=>exact JR pins s σ H [] j Q I r ⟨rfl,h⟩
theorem ay {e:Expr}{es:List Expr}{t:TG}{u:CG}(h1:PG X e t)(h2:Eb X es u)(hs:bw e=true:=by rfl):Eb X (e::es) (zL t u):=λpins s σ H z j Q I r h=>by
 match z,h with
 |v::vr,h=>exact F8 h1 h2 (by cases e<;>first|rfl|cases hs) pins s σ H _ j Q I r ⟨v,vr,rfl,h⟩
theorem dF {K:Fg}(Z:X.K=K){es:List Expr}{k:Nat}{t:CG}{n:Nat}{pos:Pos}(J:X.calm=true)(h:Eb X es t)
(F:(assignEach es X.env).length=n:=by rfl)(j:(assignEach es X.env).findIdx? (·.1)=none:=by rfl):PG X (.Tuple es k pos) (Sx K n t):=λpins s σ H v u Q I r q=>by
 match v,q with
 | .ref a,⟨xs,h1,h2,h3⟩=>exact JS Z J h F j pins s σ H _ u Q I r ⟨a,xs,rfl,h1,h2,h3⟩
end
def EJ (pk:List @x)(wi:TI)(g:TG)(tt:TT)(te:TE):TE:=λσ H Q=>wi σ H λJ H1=>pq J pk g tt te σ H1 Q
def SR (wi:TI)(g:TG)(tb:TS):TS:=λD σ H=>wi σ H λJ H1=>yN J g tb D σ H1
section
variable {X:Cx}{scope:Scope}{N':List Str}{pk:List @x}{tg elt iter:Expr}{ifs:List Expr}{pos:Pos}{wi:TI}{g:TG}{tt:TT}{te:TE}
def nj:Expr->Bool
 | .Set _ _ _=>false
 |_=>true
theorem eI {e:Expr}{env:Env}(h:nj e=true)(x:Value):foldedSetIterable e env x=pure x:=by
 unfold foldedSetIterable
 cases e<;>first|rfl|cases h
theorem bG (j:X.calm=true)(S:bO X scope N' pk)(hi:PI X tg iter wi)(Y:∀C s H ex,PG @i tg g)(J:∀C s H ex,Ea @i ifs tt)
(U:∀C s H ex,PE @i elt te)(hs:nj iter=true:=by rfl):PE X (.ListComp elt [⟨tg,iter,ifs,0⟩] scope pos) @eI:=
 JU j S hi Y J U @gJ
theorem eV {i:Nat}{x:Str}{G j:Pos}(F:X.calm=true)(z:X.N.Nodup)(I:X.N[i]? =some x)(R:LA X.env.scope x)(S:bO X scope N' pk)(hi:PI X tg iter wi)(Y:∀C s H ex,PG @i tg g)
(J:∀C s H ex,Ea @i ifs tt)(U:∀C s H ex,PE @i elt te)(hs:nj iter=true:=by rfl)
(ac:swapsWith (.ListComp elt [⟨tg,iter,ifs,0⟩] scope pos) (some (.Name x G)) j.line X.env=pure true:=by rfl)(O:X.fn x=true\/X.env.scope.names.lookup x=some .local:=by first|exact .inl rfl|exact .inr rfl|assumption):
 PS X (.Assign [.Name x G] (.ListComp elt [⟨tg,iter,ifs,0⟩] scope pos) j) (E4 @eI (jJ i)):=
 JK F z I R S hi Y J U @gJ ac O
theorem cE {U:List Stmt}{tb:TS}(G:PassesOwn @d X.A X.env X.xe)(J:X.calm=true)(hi:PI X tg iter wi)(Y:PG X tg g)(z:sE X U tb)
(hs:nj iter=true:=by rfl):PS X (.For tg iter U [] pos) (SR wi g tb):=NP G J hi Y z @gJ
end
def Jm (t u:TS):TS:=λD σ H=>∃M:St->Hp->Prop,t {D with nx:=M} σ H/\∀σ' H',M σ' H'->u D σ' H'
theorem eD {X:Cx}{st:Stmt}{eN:List Stmt}{t u:TS}(h1:PS X st t)(h2:sE X eN u):sE X (st::eN) (Jm t u):=by
 intro pins s σ H D I h;obtain ⟨M,J,F⟩:=h;rwa[wpAny_execs_cons (bv (h1 pins s σ H {D with nx:=M} I J) λf O q=> ?_)]
 cases f with
 |next=>
  obtain ⟨j,H',z,q⟩:=q;exact h2 pins O j H' D z (F j H' q)
 |ret v=>exact q
 |brk=>exact q
 |cont=>exact q
theorem ue {t u:TS}{D:jD}{σ:St}{H:Hp}(M:St->Hp->Prop)(h1:t {D with nx:=M} σ H)(h2:∀σ' H',M σ' H'->u D σ' H'):Jm t u D σ H:=⟨M,h1,h2⟩
section
variable {K:Fg}{H:Hp}{p q:Addr}{xs ys:List V}{Q:VK}
theorem dL (h:aD K H p ys)(g:Q (.int ys.length) H):gy K p H Q:=⟨ys,.inl h,g⟩
theorem bQ (h:aE K H p ys)(g:Q (.int ys.length) H):gy K p H Q:=⟨ys,.inr h,g⟩
theorem aW {i:Int}{v:V}(h:aD K H p xs)(e:lY xs i=some v)(g:Q v H):jF K p i H Q:=⟨xs,.inl h,v,e,g⟩
theorem ao {i:Int}{v:V}(h:aE K H p xs)(e:lY xs i=some v)(g:Q v H):jF K p i H Q:=⟨xs,.inr h,v,e,g⟩
theorem jf {z:Str}{i:Int}{c:Nat}(j:z.length<=sizeLine)(e:lY z.cps.toList i=some c)(g:Q (.str ⟨#[c]⟩) H):vG z i H Q:=⟨j,c,e,g⟩
theorem mK {x:V}(h:aD K H p xs)(h1:cY x=true)(h2:xs.all cY=true)(g:Q (.bl (sO x xs)) H):on K false x p H Q:=⟨xs,.inl h,h1,h2,g⟩
theorem Ae {x:V}(h:aE K H p xs)(h1:cY x=true)(h2:xs.all cY=true)(g:Q (.bl (sO x xs)) H):on K false x p H Q:=⟨xs,.inr h,h1,h2,g⟩
theorem CS {x:V}(h:aD K H p xs)(h1:cY x=true)(h2:xs.all cY=true)(g:Q (.bl (!sO x xs)) H):on K true x p H Q:=⟨xs,.inl h,h1,h2,g⟩
theorem ux {x:V}(h:aE K H p xs)(h1:cY x=true)(h2:xs.all cY=true)(g:Q (.bl (!sO x xs)) H):on K true x p H Q:=⟨xs,.inr h,h1,h2,g⟩
theorem Hm {x:Str}{n:Int}(e:PySem.intText? x=some n)(R:x.length<=640)(g:Q (.int n) H):yF x H Q:=⟨n,e,R,g⟩
theorem Jx {R:Bool->Hp->Prop}(h:aD K H p xs)(g:R (!xs.isEmpty) H):qj K p H R:= .inl ⟨xs,.inl h,g⟩
theorem Nq {lo hi:Option Int}(h:aD K H p xs)(g:∀l,H l=none->Q (.ref l) (upd H l (.lst @cd))):uw K p lo hi H Q:= .inl ⟨xs,h,g⟩
theorem wE {z:Str}{ts:List Str}(h:aD K H p @dy)(h1:(ts.toArray.foldl (· + ·.length+z.length) 0)<=sizeLine)(h2:(Builtin.Str.glued z ts).length<=sizeLine)(g:Q (.str @cr) H):B9 K z p H Q:=⟨ts,h,h1,h2,g⟩
theorem fK {y:V}(h:H p=some (.lst xs))(j:xs.length<sizeLine)(g:Q .non (upd H p (.lst (xs++[y])))):Ln p y H Q:=⟨xs,h,j,g⟩
theorem Ir {bs:List Bool}(h:aD K H p @bm)(g:Q (.bl @gI) H):Ls K p H Q:=⟨bs,h,g⟩
theorem Qr (h:aD K H p ys)(g:∀l,H l=none->Q (.ref l) @cU):CM K p H Q:=⟨ys,.inl ⟨h,g⟩⟩
theorem Qq (h:aE K H p ys)(g:Q (.ref p) H):CM K p H Q:=⟨ys,.inr ⟨h,g⟩⟩
theorem b8 {R:It->Hp->Prop}(h:aD K H p xs)(g:R (El K p) H):yE K p H R:= .inl ⟨xs,h,g⟩
theorem d5 {R:It->Hp->Prop}(h:aE K H p xs)(g:R (ID K p) H):yE K p H R:= .inr ⟨xs,h,g⟩
theorem xX {k:Int}{j:Nat}{v:V}{R:Hp->Prop}(h:H p=some (.lst xs))(Z:Cd xs.length k=some j)(g:R @bL):setL p k v H R:=⟨xs,j,h,Z,g⟩
theorem om {n:Nat}{P:List V->Prop}(h:aE K H p xs)(R:xs.length=n)(g:P xs):CK K n p H P:=⟨xs,h,R,g⟩
end
theorem cy {i j:Int}(h1: -18446744073709551616<i)(h2:i<18446744073709551616):sM i j:= .inl ⟨h1,h2⟩
theorem Bn {i j:Int}(h1: -18446744073709551616<j)(h2:j<18446744073709551616):sM i j:= .inr ⟨h1,h2⟩
theorem RL {i j:Int}(h1:0<j)(h2:j<1073741824):Eg i j:=⟨h1,h2⟩
theorem Co {i j:Int}(h1:0<=j)(h2:j<=1000000)(S:i.natAbs<18446744073709551616):Bx i j:=⟨h1,h2,S⟩
theorem aF (x:Str):x.cps.toList.length=x.length:=by simp [Str.length]
theorem BR {n:Nat}(h:n<=9000):n<sizeLine:=by rw [sizeLine_eq];lia
def CH (K:Fg)(H:Hp)(a:Addr)(ns:List Int):Prop:=aD K H a @cl/\ns.length<=63
inductive D where
 |non|bl (b:Bool)|int (i:Int)|str (x:Str)|lst (ds:List D)|tup (ds:List D)
mutual
def rM:D->D->Bool
 | .non,.non=>true
 | .bl a,.bl b=>a==b
 | .bl a,.int b=>(if a then 1 else 0)==b
 | .int a,.bl b=>a==(if b then 1 else 0)
 | .int a,.int b=>a==b
 | .str a,.str b=>a==b
 | .lst xs,.lst ys=>eqDs xs ys
 | .tup xs,.tup ys=>eqDs xs ys
 |_,_=>false
def eqDs:List D->List D->Bool
 |[],[]=>true
 |x::xs,y::ys=>rM x y&&eqDs xs ys
 |_,_=>false
end
mutual
theorem yT:∀d:D,rM d d=true
 | .non=>rfl
 | .bl a=>by simp [rM]
 | .int a=>by simp [rM]
 | .str a=>by simp [rM]
 | .lst xs=>by rw [rM];exact eqDs_refl xs
 | .tup xs=>by rw [rM];exact eqDs_refl xs
theorem eqDs_refl:∀ds:List D,eqDs ds ds=true
 |[]=>rfl
 |d::ds=>by rw [eqDs,yT d,eqDs_refl ds];rfl
end
theorem rK:∀ {xs ys:List D},xs.length≠ys.length->eqDs xs ys=false
 |[],[],h=>absurd rfl h
 |[],_::_,_=>by simp [eqDs]
 |_::_,[],_=>by simp [eqDs]
 |x::xs,y::ys,h=>by
  rw [eqDs,rK (xs:=xs) (ys:=ys) (by simpa using h),Bool.and_false]
theorem rL:∀ {xs ys:List D},xs.length=ys.length->((List.range xs.length).all λj=>rM (xs.getD j .non) (ys.getD j .non))=eqDs xs ys
 |[],[],_=>rfl
 |[],_::_,h=>by simp at h
 |_::_,[],h=>by simp at h
 |x::xs,y::ys,h=>by
  have z:=rL (xs:=xs) (ys:=ys) (by simpa using h);rw [eqDs,<-z,length_cons,range_succ_eq_map,all_cons,all_map];rfl
inductive bL (K:Fg)(H:Hp):V->D->Prop
 |non:bL K H .non .non
 |bl (b:Bool):bL K H (.bl b) (.bl b)
 |int (i:Int):bL K H (.int i) (.int i)
 |str (x:Str):bL K H (.str x) (.str x)
 |lst {a:Addr} {xs:List V} {ds:List D} (h:aD K H a xs) (hl:xs.length=ds.length) (hi:∀(i:Nat) x d,xs[i]? =some x->ds[i]? =some d->bL K H x d):bL K H (.ref a) (.lst ds)
 |tup {a:Addr} {xs:List V} {ds:List D} (h:aE K H a xs) (hl:xs.length=ds.length) (hi:∀(i:Nat) x d,xs[i]? =some x->ds[i]? =some d->bL K H x d):bL K H (.ref a) (.tup ds)
mutual
def Ur:D->Nat
 | .lst ds=>deps ds+1
 | .tup ds=>deps ds+1
 |_=>0
def deps:List D->Nat
 |[]=>0
 |d::ds=>max (Ur d) (deps ds)
end
section
variable {X:Cx}{pins:List (Addr×Obj)}{σ:St}{H:Hp}{s:Shared}
theorem yu {a:Addr}{xs ys:List V}(I:ar X pins σ H s)(h:aD X.K H a xs)(h':aE X.K H a ys):False:=by
 obtain ⟨its,_,p,_⟩:=I.list h;obtain ⟨G,_,p2,_⟩:=I.tuple h';obtain ⟨o,e,c,_⟩:=p.isList;obtain ⟨o',j,z,_⟩:=p2;rw [e] at j;cases j;rw [c] at z;injection z with c2;exact absurd c2 @b
theorem bL.inj (I:ar X pins σ H s){x:V}{d e:D}(h:bL X.K H x d)(h':bL X.K H x e):d=e:=by
 induction h generalizing e with
 |non=>cases h';rfl
 |bl b=>cases h';rfl
 |int i=>cases h';rfl
 |str z=>cases h';rfl
 | @lst a xs ds hq hl hi ih=>
   cases h' with
   | @lst _ ys es hq' hl' hi'=>
     have j:=I.list_inj hq hq';subst j;congr 1;rwa[ext_getElem @c λi h1 h2=> ?_];exact ih i xs[i] _ @e (by simp [h1]) (hi' i xs[i] _ @e (by simp [h2]))
   |tup hq' _ _=>exact (yu I hq hq').elim
 | @tup a xs ds hq hl hi ih=>
   cases h' with
   | @tup _ ys es hq' hl' hi'=>
     have j:=I.tuple_inj hq hq';subst j;congr 1;rwa[ext_getElem @c λi h1 h2=> ?_];exact ih i xs[i] _ @e (by simp [h1]) (hi' i xs[i] _ @e (by simp [h2]))
   |lst hq' _ _=>exact (yu I hq' hq).elim
end
structure Eh (h:Heap)(a T:Addr)(cls:Value)(dd:Option Addr)(fl:Value):Prop where
 ex:∃oe vs oT ts,h.get? a=some oe/\oe.cls=cls/\oe.dict=dd/\oe.data= .fields vs/\vs[1]? =some (.ref T)/\vs[2]? =some .none/\T≠a/\h.get? T=some oT/\oT.data= .fields ts/\ts[3]? =some fl
structure Pass (fs:List Addr)(ch:List Addr)(h h':Heap):Prop where
 keep:∀b o,b∉ch->b∉fs->h.get? b=some o->h'.get? b=some o
 slot:∀b o,b∉ch->h.get? b=some o->∃sl,h'.get? b=some {o with slots:=sl}
theorem KL {o:Obj}{vs:Array Value}(G:o.data= .fields vs)(f:Array Value->Array Value):Obj.mapFields f o= {o with data:= .fields (f vs)}:=by
 obtain ⟨c,d,j,sl⟩:=o;cases G;rfl
section
variable {M:Model}{A:Around}{E:Value->Shared->Prop}{s:Shared}
theorem uP {base:Heap}{env:Env}{outer:List Env}{L e:Addr}{Z:Obj}{vs:Array Value}{G:Value}{F:Bool}{Q:Unit->Shared->Prop}
(ad:A.frames=some (env::outer))(hl:s.heap.FunFrames base (env::outer))(hf:env.frame=some L)(he:s.heap.get? e=some Z)(hd:Z.data= .fields vs)(hsz:1<vs.size)(h2:vs[2]? =some .none)
(h:∀h' T,Pass (wP (env::outer)) [e] s.heap h'->s.heap.get? T=none->Eh h' e T Z.cls Z.dict @eT->Q () {s with heap:=h'}):
 wpAny M A (do let a<-frameOf env;let pl<-entryPlaceOf L F;let b<-EntryCells.newEntry G a .none @eT .none pl;setField (.ref e) 1 b) Q E s:=by
 have ac:e∉(env::outer).filterMap (·.frame):=λhm=>by
  obtain ⟨_,o,U,ag⟩:=hl.mem hm;rw [he] at U;cases U;exact ag vs hd
 rwa[wpAny_bind (wpAny_frameOf_fun ad hl hf λj I=>wpAny_bind (wpAny_entryPlaceOf λpl aa=> ?_))];unfold EntryCells.newEntry newFields;rwa[wpAny_bind (wpAny_newObj_type ?_ (aa.sizeOk5 _ _ _ _ _))];have W:j.get? e=some Z:=(I.2.1 e ac).trans he;generalize U:({cls:= .type "traceback",dict:=none,data:= .fields ([G,.ref L,.none,rawInt L,.none]++(if pl.isEmpty then List.replicate 6 Value.none else pl)).toArray}:Obj)=o
 have ah:o.data= .fields ([G,.ref L,.none,rawInt L,.none]++(if pl.isEmpty then List.replicate 6 Value.none else pl)).toArray:=by rw [<-U]
 have aj:o.isFreed=false:=by rw [<-U];rfl
 have S:=Heap.get?_push_of_some (h:=j) o W;rwa[wpAny_setField S hd hsz ?_];have Y:j.objs.size≠e:=Nat.ne_of_gt (Heap.lt_size W);have R:=Obj.data_mapFields hd (·.setIfInBounds 1 @cC);have ai:=Heap.get?_update_self (Obj.mapFields (·.setIfInBounds 1 @cC)) S (Obj.isFreed_of_fields R);have ae:=(Heap.get?_update_other (j.push o) (Obj.mapFields (·.setIfInBounds 1 @cC)) (Ne.symm Y)).trans (Heap.get?_push_size j aj)
 have O:∀b u,b≠e->j.get? b=some u->((j.push o).update e (Obj.mapFields (·.setIfInBounds 1 @cC))).get? b=some u:=λb u af hb=>by
  rw [Heap.get?_update_other _ _ (Ne.symm af)];exact Heap.get?_push_of_some _ hb
 rwa[h _ j.objs.size ⟨λb u hb ak J=> ?_,λb u hb J=> ?_⟩ (Heap.get?_none_of_le (by rw [I.1];exact Nat.le_refl _)) ⟨_,_,o,_,ai,?_,?_,R,by simp [hsz],by rw [Array.getElem?_setIfInBounds_ne @b];exact h2,Y,ae,ah,?_⟩]
 ·exact O b u (λz=>hb (by simp [z])) ((I.2.1 b ak).trans J)
 ·obtain ⟨sl,hs⟩:=I.2.2 b u J;exact ⟨sl,O b _ (λz=>hb (by simp [z])) hs⟩
 ·exact Obj.cls_mapFields _ _
 ·rw [KL hd]
 ·first|(simp;done)|(rcases aa with rfl|⟨_,_,_,_,_,_,_,rfl⟩<;>simp)
theorem kz {a T:Addr}{F fl:Value}{dd:Option Addr}{f:Option Addr}{Q:Unit->Shared->Prop}(x:Eh s.heap a T F dd fl)
(h:∀h',Pass [] [T] s.heap h'->Eh h' a T F dd (f.elim .none λf=>rawInt f)->Q () {s with heap:=h'}):wpAny M A (setFlight (.ref a) f) Q E s:=by
 obtain ⟨oe,Z,oT,ts,h1,h2,h3,U,Y,R,S,W,O,h9⟩:=x.ex;have I:3<ts.size:=(Array.getElem?_eq_some_iff.mp h9).1;unfold setFlight;rwa[wpAny_bind (wpAny_field h1 U Y ?_)];rw [if_pos (show (Value.ref T != Value.none)=true from by simp)];have j:∀b,b≠T->∀g,(s.heap.update T g).get? b=s.heap.get? b:=λb G g=>Heap.get?_update_other _ _ (Ne.symm G);rwa[wpAny_setField W O I (h _ ⟨λb o G _ J=>(j b (λz=>G (by simp [z])) _).trans J,λb o G J=>⟨o.slots,(j b (λz=>G (by simp [z])) _).trans J⟩⟩ ?_)];exact ⟨oe,Z,_,_,(j a (Ne.symm S) _).trans h1,h2,h3,U,Y,R,S,Heap.get?_update_self _ W (Obj.isFreed_of_fields (Obj.data_mapFields O _)),Obj.data_mapFields O _,by simp [I]⟩
end
theorem Pass.more {fs fs' ch:List Addr}{h h1:Heap}(a:Pass fs ch h h1)(hs:∀b∈fs,b∈fs'):Pass fs' ch h h1:=⟨λb o j G e=>a.keep b o j (λz=>G (hs b z)) e,a.slot⟩
def Nw (X:Cx)(pins:List (Addr×Obj))(H:Hp)(b:Addr):Prop:=H b=none/\b≠X.env.locals/\b∉X.fs/\(b∈X.ex\/X.s₀.heap.get? b=none)/\(∀x c,X.env.cells.lookup x=some c->c≠b)/\∀p∈X.pn++pins,p.1≠b
theorem bp.here {P:Program}{w:World}{H:Hp}{h:Heap}{a:Addr}{o:HO}(x:bp P w H h a o):∃u,h.get? a=some u:=by
 cases o with
 |lst xs=>obtain ⟨_,_,_,_,e⟩:=x;exact ⟨_,e⟩
 |tup xs=>obtain ⟨_,_,_,o,e,_⟩:=x;exact ⟨_,e⟩
 |dK kvs=>obtain ⟨_,_,_,_,o,_,_,e,_⟩:=x;exact ⟨_,e⟩
 |dT kvs=>obtain ⟨_,_,_,_,o,_,_,e,_⟩:=x;exact ⟨_,e⟩
 |set S n=>obtain ⟨o,_,_,_,e,_⟩:=x;exact ⟨_,e⟩
 |ins C dx fs=>obtain ⟨_,_,_,e,_⟩:=x;exact ⟨_,e⟩
 |own y=>obtain ⟨_,e⟩:=x;exact ⟨_,e⟩
 |xd fs=>obtain ⟨_,⟨_,_,_,e,_⟩,_⟩:=x;exact ⟨_,e⟩
 |rng lo hi=>obtain ⟨_,_,_,e⟩:=x;exact ⟨_,e⟩
 |frz ob u=>obtain ⟨e,_⟩:=x;exact ⟨_,e⟩
 |tbl ps=>exact ⟨_,show h.get? a=some _ from x⟩
 |met f y=>exact ⟨_,show h.get? a=some _ from x⟩
 |ext φ=>obtain ⟨_,e,_⟩:=x;exact e
theorem fh.none_of {P:Program}{w:World}{H:Hp}{h:Heap}{a:Addr}(x:fh P w H h)(e:h.get? a=none):H a=none:=by
 cases q:H a with
 |none=>rfl
 |some o=>obtain ⟨u,z⟩:=(x a o q).here;rw [e] at z;cases z
section
variable {X:Cx}{pins:List (Addr×Obj)}{σ:St}{H:Hp}{s:Shared}
theorem ar.nw {H':Hp}{b:Addr}(I:ar X pins σ H s)(j:s.heap.get? b=none)(J:H' b=none):Nw X pins H' b:=by
 rwa[⟨J,λz=> ?_,λz=> ?_,?_,λx c e z=> ?_,λp G z=> ?_⟩]
 ·obtain ⟨m,⟨o,_,_,U,_⟩,_⟩:=I.loc;rw [<-z,j] at U;cases U
 ·obtain ⟨_,o,U,_⟩:=I.funs.mem z;rw [j] at U;cases U
 ·by_cases F:b∈X.ex
  ·exact .inl F
  ·rwa[.inr ?_]
   cases q:X.s₀.heap.get? b with
   |none=>rfl
   |some o=>obtain ⟨o',e⟩:=I.base.there b o q F;rw [j] at e;cases e
 ·obtain ⟨v,o,U,_⟩:=I.cell x c e;rw [z,j] at U;cases U
 ·have e:=(I.pin p G).1;rw [z,j] at e;cases e
theorem ar.pass {ch:List Addr}{h':Heap}(I:ar X pins σ H s)(p:Pass @dY ch s.heap h')(J:∀b∈ch,Nw X pins H b):ar X pins σ H {s with heap:=h'}:=by
 have G:∀b u,H b=some u->b∉ch:=λb u e z=>by rw [(J b z).1] at e;cases e
 have W:∀b u,H b=some u->b∉wP X.stack:=λb u e z=>by rw [I.stkFree b z] at e;cases e
 have U:∀b o,X.s₀.heap.get? b=some o->b∉X.ex->b∉ch:=λb o e F j=>by
  rcases (J b j).2.2.2.1 with z|z
  ·exact F z
  ·rw [e] at z;cases z
 have aa:∀b o,X.s₀.heap.get? b=some o->b≠X.env.locals:=λb o e=>Nat.ne_of_lt @s
 have Z:∀b o,X.s₀.heap.get? b=some o->b∉X.fs->b∉wP X.stack:=λb o e j z=>by
  rcases mem_cons.mp @fN with q|q
  ·exact aa b o e q
  ·exact j q
 have ad:X.env.locals∉ch:=λz=>(J _ z).2.1 rfl;have ac:∀x c,X.env.cells.lookup x=some c->c∉ch:=λx c e z=>(J c z).2.2.2.2.1 x c e rfl
 have R:∀x c,X.env.cells.lookup x=some c->∀v,s.heap.IsCell c v->h'.IsCell c v:=λx c e v ⟨o,ho,hd⟩=>by
  obtain ⟨sl,q⟩:=p.slot c o (ac x c e) ho;exact ⟨_,q,hd⟩
 rwa[⟨I.ok,I.os,I.bare,⟨λb o e n j F=> ?_,λb o e n j F=> ?_,I.base.free,λb o e F=> ?_,I.base.tups,I.base.frzs,I.base.tbls⟩,?_,λx c e=> ?_,I.free,I.freeC,λq hq=> ?_,λb u e=> ?_,I.len⟩]
 ·exact p.keep b o @cZ (Z b o e j) (I.base.keep b o e n j F)
 ·obtain ⟨sl,S⟩:=I.base.slot b o e n j F;obtain ⟨af,Y⟩:=p.slot b _ @cZ S;exact ⟨af,Y⟩
 ·obtain ⟨o',S⟩:=I.base.there b o e F;obtain ⟨af,Y⟩:=p.slot b _ @cZ S;exact ⟨_,Y⟩
 ·obtain ⟨m,⟨o,es,ep,ho,r⟩,hl⟩:=I.loc;obtain ⟨sl,hL⟩:=p.slot _ o ad ho;rwa[⟨m,⟨_,es,ep,hL,r⟩,λi x v S Y e3=> ?_⟩];obtain ⟨u,rv,l⟩:=hl i x v S Y e3;rwa[⟨u,rv,?_⟩]
  rcases l with l|⟨k,c,e,z⟩
  ·exact .inl l
  ·exact .inr ⟨k,c,e,R x c e _ z⟩
 ·obtain ⟨v,z⟩:=I.cell x c e;exact ⟨v,R x c e v z⟩
 ·obtain ⟨e,n,ne,nf,d⟩:=I.pin q hq;rwa[⟨p.keep q.1 q.2 (λz=>(J _ z).2.2.2.2.2 q hq rfl) @B e,n,ne,nf,d⟩]
  rcases mem_cons.mp (I.stkSub _ z) with y|y
  ·exact ne y
  ·exact nf y
 ·rwa[(I.hok b u e).stay (λc v O q=>p.keep c v ?_ ?_ q) @ds λ_ _ q=>q]
  ·rcases O with z|z
   ·rw [z];exact G b u e
   ·exact G c _ z
  ·rcases O with z|z
   ·rw [z];exact W b u e
   ·exact W c _ z
def IM (X:Cx)(pins:List (Addr×Obj))(H:Hp)(h:Heap)(a:Addr)(cls:Value)(dd:Option Addr):Prop:=Nw X pins H a/\
 ((∃oe vs,h.get? a=some oe/\oe.cls=cls/\oe.dict=dd/\oe.data= .fields vs/\vs[1]? =some .none/\vs[2]? =some .none)\/∃T fl,Eh h a T cls dd fl/\Nw X pins H T/\(fl= .none\/∃L,X.env.frame=some L/\fl=rawInt L))
theorem qX {A:Around}{M:Model}{E:Value->Shared->Prop}{a:Addr}{U:Value}{dd:Option Addr}{Q:Unit->Shared->Prop}{L:Addr}(I:ar X pins σ H s)(x:IM X pins H s.heap a U dd)
(hA:A.frames=some X.stack)(F:X.stack=X.env::X.outer)(hf:X.env.frame=some L)
(h:∀h' T,ar X pins σ H {s with heap:=h'}->Nw X pins H T->Eh h' a T U dd @eT->Q () {s with heap:=h'}):wpAny M A (noteFrame (.ref a) X.env) Q E s:=by
 obtain ⟨fa,x⟩:=x
 have ad:A.frames=some (X.env::X.outer):=by rw [<-F];exact hA
 have hl:s.heap.FunFrames X.base (X.env::X.outer):=by rw [<-F];exact I.stack
 unfold noteFrame;simp only [hf]
 rcases x with ⟨oe,vs,h1,h2,h3,S,Y,R⟩|⟨T,fl,x,fT,aa⟩
 ·rwa[wpAny_bind (wpAny_field h1 S Y ?_)];rw [if_neg @b];rwa[uP ad hl hf h1 S (Array.getElem?_eq_some_iff.mp Y).1 R λh' T p O x=> ?_];rw [<-F] at p;have J:=I.pass p (by simpa using fa);exact h h' T J (I.nw O (I.hok.none_of O)) (by rw [<-h2,<-h3];exact x)
 ·obtain ⟨oe,vs,oT,ts,h1,h2,h3,S,Y,R,h6,h7,h8,h9⟩:=id x.ex;rwa[wpAny_bind (wpAny_field h1 S Y ?_)];rw [if_pos (show (Value.ref T != Value.none)=true from by simp)];rwa[wpAny_bind (wpAny_field h7 h8 h9 ?_)]
  rcases aa with rfl|⟨L',W,rfl⟩
  ·rw [if_neg (show ¬((Value.none==rawInt L)=true) from by simp [rawInt])];have ac:3<ts.size:=(Array.getElem?_eq_some_iff.mp h9).1;rwa[wpAny_bind (wpAny_setField h7 h8 ac ?_)];have j:∀b,b≠T->∀g,(s.heap.update T g).get? b=s.heap.get? b:=λb Z g=>Heap.get?_update_other _ _ @gG
   have p1:Pass @dY [T] s.heap (s.heap.update T (Obj.mapFields (·.setIfInBounds 3 Value.none))):=
    ⟨λb o Z _ G=>(j b (λz=>Z (by simp [z])) _).trans G,λb o Z G=>⟨o.slots,(j b (λz=>Z (by simp [z])) _).trans G⟩⟩
   have J1:=I.pass p1 (by simpa using fT);rwa[uP (s:= {s with heap:=s.heap.update T (Obj.mapFields (·.setIfInBounds 3 Value.none))}) ad (base:=X.base) (by rw [<-F];exact J1.stack) hf ((j a (Ne.symm h6) _).trans h1) S (Array.getElem?_eq_some_iff.mp Y).1 R λh' T' p O x'=> ?_];rw [<-F] at p;have J:=J1.pass p (by simpa using fa);exact h h' T' J (J1.nw O (J1.hok.none_of O)) (by rw [<-h2,<-h3];exact x')
  ·rw [hf] at W;cases W;rw [if_pos (show (rawInt L==rawInt L)=true from by simp)];exact wpAny_pure (h s.heap T I fT x)
theorem DG {A:Around}{M:Model}{E:Value->Shared->Prop}{a:Addr}{F:Value}{dd:Option Addr}{Q:Unit->Shared->Prop}{L:Addr}(I:ar X pins σ H s)(x:IM X pins H s.heap a F dd)
(S:A.frames=some X.stack)(j:X.stack=X.env::X.outer)(O:X.env.frame=some L)
(h:∀h' T,ar X pins σ H {s with heap:=h'}->Nw X pins H T->Eh h' a T F dd .none->Q () {s with heap:=h'}):wpAny M A (leaving X.env (.ref a)) Q E s:=by
 unfold leaving;rwa[wpAny_bind (qX I x S j O λh1 T J G U=>kz (s:= {s with heap:=h1}) U λh2 p R=> ?_)];exact h h2 T (J.pass (p.more λ_ z=>nomatch z) (by simpa using G)) G R
end
def xk (P:Program)(w:World):ml:=λouter H s E e s'=>∃(a T:Addr) (cls:Value) (dd:Option Addr) (H':Hp),e= .ref a/\s'.os=s.os/\AllBare s'.gens/\Un (wP outer) [] H H' s.heap s'.heap/\fh P w H' s'.heap/\
 s.heap.get? a=none/\s.heap.get? T=none/\H' a=none/\H' T=none/\Eh s'.heap a T cls dd .none/\E cls dd H'
def Fl (X:Cx)(E:XK):Prop:=∀(pins:List (Addr×Obj)) (σ:St) (H:Hp) (s:Shared) (a:Addr) (cls:Value) (dd:Option Addr),ar X pins σ H s->IM X pins H s.heap a cls dd->E cls dd H->X.xe (.ref a) s
theorem ar.afterE {X:Cx}{pins:List (Addr×Obj)}{σ:St}{H:Hp}{s s':Shared}{E:XK}{e:Value}(I:ar X pins σ H s)(h:xk X.prog X.w X.stack H s E e s'):
 ∃a cls dd H',e= .ref a/\ar X pins σ H' s'/\IM X pins H' s'.heap a cls dd/\E cls dd H':=by
 obtain ⟨a,T,cls,dd,H',rfl,os,j,G,ag,J,R,F,O,x,q⟩:=h;rwa[⟨a,cls,dd,H',rfl,I.call' os G ag j (λb z=>nomatch z),⟨I.nw J F,.inr ⟨T,_,x,I.nw R O,.inl rfl⟩⟩,q⟩]
theorem Fl.passes {X:Cx}{E:XK}(f:Fl X E):fR (xk X.prog X.w) X E:=λpins σ H s e s' I h=>by
 obtain ⟨a,F,dd,H',rfl,J,x,q⟩:=I.afterE h;exact f pins σ H' s' a F dd J x q
section
variable {P:Program}{w:World}{K:Fg}{mg:Str->Option Value}{base:Heap}{N:List Str}{qual:Str}{scope:Scope}{f:Addr}{cd:Value}{A:Around}{outer:List Env}{s:Shared}{H:Hp}{E:XK}
theorem c7:Fl (io @bU P w K mg base N qual scope f cd A outer s H E) E:=by
 intro pins σ H' s' a F dd I x q;show wpAny _ _ _ _ _ _;rwa[DG I x I.ok.frames rfl rfl λh' T J G O=> ?_];have j:=x.1;rwa[⟨a,T,F,dd,H',rfl,J.os,J.bare,J.base,J.hok,?_,?_,j.1,G.1,O,q⟩]
 ·rcases j.2.2.2.1 with z|z
  ·exact absurd (show a∈([]:List Addr) from z) @e
  ·exact z
 ·rcases G.2.2.2.1 with z|z
  ·exact absurd (show T∈([]:List Addr) from z) @e
  ·exact z
end
theorem bo.okX {P:Program}{w:World}{K:Fg}{mg:Str->Option Value}{base:Heap}{x qual:Str}{st:Stmt}{f:Addr}{fd:FuncData}{N ps:List Str}{k:Nat}{sp:Sp}(F:bo K x qual st f fd)(S:ai N ps @bX)(aa:∀vs H Q E,sp vs H Q E->vs.length=ps.length)
(j:∀(cdv:Value) (A:Around) (outer:List Env) (s:Shared) (H:Hp) (vs:List V) (Q:VK) (E:XK),bx k @bk->sp vs H Q E->
   ∃t,sE (io @bU P w K mg base N qual @bX f cdv A outer s H E) @cO t/\t {nx:=λ_ H'=>Q .non H',rt:=Q} @bj H):av P w K mg base @bU (k+1) f fd ps sp:=by
 obtain ⟨R,U,kV,Y,I,J,cdv,Z,ad,rfl,G,z⟩:=F.ex;exact HE G z S aa λA outer s H vs Q E W O=>j cdv A outer s H vs Q E W O
structure uk (P:Program)(w:World)(K:Fg)(mg:Str->Option Value)(base:Heap)(n:Nat)(x:Str)(ps:List Str)(sp:Sp):Prop where
 ex:∃f fd,av P w K mg base @bU n f fd ps sp/\eK K fd ps []/\W.keepIn K (.ref f)=true/\mg x=some (.ref f)
section
variable {X:Cx}{x:Str}{p pos:Pos}{e:Expr}{es:List Expr}{t:TA}{ps:List Str}{sp:Sp}{n m:Nat}{E:XK}
theorem Gf (fl:Fl X E)(c:uk X.prog X.w X.K X.mg X.base n x ps sp)(W:bx m X.A)(G:n<=m)(Y:Gl X x)(J:PA X (e::es) t)(j:(x==("__debug__":Str))=false:=by decide)
(I:aI (e::es)=true:=by rfl):PE X (.Call (.Name x p) (e::es) [] pos) (p9 sp [] E t):=by
 obtain ⟨f,fd,F,b,k,z⟩:=c.ex;have h':(bw e&&aI es)=true:=I;rw [Bool.and_eq_true] at h';exact B1 (F.mono G) W Y z k b .nil fl.passes J j @dB @dC
end
theorem K6 {K:Fg}{h:Heap}{C:Addr}{bmB:List Value}{newId:String}(X:K.In h)(q:W.excIn K C bmB newId=true):
 ∃bm N nm q bs hdct sn sub ab col dd k0 k1 k2 k3 k5 mN,h.get? C=some @ba/\h.Ns N mN/\mN "__init__"=none/\OwnTail h bmB bm:=by
 unfold W.excIn at q;split at q
 case h_2=>cases q
 case h_1 dd cd sl ho=>
  split at q
  case h_2=>cases q
  case h_1 C' bm k0 k1 k2 k3 n k5 hm hs=>
   simp only [Bool.and_eq_true,beq_iff_eq,Bool.not_eq_true'] at q;obtain ⟨⟨⟨⟨⟨F,O⟩,j⟩,J⟩,ag⟩,z⟩:=q;subst F O;obtain ⟨nm,bs,R,S,G,I,sn,sub,ab,col,U⟩:=cd;dsimp only at hm j ag z;subst hm j;obtain ⟨l⟩:=sl;simp only at hs;subst hs;exact ⟨bm,S,nm,G,bs,I,sn,sub,ab,col,dd,k0,k1,k2,k3,k5,_,X _ _ ho,.of_isNs (W.isNs_of_in X ag),W.nsMap_none_of_in X ag z,W.tail_of_in X J⟩
def Na (C:Addr)(E:XK)(t:TA):TS:=λ_ σ H=>t σ H λvs H1=>vs.length<=sizeLine/\E (.ref C) none H1
section
variable {X:Cx}{C:Addr}{bmB:List Value}{B newId initId:String}{x:Str}{np cpos pos:Pos}{e:Expr}{es:List Expr}{t:TA}{E:XK}
theorem ar.made' {pins:List (Addr×Obj)}{σ:St}{H:Hp}{s:Shared}{h':Heap}{a:Addr}{vs:List Value}(I:ar X pins σ H s)(m:Heap.MadeExcOf s.heap h' a (.ref C) vs):
 ar X pins σ H {s with heap:=h'}/\IM X pins H h' a (.ref C) none:=by
 obtain ⟨t,h1,_⟩:=m.there;exact ⟨I.kept (t':=s.toks) m.keeps,I.nw m.new (I.hok.none_of m.new),.inl ⟨_,_,h1,rfl,rfl,rfl,rfl,rfl⟩⟩
theorem eE (fl:Fl X E)(hc:X.calm=true)(O:W.excIn X.K C bmB newId=true)(Y:ExcBaseFacts B newId initId bmB)(hg:Gl X x)(Z:X.mg x=some (.ref C))(ha:PA X (e::es) t)
(hp:aI (e::es)=true:=by rfl)(G:(x==("__debug__":Str))=false:=by decide):PS X (.Raise (some (.Call (.Name x np) (e::es) [] cpos)) none pos) (Na C E t):=by
 intro pins s σ H D I h;have h':(bw e&&aI es)=true:=hp;rw [Bool.and_eq_true] at h';have U:=aU (env:=X.env) (es:=es) h'.1;have F:(backTo cpos @J).any (·.1)=false:=bJ h'.2;obtain ⟨bm,N,nm,q,bs,hdct,sn,sub,ab,col,dd,k0,k1,k2,k3,k5,mN,hC,hN,j,T⟩:=K6 I.ok.mod.kin O
 refine wpAny_Raise_call_subT (C:=C) (nm:=nm) (q:=q) (N:=N) (bs:=bs) (bm:=bm) (hdct:=hdct) (sn:=sn) (sub:=sub) (ab:=ab) (col:=col) (dd:=dd) (k0:=k0) (k1:=k1) (k2:=k2) (k3:=k3) (k5:=k5)
  Y (mN:=mN) (T.hasType Y.hasBase) @bJ (by rw [U];show (false||(backTo cpos @J).any (·.1))=false;rw [F];rfl) j (fF I hg Z ⟨rfl,?_⟩ G)
 have S:=ha cpos pins s σ H _ I h;rw [U] at S ⊢;rwa[Calls.evalArgs_plain (bv S λus s2 ⟨vs,H2,R,r,z,q2⟩=>⟨rfl,by rw [<-r.length];exact z,R.bk _ _ hC,hN.keeps R.bk,T.keeps R.bk,λh' a m=> ?_⟩)];obtain ⟨J,x⟩:=R.made' m;exact fl pins σ H2 _ a _ _ J x q2
end
theorem yR {K:Fg}{h:Heap}{C:Addr}{bmB:List Value}{newId:String}(X:K.In h)(q:W.excIn K C bmB newId=true):
 ∃bm N nm q bs hdct sn sub ab col dd k0 k1 k2 k3 k5,h.get? C=some @ba/\OwnTail h bmB bm/\∀v b,W.mroIn K C v=some b->(Value.ref C::bm).contains v=b:=by
 unfold W.excIn at q;split at q
 case h_2=>cases q
 case h_1 dd cd sl ho=>
  split at q
  case h_2=>cases q
  case h_1 C' bm k0 k1 k2 k3 n k5 hm hs=>
   simp only [Bool.and_eq_true,beq_iff_eq,Bool.not_eq_true'] at q;obtain ⟨⟨⟨⟨⟨F,O⟩,j⟩,J⟩,ag⟩,z⟩:=q;subst F O;obtain ⟨nm,bs,R,S,G,I,sn,sub,ab,col,U⟩:=cd;dsimp only at hm j ag z;subst hm j;obtain ⟨l⟩:=sl;simp only at hs;subst hs;rwa[⟨bm,S,nm,G,bs,I,sn,sub,ab,col,dd,k0,k1,k2,k3,k5,X _ _ ho,W.tail_of_in X J,λv b e=> ?_⟩];unfold W.mroIn W.clsIn at e;rw [ho] at e;simpa using e
section
variable {M:Model}{A:Around}{E:Value->Shared->Prop}
variable {nm q nm' q':Str}{C N C' N':Addr}{bs bm bs' bm':List Value}{hdct hdct':Bool}{sn sn':List Str}{sub sub':List Value}{ab ab':Bool}{col col':Option Bool}{dd dd':Option Addr}{k0 k1 k2 k3 k5 l0 l1 l2 l3 l5:Option Value}{newId newId':String}
theorem yS {s:Shared}{e:Addr}{Z:Obj}{b:Bool}{Q:Bool->Shared->Prop}
(J:s.heap.get? C=some @ba)(z:s.heap.get? C'=some (excClassObj nm' q' C' N' bs' bm' hdct' sn' sub' ab' col' dd' l0 l1 l2 l3 l5 newId'))
(U:s.heap.get? e=some Z)(ag:Z.cls= .ref C')(j:(Value.ref C::bm).contains (.type "BaseException")=true)(F:(Value.ref C'::bm').contains (.ref C)=b)
(R:Q b s):wpAny M A (excMatches (.ref e) (.ref C)) Q E s:=by
 obtain ⟨h,g,d,t,os⟩:=s;have f:=tc_notTuple;unfold excMatches
 repeat (first|(with_reducible refine wpAny_loadPart_at U ?_;rw [ag])|with_reducible refine wpAny_loadPart_at J ?_|(with_reducible refine wpAny_isSubtype_exc J ?_;rw [j])|(with_reducible refine wpAny_isSubtype_exc z ?_;rw [F])|wp_step)
 cases b<;>(wp_walk;exact R)
end
structure Ee (K:Fg)(C:Addr):Prop where
 ex:∃bmB newId,W.excIn K C bmB newId=true/\bmB.contains (.type "BaseException")=true
def pO (K:Fg)(cls:Value)(C:Addr)(b:Bool):Prop:=∃D,cls= .ref D/\Ee K D/\W.mroIn K D (.ref C)=some b
theorem Ib {K:Fg}{M:Model}{A:Around}{E:Value->Shared->Prop}{s:Shared}{C a:Addr}{F:Value}{Z:Obj}{b:Bool}{Q:Bool->Shared->Prop}(X:K.In s.heap)(U:Ee K C)(c:pO K F C b)
(Y:s.heap.get? a=some Z)(ag:Z.cls=F)(R:Q b s):wpAny M A (excMatches (.ref a) (.ref C)) Q E s:=by
 obtain ⟨D,rfl,hD,O⟩:=c;obtain ⟨bmB,newId,S,j⟩:=U.ex;obtain ⟨J,newId',W,_⟩:=hD.ex;obtain ⟨bm,N,nm,q,bs,hdct,sn,sub,ab,col,dd,k0,k1,k2,k3,k5,I,T,_⟩:=yR X S;obtain ⟨bm',N',nm',q',bs',hdct',sn',sub',ab',col',dd',l0,l1,l2,l3,l5,G,_,z⟩:=yR X W;exact yS I G Y ag (by rw [contains_cons,T.hasType j,Bool.or_true]) (z _ _ O) R
noncomputable def Cx.mk' (X:Cx)(a:Addr):Cx:= {X with A:=X.A.mark @fp,calm:=false,xe:=λ_ _=>False}
section
variable {X:Cx}{pins:List (Addr×Obj)}{σ:St}{H:Hp}{s:Shared}{a:Addr}
theorem ar.mark (I:ar X pins σ H s):ar (X.mk' a) pins σ H s:=
 ⟨⟨I.ok.mod,I.ok.kind,I.ok.glob,I.ok.blt,I.ok.above,I.ok.inj,I.ok.has,I.ok.cab,(λz=>nomatch (show false=true from z)),I.ok.frames,I.ok.stk,I.ok.exf,I.ok.bs,I.ok.bsz,I.ok.noex,I.ok.exfs,I.ok.funs,I.ok.frf⟩,
   I.os,I.bare,I.base,I.loc,I.cell,I.free,I.freeC,I.pin,I.hok,I.len⟩
theorem ar.unmark (W:X.Ok)(I:ar (X.mk' a) pins σ H s):ar X pins σ H s:=⟨W,I.os,I.bare,I.base,I.loc,I.cell,I.free,I.freeC,I.pin,I.hok,I.len⟩
end
def XP (X:Cx)(pins:List (Addr×Obj))(σ:St)(E:XK)(e:Value)(s':Shared):Prop:=∃a cls dd H',e= .ref a/\ar X pins σ H' s'/\IM X pins H' s'.heap a cls dd/\E cls dd H'
def PX (X:Cx)(e:Expr)(t:XK->TE):Prop:=
 ∀(E:XK) (pins:List (Addr×Obj)) (s:Shared) (σ:St) (H:Hp) (Q:VK),ar X pins σ H s->t E σ H Q->wpAny @d X.A @fO @w @fl s
def T5 (X:Cx)(st:Stmt)(t:XK->TS):Prop:=
 ∀(E:XK) (pins:List (Addr×Obj)) (s:Shared) (σ:St) (H:Hp) (D:jD),ar X pins σ H s->t E D σ H->wpAny @d X.A (exec st X.env) @gd @fl s
section
variable {X:Cx}{x:Str}{p pos:Pos}{e:Expr}{es:List Expr}{t:TA}{ps:List Str}{sp:Sp}{n m:Nat}{E:XK}
theorem Lk {α:Type}{M:Model}{A:Around}{E U:Value->Shared->Prop}{s:Shared}{c:Sem α}{Q:α->Shared->Prop}(F:U=λ_ _=>False)(h:wpAny M A c Q U s):wpAny M A c Q E s:=by
 subst F;exact wpAny_noRaise h
theorem JF {pins:List (Addr×Obj)}{σ:St}{H:Hp}{s:Shared}{Q:VK}{us:List Value}{vs:List V}{f:Addr}{fd:FuncData}{k:Nat}(F:av X.prog X.w X.K X.mg X.base (xk X.prog X.w) k f fd ps sp)(W:bx k X.A)(z:eK X.K fd ps [])
(I:ar X pins σ H s)(r:aJ vs us)(h:sp (vs++[]) H Q E):wpAny @d X.A (call (.ref f) us) @w @fl s:=by
 have U:aJ (vs++[]) (us++[]):=r.append .nil
 have j:(us++[]).length=ps.length:=by rw [<-U.length];exact F.len _ _ _ _ h
 rwa[wpAny_call (codeAny_mono (F.run X.A X.stack s H ⟨us,[]⟩ (us++[]) (vs++[]) Q E W I.env0 (z s us I.kIn j) U h) λr s' R=> ?_)]
 cases r with
 |error e=>exact I.afterE R
 |ok fl=>
  cases fl with
  |ret u=>exact I.after R
  |next=>exact False.elim R
  |brk=>exact False.elim R
  |cont=>exact False.elim R
theorem LV (R:X.xe=λ_ _=>False)(c:uk X.prog X.w X.K X.mg X.base n x ps sp)(U:bx m X.A)(J:n<=m)(Y:Gl X x)(S:PA X (e::es) t)(j:(x==("__debug__":Str))=false:=by decide)
(O:aI (e::es)=true:=by rfl):PX X (.Call (.Name x p) (e::es) [] pos) (λE=>p9 sp [] E t):=by
 obtain ⟨f,fd,F,b,k,G⟩:=c.ex;have h':(bw e&&aI es)=true:=O;rw [Bool.and_eq_true] at h';intro E pins s σ H Q I h;rwa[wpAny_Call_Name_kw (fF I Y G ?_ j)];rwa[W.callWith_K (h₀:=X.base) I.ok.mod.kin k (bv (Lk R @ck) λus s1 ⟨Z,H1,z,r,q⟩=>⟨z.kIn,?_⟩) @dB @dC];exact JF (F.mono J) U b z r q
def Ss (i:Nat)(t:XK->TE):XK->TS:=λE D σ H=>t E σ H λv H1=>D.nx @em H1
theorem JJ {i:Nat}{te:XK->TE}{pos':Pos}(j:X.N.Nodup)(hi:X.N[i]? =some x)(J:LA X.env.scope x)(U:PX X e te)(hs:swapsWith e @dW pos.line X.env=pure false:=by rfl)(O:X.fn x=true\/X.env.scope.names.lookup x=some .local:=by first|exact .inl rfl|exact .inr rfl|assumption):
 T5 X (.Assign [.Name x pos'] e pos) (Ss i te):=by
 intro E pins s σ H D I h;rwa[wpAny_Assign_Name (bv (U E pins s σ H _ I h) λv S ⟨y,H1,z,F,G⟩=> ?_) hs];exact kP z j hi J F (λW R=>⟨_,H1,R,G⟩) O
theorem IM.land {X:Cx}{pins:List (Addr×Obj)}{σ:St}{H:Hp}{s:Shared}{a T:Addr}{F:Value}{dd:Option Addr}{fl:Value}{M:Model}{A:Around}{E:Value->Shared->Prop}{Q:Unit->Shared->Prop}(I:ar X pins σ H s)(x:Eh s.heap a T F dd fl)(G:Nw X pins H T)
(h:∀h',ar X pins σ H {s with heap:=h'}->Eh h' a T F dd .none->Q () {s with heap:=h'}):wpAny M A (setFlight (.ref a) none) Q E s:=
 kz x λh' p O=>h h' (I.pass (p.more λ_ z=>nomatch z) (by simpa using G)) O
end
open PySem.W
section
variable {prog:Program}{w:World}{A:Around}{E:Value->Shared->Prop}{s:Shared}{K:Frag}{x D:Addr}{ox:Obj}{odo:Option Obj}{name:Str}
theorem O5 {R:Result->Shared->Prop}{tk:Tok}(X:K.In s.heap)(I:PySem.W.InstAt s.heap x ox D odo)
(aa:findIn K (.ref D) "__class__"=some (some (.builtin "object.__class__")))(z:mroIn K D (.type "BaseException")=some true)(G:mroIn K D (.type "object")=some true)
(h:R (.ok (.ret (.ref D))) s):codeAny @q A (.call (.builtin "BaseException.__getattribute__") ⟨[.ref x,.str "__class__" tk],[]⟩) R s:=by
 obtain ⟨O,g,d,t,os⟩:=s;have J:=I.type (M:=model prog w);have S:=looks_findIn (M:=model prog w) X aa;have U:=looks_mroIn (M:=model prog w) X z;rwa[codeAny_call_builtin PySem.F.attr_ValueError.ga.plain PySem.F.entry_bexc_ga ?_]
 have Y:builtinKind "BaseException.__getattribute__"=some .slot:=by decide+kernel
 have j:splitId "BaseException.__getattribute__"=some ("BaseException","__getattribute__"):=by decide+kernel
 have ha:=PySem.F.args_bexc_ga (.ref x) (.str "__class__" tk);simp only [checkBuiltinCall,Y,j];rwa[wpAny_bind ?_];unfold isInstance;rwa[wpAny_bind (J.at (U.at ?_))];have f5:=KF.type_class;have Z:=PySem.F.slot_gs_get.lookup;have f7:=PySem.F.slot_gs_set.lookup
 repeat (any_goals (first|assumption|with_reducible refine J.at ?_|with_reducible refine S.at ?_|wp_step))
 rwa[class_get (s:=⟨O,g,d,t,os⟩) (ox:=ox) (od:=odo) X I G ?_]
 repeat (any_goals (first|assumption|wp_step))
theorem K7 {Q:Option Value->Shared->Prop}(X:K.In s.heap)(I:PySem.W.InstAt s.heap x ox D odo)(J:findIn K (.ref D) "__getattribute__"=some (some (.builtin "BaseException.__getattribute__")))
(j:findIn K (.ref D) "__getattr__"=some none)(aa:findIn K (.ref D) "__class__"=some (some (.builtin "object.__class__")))(z:mroIn K D (.type "BaseException")=some true)(G:mroIn K D (.type "object")=some true)
(h:Q (some (.ref D)) {s with toks:=s.toks+1}):wpAny @q A (getAttr? (.ref x) "__class__") Q E s:=by
 obtain ⟨Y,g,d,t,os⟩:=s;have R:=I.type (M:=model prog w);have O:=looks_findIn (M:=model prog w) X J;have L2':=looks_findIn (M:=model prog w) X j;have Z:=looks_findIn (M:=model prog w) X aa;have L4:=looks_mroIn (M:=model prog w) X z;have U:=PySem.F.attr_ValueError.ga.bind (.ref x);unfold getAttr? getAttrBy? getAttrBy;rwa[wpAny_bind (wpAny_mkText (wpAny_bind (wpAny_attempt (wpAny_holding (wpAny_bind (R.at (wpAny_bind (O.at ?_))))))))]
 have S:(Value.builtin "BaseException.__getattribute__"==Value.builtin "object.__getattribute__")=false:=by decide+kernel
 repeat (any_goals (first|assumption|wp_step))
 rwa[L2'.at ?_]
 repeat (any_goals (first|assumption|wp_step))
 rwa[O5 X I aa z G ?_];exact handed_on rfl (wpAny_pure h)
end
def ub (a:Addr)(cls:Value)(dd:Option Addr):HO:= .ext λh=>∃oe vs,h.get? a=some oe/\oe.cls=cls/\oe.dict=dd/\oe.data= .fields vs/\vs[2]? =some .none
theorem K8 {P:Program}{w:World}{H:Hp}{h:Heap}{a T:Addr}{F fl:Value}{dd:Option Addr}(x:Eh h a T F dd fl):bp P w H h a (ub a F dd):=by
 obtain ⟨Z,I,O,G,h1,h2,S,j,Y,R,_⟩:=x.ex;exact ⟨⟨Z,I,h1,h2,S,j,R⟩,⟨_,h1⟩,λz J ⟨Z,I,k1,k2⟩ st=>⟨Z,I,st _ k1,k2⟩⟩
structure IH (K:Frag)(D:Addr):Prop where
 ga:findIn K (.ref D) "__getattribute__"=some (some (.builtin "BaseException.__getattribute__"))
 gr:findIn K (.ref D) "__getattr__"=some none
 cl:findIn K (.ref D) "__class__"=some (some (.builtin "object.__class__"))
 mB:mroIn K D (.type "BaseException")=some true
 mO:mroIn K D (.type "object")=some true
theorem yB {K:Frag}{x D:Addr}{ox:Obj}{odo:Option Obj}(k:IH K D):KitX K (.ref x) (.ref D) (λh=>PySem.W.InstAt h x ox D odo) where
 ty:=λ_ _ _ I=>I.type
 it:=λM h X _=>by
  obtain ⟨cd,J,_⟩:=Option.bind_eq_some_iff.mp k.mO;unfold clsIn at J;split at J
  ·rename_i S O j af U;intro Z Q' Y s' R q;unfold isType loadHead;exact wpAny_bind (wpAny_loadPart (R _ _ (X _ _ U)) (wpAny_pure q))
  ·cases J
 ne:=λh G dd its n sl X F=>by
  obtain ⟨cd,J,_⟩:=Option.bind_eq_some_iff.mp k.mO;rwa[Bool.eq_false_iff.mpr λq=> ?_];have e:D=G:=Value.ref.inj (beq_iff_eq.mp q);subst e;unfold clsIn at J;split at J
  ·rename_i S O j af U;have z:=(X _ _ U).symm.trans F;cases z
  ·cases J
 ca:=λX I q=>K7 X I k.ga k.gr k.cl k.mB k.mO q
section
variable {X:Cx}{pins:List (Addr×Obj)}{σ:St}{H:Hp}{s:Shared}{a:Addr}{o:HO}
theorem ar.track (I:ar X pins σ H s)(n:Nw X pins H a)(Y:bp X.prog X.w @bg s.heap a o):ar X pins σ @bg s:=by
 obtain ⟨W,S,Z,U,R,O⟩:=n
 have F:∀b u,H b=some u->upd H a o b=some u:=λb u e=>by rw [aj (br e W)];exact e
 rwa[⟨I.ok,I.os,I.bare,⟨I.base.keep,I.base.slot,λb u e n J=> ?_,I.base.there,λb xs e=>F _ _ (I.base.tups b xs e),λb u v e=>F _ _ (I.base.frzs b u v e),λb ps e=> ?_⟩,I.loc,I.cell,?_,λx c e=> ?_,λp G=> ?_,λb u e=> ?_,I.len⟩]
 ·have j:b≠a:=λz=>by
   subst z
   rcases U with q|q
   ·exact J q
   ·rw [e] at q;cases q
  rw [aj j];exact I.base.free b u e n J
 ·obtain ⟨m,q⟩:=I.base.tbls b ps e;exact ⟨m,F _ _ q⟩
 ·rw [aj (Ne.symm S)];exact I.free
 ·rw [aj (R x c e)];exact I.freeC x c e
 ·obtain ⟨e,n,r⟩:=I.pin p G;exact ⟨e,by rw [aj (O p G)];exact n,r⟩
 ·by_cases j:b=a
  ·subst j;rw [af] at e;cases e;exact Y
  ·rw [aj j] at e;exact (I.hok b u e).stay @cP (λc q=>F _ _ q) λc xs q=>F _ _ q
theorem pM {M:Model}{A:Around}{E:Value->Shared->Prop}{j:Nat}{n:Str}{pos:Pos}{Q:Unit->Shared->Prop}(I:ar X pins σ H s)(hN:X.N.Nodup)(hj:X.N[j]? =some n)(hk:X.env.scope.names.lookup n=some .local)
(h:∀s',ar X pins @ea H s'->Q () s'):wpAny M A (do bindName X.env n .none;unbindBehindTheSuite X.env n pos) Q E s:=by
 obtain ⟨m,Z,hl⟩:=id I.loc
 have ag:(X.env.scope.kind== .class||(X.env.scope.kind== .module&&X.env.locals != X.env.globals))=false:=by rw [I.ok.kind];rfl
 have R:j<σ.length:=by rw [I.len];exact (List.getElem?_eq_some_iff.mp hj).1
 rwa[wpAny_nameGoes_keeps hk Z ag λh' v ah hs=>h _ ?_];obtain ⟨oL,_,_,ai,_⟩:=id Z;rwa[⟨I.ok,I.os,I.bare,⟨λb o e n U G=> ?_,λb o e n U G=> ?_,I.base.free,λb o e G=> ?_,I.base.tups,I.base.frzs,I.base.tbls⟩,⟨_,ah,λi y v' S O e3=> ?_⟩,λy c e=> ?_,I.free,I.freeC,λp hp=> ?_,λb ob e=> ?_,by simpa using I.len⟩]
 ·exact (hs.2 b @cc).trans (I.base.keep b o e n U G)
 ·obtain ⟨sl,S⟩:=I.base.slot b o e n U G;exact ⟨sl,(hs.2 b @cc).trans S⟩
 ·obtain ⟨o',S⟩:=I.base.there b o e G;exact ⟨o',(hs.2 b @cc).trans S⟩
 ·by_cases F:i=j
  ·subst F;rw [getElem?_set_self R] at O;cases O
  ·rw [getElem?_set_ne @gF] at O;obtain ⟨u',r',q⟩:=hl i y v' S O e3;rwa[⟨u',r',?_⟩]
   rcases q with ⟨k,e⟩|⟨k,c,e,z⟩
   ·rwa[.inl ⟨k,?_⟩];have:y≠n:=λe=>F (lG hN S (e▸hj));simp [this,e]
   ·exact .inr ⟨k,c,e,z.sameBut hs (I.cne y c e)⟩
 ·obtain ⟨W,z⟩:=I.cell y c e;exact ⟨W,z.sameBut hs (I.cne y c e)⟩
 ·obtain ⟨e,n,Y,nf,d⟩:=I.pin p hp;exact ⟨(hs.2 p.1 Y).trans e,n,Y,nf,d⟩
 ·rwa[(I.hok b ob e).stay (λc W J q=>(hs.2 c ?_).trans q) @ds λ_ _ q=>q];rintro rfl
  rcases J with J|J
  ·have z:=I.free;rw [J,e] at z;cases z
  ·rw [I.free] at J;cases J
end
def Rh (D:jD)(j:Nat):jD:= {nx:=λσ H=>D.nx @ea H,rt:=D.rt,bk:=λσ H=>D.bk @ea H,ct:=λσ H=>D.ct @ea H}
def M8 (K:Fg)(C:Addr)(j:Nat)(t:XK->TS)(u:Addr->TS):TS:=λD σ H=>∃M:XK,t M D σ H/\∀cls dd H1,M cls dd H1->pO K cls C true/\∀a,H1 a=none->u a (Rh D j) (σ.set j @fp) (upd H1 a (ub a cls dd))
section
variable {X:Cx}
theorem F4 {c n:Str}{j:Nat}{C:Addr}{st b₀:Stmt}{z:List Stmt}{t:XK->TS}{u:Addr->TS}{np O tpos:Pos}{L:Addr}(S:X.stack=X.env::X.outer)(hf:X.env.frame=some L)(hC:Ee X.K C)(hg:Gl X c)(hm:X.mg c=some (.ref C))
(G:X.N.Nodup)(Z:X.N[j]? =some n)(Y:X.env.scope.names.lookup n=some .local)
(hb:T5 X st t)(hs:∀a,sE (X.mk' a) (b₀::z) (u a))(W:(c==("__debug__":Str))=false:=by decide):
 PS X (.Try [st] [.ExceptHandler (some (.Name c np)) @fq (b₀::z) O] [] [] tpos) (M8 X.K C j t u):=by
 intro pins s σ H D I h;obtain ⟨M,ht,hu⟩:=h;rwa[wpAny_Try_except (wpAny_execs_cons (wpAny_mono (hb M pins s σ H D I ht) (λf s1 q=> ?_) λe s1 q=> ?_))]
 ·cases f with
  |next=>exact wpAny_pure (wpAny_pure q)
  |ret v=>exact q
  |brk=>exact q
  |cont=>exact q
 ·obtain ⟨a,U,dd,H1,rfl,I1,x1,q1⟩:=q;obtain ⟨hc,hu⟩:=hu U dd H1 q1;have na:=x1.1;rwa[qX I1 x1 I1.ok.frames S hf λh2 T I2 fT x2=> ?_];rwa[IM.land I2 x2 fT λh3 I3 x3=> ?_];rwa[wpAny_handleBy_cons (codeAny_handlers_test (fF (I3.mark (a:=a)) hg hm ?_ W)) (by intro q;cases q)];obtain ⟨oe,vs,oT,ts,g1,g2,_⟩:=id x3.ex;rwa[Ib I3.kIn hC hc g1 g2 ?_];rwa[codeAny_handlers_suite_as (IM.land I3 x3 fT λh4 I4 x4=> ?_)];have I5:=I4.track na (K8 x4);rwa[kP (i:=j) I5 G Z (.inl Y) (v:= .ref a) rfl (λs6 I6=> ?_) (.inr Y)];rwa[wpAny_noRaise (bv (hs a pins _ _ _ (Rh D j) (I6.mark (a:=a)) (hu a na.1)) λf s5 q=> ?_)]
  cases f with
  |next=>obtain ⟨σ',H',J,q⟩:=q;exact pM @eb G Z Y λR F=>⟨_,H',F,q⟩
  |ret v=>obtain ⟨v,σ',H',J,r,q⟩:=q;exact pM @eb G Z Y λR F=>⟨v,_,H',F,r,q⟩
  |brk=>obtain ⟨σ',H',J,q⟩:=q;exact pM @eb G Z Y λR F=>⟨_,H',F,q⟩
  |cont=>obtain ⟨σ',H',J,q⟩:=q;exact pM @eb G Z Y λR F=>⟨_,H',F,q⟩
def A6 (K:Fg)(a:Addr)(c:V)(H:Hp)(Q:VK):Prop:=∃D dd cv b,H a=some (ub a (.ref D) dd)/\IH K D/\(dd=none\/∃d fs,dd=some d/\H d=some (.xd fs))/\cV c=some cv/\W.kitOne K (.ref D) cv=some b/\Q (.bl b) H
end
theorem uc:entryFor table "proto.unchain"=some Builtin.«proto.unchain»:=by first|exact entryFor_of_fast @m|exact entryFor_of_tree @m
section
variable {prog:Program}{w:World}{A:Around}{E:Value->Shared->Prop}{s:Shared}
theorem AE {it a:Addr}{O:Obj}{vs:Array Value}{x left ac:Int}{Q:Option Value->Shared->Prop}(U:A.handled=some (.ref a))(Y:s.heap.get? a=some O)(hd:O.data= .fields vs)(h2:vs[2]? =some .none)
(j:IsRangeIter s.heap it x left ac)(I:left<=0)(hQ:∀h',Heap.ExtBut it s.heap h'->Q none {s with heap:=h'}):wpAny @q A @cz Q E s:=by
 have hT:s.TypeIs (.ref it) "range_iterator":=⟨_,j,rfl⟩;unfold pyNext
 refine wpAny_bind (wpAny_attempt (wpAny_callSpecial?_slot (name:=Str.ofString "__next__") hT F.slot_range_iterator_next
  (wpAny_call_entry F.slot_range_iterator_next hT F.entry_range_iterator_next ?_ (F.args_range_iterator_next_1 _))))
 show wpAny _ _ (field (.ref it) 0>>=_) _ _ s;rwa[wpAny_bind (wpAny_field j rfl (x:=rawInt x) rfl ?_)];show wpAny _ _ (field (.ref it) 1>>=_) _ _ s;rwa[wpAny_bind (wpAny_field j rfl (x:=rawInt left) rfl ?_)];show wpAny _ _ (field (.ref it) 2>>=_) _ _ s;rwa[wpAny_bind (wpAny_field j rfl (x:=rawInt ac) rfl ?_)];show wpAny _ _ (if left<=0 then _ else _) _ _ s;rw [if_pos I];rwa[wpAny_bind @fv];rwa[wpAny_bind ?_];show wpAny _ _ (newExc (.type "StopIteration") []>>=_) _ _ _;rwa[wpAny_bind ?_];simp only [newExc,newTuple];rwa[wpAny_bind (wpAny_newObj_type ?_ (by size_fits))];rwa[wpAny_bind (m:=firstArgMember _ _) (wpAny_of_eq (a:=Value.none) (by first|rfl|(simp only [firstArgMember];rfl)) ?_)];rwa[wpAny_newObj_type ?_ (by size_fits)];simp only [raiseNew];rwa[wpAny_bind (wpAny_handled ?_)]
 first|rw [show A.in1.handled=some (.ref a) from U]|rw [U]
 dsimp only;have J:=Heap.lt_size Y;have S:∀Z W:Obj,((s.heap.push Z).push W).get? a=some O:=λZ W=>Heap.get?_push_of_some _ (Heap.get?_push_of_some _ Y)
 have R:a≠(s.heap.push {cls:= .type "tuple",data:= .seq ([]:List Value).toArray}).objs.size:=by
  rw [Heap.size_push];exact Nat.ne_of_lt (Nat.lt_succ_of_lt J)
 rw [if_pos (show ((Value.ref a) != Value.ref (s.heap.push {cls:= .type "tuple",data:= .seq ([]:List Value).toArray}).objs.size)=true by simpa using R)];rwa[wpAny_bind (wpAny_holding (wpAny_runValue (codeAny_builtin uc ?_)))];unfold Builtin.«proto.unchain»;dsimp only;rwa[wpAny_bind (wpAny_field (S _ _) hd h2 ?_)];rw [if_pos @b];rwa[wpAny_bind @bx];rwa[wpAny_pure ?_];have G:=Heap.get?_push_size (s.heap.push {cls:= .type "tuple",data:= .seq ([]:List Value).toArray}) (o:= {cls:= .type "StopIteration",data:= .fields (#[.ref s.heap.objs.size,.none,.none,.none,.bool false,.none]++ownMembersOf (.type "StopIteration") [])}) rfl;show wpAny _ _ _ _ _ _;rwa[wpAny_bind (wpAny_setField (a:=(s.heap.push {cls:= .type "tuple",data:= .seq ([]:List Value).toArray}).objs.size) (i:=2) (x:= .ref a) G rfl (by rw [Array.size_append];exact Nat.lt_of_lt_of_le (by decide:2<6) (Nat.le_add_right _ _)) (wpAny_throw ?_))];rwa[wpAny_bind (wpAny_isInstance (T:="StopIteration") (b:=true) ⟨_,Heap.get?_update_self _ G rfl,rfl⟩ isSubtype_stop ?_)];rwa[wpAny_pure (hQ _ λb o hb e=> ?_)]
 rw [Heap.get?_update_other _ _ (λz=>by
  rw [<-z,Heap.size_push] at e
  exact absurd @U (Nat.not_lt.mpr @bG))]
 exact Heap.get?_push_of_some _ (Heap.get?_push_of_some _ e)
end
def LD (a:Addr)(lo:Int)(n:Nat):It:=⟨λi _=>i<n,λi H x H'=>H'=H/\x= .int (lo+i),λi H=>n<=i/\∃cls dd,H a=some (ub a cls dd)⟩
theorem xM {P:Program}{w:World}{K:Fg}{A₀:Around}{c:Bool}{tg:Expr}{a:Addr}(hh:A₀.handled=some (.ref a))(it:Addr)(lo:Int)(n:Nat):
 zx P w K A₀ c tg (LD a lo n) [it] it (λi h=>IsRangeIter h it (lo+(i:Nat)*1) ((n:Int) - (i:Nat)) 1) where
 mem:=by simp
 obj:=λi h st b j=>by
  have e:b=it:=by simpa using j
  subst e
  exact ⟨_,st,λv z=>by
   have z':Data.fields _=Data.cell v:=z
   cases z'⟩
 keep:=λi h h' st k=>k it @e _ st
 item:=by
  intro X W hw Z hA hc i pins s σ H E I G st Y;subst W hw Z;obtain ⟨U,S,f2,O,R,J⟩:=G it @e;have aa:i<n:=Y;rwa[wpAny_pyNext_range_item st @c λh' F sb=> ?_];have I1:ar X pins σ H {s with heap:=h',toks:=s.toks+1}:=I.turned (λb o j e=>(sb.2 b j).trans e) U S O R J
  have ag:IsRangeIter h' it (lo+((i+1:Nat):Int)*1) ((n:Int) - ((i+1:Nat):Int)) 1:=by
   have e1:lo+((i+1:Nat):Int)*1=lo+(i:Nat)*1+1:=by lia
   have e2:(n:Int) - ((i+1:Nat):Int)=(n:Int) - (i:Nat) - 1:=by lia
   rw [e1,e2];exact F
  rwa[⟨_,rfl,yI (s:= {s with heap:=h',toks:=s.toks+1}) (n:="range_iterator") F rfl rfl @b ⟨.int (lo+i),H,I1,⟨s.toks,?_⟩,⟨rfl,rfl⟩,ag,λb j=>(G b j).1⟩⟩];rw [Int.mul_one]
 done:=by
  intro X W hw Z hA hc i pins s σ H E I G st Y;subst W hw Z;obtain ⟨U,S,f2,O,R,J⟩:=G it @e;obtain ⟨hn,ac,dd,ea⟩:=Y;obtain ⟨⟨oe,vs,k1,k2,k3,k4,k5⟩,_,_⟩:=I.hok a _ ea;exact AE (by rw [hA];exact hh) k1 k4 k5 st (by have:n<=i:=hn;lia) λh' eb=>⟨rfl,I.turned (t':=s.toks) @ci U S O R J⟩
 self:=λ_ _ _ _ _ st h=>wpAny_pyIter_rangeiter st h
section
variable {X:Cx}{tg:Expr}
theorem Db {a:Addr}(F:X.A.handled=some (.ref a)){pins:List (Addr×Obj)}{σ:St}{H:Hp}{s:Shared}{R:It->Hp->Prop}{E:Value->Shared->Prop}{lo hi:Int}{t u v:Tok}{tk:Nat}(I:ar X pins σ H s)(h1: -(2^62)<=lo)(h2:lo<2^62)(S: -(2^62)<=hi)(j:hi<2^62)
(q:R (LD a lo (hi - lo).toNat) H):wpAny @d X.A (pyIter (.ref s.heap.objs.size)) (RW X pins σ tg R) E {s with heap:=s.heap.push {cls:= .type "range",data:= .fields #[.int lo t,.int hi u,.int 1 v]},toks:=tk}:=by
 rwa[wpAny_pyIter_range (IsRange.new ..) (small_one h1 h2 S j) ?_];have z:ar X pins σ H {s with heap:=s.heap.push {cls:= .type "range",data:= .fields #[.int lo t,.int hi u,.int 1 v]},toks:=tk}:=I.kept λb o e=>Heap.get?_push_of_some _ e
 refine ⟨(s.heap.push {cls:= .type "range",data:= .fields #[.int lo t,.int hi u,.int 1 v]}).objs.size,[(s.heap.push {cls:= .type "range",data:= .fields #[.int lo t,.int hi u,.int 1 v]}).objs.size],_,_,H,rfl,
  z.kept (t':=tk) λb o e=>Heap.get?_push_of_some _ e,xM F _ lo (hi - lo).toNat,?_,λb G=> ?_,q⟩
 ·have J:lo+((0:Nat):Int)*1=lo:=by simp
  have O:(((hi - lo).toNat:Nat):Int) - ((0:Nat):Int)=Builtin.Range.rangeSize lo hi 1:=by rw [rangeSize_one];split<;>lia
  show IsRangeIter _ _ (lo+((0:Nat):Int)*1) ((((hi - lo).toNat:Nat):Int) - ((0:Nat):Int)) 1;rw [J,O];exact Heap.get?_push_size _ rfl
 ·have e:b=(s.heap.push {cls:= .type "range",data:= .fields #[.int lo t,.int hi u,.int 1 v]}).objs.size:=by simpa using G
  subst e;exact z.fpOk @f @dR
def MN (h:Addr)(ta:TA):TI:=λσ H R=>ta σ H λvs H1=>match vs with|[.int j]=>(-4611686018427387904<=j/\j<4611686018427387904)/\R (LD h 0 j.toNat) H1|_=>False
theorem zK {h:Addr}{a:Expr}{ta:TA}{p pos:Pos}(S:X.A.handled=some (.ref h))(Y:Gl X "range")(F:X.mg "range"=none)(U:PA X [a] ta)(hs:bw a=true:=by rfl):Sg X tg (.Call (.Name "range" p) [a] [] pos) (MN h ta):=by
 intro pins s σ H R I q;rwa[Call_ (kq I Y F boot_range (PyProof.Rows.callWith_type1 (bv (U pos pins s σ H _ I q) λZ W ⟨z,H1,J,O,G⟩=> ?_) (aU hs) rfl))]
 match z,G with
 |[.int j],G=>
  cases O with
  |cons r rr=>
   cases rr;obtain ⟨t,rfl⟩:=r;have h1: -4611686018427387904<=j:=G.1.1;have h2:j<4611686018427387904:=G.1.2;exact call_range_1 (Db S J @c @c @c @c (by simpa using G.2))
end
theorem yY {h:Addr}{lo:Int}{n:Nat}{pk:List @x}{g:TG}{tt:TT}{te:TE}{σ:St}{H:Hp}{Q:VK}(j:Nat->List V->Hp->Prop)(R:n<=sizeLine)(F:∀i ys H,j i ys H->ys.length<=i)(I:j 0 [] H)
(O:∀ys H,j n ys H->∃cls dd,H h=some (ub h cls dd))
(hs:∀i ys H,i<n->j i ys H->g (.int (lo+i)) @z H λσ2 H2=>pA @z σ2/\tt σ2 H2 λb H3=>if b=true then te σ2 H3 λv H4=>j (i+1) (ys++[v]) H4 else j (i+1) ys H3)
(J:∀ys H,j (n) ys H->∀p,H p=none->Q (.ref p) @F):
 pq (LD h lo n) pk g tt te σ H Q:=by
 rwa[⟨λi m ys H=>m=n - i/\i<=n/\j i ys H,⟨n,by simp,Nat.zero_le _,I⟩,?_⟩];rintro i m ys H ⟨rfl,hi,p⟩;have S:=F _ _ _ p;by_cases z:i<n
 ·rwa[.inr ⟨z,by lia,j (i+1),λzs H' G=>⟨n - (i+1),by lia,rfl,z,G⟩,λx H' y=> ?_⟩];obtain ⟨e,y⟩:=y;subst e y;exact hs i ys _ z p
 ·have e:i=n:=by lia
  subst e;exact .inl ⟨⟨Nat.le_refl _,O ys H p⟩,by lia,J ys H p⟩
theorem Ez {X:Cx}{scope:Scope}{N':List Str}{pk:List @x}{tg elt iter:Expr}{ifs:List Expr}{pos:Pos}{wi:TI}{g:TG}{tt:TT}{te:TE}(S:bO X scope N' pk)(hi:Sg X tg iter wi)(Y:∀C s H ex,PG @i tg g)(J:∀C s H ex,Ea @i ifs tt)
(U:∀C s H ex,PE @i elt te)(hs:nj iter=true:=by rfl):PE X (.ListComp elt [⟨tg,iter,ifs,0⟩] scope pos) @eI:=
 yk S hi Y J U @gJ
structure jN (k:Nat)(A:Around)(a:Addr):Prop where
 hd:A.handled=some (.ref a)
 dp:A.depth+3*k+5<recursionLimit
 un:A.units+16*k+200<cLine
theorem jN.mono {j k:Nat}{A:Around}{a:Addr}(r:jN k A a)(h:j<=k):jN j A a:=⟨r.hd,by have:=r.dp;lia,by have:=r.un;lia⟩
theorem jN.deeper {k:Nat}{A:Around}{a:Addr}(r:jN (k+1) A a)(env:Env):jN k (A.deeper env) a:=
 ⟨r.hd,by have:=r.dp;show A.depth+1+3*k+5<_;lia,by have:=r.un;show A.units+3+16*k+200<_;lia⟩
theorem bx.mark {k:Nat}{A:Around}(r:bx k A)(a:Addr):jN k (A.mark @fp) a:=⟨rfl,r.dp,r.un⟩
structure zC (P:Program)(w:World)(K:Fg)(mg:Str->Option Value)(base:Heap)(k:Nat)(f:Addr)(fd:FuncData)(ps:List Str)(sp:Addr->Sp):Prop where
 len:∀a vs H Q E,sp a vs H Q E->vs.length=ps.length
 run:∀(a:Addr) (A:Around) (outer:List Env) (s:Shared) (H:Hp) (args:Args) (us:List Value) (vs:List V) (Q:VK) (E:XK),jN k A a->gS P w K mg base A outer s H->BindsTo s fd args @cG->aJ vs us->sp a vs H Q E->
  codeAny @X A (.call (.ref f) args) @cm s
noncomputable def Cx.uncalm (X:Cx):Cx:= {X with calm:=false,xe:=λ_ _=>False}
theorem O2 {P:Program}{w:World}{K:Fg}{mg:Str->Option Value}{base:Heap}{k:Nat}{x qual:Str}{st:Stmt}{f:Addr}{fd:FuncData}{N ps:List Str}{sp:Addr->Sp}(F:bo K x qual st f fd)(S:ai N ps @bX)
(aa:∀a vs H Q E,sp a vs H Q E->vs.length=ps.length)
(O:∀(cdv:Value) (a:Addr) (A:Around) (outer:List Env) (s:Shared) (H:Hp) (vs:List V) (Q:VK) (E:XK),jN k @bk a->sp a vs H Q E->
   ∃t,sE (io bb P w K mg base N qual @bX f cdv A outer s H E).uncalm @cO t/\t {nx:=λ_ H'=>Q .non H',rt:=Q} @bj H):zC P w K mg base (k+1) f fd ps sp:=by
 obtain ⟨oc,od,kV,ag,pm,an,cdv,ct,ah,rfl,lk,ac⟩:=F.ex;rwa[⟨aa,λa A outer s H af us vs Q E hr G hb r U=> ?_⟩];have hl:=aa _ _ _ _ _ U;have KX:K.In s.heap:=G.mod.kin.keeps λb o e=>(G.bs b o e).1;have ad:s.heap.NoLimit:=G.mod.nolimit.keeps λb o e=>(G.bs b o e).1
 have R:∀y∈ps.zip us,(ae st).names.lookup y.1=some .local\/((ae st).names.lookup y.1=some .cell/\((cellsFrom (s.heap.objs.size+1) (ae st).names []).lookup y.1).isSome=true):=λ⟨n,v⟩ hy=>by
  rcases S.par n (of_mem_zip hy).1 with q|q
  ·exact .inl q
  ·exact .inr ⟨q,W.cellsFrom_some _ _ _ (.inl q)⟩
 rwa[codeAny_call_function (by have:=hr.dp;lia) @gH rfl S.co S.gen rfl (W.codeRec_of KX ac) @fu];rwa[wpAny_newFunctionEnv_cells S.kind R λenv he s1 x=> ?_];subst he;rwa[⟨ad.keeps x.toInCall.keep,codeAny_func ?_⟩];obtain ⟨t,ht,hq⟩:=O cdv a A outer s H vs Q E @dI U;have e1:gS P w K mg base ({A with handled:=none}:Around) outer s H:=⟨G.frames,G.mod,G.bs,G.bsz,G.funs,G.frf,G.hok,G.bare⟩;have j:ar (io bb P w K mg base N qual @bX f cdv ({A with handled:=none}:Around) outer s H E) [] @bj H s1:=nu S rfl e1 hl r x
 have I:ar (io bb P w K mg base N qual @bX f cdv A outer s H E).uncalm [] @bj H s1:=
  ⟨⟨j.ok.mod,j.ok.kind,j.ok.glob,j.ok.blt,j.ok.above,j.ok.inj,j.ok.has,j.ok.cab,(λz=>nomatch (show false=true from z)),Around.frames_deeper G.frames,j.ok.stk,j.ok.exf,j.ok.bs,j.ok.bsz,j.ok.noex,j.ok.exfs,j.ok.funs,j.ok.frf⟩,
    j.os,j.bare,j.base,j.loc,j.cell,j.free,j.freeC,j.pin,j.hok,j.len⟩
 rwa[wpAny_mono (ht [] s1 @bj H _ I hq) @en λe s' hs=>hs.elim]
 have Y:∀ {Z:St} {H':Hp} {v:V} {u:Value},ar (io bb P w K mg base N qual @bX f cdv A outer s H E).uncalm [] Z H' s'->aA v u->Q v H'->CE outer P w H s Q u s':=
  λ{Z H' v u} J rv q=>⟨v,H',J.os,J.bare,J.base,J.hok,rv,q⟩
 cases fl with
 |ret u=>
  obtain ⟨v,Z,H',J,rv,q⟩:=hs;exact Y J rv q
 |next=>
  obtain ⟨Z,H',J,q⟩:=hs;exact Y (v:=V.non) (u:=Value.none) J rfl q
 |brk=>
  obtain ⟨_,_,_,q⟩:=hs;exact False.elim q
 |cont=>
  obtain ⟨_,_,_,q⟩:=hs;exact False.elim q
structure LG (P:Program)(w:World)(K:Fg)(mg:Str->Option Value)(base:Heap)(n:Nat)(x:Str)(ps:List Str)(sp:Addr->Sp):Prop where
 ex:∃f fd,zC P w K mg base n f fd ps sp/\eK K fd ps []/\W.keepIn K (.ref f)=true/\mg x=some (.ref f)
section
variable {X:Cx}{x:Str}{p pos:Pos}{e:Expr}{es:List Expr}{t:TA}{ps:List Str}{sp:Addr->Sp}{n m:Nat}{a:Addr}
theorem NV (c:LG X.prog X.w X.K X.mg X.base n x ps sp)(hr:jN m X.A a)(Y:n<=m)(hg:Gl X x)(ha:PA X (e::es) t)(G:(x==("__debug__":Str))=false:=by decide)
(hp:aI (e::es)=true:=by rfl):PE X (.Call (.Name x p) (e::es) [] pos) (p9 (sp a) [] E0 t):=by
 obtain ⟨f,fd,F,b,k,S⟩:=c.ex;have h':(bw e&&aI es)=true:=hp;rw [Bool.and_eq_true] at h';intro pins s σ H Q I h;rwa[wpAny_Call_Name_kw (fF I hg S ?_ G)];rwa[W.callWith_K (h₀:=X.base) I.ok.mod.kin k (bv @dn λj O ⟨J,H1,z,r,q⟩=>⟨z.kIn,?_⟩) @dB @dC];have U:aJ (J++[]) (j++[]):=r.append .nil
 have Z:(j++[]).length=ps.length:=by rw [<-U.length];exact F.len _ _ _ _ _ q
 rwa[wpAny_call (codeAny_mono (F.run a X.A X.stack O H1 ⟨j,[]⟩ (j++[]) (J++[]) Q E0 (hr.mono Y) z.env0 (b O j z.kIn Z) U q) λr s' R=> ?_)]
 cases r with
 |error e=>exact False.elim R
 |ok fl=>
  cases fl with
  |ret u=>exact z.after R
  |next=>exact False.elim R
  |brk=>exact False.elim R
  |cont=>exact False.elim R
end
def rA (K:Fg)(a:Addr)(c:V)(H:Hp)(Q:VK):Prop:=kt K (.ref a) c H Q\/A6 K a c H Q
def Qg (K:Fg):List V->Hp->VK->Prop:=λxs H Q=>match xs with
 |[.ref a,c]=>rA K a c H Q
 |xs=>MO K xs H Q
theorem dG {X:Cx}{K:Fg}(Z:X.K=K):bc X (.builtin "isinstance") (Qg K):=by
 intro pins s σ H xs j Q I r h;have F:MO K xs H Q->wpAny @d X.A (call (.builtin "isinstance") j) @w X.xe s:=λh=>PV Z pins s σ H xs j Q I r h
 match xs,h with
 |[.ref a,c],h=>
  rcases h with h|⟨D,dd,J,b,e,k,G,U,Y,q⟩
  ·subst Z;obtain ⟨J,t,b,h1,h2,h3,h4⟩:=h;exact y9 pins s σ H _ j Q I r ⟨.ref a,c,J,t,b,rfl,h1,h2,h3,h4⟩
  ·subst Z;obtain ⟨u,w',rfl,S,r2⟩:=BG r;cases Me U r2;obtain rfl:u=Value.ref a:=S;obtain ⟨⟨O,vs,k1,k2,k3,R,k5⟩,_,_⟩:=I.hok a _ e
   rcases G with rfl|⟨d,fs,rfl,ed⟩
   ·rwa[W.kia_one (yB (ox:=O) (odo:=none) k) I.kIn ⟨k1,k2,?_,?_⟩ Y (λz=>nomatch z) λtk=>⟨.bl b,H,I.tok _,rfl,q⟩]
    ·unfold W.notCls;rw [R]
    ·rw [k3];trivial
   ·obtain ⟨mA,⟨od,es,ep,e',_⟩,_⟩:=I.hok d _ ed;rwa[W.kia_one (yB (ox:=O) (odo:=some od) k) I.kIn ⟨k1,k2,?_,?_⟩ Y (λz=>nomatch z) λtk=>⟨.bl b,H,I.tok _,rfl,q⟩]
    ·unfold W.notCls;rw [R]
    ·rw [k3];exact e'
 |[],h=>exact F h
 |[.non],h=>exact F h
 |[.bl _],h=>exact F h
 |[.int _],h=>exact F h
 |[.str _],h=>exact F h
 |[.byt _],h=>exact F h
 |[.flt _],h=>exact F h
 |[.ty _],h=>exact F h
 |[.ref _],h=>exact F h
 |[.non,c],h=>exact F h
 |[.bl _,c],h=>exact F h
 |[.int _,c],h=>exact F h
 |[.str _,c],h=>exact F h
 |[.byt _,c],h=>exact F h
 |[.flt _,c],h=>exact F h
 |[.ty _,c],h=>exact F h
 |x::y::z::r,h=>exact F (by cases x<;>exact h)
theorem cL {K:Fg}{H:Hp}{a D:Addr}{c:V}{F:Value}{b:Bool}{Q:VK}(e:H a=some (ub a (.ref D) none))(k:IH K D)(h1:cV c=some F)(S:W.kitOne K (.ref D) F=some b)(g:Q (.bl b) H):rA K a c H Q:= .inr ⟨D,none,F,b,e,k,.inl rfl,h1,S,g⟩
theorem uD {M:Model}{A:Around}{E:Value->Shared->Prop}{s:Shared}{env:Env}{o:Expr}{m:Str}{apos pos:Pos}{es:List Expr}{Q:Value->Shared->Prop}(j:eF o=true)(G:aI es=true)(R:es.length<29)(z:(apos.endLine==pos.line)=true)
(h:wpAny M A (eval o env) (λov s₁=>wpAny M A (getMethod ov m (do return (<-importBound o env).getD true)) (λfx s₂=>wpAny M A (callWith pos fx.1 fx.2 @gU (backToKw pos (keywordEach [] env))) Q E s₂) E s₁) E s):
 wpAny M A (eval (.Call (.Attribute o m apos) es [] pos) env) Q E s:=by
 have F:methodCallForm (es.length+([]:List Keyword).length) @gU (backToKw pos (keywordEach [] env))=true:=by
  unfold methodCallForm;rw [m9 G,arm_keywordEach_nil];show (true&&true&&decide (es.length+0+0<30))=true;rw [decide_eq_true @c];rfl
 rw [arm_eval_Call,w9 j];rwa[wpAny_bind (bv h λov O h1=>wpAny_bind (wpAny_standAt ?_))];unfold methodCall;rw [F];rwa[wpAny_bind (wpAny_holding ?_)];unfold calleeOf;rw [if_pos rfl];rwa[bv h1 λfx I h2=> ?_];rwa[wpAny_bind ?_];unfold methodCallPos;rw [z];exact wpAny_pure h2
structure jc (P:Program)(w:World)(K:Fg)(mg:Str->Option Value)(base:Heap)(CX:ml)(n:Nat)(m:Str)(C:Addr)(sp:Sp):Prop where
 ex:∃f fd ps,uj K C/\Ix K C m f/\av P w K mg base CX n f fd ps sp/\eK K fd ps []
def wm (P:Program)(w:World)(K:Fg)(mg:Str->Option Value)(base:Heap)(CX:ml)(n:Nat)(m:Str)(a:Addr)(E:XK)(H:Hp)(k:Sp->Prop):Prop:=∃C dx fs sp,H a=some (.ins C dx fs)/\fs.lookup m=none/\jc P w K mg base CX n m C sp/\k sp
def EI (P:Program)(w:World)(K:Fg)(mg:Str->Option Value)(base:Heap)(CX:ml)(n:Nat)(m:Str)(E:XK)(to:TE)(t:TA):TE:=λσ H Q=>to σ H λx H1=>match x with
 | .ref a=>wm P w K mg base CX n m a E H1 λsp=>t σ H1 λvs H2=>sp (.ref a::vs) H2 Q E
 |_=>False
section
variable {X:Cx}{CX:ml}{o e:Expr}{es:List Expr}{to:TE}{t:TA}{m:Str}{apos pos:Pos}{n k:Nat}{E:XK}
theorem pC (hx:fR CX X E)(hr:bx k X.A)(hn:n<=k)(ho:PE X o to)(ha:PA X (e::es) t)(hb:eF o=true:=by rfl)(J:aI (e::es)=true:=by rfl)(hl:(e::es).length<29:=by decide)
(z:(apos.endLine==pos.line)=true:=by rfl):PE X (.Call (.Attribute o m apos) (e::es) [] pos) (EI X.prog X.w X.K X.mg X.base CX n m E to t):=by
 have h':(bw e&&aI es)=true:=J;rw [Bool.and_eq_true] at h';intro pins s σ H Q I h;rwa[uD hb J hl z (bv (ho pins s σ H _ I h) λu S ⟨x,H1,G,Z,q⟩=> ?_)]
 match x,q with
 | .ref a,⟨C,dx,fs,sp,ea,l,c,q⟩=>
   obtain rfl:u=Value.ref a:=Z;obtain ⟨f,fd,ps,U,j,F,b⟩:=c.ex;rwa[rC G ea U j l ?_];rwa[W.callWith_K (first:=[.ref a]) (h₀:=X.base) I.ok.mod.kin j.kp (bv (ha pos pins S σ H1 _ G q) λY s2 ⟨O,H2,R,r,q2⟩=>⟨R.kIn,?_⟩) @dB @dC];exact AC (us:= .ref a::Y) (vs:= .ref a::O) (F.mono hn) hr b .nil hx R (.cons rfl r) (by rw [append_nil];exact q2)
theorem Ey (S:fR CX X E)(Y:bx k X.A)(J:n<=k)(R:PE X o to)(Z:eF o=true:=by rfl)(z:(apos.endLine==pos.line)=true:=by rfl):
 PE X (.Call (.Attribute o m apos) [] [] pos) (EI X.prog X.w X.K X.mg X.base CX n m E to Jl):=by
 intro pins s σ H Q I h;rwa[uD Z rfl @b z (bv (R pins s σ H _ I h) λu s1 ⟨x,H1,j,O,q⟩=> ?_)]
 match x,q with
 | .ref a,⟨C,dx,fs,sp,ea,l,c,q⟩=>
   obtain rfl:u=Value.ref a:=O;obtain ⟨f,fd,ps,U,G,F,b⟩:=c.ex;rwa[rC j ea U G l ?_];exact W.callWith_K0 (first:=[.ref a]) j.kIn G.kp (AC (us:=[.ref a]) (vs:=[.ref a]) (F.mono J) Y b .nil S j (.cons rfl .nil) q)
def yP (K:Fg)(f:Str)(a:Addr)(H:Hp)(Q:VK):Prop:=∃C dx fs v,H a=some (.ins C dx fs)/\uj K C/\aQ K C f/\fs.lookup f=some v/\Q v H
def SS (K:Fg)(f:Str)(to:TE):TE:=λσ H Q=>to σ H λx H1=>match x with| .ref a=>yP K f a H1 Q|_=>False
theorem ME {K:Fg}{f:Str}(Z:X.K=K)(U:PE X o to)(G:eF o=true:=by rfl):PE X (.Attribute o f pos) (SS K f to):=by
 subst Z;intro pins s σ H Q I h;rwa[Lm (w9 G) (bv @bd λu O ⟨x,H1,z,j,q⟩=> ?_)]
 match x,q with
 | .ref a,⟨C,dx,fs,v,ea,c,n,l,q⟩=>
   obtain rfl:u=Value.ref a:=j;exact A8 z ea c n l λJ S R F=>⟨v,H1,R,F,q⟩
def putAt (K:Fg)(f:Str)(a:Addr)(y:V)(H:Hp)(R:Hp->Prop):Prop:=∃C dx fs,H a=some (.ins C dx fs)/\uj K C/\aQ K C f/\fs.length<1000/\R @cj
def SB (K:Fg)(f:Str)(to tv:TE):TS:=λD σ H=>tv σ H λy H1=>to σ H1 λx H2=>match x with| .ref a=>putAt K f a y H2 λH3=>D.nx σ H3|_=>False
theorem cN {K:Fg}{f:Str}{value:Expr}{tv:TE}{pos':Pos}(Z:X.K=K)(U:PE X o to)(Y:PE X value tv)(hs:swapsWith value (some (.Attribute o f pos')) pos.line X.env=pure false:=by rfl):PS X (.Assign [.Attribute o f pos'] value pos) (SB K f to tv):=by
 subst Z;intro pins s σ H D I h;rwa[plainObj_wpAny_Assign_Attribute (bv @cK λu O ⟨y,H1,j,J,q⟩=>bv (U pins O σ H1 _ j q) λG S ⟨x,H2,R,F,W⟩=> ?_) hs]
 match x,W with
 | .ref a,⟨C,dx,fs,ea,c,n,l,q⟩=>
   obtain rfl:G=Value.ref a:=F;exact Ad R ea c n l J λs3 z=>⟨σ,_,z,q⟩
theorem lH {P:Program}{w:World}{K:Fg}{mg:Str->Option Value}{base:Heap}{a C dx:Addr}{fs:List (Str×V)}{sp:Sp}{H:Hp}{R:Sp->Prop}(h1:H a=some (.ins C dx fs))(h2:fs.lookup m=none)(S:jc P w K mg base CX n m C sp)(g:R sp):wm P w K mg base CX n m a E H R:=⟨C,dx,fs,sp,h1,h2,S,g⟩
theorem dS {K:Fg}{f:Str}{a C dx:Addr}{fs:List (Str×V)}{v:V}{H:Hp}{Q:VK}(h1:H a=some (.ins C dx fs))(h2:uj K C)(S:aQ K C f)(j:fs.lookup f=some v)(g:Q v H):yP K f a H Q:=⟨C,dx,fs,v,h1,h2,S,j,g⟩
theorem cQ {K:Fg}{f:Str}{a C dx:Addr}{fs:List (Str×V)}{y:V}{H:Hp}{R:Hp->Prop}(h1:H a=some (.ins C dx fs))(h2:uj K C)(S:aQ K C f)(j:fs.length<1000)(g:R @cj):putAt K f a y H R:=⟨C,dx,fs,h1,h2,S,j,g⟩
end
structure ja (P:Program)(w:World)(K:Fg)(mg:Str->Option Value)(base:Heap)(CX:ml)(n:Nat)(x:Str)(C:Addr)(sp:Sp):Prop where
 ex:∃f fd ps,Mk K C f/\av P w K mg base CX n f fd ps sp/\eK K fd ps []/\mg x=some (.ref C)
section
variable {X:Cx}{CX:ml}{e:Expr}{es:List Expr}{t:TA}{x:Str}{p pos:Pos}{n k:Nat}{E:XK}{C:Addr}{sp:Sp}
def fZ (C:Addr)(sp:Sp)(E:XK)(vs:List V)(H:Hp)(Q:VK):Prop:=∀a dx,H a=none->H dx=none->dx≠a->sp (.ref a::(vs++[])) @r (λv H2=>v= .non/\Q (.ref a) H2) E
def Qc (C:Addr)(sp:Sp)(E:XK)(t:TA):TE:=λσ H Q=>t σ H λvs H1=>fZ C sp E vs H1 Q
theorem gv (c:ja X.prog X.w X.K X.mg X.base CX n x C sp)(J:fR CX X E)(W:bx k X.A)(G:n+1<=k)(Y:Gl X x)(O:PA X (e::es) t)(j:(x==("__debug__":Str))=false:=by decide)(I:aI (e::es)=true:=by rfl):
 PE X (.Call (.Name x p) (e::es) [] pos) (Qc C sp E t):=by
 obtain ⟨f,fd,ps,M,F,b,z⟩:=c.ex;have h':(bw e&&aI es)=true:=I;rw [Bool.and_eq_true] at h';rwa[(JT M F (W.mono G) Y z b .nil J O j @dB @dC).imp λσ H Q h=> ?_];exact h
end
section
variable {X:Cx}{K:Fg}{a b c:Expr}{ta tb tc:TE}{pos:Pos}
def Ie (K:Fg)(p q:Addr)(H:Hp)(Q:VK):Prop:=Li p q H Q\/∃xs ys,aE K H p xs/\aE K H q ys/\xs≠[]/\xs.length+ys.length<=sizeLine/\(ys=[]->Q (.ref p) H)/\(ys≠[]->∀l,H l=none->Q (.ref l) (upd H l (.tup (xs++ys))))
def Qn (K:Fg):R2:=λx y H Q=>match x,y with
 | .int i,.int j=>Q (.int (i+j)) H
 | .str a,.str b=>a.length+b.length<=sizeLine/\Q (.str (a++b)) H
 | .ref p,.ref q=>Ie K p q H Q
 |_,_=>False
theorem MJ (Z:X.K=K):cX X @bF (Qn K):=by
 subst Z;rwa[(P3.or J4).imp λx y H Q h=> ?_]
 cases x with
 |int i=>cases y with
  |int j=>exact .inl h
  |_=>exact False.elim h
 |str a=>cases y with
  |str b=>exact .inl h
  |_=>exact False.elim h
 |ref p=>cases y with
  |ref q=>
   rcases h with h|⟨xs,ys,h1,h2,S,z,Y,J⟩
   ·exact .inl h
   ·exact .inr ⟨p,q,xs,ys,rfl,rfl,h1,h2,S,z,Y,J⟩
  |_=>exact False.elim h
 |_=>exact False.elim h
theorem RN {p q:Addr}{H:Hp}{Q:VK}{xs ys:List V}(h1:H p=some (.lst xs))(h2:H q=some (.lst ys))(j:xs.length+ys.length<=sizeLine)(g:∀l,H l=none->Q (.ref l) (upd H l (.lst (xs++ys)))):Ie K p q H Q:= .inl ⟨xs,ys,h1,h2,j,g⟩
def MR (r r':R2)(ta tb tc:TE):TE:=λσ H Q=>ta σ H λx H1=>tb σ H1 λy H2=>r x y H2 λz H3=>match z with| .bl k=>uJ k (tc σ H3 λw' H4=>r' y w' H4 Q) (Q (.bl false) H3)|_=>False
theorem xB {F j:CmpOp}{r R:R2}(ho:cX X (compareOp F) r)(G:cX X @eE R)(ha:PE X a ta)(hb:PE X b tb)(hc:PE X c tc)
(S:lastMarks [F,j] [b,c]=false:=by with_unfolding_all rfl):PE X (.Compare a [F,j] [b,c] pos) (MR r R ta tb tc):=by
 intro pins s σ H Q I h
 refine Compare_chain (bv (ha pins s σ H _ I h) λv s1 ⟨x,H1,Y,r1,q1⟩=>chain_link (bv (hb pins s1 σ H1 _ Y q1) λu s2 ⟨y,H2,I2,U,q2⟩=>
  bv (ho pins s2 σ H2 x y v u _ I2 r1 U q2) λd s3 ⟨z,Z,O,r3,J⟩=> ?_)) S
 match z,J with
 | .bl k,J=>
   cases r3;rwa[wpAny_truthy_bool ?_]
   cases k with
   |false=>exact ite_ff ⟨.bl false,Z,O,rfl,J⟩
   |true=>exact ite_tt (chain_last (bv (hc pins s3 σ Z _ O J) λw' s4 ⟨W,H4,I4,r4,q4⟩=>G pins s4 σ H4 y W u w' Q I4 U r4 q4))
def Jb (r r':R2)(ta tb tc:TE):TT:=λσ H Q=>ta σ H λx H1=>tb σ H1 λy H2=>r x y H2 λz H3=>match z with| .bl k=>uJ k (tc σ H3 λw' H4=>r' y w' H4 λv H5=>match v with| .bl c=>Q c H5|_=>False) (Q false H3)|_=>False
theorem xA {F j:CmpOp}{r R:R2}(ho:cX X (compareOp F) r)(G:cX X @eE R)(ha:PE X a ta)(hb:PE X b tb)(hc:PE X c tc)
(W:lastMarks [F,j] [b,c]=false:=by with_unfolding_all rfl):PT X (.Compare a [F,j] [b,c] pos) (Jb r R ta tb tc):=by
 intro pins s σ H Q I h
 refine isTrue_chain (bv (ha pins s σ H _ I h) λv s1 ⟨x,H1,I1,r1,q1⟩=>test_link (bv (hb pins s1 σ H1 _ I1 q1) λu s2 ⟨y,H2,I2,U,q2⟩=>
  bv (ho pins s2 σ H2 x y v u _ I2 r1 U q2) λd s3 ⟨z,Z,S,r3,J⟩=> ?_)) W
 match z,J with
 | .bl k,J=>
   cases r3;rwa[wpAny_truthy_bool ?_]
   cases k with
   |false=>exact ite_ff ⟨Z,S,J⟩
   |true=>
    rwa[ite_tt (test_last (bv (hc pins s3 σ Z _ S J) λw' s4 ⟨z',H4,I4,r4,q4⟩=>bv (G pins s4 σ H4 y z' u w' _ I4 U r4 q4) λd' s5 ⟨z2,Y,I5,r5,O⟩=> ?_))]
    match z2,O with
    | .bl c,O=>
      cases r5;exact wpAny_truthy_bool ⟨Y,I5,O⟩
def K5 (a b:Addr)(H:Hp)(Q:VK):Prop:=∃xs zs,H a=some (.lst xs)/\H b=some (.lst zs)/\xs.length+zs.length<=sizeLine/\Q .non (upd H a (.lst (xs++zs)))
def Jc:V->List V->Hp->VK->Prop:=λx xs H Q=>match x,xs with| .ref a,[.ref b]=>K5 a b H Q|_,_=>False
theorem pR:xg X "list.extend" Jc:=by
 intro pins s σ H x xs v j Q I z F h
 match x,xs,h with
 | .ref a,[.ref b],⟨ys,zs,h1,h2,h3,h4⟩=>exact Dx pins s σ H _ _ v j Q I z F ⟨a,b,ys,zs,rfl,rfl,h1,h2,h3,h4⟩
theorem L7 {a b:Addr}{H:Hp}{Q:VK}{xs zs:List V}(h:H a=some (.lst xs))(h2:H b=some (.lst zs))(j:xs.length+zs.length<=sizeLine)(g:Q .non (upd H a (.lst (xs++zs)))):K5 a b H Q:=⟨xs,zs,h,h2,j,g⟩
def P8:List V->Hp->VK->Prop:=λxs H Q=>match xs with|[.int i]=>i.natAbs.log2<1920/\Q (.str @gr) H|_=>False
theorem pQ:bc X (.type "str") P8:=wS.imp λxs H Q h=>by
 match xs,h with
 |[.int i],h=>exact ⟨i,rfl,h⟩
def SI:List V->Hp->VK->Prop:=λxs H Q=>match xs with|[.int i,.int j]=>Q (.int (if j>i then j else i)) H|_=>False
theorem PR (J:X.calm=true):bc X (.builtin "max") SI:=(DY J).imp λxs H Q h=>by
 match xs,h with
 |[.int i,.int j],h=>exact ⟨i,j,rfl,h⟩
def SH:List V->Hp->VK->Prop:=λxs H Q=>match xs with|[.int i,.int j]=>Q (.int (if j<i then j else i)) H|_=>False
theorem PQ (J:X.calm=true):bc X (.builtin "min") SH:=(DX J).imp λxs H Q h=>by
 match xs,h with
 |[.int i,.int j],h=>exact ⟨i,j,rfl,h⟩
end
open Builtin Builtin.Str
section
variable {X:Cx}{K:Fg}
theorem Jo {l:List (Str×Tok)}:aJ ((l.map (·.1)).map V.str) (strValues l):=by
 induction l with
 |nil=>exact .nil
 |cons p r ih=>exact .cons ⟨p.2,rfl⟩ ih
def MM:V->List V->Hp->VK->Prop:=λx xs H Q=>match x,xs with
 | .str z,[.str y]=>((y.length==0)=false/\z.length+2<=sizeLine)/\∀l,H l=none->Q (.ref l) (upd H l (.lst ((Txt.split z y).map V.str)))
 |_,_=>False
theorem BE:xg X "str.split" MM:=by
 intro pins s σ H x xs v U Q I J O h
 match x,xs,h with
 | .str x,[.str y],⟨⟨hy,hsz⟩,q⟩=>
   obtain ⟨t,rfl⟩:=J
   cases O with
   |cons r rr=>
    cases rr;obtain ⟨u,rfl⟩:=r
    have j:(partsBetween x (occurrences x y 0 x.length (x.length+1)) y.length).length<=sizeLine:=by
     have W:=StrLaws.occ_length_le x y 0 x.length (x.length+1);rw [length_partsBetween];lia
    have z:∀(l:List (Str×Tok)) (k:Nat),l.map (·.1)=Txt.split x y->l.length<=sizeLine->EP X pins σ Q (.ref s.heap.objs.size) {s with heap:=s.heap.push {cls:= .type "list",data:= .seq (strValues l).toArray},toks:=k}:=λl k e R=>by
     rwa[⟨.ref s.heap.objs.size,_,I.laid (t':=k) (o:= .lst ((Txt.split x y).map V.str)) (λb Y q=>Heap.get?_push_of_some _ q) @f ?_,rfl,q _ @bN⟩];rw [<-e];exact ⟨by simpa using R,strValues l,0,Jo,Heap.get?_push_size _ rfl⟩
    have Z:1<=sizeLine:=by lia
    cases h1:(decide (x.length<y.length)||decide (strKind x<strKind y))
    ·cases G:(occurrences x y 0 x.length (x.length+1)).isEmpty
     ·rwa[call_meets F.slot_str_split @eJ F.entry_str_split @dD (meets_str_split_sep x y t u h1 hy G @c j) ?_];show wants _ _ _ {s with toks:=_,heap:=s.heap.push {cls:= .type "list",data:= .seq (strsFrom s.toks (partsBetween x (occurrences x y 0 x.length (x.length+1)) y.length)).toArray}};rw [strsFrom_eq];have e:(numbered s.toks (partsBetween x (occurrences x y 0 x.length (x.length+1)) y.length)).map (·.1)=Txt.split x y:=(numbered_texts _ _).trans ((if_neg (ne_true_of_eq_false h1)).trans (if_neg (ne_true_of_eq_false G))).symm;rwa[z _ _ e ?_];have S:=congrArg List.length (numbered_texts s.toks (partsBetween x (occurrences x y 0 x.length (x.length+1)) y.length));rw [length_map] at S;lia
     ·exact call_meets F.slot_str_split @eJ F.entry_str_split @dD (meets_str_split_not_found x y t u h1 hy G)
       (z [(x,t)] s.toks ((if_neg (ne_true_of_eq_false h1)).trans (if_pos G)).symm Z)
    ·exact call_meets F.slot_str_split @eJ F.entry_str_split @dD (meets_str_split_cannot_occur x y t u h1)
      (z [(x,t)] s.toks (if_pos h1).symm Z)
def Sy (K:Fg):V->Option Int->Option Int->Hp->VK->Prop:=λx lo hi H Q=>match x with
 | .ref p=>uw K p lo hi H Q
 | .str z=>z.length<=sizeLine/\Q (.str (Txt.slice z lo hi)) H
 |_=>False
theorem PL (Z:X.K=K):Pg X (Sy K):=by
 intro pins s σ H x v W U lo hi sl Q I S hs pl R h
 cases x with
 |ref p=>exact Sv Z pins s σ H _ v W U lo hi sl Q I S hs pl R h
 |str z=>
  obtain ⟨t,rfl⟩:=S;obtain ⟨J,q⟩:=h;rwa[⟨"str",_,F.slot_str_getitem.lookup,typeIs_str _ _ _,?_⟩];have G:∀O k,EP X pins σ Q (.str (Txt.slice z lo hi) O) {s with toks:=k}:=λO k=>⟨.str _,H,I.tok k,⟨O,rfl⟩,q⟩
  cases pl with
  |none=>cases R with
   |none=>exact wpAny_getItem_str_slice (l:=none) (u:=none) (st:=none) hs rfl @O
   |int j tj=>exact wpAny_getItem_str_slice (l:=none) (u:=some (j,tj)) (st:=none) hs rfl @O
  |int i ti=>cases R with
   |none=>exact wpAny_getItem_str_slice (l:=some (i,ti)) (u:=none) (st:=none) hs rfl @O
   |int j tj=>exact wpAny_getItem_str_slice (l:=some (i,ti)) (u:=some (j,tj)) (st:=none) hs rfl @O
 |_=>exact False.elim h
theorem bR {x:Str}{C:Addr}{pos:Pos}(Y:Gl X x)(F:X.mg x=some (.ref C))(j:(x==("__debug__":Str))=false:=by decide):PE X (.Name x pos) (tC (.ref C)):=B0 (v:=V.ref C) Y F rfl j
end
theorem ak.seqT {K:Fg}{H H':Hp}{a:Addr}{xs:List V}(e:ak H H')(h:aE K H a xs):aE K H' a xs:=by
 rcases h with (h|⟨o,h⟩)|h
 ·exact .inl (.inl (e _ _ h))
 ·exact .inl (.inr ⟨o,e _ _ h⟩)
 ·exact .inr h
theorem ak.upd {H:Hp}{p:Addr}{o:HO}(G:H p=none):ak H @fw:=λb u z=>by rw [aj (br z G)];exact z
theorem ak.any {K:Fg}{H H':Hp}{a:Addr}{xs:List V}(e:ak H H')(h:aD K H a xs\/aE K H a xs):aD K H' a xs\/aE K H' a xs:=h.imp e.seq e.seqT
section
variable {K:Fg}{H H':Hp}{x:V}
theorem LW {α β:Type}{F:α->β->Prop}:∀ {xs:List α} {ds:List β} {i:Nat} {x:α},Paired F xs ds->xs[i]? =some x->∃d,ds[i]? =some d/\F x d
 |_,_,0,_,.cons r _,h=>⟨_,rfl,by simp at h;exact h▸r⟩
 |_,_,i+1,_,.cons _ t,h=>by simpa using LW t (by simpa using h)
 |_,_,i,_,.nil,h=>by simp at h
theorem _root_.PySem.Paired.len {α β:Type}{F:α->β->Prop}{xs:List α}{ds:List β}(h:Paired F xs ds):xs.length=ds.length:=by
 induction h with
 |nil=>rfl
 |cons _ _ ih=>simp [ih]
theorem TZ {α β:Type}{F:α->β->Prop}:∀ {xs:List α} {ds:List β},xs.length=ds.length->(∀(i:Nat) x d,xs[i]? =some x->ds[i]? =some d->F x d)->Paired F xs ds
 |[],[],_,_=> .nil
 |x::xs,d::ds,hl,h=> .cons (h 0 x d rfl rfl) (TZ (by simpa using hl) λi y e h1 h2=>h (i+1) y e (by simpa using h1) (by simpa using h2))
 |[],_::_,hl,_=>by simp at hl
 |_::_,[],hl,_=>by simp at hl
theorem _root_.PySem.Paired.get1 {α β:Type}{F:α->β->Prop}{xs:List α}{ds:List β}{i:Nat}{x:α}(h:Paired F xs ds)(e:xs[i]? =some x):∃d,ds[i]? =some d/\F x d:=LW h e
theorem _root_.PySem.Paired.of {α β:Type}{F:α->β->Prop}{xs:List α}{ds:List β}(R:xs.length=ds.length)(h:∀(i:Nat) x d,xs[i]? =some x->ds[i]? =some d->F x d):Paired F xs ds:=TZ R h
theorem _root_.PySem.Paired.app {α β:Type}{F:α->β->Prop}{xs j:List α}{ds z:List β}(h:Paired F xs ds)(h':Paired F j z):Paired F (xs++j) (ds++z):=by
 induction h with
 |nil=>exact h'
 |cons r _ ih=>exact .cons r ih
abbrev az (K:Fg)(H:Hp):List V->List D->Prop:=Paired (bL K H)
theorem iV {a:Addr}{xs:List V}{ds:List D}(h:aE K H a xs)(p:az K H xs ds):bL K H (.ref a) (.tup ds):=
 .tup h p.len λi x d h1 h2=>by obtain ⟨e,S,r⟩:=p.get1 h1;rw [h2] at S;cases S;exact r
theorem yV {a:Addr}{xs:List V}{ds:List D}(h:aD K H a xs)(p:az K H xs ds):bL K H (.ref a) (.lst ds):=
 .lst h p.len λi x d h1 h2=>by obtain ⟨e,S,r⟩:=p.get1 h1;rw [h2] at S;cases S;exact r
theorem bL.outT {ds:List D}(h:bL K H x (.tup ds)):∃a xs,x= .ref a/\aE K H a xs/\az K H xs ds:=by
 cases h with
 |tup h hl hi=>exact ⟨_,_,rfl,h,PySem.Paired.of hl hi⟩
theorem bL.outL {ds:List D}(h:bL K H x (.lst ds)):∃a xs,x= .ref a/\aD K H a xs/\az K H xs ds:=by
 cases h with
 |lst h hl hi=>exact ⟨_,_,rfl,h,PySem.Paired.of hl hi⟩
theorem bL.isInt {i:Int}(h:bL K H x (.int i)):x= .int i:=by cases h;rfl
theorem bL.isStr {i:Str}(h:bL K H x (.str i)):x= .str i:=by cases h;rfl
theorem bL.same {d:D}(h:bL K H x d)(s:ak H H'):bL K H' x d:=by
 induction h with
 |non=>exact .non
 |bl b=>exact .bl b
 |int i=>exact .int i
 |str z=>exact .str z
 |lst h hl hi ih=>exact .lst (s.seq h) hl ih
 |tup h hl hi ih=>exact .tup (s.seqT h) hl ih
theorem az.same {xs:List V}{ds:List D}(h:az K H xs ds)(s:ak H H'):az K H' xs ds:=Paired.imp' (λ_ _ z=>bL.same z s) h
mutual
def noL:D->Bool
 | .lst _=>false
 | .tup ds=>noLs ds
 |_=>true
def noLs:List D->Bool
 |[]=>true
 |d::ds=>noL d&&noLs ds
end
theorem fY:∀ {ds:List D} {i:Nat} {d:D},noLs ds=true->ds[i]? =some d->noL d=true
 |[],_,_,_,h=>by simp at h
 |e::ds,0,d,hn,h=>by
  rw [noLs,Bool.and_eq_true] at hn;simp at h;exact h▸hn.1
 |e::ds,i+1,d,hn,h=>by
  rw [noLs,Bool.and_eq_true] at hn;exact fY hn.2 (by simpa using h)
theorem aE.noL {a p:Addr}{xs zs:List V}{o:HO}(h:aE K H a xs)(G:H p=some (.lst zs)):aE K @fw a xs:=by
 rcases h with (h|⟨u,h⟩)|h
 ·exact .inl (.inl (by rw [aj (λz=>by rw [z,G] at h;cases h)];exact h))
 ·exact .inl (.inr ⟨u,by rw [aj (λz=>by rw [z,G] at h;cases h)];exact h⟩)
 ·exact .inr h
theorem bL.noL {d:D}{p:Addr}{zs:List V}{o:HO}(h:bL K H x d)(F:L2.noL d=true)(G:H p=some (.lst zs)):bL K (L2.upd H p o) x d:=by
 induction h with
 |non=>exact .non
 |bl b=>exact .bl b
 |int i=>exact .int i
 |str z=>exact .str z
 |lst h hl hi ih=>rw [L2.noL] at F;cases F
 |tup h hl hi ih=>
  rw [L2.noL] at F;exact .tup (h.noL G) hl λi x d h1 h2=>ih i x d h1 h2 @fx
theorem rN {xs zs:List V}{ds:List D}{p:Addr}{o:HO}(h:az K H xs ds)(F:noLs ds=true)(G:H p=some (.lst zs)):az K @fw xs ds:=
 PySem.Paired.of h.len λi x d h1 h2=>by
  obtain ⟨e,S,r⟩:=h.get1 h1;rw [h2] at S;cases S;exact r.noL @fx G
theorem BU {p:Addr}{ys:List V}{Q:VK}(h:aD K H p ys\/aE K H p ys)(g:Q (.int ys.length) H):gy K p H Q:=⟨ys,h,g⟩
theorem Fx {p:Addr}{ys:List V}{Q:VK}{i:Int}{v:V}(h:aD K H p ys\/aE K H p ys)(e:lY ys i=some v)(g:Q v H):jF K p i H Q:=⟨ys,h,v,e,g⟩
theorem OK {p:Addr}{ys:List V}{Q:VK}(h:aD K H p ys\/aE K H p ys)(g:∀l,H l=none->Q (.ref l) @cn):yz K p H Q:=⟨ys,h,g⟩
end
section
variable {K:Fg}{H H':Hp}{x:V}{Q:VK}
theorem ak.get {b:Addr}{o:HO}(s:ak H H')(h:H b=some o):H' b=some o:=s b o h
def OF (xs:List V)(H:Hp)(Q:VK):Prop:=xs.length<=sizeLine/\∀p,H p=none->Q (.ref p) (upd H p (.tup xs))
def Sc (xs:List V)(H:Hp)(Q:VK):Prop:=xs.length<=sizeLine/\∀p,H p=none->Q (.ref p) (upd H p (.lst xs))
def P5 (t:TA):TE:=λσ H Q=>t σ H λxs H1=>OF xs H1 Q
def Qd (t:TA):TE:=λσ H Q=>t σ H λxs H1=>Sc xs H1 Q
theorem jT {X:Cx}{es:List Expr}{t:TA}{pos:Pos}{x1}(h:PA X es t):PE X (.Tuple es x1 pos) (P5 t):=NS h
theorem eL {X:Cx}{es:List Expr}{t:TA}{pos:Pos}(h:PA X es t):PE X (.List es pos) (Qd t):=NU h
theorem ce {xs:List V}(j:xs.length<=sizeLine)(g:∀p H',ak H H'->H p=none->H' p=some (.tup xs)->Q (.ref p) H'):OF xs H Q:=
 ⟨j,λp n=>g p _ (.upd n) n af⟩
theorem fq {xs:List V}(j:xs.length<=sizeLine)(g:∀p H',ak H H'->H p=none->H' p=some (.lst xs)->Q (.ref p) H'):Sc xs H Q:=
 ⟨j,λp n=>g p _ (.upd n) n af⟩
theorem jV {p:Addr}{ys:List V}(h:aD K H p ys)(g:∀p H',ak H H'->H p=none->H' p=some (.tup ys)->Q (.ref p) H'):CM K p H Q:=Qr h λp n=>g p _ (.upd n) n af
theorem wz {p:Addr}{ys:List V}(h:aD K H p ys\/aE K H p ys)(g:∀p H',ak H H'->H p=none->H' p=some (.lst ys)->Q (.ref p) H'):yz K p H Q:=OK h λp n=>g p _ (.upd n) n af
theorem BS {p:Addr}{xs:List V}{lo hi:Option Int}(h:aD K H p xs)(g:∀p H',ak H H'->H p=none->H' p=some (.lst @cd)->Q (.ref p) H'):uw K p lo hi H Q:=Nq h λp n=>g p _ (.upd n) n af
theorem az.via {xs:List V}{ds:List D}(s:ak H H')(h:az K H xs ds):az K H' xs ds:=az.same h s
theorem aR {n:Nat}(h:n<=1000000):n<=sizeLine:=by rw [sizeLine_eq];lia
theorem aB {α:Type}{f:α->D}{xs:List V}{j:List α}(h:az K H xs (j.map f)):xs.length=j.length:=by rw [h.len];simp
theorem bu {α:Type}{f:α->D}{xs:List V}{j:List α}{i:Nat}{x:V}(h:az K H xs (j.map f))(e:xs[i]? =some x):∃a,j[i]? =some a/\bL K H x (f a):=by
 obtain ⟨d,G,dx⟩:=h.get1 e;rw [getElem?_map] at G
 cases z:j[i]? with
 |none=>rw [z] at G;cases G
 |some l=>rw [z] at G;exact ⟨l,rfl,Option.some.inj G▸dx⟩
end
end L2
local macro_rules | `(tactic| walk_at "l3sq") => `(tactic| first
  | assumption
  | (show L2.aE _ _ _ _; first | exact L2.aE.of (by assumption) | exact L2.ak.seqT (by assumption) (by walk_at "l3sq"))
  | (show L2.aD _ _ _ _; first | exact L2.aD.of (by assumption) | exact L2.ak.seq (by assumption) (by walk_at "l3sq"))
  | (show L2.CH _ _ _ _; exact L2.CH.via (by assumption) (by walk_at "l3sq"))
  | (show L2.az _ _ _ _; exact L2.az.via (by assumption) (by walk_at "l3sq"))
  | (show L2.bL _ _ _ _; exact L2.bL.via (by assumption) (by walk_at "l3sq"))
  | (show _ = some _; exact L2.ak.get (by assumption) (by walk_at "l3sq")))
namespace L2
theorem Rw {c:Prop}[Decidable c]{A B:Prop}(J: ¬c)(h:A):uJ (!decide c) A B:=Sd (λ_=>h) (λz=>absurd z J)
theorem Rx {c:Prop}[Decidable c]{A B:Prop}(J:c)(h:B):uJ (!decide c) A B:=Sd (λz=>absurd J z) (λ_=>h)
end L2
set_option hygiene false in
local macro_rules|`(tactic|walk_at "l3gs")=>do
 let r←("hi hj hk;hl hm hn;ho hp;hq hr;hs ht hu;hv hw hx hy hz hA hB;hC hD;hE hF;hG hH".splitOn ";").toArray.mapM λx=>do let i:Array Lean.Term:=(x.splitOn " ").toArray.map λs=>⟨Lean.mkIdent (.mkSimple s)⟩;let p:=i[0]!;let e:=i.extract 1 i.size;`(Lean.Parser.Tactic.tacticSeq|(show @$p;first $[|refine @$e]*))
 `(tactic|((conv=>whnf);first $[|$r]*))
local macro_rules | `(tactic| walk_at "l3go") => `(tactic| ((repeat (walk_at "l3gs")); conv => whnf))
local macro_rules | `(tactic| walk_at "l3gc") => `(tactic| (walk_at "l3go"; refine L2.cutE (by walk_at "l3go"; exact ⟨rfl, rfl⟩) ?_))
local macro_rules | `(tactic| walk_at "l3gr") => `(tactic| first | refine L2.aP rfl ?_ | refine L2.bz rfl ?_)
namespace L2
open PySem PySem.Spec PyProof.Rows
section
variable {X:Cx}{K:Fg}{H:Hp}{Q:VK}
theorem Ic {prog:Program}{w:World}{A:Around}{E:Value->Shared->Prop}{s:Shared}{t b:Addr}{ws:List Value}{Q:Value->Shared->Prop}(ht:IsTup s.heap t (#[]:Array Value))(hb:IsTup s.heap b ws.toArray)(h:Q (.ref b) s):wpAny @q A (binaryOp .Add (.ref t) (.ref b)) Q E s:=by
 obtain ⟨⟨aa,dd,S,sl⟩,U,O,n,Y⟩:=id ht;obtain ⟨⟨W,z,R,J⟩,j,G,Z,I⟩:=id hb;simp only at O Y G I;subst O Y G I;exact concat_meets ⟨_,U,rfl⟩ ⟨_,j,rfl⟩ noFill_tuple_add seq_tuple_add PySem.F.slot_tuple_add PySem.F.entry_tuple_add @cL (tuple_addW0 t b #[] ws.toArray n Z dd z sl J @e) ⟨U,j,h⟩
def QT (K:Fg):R2:=λx y H Q=>∃a b ys,x= .ref a/\y= .ref b/\aE K H a []/\aE K H b ys/\Q (.ref b) H
theorem J5:cX X @bF (QT X.K):=by
 intro pins s σ H x y v u Q I z O h;obtain ⟨a,b,ys,rfl,rfl,j,J,q⟩:=h;cases z;cases O;obtain ⟨its,F,S,_⟩:=I.tuple j;obtain ⟨G,U,p2,_⟩:=I.tuple J;cases F;exact Ic S p2 ⟨.ref b,H,I,rfl,q⟩
def Lj (K:Fg)(p q:Addr)(H:Hp)(Q:VK):Prop:=Ie K p q H Q\/∃ys,aE K H p []/\aE K H q ys/\Q (.ref q) H
def Qm (K:Fg):R2:=λx y H Q=>match x,y with
 | .int i,.int j=>Q (.int (i+j)) H
 | .str a,.str b=>a.length+b.length<=sizeLine/\Q (.str (a++b)) H
 | .ref p,.ref q=>Lj K p q H Q
 |_,_=>False
theorem ir (Z:X.K=K):cX X @bF (Qm K):=by
 subst Z;rwa[((MJ rfl).or J5).imp λx y H Q h=> ?_]
 cases x with
 |int i=>cases y with
  |int j=>exact .inl h
  |_=>exact False.elim h
 |str a=>cases y with
  |str b=>exact .inl h
  |_=>exact False.elim h
 |ref p=>cases y with
  |ref q=>
   rcases h with h|⟨ys,h1,h2,S⟩
   ·exact .inl h
   ·exact .inr ⟨p,q,ys,rfl,rfl,h1,h2,S⟩
  |_=>exact False.elim h
 |_=>exact False.elim h
theorem y7 {p q:Addr}{xs ys:List V}(h1:H p=some (.lst xs))(h2:H q=some (.lst ys))(j:xs.length+ys.length<=sizeLine)(g:∀l H',ak H H'->H l=none->H' l=some (.lst (xs++ys))->Q (.ref l) H'):Lj K p q H Q:= .inl (RN h1 h2 j λl n=>g l _ (.upd n) n af)
theorem uS (x:V)(xs:List V):pi (x::xs) (some 1) none=xs:=by
 unfold pi
 have e:HT.sIx (x::xs).length 0 (some 1)=1:=by
  rw [show (some (1:Int))=some ((1:Nat):Int) from rfl,HT.sIx_nat,length_cons];lia
 rw [e,HT.sIx_none,length_cons];simp
theorem fU {pk:List @x}{σ:St}{x y:V}:pA (bM (none::none::pk) σ) (((bM (none::none::pk) σ).set 0 (some x)).set 1 (some y)):=
 pA.cons (.inl rfl) (.cons (.inl rfl) (.refl _))
theorem kO {pk:List @x}{σ:St}{x y z u:V}:pA (bM (none::none::none::none::pk) σ) (((((bM (none::none::none::none::pk) σ).set 0 (some x)).set 1 (some y)).set 2 (some z)).set 3 @cA):=
 pA.cons (.inl rfl) (.cons (.inl rfl) (.cons (.inl rfl) (.cons (.inl rfl) (.refl _))))
end
abbrev TJ:=Str->St->Hp->(Str->Hp->Prop)->Prop
section
variable {X:Cx}{es:List Expr}{t:TJ}{te:TE}{e:Expr}{pos:Pos}
def PJ (X:Cx)(es:List Expr)(t:TJ):Prop:=∀(pins:List (Addr×Obj)) (s:Shared) (σ:St) (H:Hp) (acc:Str) (Q:Str->Hp->Prop),ar X pins σ H s->t acc σ H Q->
 Joins @d X.A X.xe (evalEach es X.env) acc (λout s1=>∃H1,ar X pins σ H1 s1/\Q out H1) s
def Tr:TJ:=λacc σ H Q=>Q acc H
theorem qP:PJ X [] Tr:=λpins s σ H j Q I h=>⟨H,I,h⟩
def Tp (c:Str)(t:TJ):TJ:=λacc σ H Q=>(acc++c).length<=sizeLine/\t (acc++c) σ H Q
theorem qM {c:Str}{k:Nat}(h:PJ X es t):PJ X (.Constant (.str c) k pos::es) (Tp c t):=λpins s σ H z Q I ⟨j,q⟩=>
 Joins_cons (Calls.Constant_str ⟨c,_,rfl,j,h pins _ σ H _ Q @gs q⟩)
def Tq (te:TE)(t:TJ):TJ:=λacc σ H Q=>te σ H λx H1=>match x with
 | .str y=>(reprText y).length<=sizeLine/\(acc++reprText y).length<=sizeLine/\t (acc++reprText y) σ H1 Q
 |_=>False
theorem qO (U:PE X e te)(h:PJ X es t):PJ X (.FormattedValue e 114 none pos::es) (Tq te t):=λpins s σ H O Q I q=>by
 rwa[Joins_cons (wpAny_FormattedValue_repr (bv (U pins s σ H _ I q) λv R ⟨x,H1,z,J,G⟩=> ?_))]
 cases x with
 |str y=>
  obtain ⟨tk,rfl⟩:=J;obtain ⟨j,F,W⟩:=G;rwa[wpAny_pyReprObj_str ?_ j];exact wpAny_formatField_str ⟨_,_,rfl,F,h pins _ σ H1 _ Q (z.tok _) W⟩ ⟨_,_,rfl,F,h pins _ σ H1 _ Q ((z.tok _).tok _) W⟩ j
 |_=>exact False.elim G
def QD (t:TJ):TE:=λσ H Q=>t Str.empty σ H λout H1=>out.length<=sizeLine/\Q (.str out) H1
theorem rz {M:Model}{A:Around}{E:Value->Shared->Prop}{Q j:Str->Shared->Prop}(i:∀o s,Q o s->j o s):∀(ps:List (Sem Value)) (acc:Str) (s:Shared),Joins M A E ps acc Q s->Joins M A E ps acc j s
 |[],acc,s,h=>i acc s h
 |x::eN,acc,s,h=>bv (show wpAny M A x _ E s from h) λv O ⟨y,t,e,z,r⟩=>⟨y,t,e,z,rz i eN (acc++y) O r⟩
theorem fS {F j:Expr}(h:PJ X (F::j::es) t):PE X (.JoinedStr (F::j::es) pos) (QD t):=λpins s σ H Q I q=>
 wpAny_JoinedStr (rz (λo O ⟨H1,G,z,J⟩=>⟨z,.str o,H1,G.tok _,⟨_,rfl⟩,J⟩) _ _ _ (h pins s σ H Str.empty _ I q))
end
def CI (x:Str):Prop:=∀c∈x.cps.toList,c<128
theorem FW:∀c,c<128->(Builtin.Str.reprChar 39 c).length<=4/\(Builtin.Str.reprChar 34 c).length<=4:=by decide+kernel
theorem NJ (x:Str):reprQuote x=39\/reprQuote x=34:=by
 unfold reprQuote;split
 ·exact .inr rfl
 ·exact .inl rfl
theorem uz (q:Nat)(h:∀c,c<128->(Builtin.Str.reprChar q c).length<=4):∀(cs:List Nat) (n:Nat),(∀c∈cs,c<128)->cs.foldl (λn c=>n+(Builtin.Str.reprChar q c).length) n<=n+4*cs.length
 |[],n,_=>Nat.le_refl _
 |c::cs,n,hc=>by
  have h1:=h c (hc c (.head _));have h2:=uz q h cs (n+(Builtin.Str.reprChar q c).length) λd G=>hc d (.tail _ G);rw [foldl_cons,length_cons];lia
theorem lB {x:Str}(h:CI x):(reprText x).length<=4*x.length+2:=by
 rw [<-reprLen_eq,<-Array.foldl_toList];have h2:=uz (reprQuote x) (λc J=>by rcases NJ x with e|e<;>rw [e];exact (FW c J).1;exact (FW c J).2) x.cps.toList 2 h
 have:x.cps.toList.length=x.length:=by simp [Str.length]
 lia
section
variable {X:Cx}{K:Fg}
theorem Dc (bs:List Bool):((List.range bs.length).any λi=>(bs[i]?).getD true)=bs.any id:=by
 rw [Bool.eq_iff_iff,any_eq_true,any_eq_true];constructor
 ·rintro ⟨i,hi,e⟩;have hi:=mem_range.mp hi;rw [getElem?_eq_getElem hi] at e;exact ⟨_,getElem_mem hi,e⟩
 ·rintro ⟨b,z,e⟩;obtain ⟨i,hi,rfl⟩:=mem_iff_getElem.mp z;exact ⟨i,mem_range.mpr hi,by rw [getElem?_eq_getElem hi];exact e⟩
theorem D5 (O:X.calm=true):bc X (.builtin "any") (λxs H Q=>∃(a:Addr) (bs:List Bool),xs=[.ref a]/\aD X.K H a @bm/\Q (.bl (bs.any id)) H):=by
 intro pins s σ H xs Z Q I r h;obtain ⟨a,bs,rfl,G,q⟩:=h;obtain ⟨u,rfl,J⟩:=fC r;cases J;obtain ⟨its,S,pl,hz⟩:=I.list G;have R:s.heap.IsList a its.toArray:=pl.isList;have j:=zr S
 have z:a<s.heap.objs.size:=by obtain ⟨_,e,_⟩:=R;exact Heap.lt_size e
 rwa[call_any_walk (wpAny_pyIter_list R ?_)]
 refine ⟨s.heap.objs.size,[s.heap.objs.size,a],[s.heap.objs.size],its.toArray.size,_,_,λi=>(bs[i]?).getD true,rfl,Walks.list (A:=X.A.in1) (I.ok.hd O) _ a (Nat.ne_of_lt z) its.toArray,
  ⟨⟨_,Heap.get?_push_size _ rfl,rfl,rfl⟩,R.push _⟩,λi v s' Q' U W F=> ?_,λh' tk Y=> ?_⟩
 ·obtain ⟨b,e,rfl⟩:=j.get i v (by simpa using W);simp only [e,Option.getD_some] at F;exact wpAny_truthy_bool F
 ·have e:((List.range its.toArray.size).any λi=>(bs[i]?).getD true)=bs.any id:=by
   rw [size_toArray,j.length];exact Dc bs
  rw [e];exact ⟨.bl _,H,I.kept (LSm.kept_iter Y),rfl,q⟩
def Lo (K:Fg)(a:Addr)(H:Hp)(Q:VK):Prop:=∃bs:List Bool,aD K H a @bm/\Q (.bl (bs.any _root_.id)) H
def Qj (K:Fg):List V->Hp->VK->Prop:=λxs H Q=>match xs with|[.ref a]=>Lo K a H Q|_=>False
theorem LM (Z:X.K=K)(J:X.calm=true):bc X (.builtin "any") (Qj K):=by
 subst Z;rwa[(D5 J).imp λxs H Q h=> ?_];unfold Qj at h;split at h
 ·obtain ⟨bs,h1,h2⟩:=h;exact ⟨_,bs,rfl,h1,h2⟩
 ·exact h.elim
theorem Mf {K:Fg}{p:Addr}{H:Hp}{Q:VK}{bs:List Bool}(h:aD K H p @bm)(g:Q (.bl (bs.any id)) H):Lo K p H Q:=⟨bs,h,g⟩
def vp (x y:Str):Bool:=decide (0+y.length<=x.length)&&Builtin.Str.subAt x y 0
def BF:V->List V->Hp->VK->Prop:=λx xs H Q=>match x,xs with| .str z,[.str y]=>Q (.bl (vp z y)) H|_,_=>False
theorem EC:xg X "str.startswith" BF:=by
 intro pins s σ H x xs v O Q I G J h;unfold BF at h;split at h
 ·rename_i z y;obtain ⟨t,rfl⟩:=G;obtain ⟨u,rfl,j,rfl⟩:=fC J;exact call_gives F.slot_str_startswith @du F.entry_str_startswith (F.args_str_startswith_2 _ _) (gives_str_startswith z y t j) ⟨.bl _,H,I,rfl,h⟩
 ·exact h.elim
end
def fw:Stmt->Nat->Stmt
 | .ClassDef _ _ _ body _ _ _ _ _ _ _,j=>body.getD j (.Pass ⟨0,0,0,0⟩)
 |s,_=>s
structure gp (K:Fg)(C:Addr):Prop where
 cl:uj K C
 ha:W.findIn K (.ref C) "__class__"=some (some (.builtin "object.__class__"))
 hn:W.specialIn K (.builtin "object.__class__") "__get__"=some (some (.builtin "getset_descriptor.__get__"))
 htk:W.takesIn K (.builtin "object.__class__")=some true
 hm:W.mroIn K C (.type "object")=some true
structure Mj (K:Fg)(C:Addr):Prop where
 makes:W.makesIn K C=true
 init:W.findIn K (.ref C) "__init__"=some (some (.builtin "object.__init__"))
 kp:W.keepIn K (.ref C)=true
section
variable {X:Cx}{C:Addr}{x:Str}{p pos:Pos}
def EY (C:Addr):TE:=λ_ H Q=>∀a dx,H a=none->H dx=none->dx≠a->Q (.ref a) @r
theorem JE {pins:List (Addr×Obj)}{σ:St}{H:Hp}{s:Shared}{Q:VK}(M:Mj X.K C)(I:ar X pins σ H s)(h:EY C σ H Q):wpAny @d X.A (call (.ref C) []) @w X.xe s:=by
 have G:=h (s.heap.objs.size+1) s.heap.objs.size (I.hok.fresh @bG) @bN @eF;have R:=ar.made (C:=C) I;have Y:=W.makes_of (M:=model X.prog X.w) I.kIn M.makes
 have O:((s.heap.push W.emptyDict).push @y).get? (s.heap.objs.size+1)=some @y:=by
  have:=Heap.get?_push_size @eR (o:=W.instObj C s.heap.objs.size) rfl;rwa [Heap.size_push] at this
 have z:PySem.W.Looks @d ((s.heap.push W.emptyDict).push @y) (typeOf (.ref (s.heap.objs.size+1))) (.ref C):=(PySem.W.Looks.ld O).andThen .now;have J:PySem.W.Looks @d ((s.heap.push W.emptyDict).push @y) (isInstance (.ref (s.heap.objs.size+1)) (.type "object")) true:=z.andThen (Y.top.keeps λb o e=>Heap.get?_push_of_some _ (Heap.get?_push_of_some _ e));rwa[wpAny_call (DB I.kIn M.makes M.init (λj=>PySem.W.Looks.of_pure (W.oi_bind j)) ?_)];obtain ⟨F,g,d,t,os⟩:=s;rwa[codeAny_call_builtin W.oi_plain W.entry_oi (@W.check_slot @d _ _ _ "object.__init__" "object" "__init__" (.ref (F.objs.size+1)) [] [] _ W.oi_kind W.oi_split J (W.oi_args (.ref (F.objs.size+1))) ?_)];rw [W.oi_run];exact wpAny_pure (And.intro rfl ⟨V.ref (F.objs.size+1),_,R,rfl,G⟩)
theorem AH (M:Mj X.K C)(Y:Gl X x)(F:X.mg x=some (.ref C))(j:(x==("__debug__":Str))=false:=by decide):PE X (.Call (.Name x p) [] [] pos) (EY C):=by
 intro pins s σ H Q I h;rwa[wpAny_Call_Name_kw (fF I Y F ?_ j)];exact W.callWith_K0 I.kIn M.kp (JE M I h)
end
theorem d4 {H:Hp}{a dx:Addr}{o:HO}(h1:H a=none)(h2:H dx=none):ak H (upd (upd H dx (.own a)) a o):=λb u z=>by
 rw [aj (λe=>by rw [e,h1] at z;cases z),aj (λe=>by rw [e,h2] at z;cases z)];exact z
theorem OG {C:Addr}{σ:St}{H:Hp}{Q:VK}(g:∀a dx H',ak H H'->H a=none->H' a=some (.ins C dx [])->Q (.ref a) H'):EY C σ H Q:=λa dx h1 h2 _=>g a dx _ (d4 h1 h2) h1 af
noncomputable def TN:Value->Option V
 | .none=>some .non
 | .bool b=>some (.bl b)
 | .int i _=>some (.int i)
 | .str x _=>some (.str x)
 | .bytes b _=>some (.byt b)
 | .float b _=>some (.flt b)
 | .ref a=>some (.ref a)
 | .type n=>some (.ty n)
 |_=>none
theorem CD {x:V}{u:Value}(h:aA x u):TN u=some x:=by
 cases x with
 |non=>cases h;rfl
 |bl b=>cases h;rfl
 |int i=>obtain ⟨t,rfl⟩:=h;rfl
 |str i=>obtain ⟨t,rfl⟩:=h;rfl
 |byt i=>obtain ⟨t,rfl⟩:=h;rfl
 |flt i=>obtain ⟨t,rfl⟩:=h;rfl
 |ref i=>cases h;rfl
 |ty i=>cases h;rfl
theorem FX {x y:V}{u:Value}(h:aA x u)(h':aA y u):x=y:=by
 have e:=(CD h).symm.trans (CD h');exact Option.some.inj e
section
variable {X:Cx}{K:Fg}
open Classical in
noncomputable def Be (K:Fg)(H:Hp)(e:D)(u:Value):Bool:=if h:∃d,∃x,aA x u/\bL K H x d then rM h.choose e else false
theorem Cj {pins:List (Addr×Obj)}{σ:St}{H:Hp}{s:Shared}(I:ar X pins σ H s){e d:D}{x:V}{u:Value}(r:aA x u)(h:bL X.K H x d):Be X.K H e u=rM d e:=by
 have F:∃d,∃x,aA x u/\bL X.K H x d:=⟨d,x,r,h⟩;unfold Be;rw [dif_pos F];obtain ⟨y,O,j⟩:=F.choose_spec;have:=FX r O;subst this;rw [bL.inj I j h]
theorem zv {pins:List (Addr×Obj)}{σ:St}{H:Hp}{s:Shared}(I:ar X pins σ H s){e:D}:∀ {xs:List V} {ds:List D} {us:List Value},aJ xs us->az X.K H xs ds->us.any (Be X.K H e)=ds.any λd=>rM d e
 |_,_,_,.nil,.nil=>rfl
 |_,_,_,.cons r t,.cons h p=>by rw [any_cons,any_cons,Cj I r h,zv I t p]
end
section
variable {X:Cx}{CX:ml}{o e:Expr}{es:List Expr}{to:TE}{t:TA}{m:Str}{apos pos:Pos}{n k:Nat}{E:XK}{P:Program}{w:World}{K:Fg}{mg:Str->Option Value}{base:Heap}
theorem Ex (h1:X.prog=P)(h2:X.w=w)(S:X.K=K)(j:X.mg=mg)(Y:X.base=base)(G:fR CX X E)(W:bx k X.A)(F:n<=k)(U:PE X o to)(I:PA X (e::es) t)(O:eF o=true:=by rfl)(J:aI (e::es)=true:=by rfl)(R:(e::es).length<29:=by decide)
(z:(apos.endLine==pos.line)=true:=by rfl):PE X (.Call (.Attribute o m apos) (e::es) [] pos) (EI P w K mg base CX n m E to t):=by
 subst h1 h2 S j Y;exact pC G W F U I O J R z
end
theorem Ca (xs:Array Nat)(a:Nat):∀m,a+m<=xs.size->((List.range m).map λk=>a+k).filterMap (λi=>xs[i]?)=(xs.toList.drop a).take m
 |0,_=>by simp
 |m+1,h=>by
  have j:=Ca xs a m @c;rw [range_succ,map_append,filterMap_append,j,take_succ,getElem?_drop,Array.getElem?_toList]
  have:a+m<xs.size:=by lia
  simp [Array.getElem?_eq_getElem this]
theorem yh {start stop:Int}{n:Nat}{x:Str}(F:x.length=n)(I:0<=start)(h1:start<=stop)(h2:stop<=n):(sliceRange start stop 1).filterMap (λi=>x.cps[i]?)=(x.cps.toList.drop start.toNat).take (stop - start).toNat/\(sliceRange start stop 1).length=(stop - start).toNat:=by
 have e:sliceRange start stop 1=(List.range (stop - start).toNat).map λk=>start.toNat+k:=by
  unfold sliceRange;simp only [show (1:Int)>0 by decide,if_true]
  have c:(if start<stop then (stop - start+1 - 1) / 1 else 0)=stop - start:=by split<;>lia
  rw [c];rwa[map_congr_left λk _=> ?_];lia
 have hs:x.cps.size=n:=F;rw [e];exact ⟨Ca x.cps start.toNat _ @c,by simp⟩
theorem fE {x:Str}{l u:Option Int}{start stop:Int}(hi:Builtin.Str.strSliceIndices l u 1 x.length=sliceRange start stop 1)(I:0<=start)(h1:start<=stop)(h2:stop<=x.length):(Txt.slice x l u).cps.toList=(x.cps.toList.drop start.toNat).take (stop - start).toNat:=by
 obtain ⟨F,U⟩:=yh (x:=x) rfl I h1 h2;unfold Txt.slice;rw [hi];split
 ·rename_i h
  have S:(stop - start).toNat=x.length:=by simpa [U] using h
  have j:start.toNat=0:=by lia
  rw [j,drop_zero,S,take_of_length_le (by rw [aF];exact Nat.le_refl _)]
 ·exact F
theorem iF {x:Str}{n:Int}(h:0<=n):(Txt.slice x none @fq).cps.toList=x.cps.toList.take n.toNat:=by
 by_cases F:n<=x.length
 ·rw [fE (start:=0) (stop:=n) ?_ @b h F]
  ·simp
  ·unfold Builtin.Str.strSliceIndices;simp only [show (1:Int)>0 by decide,if_true,if_neg (show ¬n<0 by lia)];congr 1;lia
 ·rw [fE (start:=0) (stop:=x.length) ?_ @b @c @ec]
  ·rw [take_of_length_le (by rw [length_drop,aF];lia),take_of_length_le (by rw [aF];lia)];rfl
  ·unfold Builtin.Str.strSliceIndices;simp only [show (1:Int)>0 by decide,if_true,if_neg (show ¬n<0 by lia)];congr 1;lia
theorem fi {x:Str}{n:Int}(h:0<=n):(Txt.slice x @fq none).cps.toList=x.cps.toList.drop n.toNat:=by
 by_cases F:n<=x.length
 ·rw [fE (start:=n) (stop:=x.length) ?_ h F @ec]
  ·rw [take_of_length_le (by rw [length_drop,aF];lia)]
  ·unfold Builtin.Str.strSliceIndices;simp only [show (1:Int)>0 by decide,if_true,if_neg (show ¬n<0 by lia)];congr 1;lia
 ·rw [fE (start:=x.length) (stop:=x.length) ?_ @c @ec @ec]
  ·rw [show ((x.length:Int) - x.length).toNat=0 by lia,take_zero,drop_of_length_le (by rw [aF];lia)]
  ·unfold Builtin.Str.strSliceIndices;simp only [show (1:Int)>0 by decide,if_true,if_neg (show ¬n<0 by lia)];congr 1;lia
theorem jv (x y:Str):(x++y).cps.toList=x.cps.toList++y.cps.toList:=by
 show (x.cps++y.cps).toList=_;simp
theorem vo {x y:Str}(h:x.cps.toList=y.cps.toList):x=y:=by
 cases x;cases y;congr 1;exact Array.toList_inj.mp h
open PySem.W
noncomputable def Tx (K:Frag)(C:Addr)(bmB:List Value)(newId:String):Bool:=match K.lookup C with
 |some ⟨.type "type",_,.cls cd,sl⟩=>(match cd.mro,sl.toList with
  | .ref C'::bm,[_,_,_,_,some (.builtin n),_]=>C'==C&&n==newId&& !cd.hasDel&&tailIn K bmB bm&&nsOkIn K cd.ns&&cd.hasDict
  |_,_=>false)
 |_=>false
abbrev Us:List Value:=[.type "ValueError",.type "Exception",.type "BaseException",.type "object"]
def RF (a:Addr)(cls:Value)(dd:Option Addr):HO:= .ext λh=>∃oe vs,h.get? a=some oe/\oe.cls=cls/\oe.dict=dd/\oe.data= .fields vs/\vs[1]? =some .none/\vs[2]? =some .none
structure BaseI (K:Frag)(B:Addr):Prop where
 rd:readsIn K B (.type "type")=true
 at_:findCls K (.ref B) (.type "type") "__init__"=some (.val (.builtin "ValueError.__init__"))
 ga:specialIn K (.ref B) "__getattribute__"=some (some (.builtin "type.__getattribute__"))
inductive S9 (C:Addr)(fld:Str)(vs:List V)(H:Hp)(Q:VK)(_e:XK):Prop
 |mk (a v:_) (_:vs=[.ref a,v]) (_:H a=some (RF a (.ref C) none)) (_:∀d,H d=none->d≠a->Q .non (upd (upd H a (RF a (.ref C) (some d))) d (.xd [(fld,v)])))
structure XI (K:Frag)(C f:Addr):Prop where
 j:Tx K C Us "ValueError.__new__"=true
 init:findIn K (.ref C) "__init__"=some @Y
 fn:isFn K (.ref f)=true
 kp:keepIn K (.ref C)=true
structure XMk (P:Program)(w:World)(K:Frag)(mg:Str->Option Value)(base:Heap)(n:Nat)(x:Str)(C:Addr)(fld:Str):Prop where
 ex:∃f fd ps,XI K C f/\av P w K mg base bb n f fd ps (S9 C fld)/\eK K fd ps []/\mg x=some (.ref C)
open PySem.Calls Att
theorem sq {i:Int}{n:Nat}(h:WData.weight (.int i)<=n):Builtin.Int.intBits i<=n:=by
 unfold WData.weight at h;unfold Builtin.Int.intBits;exact h
theorem oU:∀ {ns:List Int} {n:Nat},WData.weightAll @eG<=n->∀i∈ns,Builtin.Int.intBits i<=n
 |[],_,_,_,hi=>nomatch hi
 |a::r,n,h,i,hi=>by
  have h':WData.weight (.int a)+1+WData.weightAll (r.map WData.int)<=n:=by simpa [WData.weightAll] using h
  rcases mem_cons.mp hi with rfl|hi
  ·exact sq @c
  ·exact oU @c i hi
theorem zu {S:List Int}(h:WData.layableAll [WData.list (List.map WData.int S)]=true):∀i∈S,Builtin.Int.intBits i<=2^20:=by
 have h1:WData.layable (WData.list (List.map WData.int S))=true:=by simpa [WData.layableAll] using h
 unfold WData.layable at h1;rw [Bool.and_eq_true,Bool.and_eq_true] at h1;have h2:=of_decide_eq_true h1.2;rwa[oU ?_];simpa [WData.weight] using h2
theorem xb {l:OpenLaw}{n:Nat}{q:Program}{j:List Str}{XP:(Str->Option Value)->Heap->Prop}{YP:World->Heap->Prop}{d:DefRec}
(hn:l.most=some n)(Z:d.params.defaults=[])
(I:∀(w:World) (s₀ s₁:Shared) (mg mb:Str->Option Value) (fa:Addr) (o:Obj) (pm cd doc:Value) (a:Addr) (vs:List Value) (ns:List Int),
   Ground q j [] XP w s₀ mg mb s₁.heap->YP w s₁.heap->
   s₁.heap.get? fa=some o->o.data= .func (docDef d.name d.params d.body d.scope pm cd doc)->s₁.heap.CodeRec cd d.name->mg d.name=some (.ref fa)->
   s₁.heap.get? a=some {cls:= .type "list",data:= .seq vs.toArray}->IntsAre vs ns->ns.length<=n->(∀i∈ns,Builtin.Int.intBits i<=2^20)->s₁.gens= #[]->
   codeAny (model l.prog w) callerA (.call (.ref fa) ⟨[.ref a],[]⟩) (λr s'=>r= .ok (.ret (.bool true))/\OldK s₁.heap s'.heap/\s'.os=s₁.os/\AllBare s'.gens) s₁):
 WalkO q j XP YP l.row.toRowW d [] @de:=by
 intro w s₀ s₁ mg mb G Y fa o pm cd doc dV kV ho hd S hD U hg aa ac as O F ad W ae;obtain rfl:dV= .none:=Dflts.none hD Z;obtain rfl:kV= .none:=Dflts.noKw hD;obtain ⟨a,vs,ns,rfl,rfl,R,z,J⟩:=CT hn O W;rwa[enter_call (codeAny_mono (I w s₀ s₁ mg mb fa o pm cd doc a vs ns G Y ho (fd_plain hd) S U R z J (zu F) hg) λr s' hq=> ?_)];obtain ⟨rfl,h2,h3,h4⟩:=hq;exact ⟨.inl ⟨.bool true,.bool true,[],rfl,λ_=>rfl,.bool true,De l _,λ_=>⟨List.Pairwise.nil,λ_ hm=>(nomatch hm)⟩⟩,h2,h3,h4⟩
set_option maxHeartbeats 4000000 in
theorem y0 {X:Cx}{pins:List (Addr×Obj)}{σ:St}{H:Hp}{F:Shared}{scope:Scope}{N':List Str}{pk:List @x}{fp:List Addr}{tg elt iter:Expr}{ifs:List Expr}{pos:Pos}{g:TG}{tt:TT}{te:XK->TE}{EX:XK}{L:Addr}
{J:It}{it:Addr}{tn:Nat->Heap->Prop}{R:Value->Env->Result->Shared->Prop}{E:Value->Shared->Prop}{Q:VK}
(S:bO X scope N' pk)(hg:∀C s H ex,PG @i tg g)(ht:∀C s H ex,Ea @i ifs tt)(he:∀C s H ex,PX @i elt te)(aV:X.stack=X.env::X.outer)(aP:X.env.frame=some L)
(I:ar X pins σ H F)(T:zx X.prog X.w X.K X.A X.calm tg J fp it tn)(st:tn 0 F.heap)(hf:∀b∈fp,gR X pins H b)
(hW:∃W:Nat->Nat->List V->Hp->Prop,(∃m,W 0 m [] H)/\∀i m ys H,W i m ys H->
   (J.stop i H/\ys.length<=sizeLine/\∀p,H p=none->Q (.ref p) @F)\/
   (J.go i H/\ys.length<sizeLine/\∃N:List V->Hp->Prop,(∀zs H',N zs H'->∃m',m'<m/\W (i+1) m' zs H')/\∀x H',J.yld i H x H'->g x @z H' λσ2 H2=>pA @z σ2/\tt σ2 H2 λb H3=>
     if b=true then te (λcls dd H4=>∀p zs,H4 p=none->EX cls dd @eh) σ2 H3 λv H4=>N (ys++[v]) H4 else N ys H3))
(hR:∀(C D:Addr) (s':Shared) (ys:List V) (H':Hp),(∃m,s'.heap.Ns C m)->Q (.ref D) @A->(∀h',Heap.SameBut C s'.heap h'->ar X pins σ @A {s' with heap:=h'})->F.heap.objs.size<=C->upd H' D (.lst ys) C=none->
   R (.ref D) @l (.ok .next) s')
(aK:∀(C D a T:Addr) (cls:Value) (dd:Option Addr) (oC:Obj) (s':Shared) (ys:List V) (H':Hp),(∃m,s'.heap.Ns C m)->ar X ((C,oC)::pins) σ @A s'->Nw X ((C,oC)::pins) @A a->Nw X ((C,oC)::pins) @A T->Eh s'.heap a T cls dd @eT->Nw X pins @A C->EX cls dd @A->
   R (.ref D) @l (.error (.ref a)) s'):
 wpAny @d X.A @gn (λacc s₃=>wpAny @d X.A (newFunctionEnv scope X.env.globals @cE [] X.env.qual none .none (some X.env)) (λcenv s₄=>
  codeAny @d X.A (.compStart (.ListComp elt [⟨tg,iter,ifs,0⟩] scope pos) 0 (.ref it) acc {cenv with scope:=relabel scope X.env}) (R acc {cenv with scope:=relabel scope X.env}) s₄) E s₃) E F:=by
 obtain ⟨W,⟨m0,w0⟩,av⟩:=hW;rwa[wpAny_newObj_type (wpAny_newFunctionEnv S.nocell (by intro y hy;simp at hy) (λh₁ ai af=> ?_) S.kind)];dsimp only at ai af ⊢;generalize aq:F.heap.push {cls:= .type "list",dict:=none,data:= .seq ([]:List Value).toArray}=H2 at ai af ⊢
 have hC:H2.objs.size=F.heap.objs.size+1:=by rw [<-aq,Heap.size_push]
 have aa:F.heap.objs.size≠H2.objs.size:=by rw [hC];exact Nat.ne_of_lt @br
 have ae:F.heap.objs.size<=H2.objs.size:=by rw [hC];exact Nat.le_succ _
 have aC:∀b o,F.heap.get? b=some o->h₁.get? b=some o:=λb o e=>
  af.extBut b o (Nat.ne_of_lt (Nat.lt_of_lt_of_le @U ae)) (Heap.get?_push_of_some _ (aq▸Heap.get?_push_of_some _ e))
 have aA:h₁.get? F.heap.objs.size=some {cls:= .type "list",data:= .seq ([]:List Value).toArray}:=
  af.extBut _ _ aa (Heap.get?_push_of_some _ (aq▸Heap.get?_push_size _ rfl))
 have au:∀b∈fp,b<F.heap.objs.size:=λb O=>by
  obtain ⟨o,e,_⟩:=T.obj 0 _ st b O;exact Heap.lt_size e
 have ax:tn 0 h₁:=T.keep 0 _ _ st λb _ o e=>aC b o e;have a0:X.env.locals≠H2.objs.size:=Nat.ne_of_lt (Nat.lt_of_lt_of_le I.lt ae);generalize aZ:H2.objs.size=C at *;generalize as:F.heap.objs.size=D at *
 have Z:F.heap.objs.size<=D:=by rw [as];exact Nat.le_refl _
 have ad:F.heap.objs.size<=C:=by rw [as];exact ae
 have am:∀s₃:Shared,s₃= {F with heap:=h₁,toks:=F.toks+([]:List (Str×Value)).length}->
  codeAny @d X.A (.compLoop (.ListComp elt [⟨tg,iter,ifs,0⟩] scope pos) 0 (.ref it) (.ref D) @l) (R (.ref D) @l) s₃:=by
  rintro s₃ rfl
  refine codeAny_loop rfl (λn s'=>∃i H' ys its k,ar @n [(D,{cls:= .type "list",data:= .seq its k})] @z H' s'/\aJ ys its.toList/\tn i s'.heap/\(∀b∈fp,H' b=none)/\W i n ys H') ?_ m0
   ⟨0,H,[],#[],0,yZ I S ad hf (λb O=>by rw [as];exact au b O) rfl rfl aC (by simpa using ai) Z aa aA (λv z=>nomatch z),.nil,ax,λb O=>(hf b O).1,w0⟩
  rintro n s3 ⟨i,H3,ys,its,k,I3,ah,ay,aE,w3⟩;show wpAny _ _ ((compTurn (.ListComp elt [⟨tg,iter,ifs,0⟩] scope pos) 0 (.ref it) (.ref D) @l).onRaise (λx=>do noteFrame x @l;theTreesLotGoes x)) _ _ s3;rwa[wpAny_noted ?_];rw [compTurn_list];have G:∀ {α:Type} {t:Sem α} {Q':α->Shared->Prop} {E':Value->Shared->Prop} {s':Shared},wpAny @d X.A t Q' @bn s'->wpAny @d X.A t Q' E' s':=λh=>wpAny_mono h (λ_ _ x=>x) λ_ _ x=>x.elim
  have ap:∀ {H':Hp} {j},(∀b∈fp,H' b=none)->(∀p∈j,p.1=D)->∀b∈fp,gR @n j H' b:=λ{H' j} hn U b O=>
   ⟨hn b O,(I3.ok.exf b O).1,I3.ok.exfs b O,.inl O,(I3.ok.exf b O).2,λp aN z=>by
     have aQ:p∈j:=by simpa using (show p∈([]:List (Addr×Obj))++j from aN)
     have q:=au b O;rw [<-z,U p aQ] at q
     exact Nat.lt_irrefl _ q⟩
  have ac:∀p∈[(D,({cls:= .type "list",data:= .seq its k}:Obj))],p.1=D:=λp U=>by
   have e:p=(D,({cls:= .type "list",data:= .seq its k}:Obj)):=by simpa using U
   rw [e]
  have ag:∀ {j:List (Addr×Obj)} {σ' H' s'},ar @n j σ' H' s'->(D,({cls:= .type "list",data:= .seq its k}:Obj))∈j->s'.heap.get? D=some {cls:= .type "list",data:= .seq its k}/\H' D=none:=λ{j σ' H' s'} J hm=>by
   obtain ⟨a1,a2,_⟩:=J.pin _ (show (D,({cls:= .type "list",data:= .seq its k}:Obj))∈([]:List (Addr×Obj))++j by simpa using hm);exact ⟨a1,a2⟩
  rwa[wpAny_bind @cF]
  rcases av i n ys H3 w3 with ⟨aD,hz,qn⟩|⟨go,hz,N,hN,aF⟩
  ·rwa[G (bv (T.done @n rfl rfl rfl rfl rfl i _ s3 _ H3 @bn I3 (ap aE ac) ay aD) λr s4 ⟨hr,I4⟩=> ?_)];subst hr;rwa[wpAny_pure ?_];obtain ⟨a1,a2⟩:=ag I4 @e;obtain ⟨mC,aB,_⟩:=I4.loc;exact hR C D s4 ys H3 ⟨mC,aB⟩ (qn D a2) (λh' sb=>rQ I hf I4 ad Z aa a2 (its:=its.toList) (n:=k) (by simpa using a1) ah hz sb) ae (by rw [aj @gt];exact I4.free)
  ·rwa[G (bv (T.item @n rfl rfl rfl rfl rfl i _ s3 _ H3 @bn I3 (ap aE ac) ay go) λr s4 ⟨u,hr,h4⟩=> ?_)];subst hr;rwa[wpAny_bind (G (bv h4 λ_ s5 ⟨x,H5,I5,r5,y5,al,aW⟩=> ?_))];have I5':=I5.pinned (ap aW ac) (T.obj _ _ al);rwa[wpAny_bind (G (bv (hg C F H fp _ s5 _ H5 x u _ I5' r5 (aF x H5 y5)) λ_ s6 ⟨σ6,H6,I6,aI,q6⟩=> ?_))];rwa[wpAny_bind (G (bv (ht C F H fp _ s6 σ6 H6 _ I6 q6) λb s7 ⟨H7,I7,q7⟩=> ?_))]
   have an:∀ {H':Hp} {s':Shared},ar @n ([(D,{cls:= .type "list",data:= .seq its k})]++kj fp s5.heap) σ6 H' s'->
    ar @n [(D,{cls:= .type "list",data:= .seq its k})] @z H' s'/\tn (i+1) s'.heap/\∀b∈fp,H' b=none:=λ{H' s'} I7=>by
    rwa[⟨I7.unpinned.weak aI.1.symm aI.2,T.keep _ _ _ al λb O o e=>(I7.pin (b,o) @W).1,λb O=> ?_⟩];obtain ⟨o,e,d⟩:=T.obj _ _ al b O;exact (I7.pin (b,o) @W).2.1
   cases b with
   |false=>
    rw [if_neg Bool.false_ne_true] at q7;obtain ⟨m',hm,w7⟩:=hN _ _ q7;obtain ⟨J7,t7,f7⟩:=an I7;rw [if_neg Bool.false_ne_true]
    first
     |exact wpAny_pure ⟨rfl,m',hm,i+1,H7,ys,its,k,J7,ah,t7,f7,w7⟩
     |exact wpAny_bind (wpAny_pure (wpAny_pure ⟨rfl,m',hm,i+1,H7,ys,its,k,J7,ah,t7,f7,w7⟩))
   |true=>
    rw [if_pos rfl] at q7;rw [if_pos rfl];rwa[wpAny_bind (wpAny_bind (wpAny_mono (he C F H fp _ _ s7 σ6 H7 _ I7 q7) (λy s8 ⟨v,Y,I8,r8,n8⟩=> ?_) λy s8 hx=> ?_))]
    rotate_left
    ·obtain ⟨a,cls,dd,Y,rfl,I8,x8,e8⟩:=hx;obtain ⟨a1,a2⟩:=ag I8 @e;obtain ⟨mC,aB,_⟩:=I8.loc;have ak:Y C=none:=I8.free;have J0:ar X pins σ @bK {s8 with heap:=s8.heap}:=rQ I hf I8 ad Z aa a2 (its:=its.toList) (n:=k) (by simpa using a1) ah (Nat.le_of_lt hz) (.refl _ _)
     have aH:(upd Y D (.lst ys)) C=none:=by rw [aj @gt];exact ak
     have aX:F.heap.get? C=none:=Heap.get?_none_of_le ad;have ao:Nw X pins @bK C:=I.nw aX aH
     obtain ⟨oC,az,aR⟩:∃oC,s8.heap.get? C=some oC/\∀v,oC.data≠ .cell v:=by
      obtain ⟨o,es,ep,ho,hd,_⟩:=id aB;exact ⟨o,ho,λv z=>by rw [hd] at z;cases z⟩
     have J1:ar X ((C,oC)::pins) σ @bK s8:=J0.pins_of λp U=>by
      rcases mem_cons.mp U with rfl|U
      ·exact ⟨az,aH,ao.2.1,ao.2.2.1,aR⟩
      ·exact J0.pin p (mem_append_right _ U)
     have nw:∀b,Nw @n ([(D,{cls:= .type "list",data:= .seq its k})]++kj fp s5.heap) Y b->Nw X ((C,oC)::pins) @bK b:=λb nb=>by
      obtain ⟨b1,b2,b3,b4,b5,b6⟩:=nb;have bD:b≠D:=λz=>b6 (D,{cls:= .type "list",data:= .seq its k}) @e z.symm
      have bn:(upd Y D (.lst ys)) b=none:=by rw [aj bD];exact b1
      have base:Nw X pins @bK b:=by
       rcases b4 with z|z
       ·exact absurd rfl (λ_:b=b=>by
         obtain ⟨o,e,d⟩:=T.obj _ _ al b z
         exact b6 (b,o) @bw rfl)
       ·exact I.nw z bn
      rwa[⟨base.1,base.2.1,base.2.2.1,base.2.2.2.1,base.2.2.2.2.1,λp U=> ?_⟩]
      rcases mem_append.mp U with U|U
      ·exact base.2.2.2.2.2 p (mem_append_left _ U)
      ·rcases mem_cons.mp U with rfl|U
       ·exact λz=>b2 z.symm
       ·exact base.2.2.2.2.2 p (mem_append_right _ U)
     have x0:IM X ((C,oC)::pins) @bK s8.heap a cls dd:=by
      obtain ⟨n0,x⟩:=x8;rwa[⟨nw a n0,?_⟩]
      rcases x with x|⟨T',aU,xa,nT,aY⟩
      ·exact .inl x
      ·rwa[.inr ⟨T',aU,xa,nw T' nT,?_⟩]
       rcases aY with z|⟨L',aL,z⟩
       ·exact .inl z
       ·exact .inr ⟨L',aL,z⟩
     show wpAny _ _ (noteFrame (.ref a) X.env) _ _ _;rwa[qX J1 x0 J1.ok.frames aV aP λh2 T2 J2 aM aS=> ?_];have aO:=(J2.pin (C,oC) @t).1;rwa[aK C D a T2 cls dd oC _ ys Y ?_ J2 x0.1 aM aS ao (e8 D ys a2)];obtain ⟨o,es,ep,ho,hd,r⟩:=aB;have eo:o=oC:=Option.some.inj (ho.symm.trans az);subst eo;exact ⟨mC,o,es,ep,aO,hd,r⟩
    obtain ⟨m',hm,w8⟩:=hN _ _ n8;obtain ⟨J8,t8,f8⟩:=an I8;obtain ⟨a1,a2⟩:=ag J8 @e
    have aT:its.size<=sizeLine:=by
     have e:=ah.length
     have e2:its.toList.length=its.size:=by simp
     lia
    rwa[wpAny_bind (su a1 aT λh' k' e' sb=> ?_)]
    have J9:ar @n [] @z Y {s8 with heap:=h'}:=
     ar.turned (t':=s8.toks) (it:=D) (J8.pins_of λp U=>nomatch U) (λb o O e=>(sb.2 b O).trans e) a2 aa (.inr Z) (λx c e z=>by
      obtain ⟨w',o,ho,hd⟩:=J8.cell x c e
      rw [z,a1] at ho;cases ho;cases hd) λp U=>nomatch (show p∈([]:List (Addr×Obj))++[] from U)
    have J10:ar @n [(D,{cls:= .type "list",data:= .seq @fe k'})] @z Y {s8 with heap:=h'}:=
     J9.pins_of λp U=>by
      have e:p=(D,({cls:= .type "list",data:= .seq @fe k'}:Obj)):=by simpa using U
      subst e;rwa[⟨e',a2,aa,λz=> ?_,λv z=>nomatch z⟩];obtain ⟨_,o,ho,_⟩:=I.stack.mem z;exact absurd (Nat.lt_of_lt_of_le (Heap.lt_size ho) Z) @bc
    have t9:tn (i+1) h':=T.keep _ _ _ t8 λb O o e=>(sb.2 b (λz=>Nat.lt_irrefl D (by have:=au b O;rw [z] at this;exact this))).trans e
    have aw:aJ (ys++[v]) (its.push y).toList:=by
     rw [Array.toList_push];exact aJ.append ah (.cons r8 .nil)
    first
     |exact wpAny_pure (wpAny_pure ⟨rfl,m',hm,i+1,Y,ys++[v],its.push y,k',J10,aw,t9,f8,w8⟩)
     |exact wpAny_bind (wpAny_pure (wpAny_pure ⟨rfl,m',hm,i+1,Y,ys++[v],its.push y,k',J10,aw,t9,f8,w8⟩))
 exact codeAny_compStart_list (am _ rfl) (T.self _ 0 _ _ _ ax (am _ rfl))
open Sem (wp) in
def uT (M:Model)(A:Around)(E:Value->Shared->Prop)(use:Option (Value->Sem Unit))(Q:Value->Shared->Prop)(acc:Value)(cenv:Env)(r:Result)(s':Shared):Prop:=
 match r,use with
 | .ok _,none=>∃m,s'.heap.Ns cenv.locals m/\∀h',Heap.SameBut cenv.locals s'.heap h'->Q acc {s' with heap:=h'}
 | .ok _,some u=>wpAny M A (u acc) (λ_ s''=>∃m,s''.heap.Ns cenv.locals m/\∀h',Heap.SameBut cenv.locals s''.heap h'->Q .none {s'' with heap:=h'}) E s'
 | .error x,_=>∃m,s'.heap.Ns cenv.locals m/\∀h',Heap.SameBut cenv.locals s'.heap h'->∀cenv':Env,cenv'.locals=cenv.locals->cenv'.frame=cenv.frame->wpAny M A (passOn "comprehension.variables-let-go" x cenv':Sem Value) @bn E {s' with heap:=h'}
section
variable {M:Model}{A:Around}{E:Value->Shared->Prop}{s:Shared}{env:Env}
theorem pj {e:Expr}{scope:Scope}{pos:Pos}{z first:Sem Value}{g:Comprehension}{gs:List Comprehension}{cl:List (Str×Addr)}{use:Option (Value->Sem Unit)}
{Q:Value->Shared->Prop}
(aa:clausesOf e=g::gs)(hs:∀x,foldedSetIterable g.iter env x=pure x)(O:closureFor scope env=pure cl)
(G:scope.kind= .function)(J:∀x∈scope.names,x.2= .local->scope.names.lookup x.1=some .local)
(h:wpAny M A first (λx s₁=>wpAny M A (pyIter x) (λit s₂=>wpAny M A z (λacc s₃=>
   wpAny M A (newFunctionEnv scope env.globals cl [] env.qual none .none (some env)) (λcenv s₄=>
    codeAny M A (.compStart e 0 it acc {cenv with scope:=relabel scope env}) (uT M A E use Q acc {cenv with scope:=relabel scope env}) s₄) E s₃) E s₂) E s₁) E s):
 wpAny M A (comprehension e scope env pos z false first use) Q E s:=by
 unfold comprehension;rw [O,aa]
 refine wpAny_bind (wpAny_mono h (λx s₁ h₁=>wpAny_bind (wpAny_standAt (wpAny_bind (wpAny_of_eq (hs x) (wpAny_bind (wpAny_holding (wpAny_mono h₁ (λit s₂ h₂=>
  wpAny_standIf (wpAny_bind (wpAny_mono h₂ (λacc s₃ h₃=>wpAny_bind (wpAny_pure (wpAny_bind (wpAny_mono h₃ (λcenv s₄ h₄=> ?_) λ_ _ h'=>h')))) λ_ _ h'=>h')))
   λ_ _ h'=>h'))))))) λ_ _ h'=>h')
 dsimp only
 have Y:∀x∈(scope.names.filter λx=>(x.2== .local||x.2== .cell)&&x.1 != (".0":Str)).reverse,x.2= .local->
  Env.kindOf {cenv with scope:=relabel scope env} x.1=some .local:=λx hx S=>lookup_relabel_local (J x (mem_filter.mp (mem_reverse.mp hx)).1 S)
 have Z:∀x∈(scope.names.filter λx=>(x.2== .local||x.2== .cell)&&x.1 != (".0":Str)).reverse.drop 1++(scope.names.filter λx=>(x.2== .local||x.2== .cell)&&x.1 != (".0":Str)).reverse.take 1,
  x.2= .local->Env.kindOf {cenv with scope:=relabel scope env} x.1=some .local:=λx hx S=>by
  rcases mem_append.mp hx with h1|h1
  ·exact Y x (mem_of_mem_drop h1) S
  ·exact Y x (mem_of_mem_take h1) S
 rwa[wpAny_holding (wpAny_bind (wpAny_attempt (wpAny_holding (wpAny_run (codeAny_mono h₄ λr s' W=> ?_)))))]
 cases r with
 |ok f=>
  cases use with
  |none=>
   obtain ⟨m,R,W⟩:=W;exact wpAny_bind (wpAny_holding (wpAny_comp_letGo (cenv:= {cenv with scope:=relabel scope env}) G _ s' m Y R λh' m' _ I=>wpAny_pure (W h' I)))
  |some u=>
   rwa[wpAny_bind (wpAny_rule (wpAny_bind (wpAny_holding (wpAny_mono W (λ_ U F=> ?_) λ_ _ h'=>h'))))];obtain ⟨m,R,F⟩:=F;exact wpAny_bind (wpAny_comp_letGo (cenv:= {cenv with scope:=relabel scope env}) G _ U m Z R λh' m' _ I=>wpAny_pure (F h' I))
 |error x=>
  have F:∃m,s'.heap.Ns cenv.locals m/\∀h',Heap.SameBut cenv.locals s'.heap h'->∀j:Env,j.locals=cenv.locals->j.frame=cenv.frame->wpAny M A (passOn "comprehension.variables-let-go" x j:Sem Value) @bn E {s' with heap:=h'}:=by cases use<;>exact W
  obtain ⟨m,R,W⟩:=F;exact wpAny_bind (wpAny_holding (wpAny_comp_letGo (cenv:= {cenv with scope:=relabel scope env}) G _ s' m Y R λh' m' _ I=>wpAny_mono (W h' I _ rfl rfl) (λ_ _ f=>f.elim) λ_ _ y=>y))
end
def Cp (EX:XK)(J:It)(pk:List @x)(g:TG)(tt:TT)(te:XK->TE)(σ:St)(H:Hp)(Q:VK):Prop:=∃W:Nat->Nat->List V->Hp->Prop,(∃m,W 0 m [] H)/\∀i m ys H,W i m ys H->
 (J.stop i H/\ys.length<=sizeLine/\∀p,H p=none->Q (.ref p) @F)\/
 (J.go i H/\ys.length<sizeLine/\∃N:List V->Hp->Prop,(∀zs H',N zs H'->∃m',m'<m/\W (i+1) m' zs H')/\∀x H',J.yld i H x H'->g x @z H' λσ2 H2=>pA @z σ2/\tt σ2 H2 λb H3=>
   if b=true then te (λcls dd H4=>∀p zs,H4 p=none->EX cls dd @eh) σ2 H3 λv H4=>N (ys++[v]) H4 else N ys H3)
section
variable {X:Cx}{scope:Scope}{N':List Str}{pk:List @x}{tg elt iter:Expr}{ifs:List Expr}{pos:Pos}{wi:TI}{g:TG}{tt:TT}{te:XK->TE}{EX:XK}{L:Addr}
theorem Bm {K:Fg}{a:Addr}{xs:List V}{σ:St}{H:Hp}{Q:VK}(j:Nat->List V->Hp->Prop)(R:xs.length<=sizeLine)(F:∀i ys H,j i ys H->ys.length<=i)(J:j 0 [] H)(G:∀i ys H,i<=xs.length->j i ys H->aD K H a xs)
(hs:∀i x ys H,xs[i]? =some x->j i ys H->g x @z H λσ2 H2=>pA @z σ2/\tt σ2 H2 λb H3=>if b=true then te (λcls dd H4=>∀p zs,H4 p=none->EX cls dd @eh) σ2 H3 λv H4=>j (i+1) (ys++[v]) H4 else j (i+1) ys H3)
(O:∀ys H,j @eu ys H->∀p,H p=none->Q (.ref p) @F):
 Cp EX @gS pk g tt te σ H Q:=by
 rwa[⟨λi m ys H=>m=xs.length - i/\i<=xs.length/\j i ys H,⟨xs.length,by simp,Nat.zero_le _,J⟩,?_⟩];rintro i m ys H ⟨rfl,hi,p⟩;have S:=F _ _ _ p;by_cases z:i<xs.length
 ·rwa[.inr ⟨⟨xs,xs[i],G i ys H hi p,by simp [z]⟩,by lia,j (i+1),λzs H' I=>⟨xs.length - (i+1),by lia,rfl,z,I⟩,λx H' y=> ?_⟩];obtain ⟨e,y⟩:=y;subst e;exact hs i x ys _ @dS p
 ·have e:i=xs.length:=by lia
  subst e;exact .inl ⟨⟨xs,G _ ys H @f p,Nat.le_refl _⟩,by lia,O ys H p⟩
end
open PySem.StrLaws Builtin.Str
def jn (sp:List Nat):List (List Nat)->List Nat
 |[]=>[]
 |[p]=>p
 |p::q::r=>p++sp++jn sp (q::r)
structure FunD (K:Fg)(x qual:Str)(st:Stmt)(T f:Addr)(fd:FuncData):Prop where
 ex:∃(oc:Value) (od:Option Addr) (kV doc pm:Value) (an:Option Addr) (cdv ct:Value) (osl:Array @E),
  fd=W.fnOf x qual @dZ @cO @bX (.ref T) kV doc pm an cdv ct/\K.lookup f=some ⟨oc,od,.func fd,osl⟩/\W.codeIn K cdv qual=true
structure CalD (P:Program)(w:World)(K:Fg)(mg:Str->Option Value)(base:Heap)(n:Nat)(x:Str)(ps:List Str)(dvs:List V)(sp:Sp):Prop where
 ex:∃f fd ds,av P w K mg base @bU n f fd ps sp/\eK K fd ps ds/\aJ dvs ds/\W.keepIn K (.ref f)=true/\mg x=some (.ref f)
def TV (P:Program)(w:World)(K:Fg)(mg:Str->Option Value)(base:Heap)(n:Nat)(f:Addr)(ps:List Str)(sp:Sp):Prop:=
 ∃fd,av P w K mg base bb n f fd ps sp/\eK K fd ps []/\W.keepIn K (.ref f)=true
theorem bf.fnv {P:Program}{w:World}{K:Fg}{mg:Str->Option Value}{base:Heap}{n:Nat}{x:Str}{ps:List Str}{sp:Sp}(c:bf P w K mg base n x ps sp):∃f,mg x=some (.ref f)/\TV P w K mg base n f ps sp:=by
 obtain ⟨f,fd,F,b,k,j⟩:=c.ex;exact ⟨f,j,fd,F,b,k⟩
def ij (base:Heap)(mg:Str->Option Value):Prop:=∃bm o,mg "__builtins__"=some (.ref bm)/\bm≠builtinsNs/\bm≠mainGlobals/\base.get? bm=some o/\o.cls= .type "module"/\o.dict=some builtinsNs/\o.data= .plain
theorem DH {P:Program}{w:World}{K:Frag}{mg mb:Str->Option Value}{CX:ml}{k:Nat}{fa a:Addr}{fd:FuncData}{x:Str}{sp:Sp}{j:Shared}{vs:List Value}{ns:List Int}{tabs:List (Addr×Addr)}
(S:∀q∈tabs,CodeHd j.heap q.1 q.2/\j.heap.get? q.2=some (tabObj #[]))(am:noTabs K=true)(an:ij j.heap mg)
(KX:K.In j.heap)(af:j.heap.Ns mainGlobals mg)(J:j.heap.Ns builtinsNs mb)(aq:∀x:Str,x≠"__name__"->mb x=bootBuiltins x)(aj:j.heap.NoLimit)(hg:j.gens= #[])
(ha:j.heap.get? a=some {cls:= .type "list",data:= .seq vs.toArray})(hi:IntsAre vs ns)(hl:ns.length<=sizeLine)(hr:bx k callerA)
(F:∀base:Heap,K.In base->base.Ns mainGlobals mg->ij base mg->av P w K mg base CX k fa fd [x] sp)(ad:∀(s:Shared) (u:Value),BindsTo s fd ⟨[u],[]⟩ [(x,u)])
(ar:∀H:Hp,(∀q∈tabs,H q.2=some (.tbl #[]))->aD K H a @cl->sp [.ref a] H (λv _=>v= .bl true) λ_ _ _=>False)
(ap:∀H e s',CX [] H j @eK e s'->False):
 codeAny @X callerA (.call (.ref fa) ⟨[.ref a],[]⟩) (λr s'=>r= .ok (.ret (.bool true))/\OldK j.heap s'.heap/\s'.os=j.os/\AllBare s'.gens) j:=by
 have rv:=um hi;have ai:=hi.length
 have ta:∀q∈tabs,q.2≠a:=λq R z=>by have:=(S q R).2;rw [z,ha] at this;cases this
 have ac:∀H:Hp,aD K H a @cl->fh P w H j.heap->(∀q∈tabs,H q.2=some (.tbl #[]))->(∀b u,H b=some u->(∃q∈tabs,b=q.2)\/(b=a/\K.lookup a=none/\∃ob xs,u= .frz ob (.lst xs)))->
  codeAny @X callerA (.call (.ref fa) ⟨[.ref a],[]⟩) (λr s'=>r= .ok (.ret (.bool true))/\OldK j.heap s'.heap/\s'.os=j.os/\AllBare s'.gens) j:=by
  intro H hS ag ak hA;have G:∀ {b:Addr} {o:Obj},j.heap.get? b=some o->H b=none->(t6 j.heap H).get? b=some o:=λe n=>Hq e n
  have al:∀ {b:Addr} {o:Obj},j.heap.get? b=some o->o.cls≠ .none->o.cls≠ .type "list"->H b=none:=λ{b o} e d1 d2=>by
   cases q:H b with
   |none=>rfl
   |some u=>
    rcases hA b u q with ⟨t,O,rfl⟩|⟨rfl,_,_⟩
    ·rw [(S t O).2] at e;cases e;exact absurd rfl d1
    ·rw [ha] at e;cases e;exact absurd rfl d2
  have ao:∀ {b:Addr} {o:Obj} {es:Array DictEntry} {ep:Nat},j.heap.get? b=some o->o.data= .dict es ep->H b=none:=λ{b o es ep} e d=>by
   cases q:H b with
   |none=>rfl
   |some u=>
    rcases hA b u q with ⟨t,O,rfl⟩|⟨rfl,_,_⟩
    ·rw [(S t O).2] at e;cases e;cases d
    ·rw [ha] at e;cases e;cases d
  have U:∀ {b:Addr} {m:Str->Option Value},j.heap.Ns b m->(t6 j.heap H).Ns b m:=λ{b m} ⟨o,es,ep,e,d,r⟩=>⟨o,es,ep,G e (ao e d),d,r⟩
  have ae:K.In @eL:=λb o e=>G (KX b o e) (by
   cases q:H b with
   |none=>rfl
   |some u=>
    rcases hA b u q with ⟨t,O,rfl⟩|⟨rfl,hk,_⟩
    ·have e2:=KX _ _ e;rw [(S t O).2] at e2;have h2:=all_eq_true.mp am (t.2,o) (mem_of_lookupK e);cases e2;exact absurd (show false=true from h2) Bool.false_ne_true
    ·rw [hk] at e;cases e)
  have hM:Mod K mg @eL:=⟨ae,U af,⟨mb,U J,aq⟩,let ⟨mc,h1,h2⟩:=aj;⟨mc,U h1,h2⟩⟩;have hB:ij @eL mg:=let ⟨bm,o,h1,h2,h3,h4,h5,h6,h7⟩:=an;⟨bm,o,h1,h2,h3,G h4 (al h4 (by rw [h5];simp) (by rw [h5];simp)),h5,h6,h7⟩;have e0:gS P w K mg @eL callerA [] j H:=⟨rfl,hM,λb o e=>Kz e,Nat.le_of_eq (DN _ _),trivial,λb J=>absurd (show b∈([]:List Addr) from J) @e,ag,.of_eq hg⟩;rwa[codeAny_mono ((F _ ae (U af) hB).run callerA [] j H ⟨[.ref a],[]⟩ [.ref a] [.ref a] _ _ hr e0 (ad j (.ref a)) (.cons rfl .nil) (ar H ak hS)) λr s' h=> ?_]
  cases r with
  |error e=>exact (ap H e s' h).elim
  |ok fl=>
   cases fl with
   |next=>exact False.elim h
   |brk=>exact False.elim h
   |cont=>exact False.elim h
   |ret u=>
    obtain ⟨v,H',os,ah,un,Z,r',q⟩:=h;have q':v= .bl true:=q;subst q';obtain rfl:u=Value.bool true:=r';rwa[⟨rfl,⟨λb o e=> ?_,λb o e=>un.there b o e @e⟩,os,ah⟩]
    cases q:H b with
    |none=>exact .inl (un.keep b o e q (by intro z;exact absurd (show b∈([]:List Addr) from z) @e) @e)
    |some u=>
     rcases hA b u q with ⟨t,O,rfl⟩|⟨rfl,hk,ob,xs,rfl⟩
     ·obtain ⟨aa,e2⟩:=un.tbls _ _ (ak t O);have e3:s'.heap.get? t.2=some (tabObj (#[]++aa)):=Z _ _ e2;have e4:=(S t O).2;rw [e4] at e;cases e;exact .inr (.inl ⟨((S t O).1.tab e4).isCodeTable,rfl,#[],aa,rfl,e3⟩)
     ·have Y:=un.frzs b ob _ q;obtain ⟨e1,_⟩:=ag b _ q;obtain ⟨e2,_⟩:=Z b _ Y;rw [e] at e1;cases e1;exact .inl e2
 have as:∀(H:Hp),(∀b u,H b=some u->u= .tbl #[]->∃q∈tabs,b=q.2)->∀b,H b=some (.tbl #[])->bp P w H j.heap b (.tbl #[]):=λH z b e=>by
  obtain ⟨q,R,rfl⟩:=z b _ e rfl;exact (S q R).2
 cases hk:K.lookup a with
 |some o=>
  have e:=KX a o hk;rw [ha] at e;cases e;rwa[ac (λb=>if b∈tabs.map (·.2) then some (.tbl #[]) else none) (.inr ⟨_,vs.toArray,_,hk,rfl,rfl,rfl,by rw [size_toArray,ai];exact hl,by simpa using rv⟩) @dM (λq R=>if_pos (mem_map_of_mem R)) @dM]
  ·by_cases I:b∈tabs.map (·.2)
   ·have W:=(if_pos I).symm.trans z;cases W;obtain ⟨q,R,rfl⟩:=mem_map.mp I;exact (S q R).2
   ·have W:=(if_neg I).symm.trans z;cases W
  ·by_cases I:b∈tabs.map (·.2)
   ·obtain ⟨q,R,rfl⟩:=mem_map.mp I;exact .inl ⟨q,R,rfl⟩
   ·have W:=(if_neg I).symm.trans z;cases W
 |none=>
  have na:a∉tabs.map (·.2):=λz=>by obtain ⟨q,R,e⟩:=mem_map.mp z;exact ta q R e
  rwa[ac (λb=>if b∈tabs.map (·.2) then some (.tbl #[]) else if b=a then some (.frz {cls:= .type "list",data:= .seq vs.toArray} (.lst @cl)) else none) (.inl (.inr ⟨{cls:= .type "list",data:= .seq vs.toArray},(if_neg na).trans (if_pos rfl)⟩)) @dM (λq R=>if_pos (mem_map_of_mem R)) @dM]
  ·by_cases I:b∈tabs.map (·.2)
   ·have W:=(if_pos I).symm.trans z;cases W;obtain ⟨q,R,rfl⟩:=mem_map.mp I;exact (S q R).2
   ·have W:=(if_neg I).symm.trans z;by_cases J:b=a
    ·have Y:=(if_pos J).symm.trans W;cases Y;subst J;exact ⟨ha,by rw [length_map];exact hl,vs,_,rv,ha⟩
    ·have Y:=(if_neg J).symm.trans W;cases Y
  ·by_cases I:b∈tabs.map (·.2)
   ·obtain ⟨q,R,rfl⟩:=mem_map.mp I;exact .inl ⟨q,R,rfl⟩
   ·have W:=(if_neg I).symm.trans z;by_cases J:b=a
    ·have Y:=(if_pos J).symm.trans W;cases Y;exact .inr ⟨J,hk,_,_,rfl⟩
    ·have Y:=(if_neg J).symm.trans W;cases Y
theorem EB {l:OpenLaw}{n k:Nat}{q:Program}{I:List Str}{XP:(Str->Option Value)->Heap->Prop}{YP:World->Heap->Prop}{d:DefRec}{K:Params->Frag}{CX:World->ml}{sp:World->Sp}{x:Str}{tabs:World->List (Addr×Addr)}
(hn:l.most=some n)(W:n<=sizeLine)(aa:d.params.defaults=[])(hr:bx k callerA)
(hY:∀(w:World) (h:Heap),YP w h->(K w.params).In h/\∀t∈tabs w,h.get? t.2=some (tabObj #[]))(am:∀w:World,noTabs @ca=true)(S:∀w:World,∀t∈tabs w,codeHdIn @ca t.1 t.2=true)
(F:∀(w:World) (mg:Str->Option Value) (fa:Addr) (h:Heap),(K w.params).In h->h.Ns mainGlobals mg->mg d.name=some (.ref fa)->
   ∃fd:FuncData,(∀(s:Shared) (u:Value),BindsTo s fd ⟨[u],[]⟩ [(x,u)])/\
    ∀base:Heap,(K w.params).In base->base.Ns mainGlobals mg->ij base mg->av l.prog w @ca mg base (CX w) k fa fd [x] (sp w))
(Z:∀(w:World) (H:Hp) (a:Addr) (ns:List Int),ns.length<=n->(∀i∈ns,Builtin.Int.intBits i<=2^20)->(∀t∈tabs w,H t.2=some (.tbl #[]))->aD @ca H a @cl->sp w [.ref a] H (λv _=>v= .bl true) λ_ _ _=>False)
(ap:∀(w:World) (H:Hp) (s:Shared) (e:Value) (s':Shared),CX w [] H s @eK e s'->False):
 WalkO q I XP YP l.row.toRowW d [] @de:=by
 rwa[xb hn aa λw s₀ s₁ mg mb fa o pm cd ad a vs ns G Y ho hd ac U R J j O hg=> ?_];obtain ⟨KX,hT⟩:=hY w _ Y;obtain ⟨fd,hb,hF⟩:=F w mg fa _ KX G.T.g U
 have an:ij s₁.heap mg:=by
  obtain ⟨bm,ob,h1,h2,h3,h4,h5,h6⟩:=G.T.bmain;rwa[⟨bm,ob,h1,h2,λz=> ?_,h3,h4,h5,h6⟩];obtain ⟨o',es,ep,e',d',_⟩:=G.T.g;rw [z,e'] at h3;cases h3;rw [d'] at h6;cases h6
 exact DH (tabs:=tabs w) (λt ht=>⟨codeHd_of_K KX (S w t ht),hT t ht⟩) (am w) an KX G.T.g G.T.b G.T.builtins G.T.nolimit hg R J (Nat.le_trans j W) hr hF hb (λH ak hS=>Z w H a ns j O ak hS) λH e s'=>ap w H s₁ e s'
def sL (c:Addr)(q:Str):HO:= .ext λh=>h.CodeRec (.ref c) q
def sG (a:Addr)(o:Obj):HO:= .ext λh=>h.get? a=some o
def kF (c:Addr)(v:V):HO:= .ext λh=>∃u,aA v u/\h.IsCell c @cA
section
variable {P:Program}{w:World}{H:Hp}{h:Heap}
theorem Ld {c:Addr}{q:Str}(e:h.CodeRec (.ref c) q):bp P w H h c (sL c q):=by
 obtain ⟨c0,R,U,Y,O,af,hd,W⟩:=id e;cases O
 exact ⟨e,⟨R,af⟩,λh1 h2 z k=>by
  obtain ⟨c1,Z,G,I,F,S,J,j⟩:=z;cases F
  exact ⟨_,Z,G,I,rfl,k _ S,J,j⟩⟩
theorem B6 {a:Addr}{o:Obj}(e:h.get? a=some o):bp P w H h a (sG a o):=⟨e,⟨o,e⟩,λh1 h2 z k=>k _ z⟩
theorem Cr {c:Addr}{v:V}{u:Value}(r:aA v u)(e:h.IsCell c @cA):bp P w H h c @gh:=by
 obtain ⟨o,U,I⟩:=id e
 exact ⟨⟨u,r,e⟩,⟨o,U⟩,λh1 h2 z k=>by
  obtain ⟨G,R,o',j,F⟩:=z
  exact ⟨G,R,o',k _ j,F⟩⟩
end
def cf (H:Hp)(P:Addr)(q:Str):Prop:=∃ps,H P=some (.tbl ps)/\TriplesOk ps.toList/\∀pos cv,codeAmong pos ps.toList=some cv->∃c',cv= .ref c'/\H c'=some @gv
def eJ (P:Addr)(H H':Hp):Prop:=∀b o,b≠P->H b=some o->H' b=some o
def aT (H H':Hp):Prop:=∀b o,(∀ps,o≠ .tbl ps)->H b=some o->H' b=some o
theorem aT.trans {H H1 H2:Hp}(a:aT H H1)(b:aT H1 H2):aT H H2:=λc o n e=>b c o n (a c o n e)
theorem ak.nt {H H':Hp}(s:ak H H'):aT H H':=λb o _ e=>s b o e
theorem eJ.nt {P:Addr}{H H':Hp}{ps:Array Value}(s:eJ P H H')(W:H P=some (.tbl ps)):aT H H':=λb o n e=>s b o (λz=>by rw [z,W] at e;cases e;exact n _ rfl) e
theorem cf.same {H H':Hp}{P:Addr}{q:Str}(t:cf H P q)(s:ak H H'):cf H' P q:=
 let ⟨ps,h1,h2,h3⟩:=t;⟨ps,s _ _ h1,h2,λpos F e=>let ⟨c',a,b⟩:=h3 pos F e;⟨c',a,s _ _ b⟩⟩
theorem cf.sameP {H H':Hp}{P F:Addr}{q:Str}{j:Array Value}(t:cf H P q)(s:eJ F H H')(J:H F=some (.tbl j))(I:P≠F):cf H' P q:=
 let ⟨ps,h1,h2,h3⟩:=t;⟨ps,s _ _ I h1,h2,λpos G e=>let ⟨c',a,b⟩:=h3 pos G e;⟨c',a,s _ _ (λz=>by rw [z,J] at b;cases b) b⟩⟩
theorem kL {a b:Int}{t u:Tok}{c:Value}:∀ {l:List Value},TriplesOk l->TriplesOk (l++[.int a t,.int b u,c])
 |[],_=>trivial
 | .int _ _:: .int _ _::_::r,h=>kL (l:=r) h
theorem sv {a b:Int}{t u:Tok}{c:Value}{pos:Pos}{F:Value}:∀ {l:List Value},TriplesOk l->codeAmong pos (l++[.int a t,.int b u,c])=some F->codeAmong pos l=some F\/F=c
 |[],_,h=>by
  simp only [nil_append,codeAmong] at h;split at h
  ·cases h;exact .inr rfl
  ·cases h
 | .int x _:: .int y _::z::r,ok,h=>by
   have h:(if x==pos.line&&y==pos.col then some z else codeAmong pos (r++[.int a t,.int b u,c]))=some F:=h;show (if x==pos.line&&y==pos.col then some z else codeAmong pos r)=some F\/_;by_cases j:(x==pos.line&&y==pos.col)=true
   ·rw [if_pos j] at h ⊢;exact .inl h
   ·rw [if_neg j] at h ⊢;exact sv (l:=r) ok h
def S5 (P:Addr)(q:Str)(mk:Addr->Value->Obj):TE:=λσ H Q=>cf H P q/\∀f c' ctv H',eJ P H H'->H f=none->H' f=some (sG f (mk c' ctv))->H' c'=some @gv->cf H' P q->Q (.ref f) H'
theorem AI {X:Cx}{c P:Addr}{j:Arguments}{U:Expr}{scope:Scope}{clos:List (Str×Addr)}{pos:Pos}(G:X.env.code= .ref c)(C:CodeHd X.base c P)(hB:ij X.base X.mg)(ag:defaultsOf j X.env=([],[]))(ad:closureFor scope X.env=pure clos):
 PE X (.Lambda j U scope pos) (S5 P (X.env.qual++"<lambda>") λc' ctv=>kla_obj "<lambda>" (X.env.qual++"<lambda>") j U scope clos ((X.mg "__name__").getD .none) c' ctv):=by
 intro pins s σ H Q I ⟨T,h⟩;rwa[kla_eval ag ?_];obtain ⟨ps,W,ht,hc⟩:=id T;have ae:s.heap.get? P=some (tabObj ps):=I.hok P _ W;have C':=C.keeps I.bk;have hg:s.heap.Ns mainGlobals X.mg:=I.ok.mod.glob.keeps I.bk
 have nb:∀ {b:Addr} {o:Obj},X.base.get? b=some o->b≠P:=λ{b o} e z=>by have:=(I.bs b o e).2;rw [z,W] at this;cases this
 have ap:mainGlobals≠P:=by
  obtain ⟨o,es,ep,e,_⟩:=I.ok.mod.glob;exact nb e
 have hb:s.heap.BuiltinsAt X.mg P:=by
  obtain ⟨bm,o,h1,h2,h3,h4,h5,h6,h7⟩:=hB;exact ⟨bm,o,h1,h2,h3,nb h4,I.bk _ _ h4,h5,h6,h7⟩
 cases hm:codeAmong pos ps.toList with
 |none=>
  rwa[kla_makeFunction ad I.ok.glob hg G C' ae ht hm ap hb λc' ctv h' tk hx O ah ac Z=> ?_];generalize Y:kla_obj "<lambda>" (X.env.qual++"<lambda>") j U scope clos ((X.mg "__name__").getD .none) c' ctv=F;generalize aa:ps++ #[rawInt pos.line,rawInt pos.col,.ref c']=S at Z;have J:s.heap.objs.size<=h'.objs.size:=Nat.le_trans O (Nat.le_of_lt ah);have lt:∀ {b:Addr} {u:HO},H b=some u->b<s.heap.objs.size:=λe=>I.hok.lt e;have ao:c'≠P:=Nat.ne_of_gt (Nat.lt_of_lt_of_le (lt W) O);have an:h'.objs.size≠P:=Nat.ne_of_gt (Nat.lt_of_lt_of_le (lt W) J);have ai:h'.objs.size≠c':=Nat.ne_of_gt ah;have aq:H c'=none:=I.hok.fresh O;have R:H h'.objs.size=none:=I.hok.fresh J
  let H':Hp:=upd (upd (upd H P (.tbl S)) c' (sL c' (X.env.qual++"<lambda>"))) h'.objs.size (sG h'.objs.size F)
  have ne:∀ {b:Addr} {u:HO},b≠P->H b=some u->H' b=some u:=λ{b u} nP e=>by
   have l:=lt e;show upd @bO h'.objs.size _ b=_;rw [aj (Nat.ne_of_lt (Nat.lt_of_lt_of_le l J)),aj (Nat.ne_of_lt (Nat.lt_of_lt_of_le l O)),aj nP];exact e
  have eP:H' P=some (.tbl S):=by
   show upd @bO h'.objs.size _ P=_;rw [aj an.symm,aj ao.symm];exact af
  have ec:H' c'=some (sL c' (X.env.qual++"<lambda>")):=by
   show upd @bO h'.objs.size _ c'=_;rw [aj ai.symm];exact af
  have ef:H' h'.objs.size=some (sG h'.objs.size F):=af;have kp:∀b o,b≠P->s.heap.get? b=some o->(h'.push F).get? b=some o:=λb o nP e=>Heap.get?_push_of_some _ (hx b o nP e);have tP:(h'.push F).get? P=some (tabObj S):=Heap.get?_push_of_some _ Z
  have nP:∀ {b:Addr},H b=none->b≠P:=λ{b} n z=>by rw [z,W] at n;cases n
  have un:Un X.fs [] H H' s.heap (h'.push F):=by
   rwa[⟨λb o e n _ _=>kp b o (nP n) e,λb o e n _ _=>⟨o.slots,kp b o (nP n) e⟩,λb o e n _=> ?_,λb o e _=> ?_,λb xs e=>ne (λz=>by rw [z,W] at e;cases e) e,λb o u e=>ne (λz=>by rw [z,W] at e;cases e) e,λb qs e=> ?_⟩]
   ·have l:=Heap.lt_size e;show upd @bO h'.objs.size _ b=_;rw [aj (Nat.ne_of_lt (Nat.lt_of_lt_of_le l J)),aj (Nat.ne_of_lt (Nat.lt_of_lt_of_le l O)),aj (nP n)];exact n
   ·by_cases z:b=P
    ·exact ⟨_,by rw [z];exact tP⟩
    ·exact ⟨o,kp b o z e⟩
   ·by_cases z:b=P
    ·rw [z,W] at e;cases e;exact ⟨#[rawInt pos.line,rawInt pos.col,.ref c'],by rw [z,eP,<-aa]⟩
    ·exact ⟨#[],by rw [ne z e];simp⟩
  have al:fh X.prog X.w H' (h'.push F):=by
   intro b u e;by_cases z1:b=h'.objs.size
   ·rw [z1,ef] at e;cases e;rw [z1];exact B6 (Heap.get?_push_size _ (by rw [<-Y];rfl))
   by_cases z2:b=c'
   ·rw [z2,ec] at e;cases e;rw [z2];exact Ld (ac.keeps λb o e=>Heap.get?_push_of_some _ e)
   by_cases z3:b=P
   ·rw [z3,eP] at e;cases e;rw [z3];exact tP
   ·have e':H b=some u:=by
     have e:upd @bO h'.objs.size _ b=some u:=e;rw [aj z1,aj z2,aj z3] at e;exact e
    rwa[(I.hok b u e').stay (λd v hd r=> ?_) (λd r=>ne (λz=>by rw [z,W] at r;cases r) r) λd xs r=>ne (λz=>by rw [z,W] at r;cases r) r];rwa[kp d v @B r]
    rcases hd with hd|hd
    ·exact z3 (hd.symm.trans z)
    ·rw [z,W] at hd;cases hd
  rwa[⟨.ref h'.objs.size,H',I.un (t':=tk) un al,rfl,h _ c' ctv H' (λb o n e=>ne n e) R (by rw [<-Y] at ef;exact ef) ec ⟨S,eP,?_,λpos' cv e=> ?_⟩⟩]
  ·rw [<-aa,Array.toList_append];exact kL ht
  ·rw [<-aa,Array.toList_append] at e
   rcases sv ht e with z|z
   ·obtain ⟨d,e1,e2⟩:=hc pos' cv z;exact ⟨d,e1,ne (λy=>by rw [y,W] at e2;cases e2) e2⟩
   ·exact ⟨c',z,ec⟩
 |some cv=>
  obtain ⟨c',rfl,am⟩:=hc pos cv hm;rwa[kla_makeFunctionHit ad I.ok.glob hg G C' ae ht hm hb λctv h' tk hk J=> ?_];have k2:∀b o,s.heap.get? b=some o->(h'.push (kla_obj "<lambda>" (X.env.qual++"<lambda>") j U scope clos ((X.mg "__name__").getD .none) c' ctv)).get? b=some o:=λb o e=>Heap.get?_push_of_some _ (hk b o e);have R:H h'.objs.size=none:=I.hok.fresh J;have sm:ak H (upd H h'.objs.size (sG h'.objs.size (kla_obj "<lambda>" (X.env.qual++"<lambda>") j U scope clos ((X.mg "__name__").getD .none) c' ctv))):= .upd R;exact ⟨.ref h'.objs.size,_,I.laid (t':=tk) k2 J (B6 (Heap.get?_push_size _ rfl)),rfl,h _ c' ctv _ (λb o _ e=>sm b o e) R af (sm _ _ am) (T.same sm)⟩
structure jd (ps fs:List Str)(sc:Scope):Prop where
 kind:sc.kind= .function
 co:sc.isCoroutine=false
 gen:sc.isGenerator=false
 nd:(ps++fs).Nodup
 par:∀x∈ps,sc.names.lookup x=some .local
 fre:∀x∈fs,sc.names.lookup x=some .free
 nocell:∀x∈sc.names,x.2≠ .cell
 only:∀y∈sc.names,y.2= .free->y.1∈fs
noncomputable def Lb (P:Program)(w:World)(K:Frag)(mg:Str->Option Value)(base:Heap)(N:List Str)(qual:Str)(scope:Scope)(f:Addr)(cd:Value)(cl:List (Str×Addr))(A:Around)(outer:List Env)(s:Shared)(H:Hp):Cx where
 prog:=P
 w:=w
 K:=K
 mg:=mg
 base:=base
 A:=A.deeper (envX qual scope s.heap.objs.size f cd cl)
 N:=N
 s₀:=s
 H₀:=H
 env:=envX qual scope s.heap.objs.size f cd cl
 outer:=outer
 stack:=envX qual scope s.heap.objs.size f cd cl::outer
 ex:=[]
 calm:=true
 fn:=λ_=>false
 pn:=[]
 xe:=λ_ _=>False
theorem A3 {ps:List Str}{us:List Value}{i:Nat}{x:Str}{u:Value}(O:ps.Nodup)(h1:ps[i]? =some x)(h2:us[i]? =some u):(ps.zip us).reverse.lookup x=some u:=by
 have J:(ps.zip us)[i]? =some (x,u):=by rw [getElem?_zip_eq_some];exact ⟨h1,h2⟩
 have G:(x,u)∈(ps.zip us).reverse:=mem_reverse.mpr (mem_of_getElem? J)
 have z:∀v,(x,v)∈(ps.zip us).reverse->v=u:=λv Y=>by
  obtain ⟨j,Z⟩:=mem_iff_getElem?.mp (mem_reverse.mp Y);obtain ⟨I,F⟩:=getElem?_zip_eq_some.mp Z;have:j=i:=lG O I h1;subst this;rw [h2] at F;exact (Option.some.inj F).symm
 cases e:(ps.zip us).reverse.lookup x with
 |none=>
  have:=lookup_eq_none_iff.mp e (x,u) G;simp at this
 |some v=>rw [z v @dN]
theorem KP {P:Program}{w:World}{K:Frag}{mg:Str->Option Value}{base:Heap}{k:Nat}{f c':Addr}{name qual:Str}{F:Arguments}{U:Expr}{scope:Scope}{cl:List (Str×Addr)}{pm ctv:Value}{ps fs:List Str}{A:Around}{outer:List Env}{s:Shared}{H:Hp}{us:List Value}{vs fvs:List V}{Q:VK}{E:XK}
(S:jd ps fs scope)(hf:s.heap.get? f=some @bf)(ai:s.heap.CodeRec (.ref c') qual)(hr:bx (k+1) A)(O:gS P w K mg base A outer s H)
(ad:bindArgs @bB ⟨us,[]⟩=pure @cG)(r:aJ vs us)(hl:vs.length=ps.length)(al:fvs.length=fs.length)
(j:∀(i:Nat) x v,fs[i]? =some x->fvs[i]? =some v->∃c u,cl.lookup x=some c/\aA v u/\s.heap.IsCell c @cA)(ag:∀x c,cl.lookup x=some c->x∈fs)
(af:∀x y c,cl.lookup x=some c->cl.lookup y=some c->x=y)(ac:∀x c,cl.lookup x=some c->H c=none)
(aa:bx k (A.deeper @bA)->∃t,PE (Lb P w K mg base (ps++fs) qual scope f (.ref c') cl A outer s H) U t/\t ((vs++fvs).map some) H Q):
 codeAny @X A (.call (.ref f) ⟨us,[]⟩) @cm s:=by
 have ul:us.length=ps.length:=by rw [<-r.length,hl]
 rwa[kla_callFunE hr.depth hf rfl S.co S.gen rfl ai ?_];rw [ad];have ak:s.heap.NoLimit:=O.mod.nolimit.keeps λb o e=>(O.bs b o e).1;rwa[wpAny_pure (wpAny_newFunctionEnv S.nocell (λy W=>S.par _ (of_mem_zip W).1) (λh₁ aj ae=>⟨ak.fresh _ ae,?_⟩) S.kind)];show codeAny _ _ (.expr U @bA) _ _;have hk:∀b o,s.heap.get? b=some o->h₁.get? b=some o:=λb o e=>ae.extBut b o (Nat.ne_of_lt @U) (Heap.get?_push_of_some _ e);obtain ⟨t,ht,hq⟩:=aa @dI
 have G:∀x c,cl.lookup x=some c->∃u,s.heap.IsCell c @cA:=λx c e=>by
  obtain ⟨i,hi⟩:=mem_iff_getElem?.mp (ag x c e);have ah:i<fs.length:=(List.getElem?_eq_some_iff.mp hi).1;obtain ⟨c2,u,e2,_,hc⟩:=j i x _ hi (getElem?_eq_getElem @c);rw [e] at e2;cases e2;exact ⟨u,hc⟩
 have R:∀ {c:Addr} {v:Option Value},s.heap.IsCell c v->h₁.IsCell c v:=λ{c v} ⟨o,ho,hd⟩=>⟨o,hk _ _ ho,hd⟩;have Z:∀x,scope.names.lookup x=some .free->x∈fs:=λx e=>S.only _ @dN rfl
 have I:ar (Lb P w K mg base (ps++fs) qual scope f (.ref c') cl A outer s H) [] ((vs++fvs).map some) H {s with heap:=h₁,toks:=s.toks+(ps.zip us).length}:=by
  have Y:∀b:Addr,b∉(Lb P w K mg base (ps++fs) qual scope f (.ref c') cl A outer s H).ex:=λb z=>absurd (show b∈([]:List Addr) from z) @e
  refine ⟨⟨O.mod,S.kind,rfl,rfl,Nat.le_refl _,af,λy W=> ?_,λy c z _=>(nomatch (show false=true from z)),λ_=>hr.hd,Around.frames_deeper O.frames,.inr ⟨rfl,rfl⟩,λb z=>absurd z (Y b),O.bs,O.bsz,λb _ _=>Y b,λb z=>absurd z (Y b),O.funs,O.frf⟩,
   rfl,O.bare,Un.kept hk,⟨_,aj,λi y v h1 h2 h3=> ?_⟩,λy c h=> ?_,O.hok.fresh @f,ac,λp hp=>absurd (show p∈([]:List (Addr×Obj)) from hp) @e,O.hok.kept hk,?_⟩
  ·have W:scope.names.lookup y=some .cell\/scope.names.lookup y=some .free:=W
   rcases W with W|W
   ·exact absurd rfl (S.nocell _ (PySem.mem_of_lookup W))
   ·obtain ⟨i,hi⟩:=mem_iff_getElem?.mp (Z y W);have ah:i<fs.length:=(List.getElem?_eq_some_iff.mp hi).1;obtain ⟨c2,u,e2,_⟩:=j i y _ hi (getElem?_eq_getElem @c);exact ⟨c2,e2⟩
  ·have h1:(ps++fs)[i]? =some y:=h1;rw [getElem?_map] at h2;obtain ⟨v',hv,e⟩:=Option.map_eq_some_iff.mp h2;cases e;by_cases hi:i<ps.length
   ·rw [getElem?_append_left hi] at h1;rw [getElem?_append_left @c] at hv;obtain ⟨u,hu,rv⟩:=r.get hv;rwa[⟨u,rv,.inl ⟨S.par y (mem_of_getElem? h1),?_⟩⟩];exact A3 (nodup_append.mp S.nd).1 h1 hu
   ·rw [getElem?_append_right @c] at h1;rw [getElem?_append_right @c,hl] at hv;obtain ⟨c,u,e2,rv,hc⟩:=j _ y _ h1 hv;exact ⟨u,rv,.inr ⟨.inr (S.fre y (mem_of_getElem? h1)),c,e2,R hc⟩⟩
  ·obtain ⟨u,hc⟩:=G y c h;exact ⟨_,R hc⟩
  ·show _=(ps++fs).length;rw [length_map,length_append,length_append];lia
 rwa[kla_codeExpr (wpAny_mono (ht [] _ _ H Q I hq) (λu s' hs=> ?_) λe s' hs=>False.elim hs)];obtain ⟨v,H',J,rv,q⟩:=hs;exact ⟨v,H',J.os,J.bare,J.base,J.hok,rv,q⟩
def hid (cs:List Addr)(H:Hp):Hp:=λb=>if b∈cs then none else H b
def unhid (cs:List Addr)(H H2:Hp):Hp:=λb=>if b∈cs then H b else H2 b
theorem gS.hid {P:Program}{w:World}{K:Frag}{mg:Str->Option Value}{base:Heap}{A:Around}{outer:List Env}{s:Shared}{H:Hp}{cs:List Addr}(e:gS P w K mg base A outer s H)(J:∀c∈cs,∃φ,H c=some (.ext φ)):gS P w K mg base A outer s @fX:=by
 have j:∀ {b:Addr},H b=none->L2.hid cs H b=none:=λ{b} n=>by unfold L2.hid;split<;>first|rfl|exact n
 have F:∀ {b:Addr} {o:HO},H b=some o->(∀φ,o≠ .ext φ)->L2.hid cs H b=some o:=λ{b o} q n=>by
  unfold L2.hid;rw [if_neg λz=>by obtain ⟨φ,e⟩:=J b z;rw [q] at e;exact n φ (Option.some.inj e)];exact q
 rwa[⟨e.frames,e.mod,λb o z=>⟨(e.bs b o z).1,j (e.bs b o z).2⟩,e.bsz,e.funs,λb G=>j (e.frf b G),λb o z=> ?_,e.bare⟩]
 have W:H b=some o:=by
  unfold L2.hid at z;split at z
  ·cases z
  ·exact z
 exact (e.hok b o W).stay @cP (λd q=>F q λφ z=>by cases z) λd xs q=>F q λφ z=>by cases z
theorem CE.unhid {P:Program}{w:World}{K:Frag}{mg:Str->Option Value}{base:Heap}{A:Around}{outer:List Env}{s s':Shared}{H:Hp}{cs:List Addr}{Q:VK}{u:Value}(e:gS P w K mg base A outer s H)(W:∀c∈cs,∃φ,H c=some (.ext φ))
(h:CE outer P w @fX s (λv H2=>(∀c∈cs,H2 c=none)->Q v @df) u s'):CE outer P w H s Q u s':=by
 obtain ⟨v,H2,os,Y,J,ag,r,q⟩:=h
 have j:∀ {b:Addr},H b=none->L2.hid cs H b=none:=λ{b} n=>by unfold L2.hid;split<;>first|rfl|exact n
 have G:∀ {b:Addr} {o:HO},H b=some o->(∀φ,o≠ .ext φ)->b∉cs/\L2.hid cs H b=some o:=λ{b o} q n=>by
  have nb:b∉cs:=λz=>by obtain ⟨φ,e⟩:=W b z;rw [q] at e;exact n φ (Option.some.inj e)
  exact ⟨nb,by unfold L2.hid;rw [if_neg nb];exact q⟩
 have O:∀ {c:Addr},c∈cs->L2.hid cs H c=none:=λ{c} z=>by unfold L2.hid;rw [if_pos z]
 have aa:∀ {c:Addr},c∈cs->L2.unhid cs H H2 c=H c:=λ{c} z=>by unfold L2.unhid;rw [if_pos z]
 have F:∀ {b:Addr},b∉cs->L2.unhid cs H H2 b=H2 b:=λ{b} z=>by unfold L2.unhid;rw [if_neg z]
 have I:∀ {c:Addr},c∈cs->H2 c=none:=λ{c} z=>by
  obtain ⟨φ,S⟩:=W c z;obtain ⟨_,⟨o,Z⟩,_⟩:=e.hok c _ S;exact J.free c o Z (O z) @e
 have nC:∀ {b:Addr},H b=none->b∉cs:=λ{b} n z=>by obtain ⟨φ,S⟩:=W b z;rw [n] at S;cases S
 rwa[⟨v,L2.unhid cs H H2,os,Y,⟨λb o q n R U=>J.keep b o q (j n) R U,λb o q n R U=>J.slot b o q (j n) R U,λb o q n U=>by rw [F (nC n)];exact J.free b o q (j n) U,λb o q U=>J.there b o q U,λb xs q=> ?_,λb o xs q=> ?_,λb xs q=> ?_⟩,λb o z=> ?_,r,q λc W=>I W⟩]
 ·obtain ⟨n,z⟩:=G q λφ z=>by cases z
  rw [F n];exact J.tups b xs z
 ·obtain ⟨n,z⟩:=G q λφ z=>by cases z
  rw [F n];exact J.frzs b o xs z
 ·obtain ⟨n,z⟩:=G q λφ z=>by cases z
  rw [F n];exact J.tbls b xs z
 ·by_cases R:b∈cs
  ·rw [aa R] at z;obtain ⟨φ,S⟩:=W b R;rw [z] at S;cases S;obtain ⟨h1,⟨o1,Z⟩,st⟩:=e.hok b _ z
   have nf:b∉wP outer:=λy=>by have:=e.frf b y;rw [z] at this;cases this
   have k1:=J.keep b o1 Z (O R) nf @e;exact ⟨st _ _ h1 (λo q=>by rw [Z] at q;cases q;exact k1),⟨o1,k1⟩,st⟩
  ·rw [F R] at z;rwa[(ag b o z).stay @cP (λd y=> ?_) λd xs y=> ?_]
   ·rw [F λy2=>by rw [I y2] at y;cases y];exact y
   ·rw [F λy2=>by rw [I y2] at y;cases y];exact y
structure ip (P:Program)(w:World)(K:Frag)(mg:Str->Option Value)(base:Heap)(n:Nat)(f:Addr)(sp:Sp):Prop where
 run:∀(A:Around) (outer:List Env) (s:Shared) (H:Hp) (us:List Value) (vs:List V) (Q:VK) (E:XK),bx n A->gS P w K mg base A outer s H->aJ vs us->sp vs H Q E->codeAny @X A (.call (.ref f) ⟨us,[]⟩) @cm s
 keep:∀(vs:List V) (H:Hp) (Q:VK) (E:XK) (h:Heap),sp vs H Q E->fh P w H h->K.In h->∃k,(k=Keeper.frame\/k=Keeper.machine\/k=Keeper.boundFrame)/\Looks @X h @eo k
theorem TV.cal {P:Program}{w:World}{K:Frag}{mg:Str->Option Value}{base:Heap}{n:Nat}{f:Addr}{ps:List Str}{sp:Sp}(F:TV P w K mg base n f ps sp):ip P w K mg base n f sp:=by
 obtain ⟨fd,F,b,k⟩:=F;rwa[⟨λA outer s H j I Q E W G r h=> ?_,λI H Q E h _ _ z=>keeps_K k h z⟩];have z:K.In s.heap:=G.mod.kin.keeps λb o e=>(G.bs b o e).1
 have U:aJ I (j++[]):=by rw [append_nil];exact r
 have R:(j++[]).length=ps.length:=by rw [<-U.length];exact F.len _ _ _ _ h
 exact F.run A outer s H ⟨j,[]⟩ (j++[]) I Q E W G (b s j z R) U h
section
variable {X:Cx}{x:Str}{p pos:Pos}{e:Expr}{es:List Expr}{t:TA}{n m:Nat}
def Ng (P:Program)(w:World)(K:Frag)(mg:Str->Option Value)(base:Heap)(m:Nat)(i:Nat)(t:TA):TE:=λσ H Q=>∃f n sp,σ[i]? =some @Y/\n<=m/\ip P w K mg base n f sp/\t σ H λvs H1=>sp vs H1 Q E0
theorem ym (i:Nat)(hr:bx m X.A)(hN:X.N[i]? =some x)(hv:RU X.env.scope x)(ha:PA X (e::es) t)(W:(x==("__debug__":Str))=false:=by decide)(G:(x==("__classdict__":Str))=false:=by decide)
(hp:aI (e::es)=true:=by rfl):PE X (.Call (.Name x p) (e::es) [] pos) (Ng X.prog X.w X.K X.mg X.base m i t):=by
 have h':(bw e&&aI es)=true:=hp;rw [Bool.and_eq_true] at h';intro pins s σ H Q I h;obtain ⟨f,n,sp,Z,hn,C,h⟩:=h;rwa[wpAny_Call_Name_kw (bv (Ga (X:=X) hN hv W G pins s σ H (λv H1=>v= .ref f/\H1=H) I ⟨.ref f,Z,rfl,rfl⟩) λu Y ⟨v,H0,I0,U,ev,eH⟩=> ?_)];subst ev;subst eH;have U:u=Value.ref f:=U;subst U;have he:=aU (env:=X.env) (es:=es) h'.1;have S:(backTo pos @J).any (·.1)=false:=bJ h'.2
 have j:wpAny @d X.A (spliced (backTo pos (starEach (e::es) X.env))) (λJ O=>(∃k,(k=Keeper.frame\/k=Keeper.machine\/k=Keeper.boundFrame)/\Looks @d O.heap @eo k)/\wpAny @d X.A (call (.ref f) ([]++J)) @w X.xe O) X.xe Y:=by
  rwa[bv (ha pos pins Y σ H0 _ I0 h) λJ O ⟨vs,H1,F,r,q⟩=>⟨C.keep _ _ _ _ _ q F.hok F.kIn,?_⟩];rwa[wpAny_call (codeAny_mono (C.run X.A X.stack O H1 J vs Q E0 (hr.mono hn) F.env0 r q) λr s' R=> ?_)]
  cases r with
  |error e=>exact False.elim R
  |ok fl=>
   cases fl with
   |ret u=>exact F.after R
   |next=>exact False.elim R
   |brk=>exact False.elim R
   |cont=>exact False.elim R
 rw [he] at j ⊢;exact callWith_of (P:=λh=>∃k,(k=Keeper.frame\/k=Keeper.machine\/k=Keeper.boundFrame)/\Looks @d h @eo k) (by show ((false||(backTo pos @J).any (·.1))||false)=false;rw [S];rfl) (λh z=>z) (evalArgs_plain j)
end
theorem nv {cs:List Addr}{H:Hp}(J:∀c∈cs,∃φ,H c=some (.ext φ)){b:Addr}{o:HO}(n:∀φ,o≠ .ext φ)(e:H b=some o):hid cs H b=some o:=by
 unfold hid;rw [if_neg λz=>by obtain ⟨φ,S⟩:=J b z;rw [e] at S;exact n φ (Option.some.inj S)];exact e
theorem zP {cs:List Addr}{H H2:Hp}(s:ak @fX H2):ak H @df:=λb o e=>by
 unfold unhid;by_cases z:b∈cs
 ·rw [if_pos z];exact e
 ·rw [if_neg z];rwa[s b o ?_];unfold hid;rw [if_neg z];exact e
def LQ (P:Program)(w:World)(f c':Addr)(obj:Obj)(q:Str)(cl:List (Str×Addr))(fs:List Str)(fvs:List V)(m:Nat)(sp:List V->Hp->VK->Prop):Sp:=λvs H Q _=>H f=some (sG f obj)/\H c'=some @gv/\(∀(i:Nat) x v,fs[i]? =some x->fvs[i]? =some v->∃c,cl.lookup x=some c/\H c=some @gh)/\vs.length=m/\sp vs H Q
theorem av.calm {P:Program}{w:World}{K:Frag}{mg:Str->Option Value}{base:Heap}{k:Nat}{f:Addr}{fd:FuncData}{ps:List Str}{sp:Sp}(F:av P w K mg base @bU k f fd ps sp):av P w K mg base bb k f fd ps (λvs H Q _=>sp vs H Q E0):=by
 rwa[⟨λvs H Q E h=>F.len _ _ _ _ h,λA outer s H j I vs Q E W G O r h=>codeAny_mono (F.run A outer s H j I vs Q E0 W G O r h) λS s' R=> ?_⟩]
 cases S with
 |ok fl=>cases fl<;>exact R
 |error e=>obtain ⟨a,T,J,dd,H',_,_,_,_,_,_,_,_,_,_,z⟩:=R;exact z.elim
theorem uk.calm {P:Program}{w:World}{K:Frag}{mg:Str->Option Value}{base:Heap}{n:Nat}{x:Str}{ps:List Str}{sp:Sp}(c:uk P w K mg base n x ps sp):bf P w K mg base n x ps (λvs H Q _=>sp vs H Q E0):=by
 obtain ⟨f,fd,F,b,k,j⟩:=c.ex;exact ⟨f,fd,F.calm,b,k,j⟩
section
variable {X:Cx}{pins:List (Addr×Obj)}{σ:St}{H:Hp}{s:Shared}{h':Heap}
theorem ar.sub {j:List (Addr×Obj)}(I:ar X pins σ H s)(h:∀p∈j,p∈pins):ar X j σ H s:=I.pins_of λp G=>I.pin p (mem_append_right _ (h p G))
theorem ar.repin {t':Nat}{a:Addr}{o o':Obj}(I:ar X ((a,o)::pins) σ H s)(J:X.s₀.heap.objs.size<=a)(R:∀p∈X.pn++pins,p.1≠a)(k:∀b u,b≠a->s.heap.get? b=some u->h'.get? b=some u)(U:h'.get? a=some o')(W:∀v,o'.data≠ .cell v):
 ar X ((a,o')::pins) σ H {s with heap:=h',toks:=t'}:=by
 obtain ⟨S,p2,j,Y,O⟩:=I.pin (a,o) @t;have Z:ar X pins σ H s:=I.sub λp G=> .tail _ G
 have F:ar X pins σ H {s with heap:=h',toks:=t'}:=Z.turned (it:=a) k p2 j (.inr J) (λx c e z=>by
  obtain ⟨v,oc,h1,h2⟩:=I.cell x c e;rw [z] at h1;have S:s.heap.get? a=some o:=S;rw [S] at h1;cases h1
  exact O v h2) R
 rwa[F.pins_of λp G=> ?_]
 rcases mem_cons.mp G with rfl|G
 ·exact ⟨U,p2,j,Y,W⟩
 ·exact F.pin p @bS
theorem ar.pinNew {t':Nat}{a:Addr}{o:Obj}(I:ar X pins σ H s)(G:s.heap.objs.size<=a)(k:∀b u,s.heap.get? b=some u->h'.get? b=some u)(U:h'.get? a=some o)(j:∀v,o.data≠ .cell v):ar X ((a,o)::pins) σ H {s with heap:=h',toks:=t'}:=by
 rwa[(I.kept (t':=t') k).pins_of λp R=> ?_]
 rcases mem_cons.mp R with rfl|R
 ·exact ⟨U,I.hok.fresh G,Nat.ne_of_gt (Nat.lt_of_lt_of_le I.lt G),I.nofs G,j⟩
 ·exact (I.kept (t':=t') k).pin p (mem_append_right _ R)
end
def IC (X:Cx)(σ:St)(f:Addr)(xs:List V)(J:Hp->Prop)(kf:Nat->Int):Prop:=
 ∀(pins:List (Addr×Obj)) (s:Shared) (H:Hp) (i:Nat) (v:V) (u:Value),ar X pins σ H s->J H->xs[i]? =some v->aA v u->
  wpAny @d X.A.in1 @ek (λr s'=>∃H',ar X pins σ H' s'/\aA (.int (kf i)) r/\J H') @bn s
def Pq (xs:List V)(kf:Nat->Int)(i:Nat):Prop:=∀j,j<xs.length->kf i<=kf j/\(j<i->kf i<kf j)
theorem jh {X:Cx}{pins:List (Addr×Obj)}{σ:St}{H:Hp}{s:Shared}{l:Addr}{xs:List V}(I:ar X pins σ H s)(e:H l=some (.lst xs)):∃us:List Value,aJ xs us/\s.heap.IsList l us.toArray:=by
 obtain ⟨_,us,n,r,h1⟩:=(show bp X.prog X.w H s.heap l (.lst xs) from I.hok l _ e);exact ⟨us,r,_,h1,rfl,n,rfl⟩
theorem KC {X:Cx}{pins:List (Addr×Obj)}{σ:St}{l S It f:Addr}{xs:List V}{dv:Value}{R:Result->Shared->Prop}(O:Nat->Int)(J:Hp->Prop)(hh:X.A.handled=none)(ac:∀H,J H->H l=some (.lst xs))
(aG:X.s₀.heap.objs.size<=It)(aE:X.s₀.heap.objs.size<=S)(ai:∀p∈X.pn++pins,p.1≠It)(an:∀p∈X.pn++pins,p.1≠S)(ag:S≠It)(ap:IC X σ f xs J O)
(hR:∀i v u s' H,xs[i]? =some v->aA v u->Pq xs O i->J H->ar X pins σ H s'->R (.ok (.ret u)) s'):
 ∀(r j i:Nat) (s:Shared) (H:Hp) (v:V) (vb:Value) (tb:Tok) (c:Nat) (oI:Obj),xs.length - (j+1)=r->j+1<=xs.length->
  ar X ((S,seqObj "list" #[vb,.int (O i) tb] c)::(It,oI)::pins) σ H s->J H->s.heap.IsListIter It l (j+1)->xs[i]? =some v->aA v vb->i<=j->(∀j',j'<=j->O i<=O j'/\(j'<i->O i<O j'))->
  codeAny @d X.A (.builtin "min.loop" ⟨[.ref It,.ref f,.ref S],[("default",dv)]⟩) R s:=by
 have aa:(toString "min"++toString ".loop":String)="min.loop":=by decide
 have aD:∀(o:Obj),∀p∈X.pn++(S,o)::pins,p.1≠It:=λo p G=>by
  rcases mem_append.mp G with G|G
  ·exact ai p @bY
  ·rcases mem_cons.mp G with rfl|G
   ·exact ag
   ·exact ai p @bS
 have aJ:∀(o:Obj),∀p∈X.pn++(It,o)::pins,p.1≠S:=λo p G=>by
  rcases mem_append.mp G with G|G
  ·exact an p @bY
  ·rcases mem_cons.mp G with rfl|G
   ·exact ag.symm
   ·exact an p @bS
 have ah:∀ {a b:Addr×Obj},∀p∈a::b::pins,p∈b::a::pins:=λ{a b} p G=>by
  rcases mem_cons.mp G with rfl|G
  ·exact .tail _ (.head _)
  ·rcases mem_cons.mp G with rfl|G
   ·exact .head _
   ·exact .tail _ (.tail _ G)
 intro r
 induction r with
 |zero=>
  intro j i s H v vb tb c oI hr hj I hJ al hv rv aM U;obtain ⟨us,ae,hl⟩:=jh I (ac H hJ)
  have ao:us.toArray.size=xs.length:=by rw [size_toArray,ae.length]
  have nS:=I.pin (S,_) @t;have nI:=I.pin (It,oI) @V
  have am:l≠It:=λz=>by have:=nI.2.1;rw [<-z,ac H hJ] at this;cases this
  have W:=Walks.list (prog:=X.prog) (w:=X.w) (A:=X.A.in1) hh It l am us.toArray;rwa[codeAny_builtin PySem.F.entry_min_loop ?_];rw [Around.under_plainId PySem.F.plain_min_loop _];show wpAny _ X.A.in1 (seqItems? (.ref S)>>=_) _ _ _;rwa[wpAny_bind @cQ];show wpAny _ X.A.in1 (tryCatch (pyNext (.ref It)) _>>=_) _ _ _;rwa[wpAny_bind (wpAny_tryCatch (W.done _ _ _ ⟨by rw [ao,show xs.length=j+1 by lia];exact al,hl⟩ λh1 ad Y=> ?_))];have Y:∀b u,b≠It->s.heap.get? b=some u->h1.get? b=some u:=λb u n e=>Y b u (by simpa using n) e;have I0:ar X pins σ H s:=I.sub λp G=> .tail _ (.tail _ G)
  have av:∀ {a:Addr} {o:Obj},s.heap.get? a=some o->(∀v,o.data≠ .cell v)->∀x c,X.env.cells.lookup x=some c->c≠a:=λ{a o} ho hd x c e z=>by
   obtain ⟨v,oc,h1,h2⟩:=I.cell x c e;rw [z,ho] at h1;cases h1;exact hd v h2
  have aL:=Y S _ ag nS.1;have s1:=Heap.SameBut.update h1 S (Obj.mapSeq λ_=>(#[]:Array Value));have I1:ar X pins σ H {s with heap:=h1,toks:=ad}:=I0.turned (it:=It) Y nI.2.1 nI.2.2.1 (.inr aG) (av nI.1 nI.2.2.2.2) ai;have ax:∀x c,X.env.cells.lookup x=some c->c≠S:=av nS.1 nS.2.2.2.2;show wpAny _ X.A.in1 (updateSeq S (λ_=> #[])>>=_) _ _ _;rwa[wpAny_bind ?_];rwa[wpAny_updateSeq aL rfl (wpAny_bind (wpAny_letGo @bx))];rwa[hR i v vb _ H hv rv (λj' aH=>U j' @c) hJ ?_];exact I1.turned (it:=S) (λb u n e=>(s1.2 b n).trans e) nS.2.1 nS.2.2.1 (.inr aE) ax an
 |succ r ih=>
  intro j i s H v vb tb c oI hr hj I hJ al hv rv aM U
  have af:j+1<xs.length:=by lia
  obtain ⟨us,ae,hl⟩:=jh I (ac H hJ)
  have ao:us.toArray.size=xs.length:=by rw [size_toArray,ae.length]
  have nS:=I.pin (S,_) @t;have nI:=I.pin (It,oI) @V
  have am:l≠It:=λz=>by have:=nI.2.1;rw [<-z,ac H hJ] at this;cases this
  have W:=Walks.list (prog:=X.prog) (w:=X.w) (A:=X.A.in1) hh It l am us.toArray;rwa[codeAny_builtin PySem.F.entry_min_loop ?_];rw [Around.under_plainId PySem.F.plain_min_loop _];show wpAny _ X.A.in1 (seqItems? (.ref S)>>=_) _ _ _;rwa[wpAny_bind @cQ];show wpAny _ X.A.in1 (tryCatch (pyNext (.ref It)) _>>=_) _ _ _;rwa[wpAny_bind (wpAny_tryCatch (W.item (j+1) _ _ _ (by rw [ao];exact af) ⟨al,hl⟩ λu h1 ad hP aB Y=> ?_))]
  have hu:us[j+1]? =some u:=by simpa using hP
  obtain ⟨v1,aj⟩:∃v1,xs[j+1]? =some v1:=⟨_,getElem?_eq_getElem af⟩
  have aq:aA v1 u:=by
   obtain ⟨u',aF,ru⟩:=ae.get aj;rw [hu] at aF;cases aF;exact ru
  obtain ⟨Z,au,aI,ak⟩:=id aB.1;have Y:∀b u,b≠It->s.heap.get? b=some u->h1.get? b=some u:=λb u n e=>Y b u (by simpa using n) e
  have I1:ar X ((S,seqObj "list" #[vb,.int (O i) tb] c)::(It,Z)::pins) σ H {s with heap:=h1,toks:=ad}:=
   ((I.sub ah).repin (t':=ad) aG (aD _) Y au λv e=>by rw [ak] at e;cases e).sub ah
  show wpAny _ X.A.in1 (tryCatch (holding [u] @ek) _>>=_) _ _ _;rwa[wpAny_bind (wpAny_tryCatch (wpAny_holding (wpAny_mono (ap _ _ H (j+1) v1 u I1 hJ aj aq) (λx s2 he=> ?_) λ_ _ hF=>hF.elim)))];obtain ⟨H2,I2,⟨t2,rfl⟩,aw⟩:=he;have az:=I2.pin (S,_) @t;have as:=I2.pin (It,Z) @V;have aC:s2.heap.IsListIter It l (j+1+1):=⟨Z,as.1,aI,ak⟩;show wpAny _ X.A.in1 (tryCatch (holding [u,.int (O (j+1)) t2] (richCompare .Lt (.int (O (j+1)) t2) (.int (O i) tb)>>=_)) _>>=_) _ _ _;rwa[wpAny_bind (wpAny_tryCatch (wpAny_holding (wpAny_bind (CmpOf.ints_lt (prog:=X.prog) (w:=X.w) (A:=X.A.in1) (P:=λi v=>∃t,v= .int (O i) t) O (λi v h=>h) (j+1) i _ _ _ _ _ ⟨t2,rfl⟩ ⟨tb,rfl⟩ ?_))))];rwa[wpAny_bind (wpAny_holding (wpAny_truthy_bool ?_))];rwa[wpAny_bind (wpAny_letGo @bx)];by_cases ay:O (j+1)<O i
  ·have s1:=Heap.SameBut.update s2.heap S (Obj.mapSeq λ_=> #[u,.int (O (j+1)) t2]);obtain ⟨c2,aN⟩:∃c2,(s2.heap.update S (Obj.mapSeq λ_=> #[u,.int (O (j+1)) t2])).get? S=some (seqObj "list" #[u,.int (O (j+1)) t2] c2):=⟨_,get?_update_seq az.1 λ_=> #[u,.int (O (j+1)) t2]⟩;simp only [ay,decide_true,if_true];rwa[wpAny_bind ?_];rwa[wpAny_updateSeq az.1 rfl (wpAny_bind (wpAny_letGo ?_))];rw [aa];rwa[wpAny_pure ⟨plainId_quiet PySem.F.plain_min_loop _,ih (j+1) (j+1) _ H2 v1 u t2 c2 Z @c af (I2.repin (t':=s2.toks) aE (aJ _) (λb u n e=>(s1.2 b n).trans e) aN λv e=>by cases e) aw ⟨Z,(s1.2 It ag.symm).trans as.1,aI,ak⟩ aj aq @f λj' aH=> ?_⟩];by_cases e:j'=j+1
   ·subst e;exact ⟨by lia,λ_=>by lia⟩
   ·have aK:=U j' @c;have aO:=aK.1;exact ⟨by lia,λ_=>by lia⟩
  ·simp only [ay,decide_false,Bool.false_eq_true,if_false];rwa[wpAny_bind (wpAny_letGo ?_)];rw [aa];rwa[wpAny_pure ⟨plainId_quiet PySem.F.plain_min_loop _,ih (j+1) i _ H2 v vb tb c Z @c af I2 aw aC hv rv @c λj' aH=> ?_⟩];by_cases e:j'=j+1
   ·subst e;exact ⟨by lia,λ_=>by lia⟩
   ·exact U j' @c
theorem Iq (a v d:Value):argsOk "min" ⟨[a],[(Str.ofString "key",v),(Str.ofString "default",d)]⟩:=by unfold argsOk;kernel_rfl
theorem OC {X:Cx}{pins:List (Addr×Obj)}{σ:St}{H:Hp}{s:Shared}{l f:Addr}{xs:List V}{d:V}{dv:Value}{Q:VK}{E:Value->Shared->Prop}(hh:X.A.handled=none)(I:ar X pins σ H s)(aC:H l=some (.lst xs))(rd:aA d dv)
(h0:xs=[]->Q d H)(h1:xs≠[]->∃(kf:Nat->Int) (J:Hp->Prop),J H/\(∀H,J H->H l=some (.lst xs))/\IC X σ f xs J kf/\∀i v H,xs[i]? =some v->Pq xs kf i->J H->Q v H):
 wpAny @d X.A (call (.builtin "min") [.ref l] [(Str.ofString "key",.ref f),(Str.ofString "default",dv)]) @w E s:=by
 have aa:(toString "min"++toString ".loop":String)="min.loop":=by decide
 obtain ⟨us,af,ae⟩:=jh I aC
 have ak:us.toArray.size=xs.length:=by rw [size_toArray,af.length]
 obtain ⟨ol,av,_⟩:=id ae;have ax:l<s.heap.objs.size:=Heap.lt_size av;rwa[kmk_tree PySem.F.kind_min PySem.F.plain_min PySem.F.entry_min (Iq _ _ _) ?_];show wpAny _ X.A.in1 (Builtin.Builtins.bindParams "min" ["key","default"] 0 ⟨[],[(Str.ofString "key",.ref f),(Str.ofString "default",dv)]⟩>>=_) _ _ s;rwa[wpAny_bind (wpAny_of_eq (show Builtin.Builtins.bindParams "min" ["key","default"] 0 ⟨[],[(Str.ofString "key",.ref f),(Str.ofString "default",dv)]⟩=pure [some (.ref f),some dv] from rfl) ?_)];rwa[wpAny_bind @bx];rwa[wpAny_bind (wpAny_pyIter_list ae ?_)];rwa[wpAny_bind (wpAny_newList ?_ @fy)];rw [aa];generalize O:s.heap.objs.size=j at *
 have I1:ar X ((j,{cls:= .type "list_iterator",data:= .fields #[.ref l,.int 0 0]})::pins) σ H {s with heap:=s.heap.push {cls:= .type "list_iterator",data:= .fields #[.ref l,.int 0 0]}}:=
  I.pinNew (t':=s.toks) (a:=j) (by rw [O];exact Nat.le_refl _) (λb u e=>Heap.get?_push_of_some _ e) (by rw [<-O];exact Heap.get?_push_size _ rfl) λv e=>by cases e
 have hS:(s.heap.push {cls:= .type "list_iterator",data:= .fields #[.ref l,.int 0 0]}).objs.size=j+1:=by rw [size_push',O]
 generalize ao:(s.heap.push {cls:= .type "list_iterator",data:= .fields #[.ref l,.int 0 0]}).objs.size=S at *
 have I2:=I1.pinNew (t':=s.toks) (h':=(s.heap.push {cls:= .type "list_iterator",data:= .fields #[.ref l,.int 0 0]}).push (seqObj "list" #[] 0)) (a:=S) (o:=seqObj "list" #[] 0) (Nat.le_of_eq ao) (λb u e=>Heap.get?_push_of_some _ e) (by rw [<-ao];exact Heap.get?_push_size _ rfl) λv e=>by cases e
 have ag:S≠j:=by rw [hS];exact Nat.ne_of_gt @br
 have aG:X.s₀.heap.objs.size<=j:=by rw [<-O];exact I.sz
 have aE:X.s₀.heap.objs.size<=S:=by rw [hS];exact Nat.le_succ_of_le aG
 have al:∀p∈X.pn++pins,p.1<j:=λp G=>by rw [<-O];exact Heap.lt_size (I.pin p G).1
 have ai:∀p∈X.pn++pins,p.1≠j:=λp G=>Nat.ne_of_lt (al p G)
 have an:∀p∈X.pn++pins,p.1≠S:=λp G=>by rw [hS];exact Nat.ne_of_lt (Nat.lt_succ_of_lt (al p G))
 have aH:l≠j:=Nat.ne_of_lt ax;rwa[wpAny_pure ⟨plainId_quiet PySem.F.plain_min_loop _,?_⟩];generalize ap:({s with heap:=(s.heap.push {cls:= .type "list_iterator",data:= .fields #[.ref l,.int 0 0]}).push (seqObj "list" #[] 0)}:Shared)=s2 at I2;show codeAny _ _ (.builtin "min.loop" ⟨[.ref j,.ref f,.ref S],[("default",dv)]⟩) _ s2;have nS:=I2.pin (S,_) @t;have nI:=I2.pin (j,_) @V;have W:=Walks.list (prog:=X.prog) (w:=X.w) (A:=X.A.in1) hh j l aH us.toArray
 have U:s2.heap.IsList l us.toArray:=by
  obtain ⟨o,a,b⟩:=ae;rw [<-ap];exact ⟨o,Heap.get?_push_of_some _ (Heap.get?_push_of_some _ a),b⟩
 rwa[codeAny_builtin PySem.F.entry_min_loop ?_];rw [Around.under_plainId PySem.F.plain_min_loop _];show wpAny _ X.A.in1 (seqItems? (.ref S)>>=_) _ _ _;rwa[wpAny_bind @cQ];show wpAny _ X.A.in1 (tryCatch (pyNext (.ref j)) _>>=_) _ _ _;by_cases hx:xs=[]
 ·rwa[wpAny_bind (wpAny_tryCatch (W.done _ _ _ ⟨by rw [ak,hx];exact ⟨_,nI.1,rfl,rfl⟩,U⟩ λh1 ad Y=> ?_))]
  have I3:ar X pins σ H {s2 with heap:=h1,toks:=ad}:=(I2.sub λp G=> .tail _ (.tail _ G)).turned (it:=j) (λb u n e=>Y b u (by simpa using n) e) nI.2.1 nI.2.2.1 (.inr aG) (λx c e z=>by
   obtain ⟨v,oc,h1,h2⟩:=I2.cell x c e;rw [z,nI.1] at h1;cases h1
   exact nI.2.2.2.2 v h2) ai
  exact wpAny_bind (wpAny_rule (wpAny_pure ⟨d,H,I3,rd,h0 hx⟩))
 ·obtain ⟨kf,J,hJ,as,R,hQ⟩:=h1 hx;have ac:0<xs.length:=length_pos_iff.mpr hx;rwa[wpAny_bind (wpAny_tryCatch (W.item 0 _ _ _ (by rw [ak];exact ac) ⟨⟨_,nI.1,rfl,rfl⟩,U⟩ λu h1 ad hP aB Y=> ?_))]
  have hu:us[0]? =some u:=by simpa using hP
  obtain ⟨v1,aj⟩:∃v1,xs[0]? =some v1:=⟨_,getElem?_eq_getElem ac⟩
  have aq:aA v1 u:=by
   obtain ⟨u',aF,ru⟩:=af.get aj;rw [hu] at aF;cases aF;exact ru
  obtain ⟨Z,au,aI,am⟩:=id aB.1;have Y:∀b u,b≠j->s2.heap.get? b=some u->h1.get? b=some u:=λb u n e=>Y b u (by simpa using n) e
  have ah:∀ {a b:Addr×Obj},∀p∈a::b::pins,p∈b::a::pins:=λ{a b} p G=>by
   rcases mem_cons.mp G with rfl|G
   ·exact .tail _ (.head _)
   ·rcases mem_cons.mp G with rfl|G
    ·exact .head _
    ·exact .tail _ (.tail _ G)
  have I3:ar X ((S,seqObj "list" #[] 0)::(j,Z)::pins) σ H {s2 with heap:=h1,toks:=ad}:=
   ((I2.sub ah).repin (t':=ad) aG (λp G=>by
     rcases mem_append.mp G with G|G
     ·exact ai p @bY
     ·rcases mem_cons.mp G with rfl|G
      ·exact ag
      ·exact ai p @bS) Y au λv e=>by rw [am] at e;cases e).sub ah
  show wpAny _ X.A.in1 (tryCatch (holding [u] @ek) _>>=_) _ _ _;rwa[wpAny_bind (wpAny_tryCatch (wpAny_holding (wpAny_mono (R _ _ H 0 v1 u I3 hJ aj aq) (λx s3 he=> ?_) λ_ _ hF=>hF.elim)))];obtain ⟨H3,I4,⟨t2,rfl⟩,aw⟩:=he;have az:=I4.pin (S,_) @t;have aD:=I4.pin (j,Z) @V;have s1:=Heap.SameBut.update s3.heap S (Obj.mapSeq λ_=> #[u,.int (kf 0) t2]);obtain ⟨c2,ay⟩:∃c2,(s3.heap.update S (Obj.mapSeq λ_=> #[u,.int (kf 0) t2])).get? S=some (seqObj "list" #[u,.int (kf 0) t2] c2):=⟨_,get?_update_seq az.1 λ_=> #[u,.int (kf 0) t2]⟩;show wpAny _ X.A.in1 (updateSeq S (λ_=> #[u,.int (kf 0) t2])>>=_) _ _ _;rwa[wpAny_bind ?_];rwa[wpAny_updateSeq az.1 rfl ?_];rw [aa];rwa[wpAny_pure ⟨plainId_quiet PySem.F.plain_min_loop _,KC kf J hh as aG aE ai an ag R (λi v u s' H hv ru hb hJ I=>⟨v,H,I,ru,hQ i v H hv hb hJ⟩) _ 0 0 _ H3 v1 u t2 c2 Z rfl ac (I4.repin (t':=s3.toks) aE (λp G=> ?_) (λb u n e=>(s1.2 b n).trans e) ay λv e=>by cases e) aw ⟨Z,(s1.2 _ ag.symm).trans aD.1,aI,am⟩ aj aq @f λj' aJ=> ?_⟩]
  ·rcases mem_append.mp G with G|G
   ·exact an p @bY
   ·rcases mem_cons.mp G with rfl|G
    ·exact ag.symm
    ·exact an p @bS
  ·have e:j'=0:=by lia
   subst e;exact ⟨by lia,λh=>absurd h @bc⟩
structure oW (X:Cx)(fs:List Str)(js:List Nat)(cl:List (Str×Addr)):Prop where
 at_:∀(i:Nat) x,fs[i]? =some x->∃j c,js[i]? =some j/\X.N[j]? =some x/\X.env.scope.names.lookup x=some .cell/\X.env.cells.lookup x=some c/\cl.lookup x=some c
 dom:∀x c,cl.lookup x=some c->x∈fs/\X.env.cells.lookup x=some c
theorem Hh {X:Cx}{σ:St}{k:Nat}{f c':Addr}{name qual p0:Str}{F:Arguments}{U:Expr}{scope:Scope}{cl:List (Str×Addr)}{pm ctv:Value}{fs:List Str}{js:List Nat}{fvs:List V}{xs:List V}{J:Hp->Prop}{kf:Nat->Int}{t:TE}
(S:jd [p0] fs scope)(Z:oW X fs js cl)(ad:∀u:Value,bindArgs @bB ⟨[u],[]⟩=pure [(p0,u)])(hr:bx (k+1) X.A.in1)
(O:js.map (λj=>σ[j]?)=fvs.map λv=>some @bD)(ak:js.length=fs.length)
(hJ:∀H,J H->H f=some (sG f @bf)/\H c'=some (sL c' qual))
(hb:∀(s:Shared) (H:Hp),bx k (X.A.in1.deeper @bA)->PE (Lb X.prog X.w X.K X.mg X.base ([p0]++fs) qual scope f (.ref c') cl X.A.in1 X.stack s H) U t)
(ht:∀i v H,xs[i]? =some v->J H->t (some v::fvs.map some) H λr H'=>r= .int (kf i)/\J H'):IC X σ f xs J kf:=by
 intro pins s H i v u I aa hv rv;obtain ⟨hf,hc⟩:=hJ H aa
 have aj:fvs.length=fs.length:=by
  have:=congrArg List.length O;rw [length_map,length_map] at this;lia
 have ae:s.heap.get? f=some @bf:=(I.hok f _ hf).1;have ai:s.heap.CodeRec (.ref c') qual:=(I.hok c' _ hc).1;rwa[wpAny_call (codeAny_mono (KP (Q:=λr H'=>r= .int (kf i)/\J H') (E:=E0) (fvs:=fvs) (vs:=[v]) (us:=[u]) S ae ai hr I.env0.in1 (ad u) (.cons rv .nil) rfl aj (λn x w h1 h2=> ?_) (λx c e=>(Z.dom x c e).1) (λx y c e1 e2=>I.ok.inj x y c (Z.dom x c e1).2 (Z.dom y c e2).2) (λx c e=>I.freeC x c (Z.dom x c e).2) λac=>⟨t,hb s H ac,ht i v H hv aa⟩) λrr s' R=> ?_)]
 ·obtain ⟨j,c,e1,e2,e3,e4,e5⟩:=Z.at_ n x h1;obtain ⟨m,hn,W⟩:=I.loc
  have hσ:σ[j]? =some (some w):=by
   have:=congrArg (λl=>l[n]?) O;simp only [getElem?_map,e1,h2,Option.map_some,Option.some.injEq] at this;exact this
  obtain ⟨u0,ah,Y⟩:=W j x w e2 hσ (.inr (.inl e3))
  rcases Y with ⟨z,_⟩|⟨_,c2,e6,G⟩
  ·have z:X.env.scope.names.lookup x=some .local:=z;rw [e3] at z;cases z
  ·rw [e4] at e6;cases e6;exact ⟨c,u0,e5,ah,G⟩
 ·cases rr with
  |error e=>exact False.elim R
  |ok fl=>
   cases fl with
   |ret u=>
    obtain ⟨v',H',I',ag,rfl,af⟩:=I.after R;exact ⟨H',I',ag,af⟩
   |next=>exact False.elim R
   |brk=>exact False.elim R
   |cont=>exact False.elim R
def S3 (q:Str)(mk:Addr->Value->Obj)(js:List Nat)(te tl td tb:TE):TE:=λσ H Q=>te σ H λx H1=>tl σ H1 λfv H2=>td σ H2 λd H3=>
 ∃l f xs,x= .ref l/\fv= .ref f/\H3 l=some (.lst xs)/\(xs=[]->Q d H3)/\(xs≠[]->∃(c':Addr) (ctv:Value) (fvs:List V) (kf:Nat->Int) (J:Hp->Prop),js.map (λj=>σ[j]?)=fvs.map (λv=>some @bD)/\J H3/\
  (∀H,J H->H l=some (.lst xs)/\H f=some (sG f (mk c' ctv))/\H c'=some @gv)/\(∀i v H,xs[i]? =some v->J H->tb (some v::fvs.map some) H λr H'=>r= .int (kf i)/\J H')/\∀i v H,xs[i]? =some v->Pq xs kf i->J H->Q v H)
theorem Gd {X:Cx}{k:Nat}{p pos j aa U:Pos}{e D:Expr}{te tl td tb:TE}{R:Str}{lp:Arguments}{lb:Expr}{lsc:Scope}{cl:List (Str×Addr)}{fs:List Str}{Y:List Nat}(hc:X.calm=true)(hg:Gl X "min")(hm:X.mg "min"=none)(hr:bx (k+2) X.A)
(he:PE X e te)(hl:PE X (.Lambda lp lb lsc j) tl)(hd:PE X D td)(S:jd [R] fs lsc)(LI:oW X fs Y cl)(ak:Y.length=fs.length)
(ad:∀(c':Addr) (ctv u:Value),bindArgs (kla_fn "<lambda>" (X.env.qual++"<lambda>") lp lb lsc cl ((X.mg "__name__").getD .none) (.ref c') ctv) ⟨[u],[]⟩=pure [(R,u)])
(hb:∀(f c':Addr) (s:Shared) (H:Hp),bx k (X.A.in1.deeper (envX (X.env.qual++"<lambda>") lsc s.heap.objs.size f (.ref c') cl))->PE (Lb X.prog X.w X.K X.mg X.base ([R]++fs) (X.env.qual++"<lambda>") lsc f (.ref c') cl X.A.in1 X.stack s H) lb tb)
(hs:bw e=true:=by rfl):
 PE X (.Call (.Name "min" p) [e] [⟨some "key",.Lambda lp lb lsc j,aa⟩,⟨some "default",D,U⟩] pos)
  (S3 (X.env.qual++"<lambda>") (λc' ctv=>kla_obj "<lambda>" (X.env.qual++"<lambda>") lp lb lsc cl ((X.mg "__name__").getD .none) c' ctv) Y te tl td tb):=by
 intro pins s σ H Q I h;have st:starEach [e] X.env=[(false,eval e X.env)]:=aU hs;rwa[wpAny_Call_Name_kw (kq I hg hm boot_min ?_)];rwa[callWith_kw (env:=X.env) ?_ (by rw [st];rfl) (by rw [st];rfl)];rw [st];show wpAny _ _ (spliced ((false,eval e X.env)::backTo pos (starEach [] X.env))) _ _ s;rwa[Calls.spliced_cons (bv (he pins s σ H _ I h) λu s1 ⟨x,H1,I1,G,q1⟩=> ?_)];rwa[Calls.spliced_nil ?_];rwa[kws_cons (bv (hl pins s1 σ H1 _ I1 q1) λuf s2 ⟨fv,H2,I2,Z,q2⟩=> ?_)];rwa[kws_cons (bv (hd pins s2 σ H2 _ I2 q2) λud s3 ⟨d,H3,I3,r3,q3⟩=> ?_)];rwa[kws_nil ?_];obtain ⟨l,f,xs,rfl,rfl,W,h0,h1⟩:=q3;have G:u=Value.ref l:=G;have Z:uf=Value.ref f:=Z;subst G Z;rwa[OC (f:=f) @bJ I3 W r3 h0 λhx=> ?_];obtain ⟨c',ctv,ac,kf,J,O,hJ,F,ht,hQ⟩:=h1 hx;exact ⟨kf,J,hJ,λH z=>(F H z).1,Hh S LI (ad c' ctv) hr.in1 O ak (λH z=>(F H z).2) (hb f c') ht,hQ⟩
section
variable {prog:Program}{w:World}{A:Around}{E:Value->Shared->Prop}{s:Shared}
theorem AU {it t:Addr}{i:Nat}{j:Array Value}{x:Value}{Q:Value->Shared->Prop}(z:s.heap.IsTupleIter it t i)(J:s.heap.IsTuple t j)(R:j[i]? =some x)
(S:∀h',h'.IsTupleIter it t (i+1)->Heap.SameBut it s.heap h'->Q x {s with heap:=h'}):wpAny @q A (Builtin.SmallTypes.nextOf (.ref it)) Q E s:=by
 obtain ⟨o,U,O,G⟩:=id z;obtain ⟨W,av,_,Y,I⟩:=J;unfold Builtin.SmallTypes.nextOf;rwa[wpAny_bind (wpAny_callSpecial?_slot (name:=Str.ofString "__next__") z.typeIs F.slot_tuple_iterator_next (wpAny_call_entry F.slot_tuple_iterator_next z.typeIs F.entry_tuple_iterator_next ?_ (F.args_tuple_iterator_next_1 _)))];show wpAny _ _ (field (.ref it) 0>>=_) _ _ s;rwa[wpAny_bind (wpAny_field U G (x:= .ref t) rfl ?_)];show wpAny _ _ (if (Value.ref t==Value.none)=true then _ else _) _ _ s;rw [if_neg (show ¬((Value.ref t==Value.none)=true) from Bool.false_ne_true)];show wpAny _ _ (field (.ref it) 1>>=_) _ _ s;rwa[wpAny_bind (wpAny_field U G (x:= .int i 0) rfl ?_)];show wpAny _ _ (seqItems? (.ref t)>>=_) _ _ s;rwa[wpAny_bind (wpAny_seqItems av I ?_)];simp only [Int.toNat_natCast,R];rwa[wpAny_bind (wpAny_setField U G @e (wpAny_pure ⟨x,rfl,wpAny_pure (S _ ?_ (Heap.SameBut.update ..))⟩))];exact ⟨_,Heap.get?_update_self _ U (Obj.isFreed_of_fields (Obj.data_mapFields G _)),(Obj.cls_mapFields ..).trans O,by rw [Obj.data_mapFields G];simp [rawInt]⟩
theorem iO {it t:Addr}{i:Nat}{j:Array Value}{Q:Value->Shared->Prop}(J:A.handled=none)(z:s.heap.IsTupleIter it t i)(O:s.heap.IsTuple t j)(R:j[i]? =none)
(S:∀h' e,Heap.ExtBut it s.heap h'->(∃o,h'.get? e=some o/\o.cls= .type "StopIteration")->E (.ref e) {s with heap:=h'}):wpAny @q A (Builtin.SmallTypes.nextOf (.ref it)) Q E s:=by
 obtain ⟨o,U,W,G⟩:=id z;obtain ⟨Y,av,_,Z,I⟩:=O;unfold Builtin.SmallTypes.nextOf;rwa[wpAny_bind (wpAny_callSpecial?_slot (name:=Str.ofString "__next__") z.typeIs F.slot_tuple_iterator_next (wpAny_call_entry F.slot_tuple_iterator_next z.typeIs F.entry_tuple_iterator_next ?_ (F.args_tuple_iterator_next_1 _)))];show wpAny _ _ (field (.ref it) 0>>=_) _ _ s;rwa[wpAny_bind (wpAny_field U G (x:= .ref t) rfl ?_)];show wpAny _ _ (if (Value.ref t==Value.none)=true then _ else _) _ _ s;rw [if_neg (show ¬((Value.ref t==Value.none)=true) from Bool.false_ne_true)];show wpAny _ _ (field (.ref it) 1>>=_) _ _ s;rwa[wpAny_bind (wpAny_field U G (x:= .int i 0) rfl ?_)];show wpAny _ _ (seqItems? (.ref t)>>=_) _ _ s;rwa[wpAny_bind (wpAny_seqItems av I ?_)];simp only [Int.toNat_natCast,R];rwa[wpAny_bind (wpAny_rule (wpAny_bind (wpAny_setField U G @e ?_)))];show wpAny _ _ (newExc (.type "StopIteration") []>>=_) _ _ _;rwa[wpAny_bind ?_];simp only [newExc,newTuple];rwa[wpAny_bind (wpAny_newObj_type ?_ (by size_fits))];rwa[wpAny_bind (m:=firstArgMember _ _) (wpAny_of_eq (a:=Value.none) (by first|rfl|(simp only [firstArgMember];rfl)) ?_)];rwa[wpAny_newObj_type ?_ (by size_fits)];simp only [raiseNew];rwa[wpAny_bind (wpAny_handled ?_)]
 first|rw [show A.in1.handled=none from J]|rw [J]
 rwa[wpAny_bind (wpAny_pure (wpAny_throw ?_))];exact S _ _ (((Heap.SameBut.update ..).extBut.push _).push _) ⟨_,Heap.get?_push_size _ rfl,rfl⟩
end
theorem uQ {prog:Program}{w:World}{A:Around}(F:A.handled=none)(it l:Addr)(R:l≠it)(j:Array Value):
 Draws prog w A it [it,l] j.size (λi v=>j[i]? =some v) (λi h=>h.IsTupleIter it l i/\h.IsTuple l j) where
 live:=λ_ _ st=>let ⟨o,ho,_⟩:=st.1;⟨o,ho⟩
 frame:=λ_ _ _ st Y=>⟨st.1.at λo e=>Y it @e o e,let ⟨o,ho,r⟩:=st.2;⟨o,Y l @e o ho,r⟩⟩
 item:=λi s Q E hi st G=>by
  rwa[AU st.1 st.2 (x:=j[i]) (by simp [hi]) λh' z I=> ?_];exact G _ h' s.toks (by simp [hi]) ⟨z,let ⟨o,ho,r⟩:=st.2;⟨o,(I.2 l R).trans ho,r⟩⟩ I
 done:=λs Q E st S=>iO F st.1 st.2 @e S
open Sem (wp)
open AutoSeq1 (wpAny_loadPart')
theorem q9 (l:Addr)(j:Array Value)(n:Nat)(F:Option Addr)(sl:Array @E):
 Meets (Builtin.«enumerate.__new__» ⟨[.type "enumerate",.ref l],[]⟩) (λ_ R s=>s.heap.get? l=some {cls:= .type "tuple",dict:=F,data:= .seq j n,slots:=sl}/\
  R (.ok (.ret (.ref (s.heap.push {cls:= .type "tuple_iterator",data:= .fields #[.ref l,.int 0 0]}).objs.size)))
    {s with heap:=(s.heap.push {cls:= .type "tuple_iterator",data:= .fields #[.ref l,.int 0 0]}).push {cls:= .type "enumerate",data:= .fields #[.none,.bool false,.ref s.heap.objs.size,rawInt 0,.none,.none]}}):=
 .of_wp λprog w A R s h=>by
  obtain ⟨J,g,d,tk,os⟩:=s;obtain ⟨z,h⟩:=h;have I:=sub_enumerate;have G:Heap.IsTuple (Shared.heap ⟨J,g,d,tk,os⟩) l j:=⟨_,z,rfl,n,rfl⟩
  wp_walk using wpAny_loadPart' z
  rwa[wpAny_stack_any λst=>wpAny_pure ?_];split
  ·rename_i c _ _ _ _ _;cases (c==Value.type "enumerate")
   ·wp_walk using wpAny_loadPart' z,wpAny_pyIter_tuple G
    exact ⟨_,rfl,h⟩
   ·wp_walk using wpAny_loadPart' z,wpAny_pyIter_tuple G
    exact ⟨_,rfl,h⟩
  ·wp_walk using wpAny_loadPart' z,wpAny_pyIter_tuple G
   exact ⟨_,rfl,h⟩
theorem uh {prog:Program}{w:World}{A:Around}{E:Value->Shared->Prop}{s:Shared}{l:Addr}{j:Array Value}{Q:Value->Shared->Prop}(S:s.heap.IsTuple l j)
(h:∀h',IsEnum h' (s.heap.objs.size+1) s.heap.objs.size 0 .none->h'.IsTupleIter s.heap.objs.size l 0->h'.objs.size=s.heap.objs.size+2->
   (∀b o,s.heap.get? b=some o->h'.get? b=some o)->Q (.ref (s.heap.objs.size+1)) {s with heap:=h'}):wpAny @q A (call (.type "enumerate") [.ref l]) Q E s:=by
 obtain ⟨⟨c,I,R,sl⟩,W,J,n,O⟩:=S;replace J:c= .type "tuple":=J;replace O:R= .seq j n:=O;subst J O;rwa[callType_new F.called_enumerate @b (F.typeCall_enumerate_1 _) (F.newCall_enumerate_1 _) (λz=>F.args_object_init_2 z _) F.entry_enumerate_new (q9 l j n I sl) ⟨W,?_⟩];have G:(s.heap.push {cls:= .type "tuple_iterator",data:= .fields #[.ref l,.int 0 0]}).objs.size=s.heap.objs.size+1:=Heap.size_push ..;show _/\_;rw [G]
 have U:IsEnum ((s.heap.push {cls:= .type "tuple_iterator",data:= .fields #[.ref l,.int 0 0]}).push {cls:= .type "enumerate",data:= .fields #[.none,.bool false,.ref s.heap.objs.size,rawInt 0,.none,.none]}) (s.heap.objs.size+1) s.heap.objs.size 0 .none:=by
  have:=Heap.get?_push_size (s.heap.push {cls:= .type "tuple_iterator",data:= .fields #[.ref l,.int 0 0]}) (o:= {cls:= .type "enumerate",data:= .fields #[.none,.bool false,.ref s.heap.objs.size,rawInt 0,.none,.none]}) rfl;rw [G] at this;exact this
 rwa[⟨⟨_,U,rfl⟩,h _ U ⟨_,Heap.get?_push_of_some _ (Heap.get?_push_size _ rfl),rfl,rfl⟩ (by rw [Heap.size_push,G]) λb o x=>Heap.get?_push_of_some _ (Heap.get?_push_of_some _ x)⟩]
theorem ar.turnLaid {X:Cx}{pins:List (Addr×Obj)}{σ:St}{H:Hp}{s:Shared}{h':Heap}{t':Nat}{ch:List Addr}{a:Addr}{o:HO}(I:ar X pins σ H s)(R:∀b∈ch,gR X pins H b)(k:∀b u,b∉ch->s.heap.get? b=some u->h'.get? b=some u)
(S:s.heap.objs.size<=a)(O:bp X.prog X.w @bg h' a o):ar X pins σ @bg {s with heap:=h',toks:=t'}:=by
 have Y:H a=none:=I.hok.fresh S;have Z:∀ {b:Addr} {u:Obj},s.heap.get? b=some u->b≠a:=λ{b u} e=>Nat.ne_of_lt (Nat.lt_of_lt_of_le @U S)
 have G:∀ {b:Addr} {u:HO},H b=some u->b∉ch:=λ{b u} e z=>by have:=(R b z).1;rw [e] at this;cases this
 have j:ak H @bg:= .upd Y
 refine I.step (g':=s.gens) (d':=s.drawn) (ch:=ch) (λb F=> ?_) (λb u _ _ J e _=>k b u J e) (λb u _ _ J e _=>⟨u.slots,k b u J e⟩) (λb u _ e n=>by rw [aj (Z e)];exact n) (λb u J e=>⟨u,k b u J e⟩)
  (λb xs e=>j _ _ e) (λb u v e=>j _ _ e) (λb ps e=>⟨#[],by rw [j _ _ e];simp⟩) (λm U=> ?_) (λb u e=> ?_) I.bare
 ·obtain ⟨_,f1,_,f3,f4,W⟩:=R b F;exact ⟨f3,f1,f4,W⟩
 ·obtain ⟨o,es,ep,ho,r⟩:=U;exact ⟨o,es,ep,k _ o (λz=>(R _ z).2.1 rfl) ho,r⟩
 ·by_cases F:b=a
  ·subst F;rw [af] at e;cases e;exact O
  ·rw [aj F] at e;rwa[(I.hok b u e).stay (λc v J q=>k c v ?_ q) (λc q=>j _ _ q) λc xs q=>j _ _ q]
   rcases J with z|z
   ·rw [z];exact G e
   ·exact G z
def Si (K:Fg)(a:Addr):It:=⟨(El K a).go,λi H x H'=>∃T y,x= .ref T/\H T=none/\H'=upd H T (.tup [.int i,y])/\∀xs,aD K H a xs->xs[i]? =some y,(El K a).stop⟩
theorem EO {P:Program}{w:World}{K:Fg}{O:List Expr}{k:Nat}{pos:Pos}(a it e:Addr):xf P w K (.Tuple O k pos) (Si K a) [e,it] e (λi h=>(∃old,IsEnum h e it i old)/\h.IsListIter it a i) where
 mem:=by simp
 obj:=λi h st b J=>by
  obtain ⟨⟨old,U⟩,o,ho,c,d⟩:=st
  rcases mem_cons.mp J with rfl|J
  ·exact ⟨_,U,λv z=>by cases z⟩
  ·rw [mem_singleton.mp J];exact ⟨o,ho,λv z=>by rw [d] at z;cases z⟩
 keep:=λi h h' st kk=>by
  obtain ⟨⟨old,U⟩,j⟩:=st;exact ⟨⟨old,kk e @e _ U⟩,j.at λo z=>kk it @e o z⟩
 item:=by
  intro X hP hw hK hc i pins s σ H E I hf st hg;subst hP hw hK;obtain ⟨⟨old,U⟩,j⟩:=st;obtain ⟨xs,x,hq,hx⟩:=hg;obtain ⟨its,rv,p,hz⟩:=I.list hq;have hl:s.heap.IsList a its.toArray:=p.isList;obtain ⟨u,hu,ru⟩:=rv.get hx;obtain ⟨oi,G,ci,di⟩:=id j;obtain ⟨ol,av,Z,_⟩:=id hl
  have af:e≠it:=λz=>by have h1:=G.symm.trans (z▸U);cases h1;exact absurd (Value.type.inj ci) @b
  have ai:e≠a:=λz=>by have h1:=av.symm.trans (z▸U);cases h1;exact absurd @bV @b
  have Y:a≠it:=λz=>by rw [z,G] at av;cases av;rw [ci] at Z;exact absurd @bV @b
  have W:=WalksT.enumerateD (Draws.list (prog:=X.prog) (w:=X.w) (A:=X.A.in1) @bJ it a Y its.toArray) e af (by simp [af,ai]) @e
  have hi:i<its.toArray.size:=by rw [size_toArray];exact (List.getElem?_eq_some_iff.mp hu).1
  rwa[W.item i s _ _ hi ⟨⟨old,U⟩,j,hl⟩ λT an h' tk hP hT aa R hk=>⟨.ref T,rfl,?_⟩];rwa[W.go O k pos i T _ _ _ R λh2 S ae=> ?_];obtain ⟨t,u',aF,rfl⟩:=hP
  have aF:its[i]? =some u':=by simpa using aF
  rw [hu] at aF;cases aF;have ac:T∉[e,it]:=W.apart i T h' R;have kk:∀b o,b∉[e,it]->s.heap.get? b=some o->h2.get? b=some o:=λb o nb z=>ae b o nb (hk b o nb z)
  have ad:IsTup h2 T (#[.int i t,u]:Array Value):=by
   obtain ⟨o,ho,c,r⟩:=aa;exact ⟨o,ae T o ac ho,c,r⟩
  have ah:bp X.prog X.w (upd H T (.tup [.int i,x])) h2 T (.tup [.int i,x]):=⟨by show 2<=sizeLine;decide,[.int i t,u],.cons ⟨t,rfl⟩ (.cons ru .nil),ad⟩;rwa[⟨.ref T,upd H T (.tup [.int i,x]),I.turnLaid (t':=tk) hf kk hT ah,rfl,⟨T,x,rfl,I.hok.fresh hT,rfl,λys hy=>by rw [I.list_inj hy hq];exact hx⟩,⟨S.1,S.2.1⟩,λb J=> ?_⟩];have ne:b≠T:=λz=>ac (by rw [<-z];exact J);rw [aj ne];exact (hf b J).1
 done:=by
  intro X hP hw hK hc i pins s σ H E I hf st hg;subst hP hw hK;obtain ⟨⟨old,U⟩,j⟩:=st;obtain ⟨xs,hq,hx⟩:=hg;obtain ⟨its,rv,p,hz⟩:=I.list hq;have hl:s.heap.IsList a its.toArray:=p.isList;have am:=rv.length;obtain ⟨oi,G,ci,di⟩:=id j;obtain ⟨ol,av,Z,_⟩:=id hl
  have Y:a≠it:=λz=>by rw [z,G] at av;cases av;rw [ci] at Z;exact absurd @bV @b
  have D:=Draws.list (prog:=X.prog) (w:=X.w) (A:=X.A.in1) @bJ it a Y its.toArray;have hT:s.TypeIs (.ref e) "enumerate":=⟨_,U,rfl⟩;obtain ⟨f0,f1,f2,f3,f4,f5⟩:=hf it @e;unfold pyNext;rwa[wpAny_bind (wpAny_attempt (wpAny_callSpecial?_slot (name:=Str.ofString "__next__") hT F.slot_enumerate_next (wpAny_call_entry F.slot_enumerate_next hT F.entry_enumerate_next ?_ (F.args_enumerate_next_1 _))))];show wpAny _ _ (field (.ref e) 2>>=_) _ _ _;rwa[wpAny_bind (wpAny_field U rfl (x:= .ref it) rfl ?_)];rwa[wpAny_bind (wpAny_nextOf_list_end @bJ j hl (by simp;lia) λh' x ak al=> ?_)];obtain ⟨o,ho,ag⟩:=al;rwa[wpAny_bind (wpAny_isInstance (T:="StopIteration") (b:=true) ⟨o,ho,ag⟩ isSubtype_stop ?_)];exact wpAny_pure ⟨rfl,I.turned (t':=s.toks) (λb o J e=>ak b o J e) f0 f1 f3 f4 f5⟩
 self:=λ_ _ _ _ _ st h=>let ⟨⟨old,U⟩,_⟩:=st;wpAny_pyIter_enum U h
theorem HW {K:Fg}{a:Addr}{xs:List V}{pk:List @x}{g:TG}{tt:TT}{te:TE}{σ:St}{H:Hp}{Q:VK}(j:Nat->List V->Hp->Prop)(U:xs.length<=sizeLine)(G:∀i ys H,j i ys H->ys.length<=i)(O:j 0 [] H)(I:∀i ys H,i<=xs.length->j i ys H->aD K H a xs)
(hs:∀(i:Nat) x ys H T H',xs[i]? =some x->j i ys H->ak H H'->H' T=some (.tup [.int i,x])->g (.ref T) @z H' λσ2 H2=>pA @z σ2/\tt σ2 H2 λb H3=>if b=true then te σ2 H3 λv H4=>j (i+1) (ys++[v]) H4 else j (i+1) ys H3)
(S:∀ys H,j @eu ys H->∀p,H p=none->Q (.ref p) @F):
 pq (Si K a) pk g tt te σ H Q:=by
 rwa[⟨λi m ys H=>m=xs.length - i/\i<=xs.length/\j i ys H,⟨xs.length,by simp,Nat.zero_le _,O⟩,?_⟩];rintro i m ys H ⟨rfl,hi,p⟩;have W:=G _ _ _ p;by_cases F:i<xs.length
 ·rwa[.inr ⟨⟨xs,xs[i],I i ys H hi p,by simp [F]⟩,by lia,j (i+1),λzs H' J=>⟨xs.length - (i+1),by lia,rfl,F,J⟩,λx H' y=> ?_⟩];obtain ⟨T,z,rfl,R,rfl,y⟩:=y;exact hs i z ys _ T _ (y xs (I i ys _ hi p)) p (.upd R) af
 ·have e:i=xs.length:=by lia
  subst e;exact .inl ⟨⟨xs,I _ ys H @f p,Nat.le_refl _⟩,by lia,S ys H p⟩
def TW (K:Fg)(a:Addr):It:=⟨(ID K a).go,λi H x H'=>∃T y,x= .ref T/\H T=none/\H'=upd H T (.tup [.int i,y])/\∀xs,aE K H a xs->xs[i]? =some y,(ID K a).stop⟩
theorem EN {P:Program}{w:World}{K:Fg}{O:List Expr}{k:Nat}{pos:Pos}(a it e:Addr):xf P w K (.Tuple O k pos) (TW K a) [e,it] e (λi h=>(∃old,IsEnum h e it i old)/\h.IsTupleIter it a i) where
 mem:=by simp
 obj:=λi h st b J=>by
  obtain ⟨⟨old,U⟩,o,ho,c,d⟩:=st
  rcases mem_cons.mp J with rfl|J
  ·exact ⟨_,U,λv z=>by cases z⟩
  ·rw [mem_singleton.mp J];exact ⟨o,ho,λv z=>by rw [d] at z;cases z⟩
 keep:=λi h h' st kk=>by
  obtain ⟨⟨old,U⟩,j⟩:=st;exact ⟨⟨old,kk e @e _ U⟩,j.at λo z=>kk it @e o z⟩
 item:=by
  intro X hP hw hK hc i pins s σ H E I hf st hg;subst hP hw hK;obtain ⟨⟨old,U⟩,j⟩:=st;obtain ⟨xs,x,hq,hx⟩:=hg;obtain ⟨its,rv,p,hz⟩:=I.tuple hq;have hl:s.heap.IsTuple a its.toArray:=p;obtain ⟨u,hu,ru⟩:=rv.get hx;obtain ⟨oi,G,ci,di⟩:=id j;obtain ⟨ol,av,Z,_⟩:=id hl
  have af:e≠it:=λz=>by have h1:=G.symm.trans (z▸U);cases h1;exact absurd (Value.type.inj ci) @b
  have ai:e≠a:=λz=>by have h1:=av.symm.trans (z▸U);cases h1;exact absurd @bV @b
  have Y:a≠it:=λz=>by rw [z,G] at av;cases av;rw [ci] at Z;exact absurd @bV @b
  have W:=WalksT.enumerateD (uQ (prog:=X.prog) (w:=X.w) (A:=X.A.in1) @bJ it a Y its.toArray) e af (by simp [af,ai]) @e
  have hi:i<its.toArray.size:=by rw [size_toArray];exact (List.getElem?_eq_some_iff.mp hu).1
  rwa[W.item i s _ _ hi ⟨⟨old,U⟩,j,hl⟩ λT an h' tk hP hT aa R hk=>⟨.ref T,rfl,?_⟩];rwa[W.go O k pos i T _ _ _ R λh2 S ae=> ?_];obtain ⟨t,u',aF,rfl⟩:=hP
  have aF:its[i]? =some u':=by simpa using aF
  rw [hu] at aF;cases aF;have ac:T∉[e,it]:=W.apart i T h' R;have kk:∀b o,b∉[e,it]->s.heap.get? b=some o->h2.get? b=some o:=λb o nb z=>ae b o nb (hk b o nb z)
  have ad:IsTup h2 T (#[.int i t,u]:Array Value):=by
   obtain ⟨o,ho,c,r⟩:=aa;exact ⟨o,ae T o ac ho,c,r⟩
  have ah:bp X.prog X.w (upd H T (.tup [.int i,x])) h2 T (.tup [.int i,x]):=⟨by show 2<=sizeLine;decide,[.int i t,u],.cons ⟨t,rfl⟩ (.cons ru .nil),ad⟩;rwa[⟨.ref T,upd H T (.tup [.int i,x]),I.turnLaid (t':=tk) hf kk hT ah,rfl,⟨T,x,rfl,I.hok.fresh hT,rfl,λys hy=>by rw [I.tuple_inj hy hq];exact hx⟩,⟨S.1,S.2.1⟩,λb J=> ?_⟩];have ne:b≠T:=λz=>ac (by rw [<-z];exact J);rw [aj ne];exact (hf b J).1
 done:=by
  intro X hP hw hK hc i pins s σ H E I hf st hg;subst hP hw hK;obtain ⟨⟨old,U⟩,j⟩:=st;obtain ⟨xs,hq,hx⟩:=hg;obtain ⟨its,rv,p,hz⟩:=I.tuple hq;have hl:s.heap.IsTuple a its.toArray:=p;have am:=rv.length;obtain ⟨oi,G,ci,di⟩:=id j;obtain ⟨ol,av,Z,_⟩:=id hl
  have Y:a≠it:=λz=>by rw [z,G] at av;cases av;rw [ci] at Z;exact absurd @bV @b
  have D:=uQ (prog:=X.prog) (w:=X.w) (A:=X.A.in1) @bJ it a Y its.toArray;have hT:s.TypeIs (.ref e) "enumerate":=⟨_,U,rfl⟩;obtain ⟨f0,f1,f2,f3,f4,f5⟩:=hf it @e;unfold pyNext;rwa[wpAny_bind (wpAny_attempt (wpAny_callSpecial?_slot (name:=Str.ofString "__next__") hT F.slot_enumerate_next (wpAny_call_entry F.slot_enumerate_next hT F.entry_enumerate_next ?_ (F.args_enumerate_next_1 _))))];show wpAny _ _ (field (.ref e) 2>>=_) _ _ _;rwa[wpAny_bind (wpAny_field U rfl (x:= .ref it) rfl ?_)];rwa[wpAny_bind (iO @bJ j hl (by simp;lia) λh' x ak al=> ?_)];obtain ⟨o,ho,ag⟩:=al;rwa[wpAny_bind (wpAny_isInstance (T:="StopIteration") (b:=true) ⟨o,ho,ag⟩ isSubtype_stop ?_)];exact wpAny_pure ⟨rfl,I.turned (t':=s.toks) (λb o J e=>ak b o J e) f0 f1 f3 f4 f5⟩
 self:=λ_ _ _ _ _ st h=>let ⟨⟨old,U⟩,_⟩:=st;wpAny_pyIter_enum U h
theorem HV {K:Fg}{a:Addr}{xs:List V}{pk:List @x}{g:TG}{tt:TT}{te:TE}{σ:St}{H:Hp}{Q:VK}(j:Nat->List V->Hp->Prop)(U:xs.length<=sizeLine)(G:∀i ys H,j i ys H->ys.length<=i)(O:j 0 [] H)(I:∀i ys H,i<=xs.length->j i ys H->aE K H a xs)
(hs:∀(i:Nat) x ys H T H',xs[i]? =some x->j i ys H->ak H H'->H' T=some (.tup [.int i,x])->g (.ref T) @z H' λσ2 H2=>pA @z σ2/\tt σ2 H2 λb H3=>if b=true then te σ2 H3 λv H4=>j (i+1) (ys++[v]) H4 else j (i+1) ys H3)
(S:∀ys H,j @eu ys H->∀p,H p=none->Q (.ref p) @F):
 pq (TW K a) pk g tt te σ H Q:=by
 rwa[⟨λi m ys H=>m=xs.length - i/\i<=xs.length/\j i ys H,⟨xs.length,by simp,Nat.zero_le _,O⟩,?_⟩];rintro i m ys H ⟨rfl,hi,p⟩;have W:=G _ _ _ p;by_cases F:i<xs.length
 ·rwa[.inr ⟨⟨xs,xs[i],I i ys H hi p,by simp [F]⟩,by lia,j (i+1),λzs H' J=>⟨xs.length - (i+1),by lia,rfl,F,J⟩,λx H' y=> ?_⟩];obtain ⟨T,z,rfl,R,rfl,y⟩:=y;exact hs i z ys _ T _ (y xs (I i ys _ hi p)) p (.upd R) af
 ·have e:i=xs.length:=by lia
  subst e;exact .inl ⟨⟨xs,I _ ys H @f p,Nat.le_refl _⟩,by lia,S ys H p⟩
def Ts (K:Fg)(p:Addr)(H:Hp)(R:It->Hp->Prop):Prop:=(∃xs,aD K H p xs/\R (Si K p) H)\/∃xs,aE K H p xs/\R (TW K p) H
def Ua (K:Fg)(te:TE):TI:=λσ H R=>te σ H λx H1=>match x with| .ref p=>Ts K p H1 R|_=>False
theorem BC {X:Cx}{K:Fg}(hK:X.K=K){j:List Expr}{k:Nat}{tpos p pos:Pos}{e:Expr}{te:TE}(hg:Gl X "enumerate")(W:X.mg "enumerate"=none)(Z:PE X e te)(hs:bw e=true:=by rfl):
 PI X (.Tuple j k tpos) (.Call (.Name "enumerate" p) [e] [] pos) (Ua K te):=by
 subst hK;intro pins s σ H R I h;have st:starEach [e] X.env=[(false,eval e X.env)]:=aU hs;rwa[Call_ (kq I hg W boot_enumerate (PyProof.Rows.callWith_type1 ?_ st (bJ (by rfl))))];rw [st];show wpAny _ _ (spliced ((false,eval e X.env)::backTo pos (starEach [] X.env))) _ _ s;rwa[Calls.spliced_cons (bv (Z pins s σ H _ I h) λu O ⟨x,H1,z,G,U⟩=> ?_)];rwa[Calls.spliced_nil ?_]
 cases x with
 |ref a=>
  have G:u=Value.ref a:=G;subst G
  have fp:∀b∈[O.heap.objs.size+1,O.heap.objs.size],gR X pins H1 b:=λb S=>by
   rcases mem_cons.mp S with rfl|S
   ·exact z.fpOk @bG (z.hok.fresh @bG)
   ·rw [mem_singleton.mp S];exact z.fpOk @f @dR
  rcases U with ⟨xs,J,q⟩|⟨xs,J,q⟩
  ·obtain ⟨its,rv,p,Y⟩:=z.list J;rwa[call_enumerate_list p.isList λh' h1 h2 h3 F=> ?_];exact wpAny_pyIter_enum h1 ⟨_,[O.heap.objs.size+1,O.heap.objs.size],_,_,H1,rfl,z.kept (t':=O.toks) F,EO a _ _,⟨⟨_,h1⟩,h2⟩,fp,q⟩
  ·obtain ⟨its,rv,p,Y⟩:=z.tuple J;rwa[uh (show O.heap.IsTuple a its.toArray from p) λh' h1 h2 h3 F=> ?_];exact wpAny_pyIter_enum h1 ⟨_,[O.heap.objs.size+1,O.heap.objs.size],_,_,H1,rfl,z.kept (t':=O.toks) F,EN a _ _,⟨⟨_,h1⟩,h2⟩,fp,q⟩
 |_=>exact False.elim U
section
variable {X:Cx}{K:Fg}
def SX:List V->Hp->VK->Prop:=λxs H Q=>match xs with|[.int i]=>Q (.int (if i<0 then -i else i)) H|_=>False
theorem P4:bc X (.builtin "abs") SX:=Ig.imp λxs H Q h=>by
 match xs,h with
 |[.int i],h=>exact ⟨i,rfl,h⟩
theorem KW {S:List Int}:∀ {us:List Value},aJ @gf us->IntsAre us S:=by
 induction S with
 |nil=>intro us r;cases r;exact .nil
 |cons a r ih=>
  intro us h
  cases h with
  |cons r1 r2=>
   obtain ⟨t,rfl⟩:=r1;exact .cons _ _ (ih r2)
def TD (K:Fg)(a:Addr)(j:Int)(H:Hp)(Q:VK):Prop:=∃ns:List Int,aD K H a @cl/\Q (.int (ns.count j:Nat)) H
def MQ (K:Fg):V->List V->Hp->VK->Prop:=λx xs H Q=>match x,xs with| .ref a,[.int j]=>TD K a j H Q|_,_=>False
theorem Ja (Z:X.K=K):xg X "list.count" (MQ K):=by
 subst Z;intro pins s σ H x xs v J Q I z F h
 match x,xs,h with
 | .ref a,[.int j],h=>
   obtain ⟨S,R,q⟩:=h;have z:v=Value.ref a:=z;subst z;obtain ⟨u,rfl,t,rfl⟩:=fC F;obtain ⟨its,G,p,O⟩:=I.list R;rwa[count_list_ints p.isList (KW G) ?_];exact ⟨.int (S.count j:Nat),H,I.tok _,⟨_,rfl⟩,q⟩
end
theorem oW.two {X:Cx}{x0 x1:Str}{I J:Addr}{j0 j1:Nat}{cl:List (Str×Addr)}(R:(x0==x1)=false)(Z:X.N[j0]? =some x0)(Y:X.N[j1]? =some x1)(k0:X.env.scope.names.lookup x0=some .cell)(k1:X.env.scope.names.lookup x1=some .cell)
(O:X.env.cells.lookup x0=some I)(W:X.env.cells.lookup x1=some J)(h:cl=[(x0,I),(x1,J)]\/cl=[(x1,J),(x0,I)]):oW X [x0,x1] [j0,j1] cl:=by
 have G:(x1==x0)=false:=by
  cases z:x1==x0 with
  |false=>rfl
  |true=>rw [eq_of_beq z] at R;rw [beq_self_eq_true] at R;cases R
 have S:cl.lookup x0=some I:=by
  rcases h with rfl|rfl
  ·simp [List.lookup]
  ·simp [List.lookup,R]
 have U:cl.lookup x1=some J:=by
  rcases h with rfl|rfl
  ·simp [List.lookup,G]
  ·simp [List.lookup]
 rwa[⟨λi x F=> ?_,λx c e=> ?_⟩]
 ·match i,F with
  |0,F=>cases F;exact ⟨j0,I,rfl,Z,k0,O,S⟩
  |1,F=>cases F;exact ⟨j1,J,rfl,Y,k1,W,U⟩
 ·have F:x=x0\/x=x1:=by
   rcases h with rfl|rfl
   ·cases z:x==x0 with
    |true=>exact .inl (eq_of_beq z)
    |false=>
     cases j:x==x1 with
     |true=>exact .inr (eq_of_beq j)
     |false=>simp [List.lookup,z,j] at e
   ·cases z:x==x0 with
    |true=>exact .inl (eq_of_beq z)
    |false=>
     cases j:x==x1 with
     |true=>exact .inr (eq_of_beq j)
     |false=>simp [List.lookup,z,j] at e
  rcases F with rfl|rfl
  ·rw [S] at e;cases e;exact ⟨by simp,O⟩
  ·rw [U] at e;cases e;exact ⟨by simp,W⟩
theorem yO {P:Program}{w:World}{K:Frag}{mg:Str->Option Value}{base:Heap}{k:Nat}{f c:Addr}{x:Str}{st:Stmt}{z Y I Z R:Value}{J od:Option Addr}{ad:Array @E}{N ps:List Str}{sp:Sp}
(G:K.lookup f=some ⟨R,od,.func (fnOf x x @dZ @cO @bX .none z Y I J (.ref c) Z),ad⟩)(j:codeIn K (.ref c) x=true)(S:ai N ps @bX)(aa:∀vs H Q E,sp vs H Q E->vs.length=ps.length)
(F:∀(A:Around) (outer:List Env) (s:Shared) (H:Hp) (vs:List V) (Q:VK) (E:XK),bx k (A.deeper (envOfC x @bX s.heap.objs.size f (.ref c)))->sp vs H Q E->
   ∃t,sE (io bb P w K mg base N x @bX f (.ref c) A outer s H E).nox @cO t/\t {nx:=λ_ H'=>Q .non H',rt:=Q} @bj H):av P w K mg base bb (k+1) f (fnOf x x @dZ @cO @bX .none z Y I J (.ref c) Z) ps sp:=by
 rwa[HE G j S aa λA outer s H vs Q E W O=> ?_];obtain ⟨t,h,q⟩:=F A outer s H vs Q E W O;exact ⟨t,h.nox,q⟩
theorem HF {CX:ml}{P:Program}{w:World}{K:Frag}{mg:Str->Option Value}{base:Heap}{f:Addr}{fd:FuncData}{ps:List Str}:av P w K mg base CX 1 f fd ps (λ_ _ _ _=>False):=⟨λ_ _ _ _ h=>h.elim,λ_ _ _ _ _ _ _ _ _ _ _ _ _ h=>h.elim⟩
theorem iW:∀(r:List (Str×NameKind)) (n:Nat) (acc:List (Str×Addr)),(∀y∈r,y.2≠ .cell)->cellsFrom n r acc=acc
 |[],_,_,_=>rfl
 |(x,k)::r,n,acc,h=>by
  unfold cellsFrom;rw [if_neg (λz=>h (x,k) mem_cons_self (by simpa using z))];exact iW r n acc λy S=>h y (mem_cons_of_mem _ S)
theorem iL:∀(r:List (Str×NameKind)) (h:Heap),(∀y∈r,y.2≠ .cell)->pushCells h r=h
 |[],_,_=>rfl
 |(x,k)::r,h,hr=>by
  unfold pushCells;rw [if_neg (λz=>hr (x,k) mem_cons_self (by simpa using z))];exact iL r h λy S=>hr y (mem_cons_of_mem _ S)
theorem AV {M:Model}{A:Around}{E:Value->Shared->Prop}{s:Shared}{scope:Scope}{z:Addr}{cl:List (Str×Addr)}{x:Str}{u:Value}{r:List (Str×NameKind)}{qual:Str}{F:Option Addr}{G:Value}{j:Addr}{Q:Env->Shared->Prop}
(hk:scope.kind= .function)(O:scope.names=(x,.cell)::r)(W:∀y∈r,y.2≠ .cell)
(h:∀h₁,h₁.Ns s.heap.objs.size @ge->h₁.IsCell (s.heap.objs.size+1) @cA->(∀b o,s.heap.get? b=some o->h₁.get? b=some o)->
   Q (newEnv scope s.heap.objs.size z ((x,s.heap.objs.size+1)::cl) qual F G none j) {s with heap:=h₁}):
 wpAny M A (newFunctionEnv scope z cl [(x,u)] qual F G none j) Q E s:=by
 simp only [newFunctionEnv,Option.isSome_none,Bool.false_eq_true,if_false];rwa[wpAny_bind (wpAny_alloc ?_)];rwa[wpAny_bind (wpAny_layCells _ (λname I J=>by cases R:I==NameKind.cell<;>simp [R]) _ _ _ _ ?_)];have hz:(({s with heap:=s.heap.push {cls:= .type "frame",data:= .dict #[]}}:Shared)).heap.objs.size=s.heap.objs.size+1:=Heap.size_push ..;rw [hz]
 have Y:cellsFrom (s.heap.objs.size+1) scope.names cl=(x,s.heap.objs.size+1)::cl:=by
  rw [O];show cellsFrom (s.heap.objs.size+1+1) r ((x,s.heap.objs.size+1)::cl)=_;exact iW r _ _ W
 have e2:pushCells (s.heap.push {cls:= .type "frame",data:= .dict #[]}) scope.names=(s.heap.push {cls:= .type "frame",data:= .dict #[]}).push {cls:= .type "cell",data:= .cell none}:=by
  rw [O];show pushCells ((s.heap.push {cls:= .type "frame",data:= .dict #[]}).push {cls:= .type "cell",data:= .cell none}) r=_;exact iL r _ W
 rw [Y];show wpAny M A _ Q E {s with heap:=pushCells (s.heap.push {cls:= .type "frame",data:= .dict #[]}) scope.names};rw [e2]
 have hl:(newEnv scope s.heap.objs.size z ((x,s.heap.objs.size+1)::cl) qual F G none j).kindOf x=some .cell:=by
  show scope.names.lookup x=_;rw [O];simp [List.lookup]
 have Z:(newEnv scope s.heap.objs.size z ((x,s.heap.objs.size+1)::cl) qual F G none j).cells.lookup x=some (s.heap.objs.size+1):=by
  show ((x,s.heap.objs.size+1)::cl).lookup x=_;simp [List.lookup]
 have hv:((s.heap.push {cls:= .type "frame",data:= .dict #[]}).push {cls:= .type "cell",data:= .cell none}).IsCell (s.heap.objs.size+1) none:=by
  have:=Heap.get?_push_size (s.heap.push {cls:= .type "frame",data:= .dict #[]}) (o:= {cls:= .type "cell",data:= .cell none}) rfl;rw [Heap.size_push] at this;exact ⟨_,this,rfl⟩
 rwa[wpAny_bind ?_];rw [forIn_cons];rwa[wpAny_bind (wpAny_bind (wpAny_storeName_cell (env:=newEnv scope s.heap.objs.size z ((x,s.heap.objs.size+1)::cl) qual F G none j) hk hl Z hv λh' c' S=>wpAny_pure ?_))];dsimp only;rw [forIn_nil];rwa[wpAny_pure @bx];have U:((s.heap.push {cls:= .type "frame",data:= .dict #[]}).push {cls:= .type "cell",data:= .cell none}).Ns s.heap.objs.size @ge:=(Heap.Ns.new s.heap (.type "frame")).keeps λb o e=>Heap.get?_push_of_some _ e;exact h h' (U.sameBut S @eF) c' λb o e=>S.extBut b o (Nat.ne_of_lt (Nat.lt_succ_of_lt @U)) (Heap.get?_push_of_some _ (Heap.get?_push_of_some _ e))
structure oj (x:Str)(fs:List Str)(sc:Scope):Prop where
 kind:sc.kind= .function
 co:sc.isCoroutine=false
 gen:sc.isGenerator=false
 nd:(x::fs).Nodup
 names:∃r,sc.names=(x,.cell)::r/\∀y∈r,y.2≠ .cell
 fre:∀y∈fs,sc.names.lookup y=some .free
 only:∀y∈sc.names,y.2= .free->y.1∈fs
theorem Hi {P:Program}{w:World}{K:Frag}{mg:Str->Option Value}{base:Heap}{k:Nat}{f c':Addr}{name qual:Str}{F:Arguments}{U:Expr}{scope:Scope}{cl:List (Str×Addr)}{pm ctv:Value}{x:Str}{fs:List Str}{A:Around}{outer:List Env}{s:Shared}{H:Hp}{u:Value}{v:V}{fvs:List V}{Q:VK}{E:XK}
(S:oj x fs scope)(hf:s.heap.get? f=some @bf)(am:s.heap.CodeRec (.ref c') qual)(hr:bx (k+1) A)(O:gS P w K mg base A outer s H)
(ad:bindArgs @bB ⟨[u],[]⟩=pure [(x,u)])(r:aA v u)(ao:fvs.length=fs.length)
(j:∀(i:Nat) x v,fs[i]? =some x->fvs[i]? =some v->∃c u,cl.lookup x=some c/\aA v u/\s.heap.IsCell c @cA)(aj:∀x c,cl.lookup x=some c->x∈fs)
(ah:∀x y c,cl.lookup x=some c->cl.lookup y=some c->x=y)(af:∀x c,cl.lookup x=some c->H c=none)
(ac:bx k (A.deeper (envX qual scope s.heap.objs.size f (.ref c') ((x,s.heap.objs.size+1)::cl)))->∃t,PE (Lb P w K mg base (x::fs) qual scope f (.ref c') ((x,s.heap.objs.size+1)::cl) A outer s H) U t/\t ((v::fvs).map some) H Q):
 codeAny @X A (.call (.ref f) ⟨[u],[]⟩) @cm s:=by
 obtain ⟨rr,ae,ak⟩:=S.names;rwa[kla_callFunE hr.depth hf rfl S.co S.gen rfl am ?_];rw [ad];have ap:s.heap.NoLimit:=O.mod.nolimit.keeps λb o e=>(O.bs b o e).1;rwa[wpAny_pure (AV S.kind ae ak λh₁ an ag hk=>⟨ap.keeps hk,?_⟩)];show codeAny _ _ (.expr U (envX qual scope s.heap.objs.size f (.ref c') ((x,s.heap.objs.size+1)::cl))) _ _;obtain ⟨t,ht,hq⟩:=ac @dI
 have G:∀x c,cl.lookup x=some c->∃u,s.heap.IsCell c @cA:=λx c e=>by
  obtain ⟨i,hi⟩:=mem_iff_getElem?.mp (aj x c e);have al:i<fs.length:=(List.getElem?_eq_some_iff.mp hi).1;obtain ⟨c2,u,R,_,hc⟩:=j i x _ hi (getElem?_eq_getElem @c);rw [e] at R;cases R;exact ⟨u,hc⟩
 have W:∀ {c:Addr} {v:Option Value},s.heap.IsCell c v->h₁.IsCell c v:=λ{c v} ⟨o,ho,hd⟩=>⟨o,hk _ _ ho,hd⟩;have aa:∀x,scope.names.lookup x=some .free->x∈fs:=λx e=>S.only _ @dN rfl;have nx:x∉fs:=(nodup_cons.mp S.nd).1
 have lx:scope.names.lookup x=some .cell:=by rw [ae];simp [List.lookup]
 have cx:∀y c,((x,s.heap.objs.size+1)::cl).lookup y=some c->(y=x/\c=s.heap.objs.size+1)\/(y≠x/\cl.lookup y=some c):=λy c e=>by
  rw [lookup_cons] at e
  cases z:y==x with
  |true=>rw [z] at e;cases e;exact .inl ⟨eq_of_beq z,rfl⟩
  |false=>rw [z] at e;exact .inr ⟨λq=>(by rw [q,beq_self_eq_true] at z;cases z),e⟩
 have ai:∀y c,cl.lookup y=some c->c<s.heap.objs.size:=λy c e=>by
  obtain ⟨u,o,ho,_⟩:=G y c e;exact Heap.lt_size ho
 have I:ar (Lb P w K mg base (x::fs) qual scope f (.ref c') ((x,s.heap.objs.size+1)::cl) A outer s H) [] ((v::fvs).map some) H {s with heap:=h₁}:=by
  have Z:∀b:Addr,b∉(Lb P w K mg base (x::fs) qual scope f (.ref c') ((x,s.heap.objs.size+1)::cl) A outer s H).ex:=λb z=>absurd (show b∈([]:List Addr) from z) @e
  refine ⟨⟨O.mod,S.kind,rfl,rfl,Nat.le_refl _,λy z c h1 h2=> ?_,λy Y=> ?_,λy c z _=>(nomatch (show false=true from z)),λ_=>hr.hd,Around.frames_deeper O.frames,.inr ⟨rfl,rfl⟩,λb z=>absurd z (Z b),O.bs,O.bsz,λb _ _=>Z b,λb z=>absurd z (Z b),O.funs,O.frf⟩,
   rfl,O.bare,Un.kept hk,⟨_,an,λi y v' h1 h2 h3=> ?_⟩,λy c h=> ?_,O.hok.fresh @f,λy c h=> ?_,λp hp=>absurd (show p∈([]:List (Addr×Obj)) from hp) @e,O.hok.kept hk,?_⟩
  ·rcases cx y c h1 with ⟨rfl,e1⟩|⟨n1,e1⟩<;>rcases cx z c h2 with ⟨rfl,R⟩|⟨n2,R⟩
   ·rfl
   ·exact absurd (ai _ _ R) (by rw [e1];exact Nat.not_lt.mpr @bG)
   ·exact absurd (ai _ _ e1) (by rw [R];exact Nat.not_lt.mpr @bG)
   ·exact ah y z c e1 R
  ·have Y:scope.names.lookup y=some .cell\/scope.names.lookup y=some .free:=Y;show ∃c,((x,s.heap.objs.size+1)::cl).lookup y=some c;by_cases z:y=x
   ·exact ⟨s.heap.objs.size+1,by rw [z];simp [List.lookup]⟩
   have zb:(y==x)=false:=by simpa using z
   rw [lookup_cons,zb]
   rcases Y with Y|Y
   ·rw [ae,lookup_cons,zb] at Y;exact absurd rfl (ak _ (PySem.mem_of_lookup Y))
   ·obtain ⟨i,hi⟩:=mem_iff_getElem?.mp (aa y Y);have al:i<fs.length:=(List.getElem?_eq_some_iff.mp hi).1;obtain ⟨c2,u,R,_⟩:=j i y _ hi (getElem?_eq_getElem @c);exact ⟨c2,R⟩
  ·have h1:(x::fs)[i]? =some y:=h1;rw [getElem?_map] at h2;obtain ⟨v2,hv,e⟩:=Option.map_eq_some_iff.mp h2;cases e
   cases i with
   |zero=>
    cases h1;cases hv;rwa[⟨u,r,.inr ⟨.inl lx,s.heap.objs.size+1,?_,ag⟩⟩];exact lookup_cons_self ..
   |succ i=>
    have h1:fs[i]? =some y:=h1;have hv:fvs[i]? =some v':=hv;obtain ⟨c,u2,R,rv,hc⟩:=j i y _ h1 hv
    have yx:(y==x)=false:=by
     cases z:y==x with
     |false=>rfl
     |true=>rw [eq_of_beq z] at h1;exact absurd (mem_of_getElem? h1) nx
    rwa[⟨u2,rv,.inr ⟨.inr (S.fre y (mem_of_getElem? h1)),c,?_,W hc⟩⟩];show ((x,s.heap.objs.size+1)::cl).lookup y=_;rw [lookup_cons,yx];exact R
  ·rcases cx y c h with ⟨rfl,rfl⟩|⟨_,e⟩
   ·exact ⟨_,ag⟩
   ·obtain ⟨u,hc⟩:=G y c e;exact ⟨_,W hc⟩
  ·rcases cx y c h with ⟨rfl,rfl⟩|⟨_,e⟩
   ·exact O.hok.fresh @bG
   ·exact af y c e
  ·show _=(x::fs).length;rw [length_map,length_cons,length_cons,ao]
 rwa[kla_codeExpr (wpAny_mono (ht [] _ _ H Q I hq) (λu s' hs=> ?_) λe s' hs=>False.elim hs)];obtain ⟨v,H',J,rv,q⟩:=hs;exact ⟨v,H',J.os,J.bare,J.base,J.hok,rv,q⟩
theorem Hj {P:Program}{w:World}{K:Frag}{mg:Str->Option Value}{base:Heap}{k:Nat}{f c':Addr}{name qual:Str}{j:Arguments}{U:Expr}{scope:Scope}{cl:List (Str×Addr)}{pm ctv:Value}{x:Str}{fs:List Str}{fvs:List V}{sp:List V->Hp->VK->Prop}
(S:oj x fs scope)(ad:∀u:Value,bindArgs (kla_fn name qual j U scope cl pm (.ref c') ctv) ⟨[u],[]⟩=pure [(x,u)])(aj:fvs.length=fs.length)
(ag:∀x c,cl.lookup x=some c->x∈fs)(af:∀x y c,cl.lookup x=some c->cl.lookup y=some c->x=y)
(J:∀(cs:List Addr) (vs:List V) (H:Hp) (Q:VK),(∀c∈cs,∃φ,H c=some (.ext φ))->sp vs H Q->sp vs @fX (λv H2=>(∀c∈cs,H2 c=none)->Q v @df))
(I:∀(A:Around) (outer:List Env) (s:Shared) (H:Hp) (v:V) (Q:VK),bx k (A.deeper (envX qual scope s.heap.objs.size f (.ref c') ((x,s.heap.objs.size+1)::cl)))->sp [v] H Q->∃t,PE (Lb P w K mg base (x::fs) qual scope f (.ref c') ((x,s.heap.objs.size+1)::cl) A outer s H) U t/\t ((v::fvs).map some) H Q):
 ip P w K mg base (k+1) f (LQ P w f c' @bP qual cl fs fvs 1 sp):=by
 rwa[⟨λA outer s H us vs Q E hr Y r ⟨hf,O,Z,hl,ac⟩=> ?_,λvs H Q E h ⟨hf,_⟩ ah _=> ?_⟩]
 ·have W:∀x c,cl.lookup x=some c->∃v,H c=some @gh:=λx c e=>by
   obtain ⟨i,hi⟩:=mem_iff_getElem?.mp (ag x c e);have ak:i<fs.length:=(List.getElem?_eq_some_iff.mp hi).1;obtain ⟨c2,e2,h2⟩:=Z i x _ hi (getElem?_eq_getElem @c);rw [e] at e2;cases e2;exact ⟨_,h2⟩
  let cs:List Addr:=fs.filterMap λx=>cl.lookup x
  have F:∀c,c∈cs↔∃x,cl.lookup x=some c:=λc=>by
   constructor
   ·intro z;obtain ⟨x,_,e⟩:=mem_filterMap.mp z;exact ⟨x,e⟩
   ·rintro ⟨x,e⟩;exact mem_filterMap.mpr ⟨x,ag x c e,e⟩
  have G:∀c∈cs,∃φ,H c=some (.ext φ):=λc hc=>by
   obtain ⟨x,e⟩:=(F c).mp hc;obtain ⟨v,h⟩:=W x c e;exact ⟨_,h⟩
  have ae:s.heap.get? f=some @bP:=(Y.hok f _ hf).1;have ai:s.heap.CodeRec (.ref c') qual:=(Y.hok c' _ O).1
  match vs,hl with
  |[v],_=>
   cases r with
   |cons rv rn=>
   cases rn;rwa[codeAny_mono (Hi (Q:=λv H2=>(∀c∈cs,H2 c=none)->Q v @df) (E:=E) (fvs:=fvs) S ae ai hr (Y.hid G) (ad _) rv aj (λi x v h1 h2=> ?_) ag af (λx c e=> ?_) (λaa=>I A outer s _ v _ aa (J cs [v] H Q G ac))) λrr s' R=> ?_]
   ·obtain ⟨c,e,h⟩:=Z i x v h1 h2;obtain ⟨u,rv,hc⟩:=(Y.hok c _ h).1;exact ⟨c,u,e,rv,hc⟩
   ·unfold hid;rw [if_pos ((F c).mpr ⟨x,e⟩)]
   ·cases rr with
    |error e=>exact False.elim R
    |ok fl=>
     cases fl with
     |ret u=>exact CE.unhid Y G R
     |next=>exact False.elim R
     |brk=>exact False.elim R
     |cont=>exact False.elim R
 ·have e:h.get? f=some @bP:=(ah f _ hf).1;exact ⟨.frame,.inl rfl,(Looks.ld (part:=none) e).andThen .now⟩
theorem Lh {P:Program}{w:World}{H:Hp}{h:Heap}{I J:Addr}{R G:V}{u0 Y:Value}(ag:fh P w H h)(O:H I=none)(n1:H J=none)(W:aA R u0)(S:aA G Y)(U:h.IsCell I (some u0))(i1:h.IsCell J (some Y)):
 fh P w (upd (upd H I (kF I R)) J (kF J G)) h:=by
 have Z:∀ {H:Hp} {c:Addr} {v:V} {u:Value},fh P w H h->H c=none->aA v u->h.IsCell c @cA->fh P w (upd H c @gh) h:=λ{H c v u} ag n r i b o z=>by
  have F:ak H (upd H c @gh):= .upd n;by_cases j:b=c
  ·rw [j,af] at z;cases z;rw [j];exact Cr r i
  ·rw [aj j] at z;exact (ag b o z).stay @cP (λd q=>F _ _ q) λd xs q=>F _ _ q
 by_cases e:J=I
 ·have k:=Z ag O W U;intro b o z;by_cases j:b=J
  ·rw [j,af] at z;cases z;rw [j];exact Cr S i1
  ·rw [aj j] at z;rw [aj (by rw [<-e];exact j)] at z
   have F:ak H (upd (upd H I (kF I R)) J (kF J G)):=λb o z=>by
    rw [aj (λq=>by rw [q,n1] at z;cases z),aj (λq=>by rw [q,O] at z;cases z)];exact z
   exact (ag b o z).stay @cP (λd q=>F _ _ q) λd xs q=>F _ _ q
 ·exact Z (Z ag O W U) (by rw [aj e];exact n1) S i1
theorem O3 {P:Program}{w:World}{K:Frag}{mg:Str->Option Value}{base:Heap}{k:Nat}{f c P':Addr}{name qual x0 x1:Str}{j0 j1:Nat}{F lp:Arguments}{lb:Expr}{lsc scope:Scope}{R O:Pos}{st:Stmt}{dV kV ao pm ct oc:Value}{an od:Option Addr}
{ax:Array @E}{N ps:List Str}{sp:Sp}{CX:ml}{cl:Addr->List (Str×Addr)}{d0 d1:Nat}(lk:K.lookup f=some ⟨oc,od,.func (fnOf name qual F [st,.Return (some (.Lambda lp lb lsc R)) O] scope dV kV ao pm an (.ref c) ct),ax⟩)(as:codeIn K (.ref c) qual=true)(S:ai N ps scope)
(C:CodeHd base c P')(hB:ij base mg)(al:∀env,defaultsOf lp env=([],[]))(aw:∀L,closureFor lsc (envOfC qual scope L f (.ref c))=pure (cl L))
(n0:N[j0]? =some x0)(n1:N[j1]? =some x1)(k0:scope.names.lookup x0=some .cell)(k1:scope.names.lookup x1=some .cell)
(e0:∀L,(cellsFrom (L+1) scope.names []).lookup x0=some (L+1+d0))(e1:∀L,(cellsFrom (L+1) scope.names []).lookup x1=some (L+1+d1))(aD:d0≠d1)(ap:∀vs H Q E,sp vs H Q E->vs.length=ps.length)
(W:∀(A:Around) (outer:List Env) (s:Shared) (H:Hp) (vs:List V) (Q:VK) (E:XK),bx k (A.deeper (envOfC qual scope s.heap.objs.size f (.ref c)))->sp vs H Q E->
   ∃t,PS (io CX P w K mg base N qual scope f (.ref c) A outer s H E) st t/\t {nx:=λσ H1=>∃v0 v1,σ[j0]? =some (some v0)/\σ[j1]? =some (some v1)/\cf H1 P' (qual++".<locals>."++"<lambda>")/\∀f' c' ctv L H',eJ P' H1 H'->H1 f'=none->H' f'=some (sG f' (kla_obj "<lambda>" (qual++".<locals>."++"<lambda>") lp lb lsc (cl L) ((mg "__name__").getD .none) c' ctv))->H' c'=some (sL c' (qual++".<locals>."++"<lambda>"))->H' (L+1+d0)=some (kF (L+1+d0) v0)->H' (L+1+d1)=some (kF (L+1+d1) v1)->cf H' P' (qual++".<locals>."++"<lambda>")->Q (.ref f') H',rt:=λ_ _=>False} @bj H):
 av P w K mg base CX (k+1) f (fnOf name qual F [st,.Return (some (.Lambda lp lb lsc R)) O] scope dV kV ao pm an (.ref c) ct) ps sp:=by
 rwa[⟨ap,λA outer s H aC us vs Q E hr G hb r ah=> ?_⟩];have hl:=ap _ _ _ _ ah;have KX:K.In s.heap:=G.mod.kin.keeps λb o e=>(G.bs b o e).1;have az:s.heap.NoLimit:=G.mod.nolimit.keeps λb o e=>(G.bs b o e).1
 have U:∀y∈ps.zip us,scope.names.lookup y.1=some .local\/(scope.names.lookup y.1=some .cell/\((cellsFrom (s.heap.objs.size+1) scope.names []).lookup y.1).isSome=true):=λ⟨n,v⟩ hy=>by
  rcases S.par n (of_mem_zip hy).1 with q|q
  ·exact .inl q
  ·exact .inr ⟨q,cellsFrom_some _ _ _ (.inl q)⟩
 rwa[codeAny_call_function hr.depth @gH rfl S.co S.gen rfl (codeRec_of KX as) @fu];rwa[wpAny_newFunctionEnv_cells S.kind U λenv he s1 ad=> ?_];subst he;rwa[⟨az.keeps ad.toInCall.keep,codeAny_func ?_⟩];obtain ⟨t,ht,hq⟩:=W A outer s H vs Q E @dI ah;have I:ar (io CX P w K mg base N qual scope f (.ref c) A outer s H E) [] @bj H s1:=nu S hr.hd G hl r ad;rwa[wpAny_mono (Q:=λfl s'=>∃u,fl= .ret u/\CE outer P w H s Q u s') ?_ @en λe s' hs=>hs]
 ·rwa[wpAny_execs_cons (bv (ht [] s1 _ H _ I hq) λfl s2 hs=> ?_)]
  cases fl with
  |ret u=>
   obtain ⟨_,_,_,_,_,q⟩:=hs;exact False.elim q
  |brk=>
   obtain ⟨_,_,_,q⟩:=hs;exact False.elim q
  |cont=>
   obtain ⟨_,_,_,q⟩:=hs;exact False.elim q
  |next=>
   obtain ⟨σ,H1,I1,v0,v1,aB,au,hT,hq⟩:=hs;rwa[wpAny_execs_cons (wpAny_Return_some (bv (AI (X:=io CX P w K mg base N qual scope f (.ref c) A outer s H E) (clos:=cl s.heap.objs.size) rfl C hB (al _) (aw _) [] s2 σ H1 (λv' H'=>∃f' c' ctv,v'= .ref f'/\eJ P' H1 H'/\H1 f'=none/\H' f'=some (sG f' (kla_obj "<lambda>" (qual++".<locals>."++"<lambda>") lp lb lsc (cl s.heap.objs.size) ((mg "__name__").getD .none) c' ctv))/\H' c'=some (sL c' (qual++".<locals>."++"<lambda>"))/\cf H' P' (qual++".<locals>."++"<lambda>")) I1 ⟨hT,λf' c' ctv H' a b d e g=>⟨f',c',ctv,rfl,a,b,d,e,g⟩⟩) λu s' ⟨v',H',J,rv,f',c',ctv,ev,a,b,d,e,g⟩=> ?_))];subst ev;have rv:u=Value.ref f':=rv;subst rv;rwa[⟨_,rfl,?_⟩];obtain ⟨m,hn,ac⟩:=J.loc
   have ag:∀ {j:Nat} {x:Str} {v:V} {d:Nat},N[j]? =some x->σ[j]? =some @bD->scope.names.lookup x=some .cell->(cellsFrom (s.heap.objs.size+1) scope.names []).lookup x=some (s.heap.objs.size+1+d)->∃u,aA v u/\s'.heap.IsCell (s.heap.objs.size+1+d) @cA:=λ{j x v d} hN hσ hk he=>by
    obtain ⟨u0,ay,ae⟩:=ac j x v hN hσ (.inr (.inl hk))
    rcases ae with ⟨z,_⟩|⟨_,c2,e2,hc⟩
    ·have z:scope.names.lookup x=some .local:=z;rw [hk] at z;cases z
    ·have e2:(cellsFrom (s.heap.objs.size+1) scope.names []).lookup x=some c2:=e2;rw [he] at e2;cases e2;exact ⟨u0,ay,hc⟩
   obtain ⟨u0,r0,i0⟩:=ag n0 aB k0 (e0 _);obtain ⟨u1,r1,i1⟩:=ag n1 au k1 (e1 _);have aq:H' (s.heap.objs.size+1+d0)=none:=J.freeC x0 _ (e0 _);have aa:H' (s.heap.objs.size+1+d1)=none:=J.freeC x1 _ (e1 _)
   have dd:s.heap.objs.size+1+d1≠s.heap.objs.size+1+d0:=by lia
   generalize am:upd (upd H' (s.heap.objs.size+1+d0) (kF (s.heap.objs.size+1+d0) v0)) (s.heap.objs.size+1+d1) (kF (s.heap.objs.size+1+d1) v1)=H2
   have Y:ak H' H2:=by
    rw [<-am]
    exact λb o z=>by rw [aj (λq=>by rw [q,aa] at z;cases z),aj (λq=>by rw [q,aq] at z;cases z)];exact z
   have Z:=J.base
   have fr:∀ {b:Addr} {o:Obj},s.heap.get? b=some o->H' b=none->H2 b=none:=λ{b o} e n=>by
    have l:=Heap.lt_size e;have nn:∀d:Nat,b≠s.heap.objs.size+1+d:=λd=>Nat.ne_of_lt (Nat.lt_of_lt_of_le l @c);rw [<-am,aj (nn _),aj (nn _)];exact n
   rwa[⟨.ref f',H2,J.os,J.bare,⟨Z.keep,Z.slot,λb o e n hx=>fr e (Z.free b o e n hx),Z.there,λb xs e=>Y _ _ (Z.tups b xs e),λb o xs e=>Y _ _ (Z.frzs b o xs e),λb ps e=>let ⟨more,z⟩:=Z.tbls b ps e;⟨more,Y _ _ z⟩⟩,by rw [<-am];exact Lh J.hok aq aa r0 r1 i0 i1,rfl,hq f' c' ctv s.heap.objs.size _ (λb o n e=>Y _ _ (a b o n e)) b (Y _ _ d) (Y _ _ e) ?_ ?_ (g.same Y)⟩]
   ·rw [<-am,aj (λz=>dd z.symm)];exact af
   ·rw [<-am];exact af
 ·obtain ⟨u,rfl,h⟩:=hs;exact h
def Nf (EX:XK)(pk:List @x)(wi:TI)(g:TG)(tt:TT)(te:XK->TE):TE:=λσ H Q=>wi σ H λJ H1=>Cp EX J pk g tt te σ H1 Q
section
variable {X:Cx}{scope:Scope}{N':List Str}{pk:List @x}{tg elt iter:Expr}{ifs:List Expr}{pos:Pos}{wi:TI}{g:TG}{tt:TT}{te:XK->TE}{EX:XK}{L:Addr}
theorem Gg (fl:Fl X EX)(ac:X.stack=X.env::X.outer)(ad:X.env.frame=some L)(hc:X.calm=true)(S:bO X scope N' pk)(hi:PI X tg iter wi)(hg:∀C s H ex,PG @i tg g)
(ht:∀C s H ex,Ea @i ifs tt)(he:∀C s H ex,PX @i elt te)(hs:nj iter=true:=by rfl):PE X (.ListComp elt [⟨tg,iter,ifs,0⟩] scope pos) (Nf EX pk wi g tt te):=by
 intro pins s σ H Q I h;rw [eval_ListComp];rwa[pj (use:=none) rfl @gJ (fQ λn Z=>I.ok.has n (S.free n Z)) S.kind S.loc ?_];rwa[bv ((hi.toA hc) pins s σ H _ I h) λv s1 h1=>bv h1 λaj s2 h2=> ?_];obtain ⟨it,fp,tn,J,H2,e,I2,T,ag,f2,hW⟩:=h2;subst e;rwa[y0 (EX:=EX) (Q:=Q) (R:=λah C=>uT @d X.A X.xe none @w ah C) S hg ht he ac ad I2 T ag f2 hW ?_ ?_]
 ·intro C D s' ys H' Z q hv _ _;obtain ⟨m,hm⟩:=Z;exact ⟨m,hm,λh' G=>⟨.ref D,_,hv h' G,rfl,q⟩⟩
 ·intro C D a T' Y dd oC s' ys H' Z J' na nT xa nC hE;obtain ⟨m,hm⟩:=Z;rwa[⟨m,hm,λh' G F ai aa=> ?_⟩];have G:Heap.SameBut C s'.heap h':=G;have U:F.frame=some L:=aa.trans ad;have aC:a≠C:=λz=>na.2.2.2.2.2 (C,oC) @t z.symm;have TC:T'≠C:=λz=>nT.2.2.2.2.2 (C,oC) @t z.symm;have J1:ar X pins σ @A s':=J'.pins_of λp O=>J'.pin p (mem_append_right _ (.tail _ O));have J2:ar X pins σ @A {s' with heap:=h'}:=J1.pass (ch:=[C]) ⟨λb o hb _ e=>(G.2 b (λz=>hb (by simp [z]))).trans e,λb o hb e=>⟨o.slots,(G.2 b (λz=>hb (by simp [z]))).trans e⟩⟩ (by simpa using nC);obtain ⟨oe,vs,oT,ts,g1,g2,g3,g4,g5,af,g6,g7,g8,g9⟩:=xa.ex;have ae:Eh h' a T' Y dd @eT:=⟨oe,vs,oT,ts,(G.2 a aC).trans g1,g2,g3,g4,g5,af,g6,(G.2 T' TC).trans g7,g8,g9⟩
  have j:∀ {b},Nw X ((C,oC)::pins) @A b->Nw X pins @A b:=λW=>⟨W.1,W.2.1,W.2.2.1,W.2.2.2.1,W.2.2.2.2.1,λp O=>W.2.2.2.2.2 p (by
   rcases mem_append.mp O with O|O
   ·exact mem_append_left _ O
   ·exact mem_append_right _ (.tail _ O))⟩
  unfold PySem.passOn;rwa[wpAny_bind (wpAny_field ((G.2 a aC).trans g1) g4 g5 ?_)];rw [if_neg @e];rwa[wpAny_bind (kz (s:= {s' with heap:=h'}) ae λh3 p x3=> ?_)];rw [U] at x3;have J3:=J2.pass (p.more λ_ z=>nomatch z) (by simpa using j nT);exact wpAny_throw (fl pins σ _ _ a Y dd J3 ⟨j na,.inr ⟨T',_,x3,j nT,.inr ⟨L,ad,rfl⟩⟩⟩ hE)
end
theorem iM {X:Cx}{s:Stmt}:PS X s @eK:=λ_ _ _ _ _ _ h=>h.elim
theorem HD {K:Fg}{a:Addr}{xs:List V}{g:TG}{tb:TS}{D:jD}{σ:St}{H:Hp}(j:Nat->St->Hp->Prop)(J:j 0 σ H)(G:∀i σ H,i<=xs.length->j i σ H->aD K H a xs)
(hs:∀(i:Nat) x σ H T H',xs[i]? =some x->j i σ H->ak H H'->H' T=some (.tup [.int i,x])->g (.ref T) σ H' λσ2 H2=>tb {D with nx:=j (i+1),ct:=j (i+1),bk:=D.nx} σ2 H2)(R:∀σ H,j xs.length σ H->D.nx σ H):yN (Si K a) g tb D σ H:=by
 rwa[⟨λi m σ H=>m=xs.length - i/\i<=xs.length/\j i σ H,⟨xs.length,by simp,Nat.zero_le _,J⟩,?_⟩];rintro i m σ H ⟨rfl,hi,p⟩;by_cases F:i<xs.length
 ·rwa[.inr ⟨⟨xs,xs[i],G i σ H hi p,by simp [F]⟩,j (i+1),λS H' I=>⟨xs.length - (i+1),by lia,rfl,F,I⟩,λx H' y=> ?_⟩];obtain ⟨T,z,rfl,O,rfl,y⟩:=y;exact hs i z σ _ T _ (y xs (G i σ _ hi p)) p (.upd O) af
 ·have e:i=xs.length:=by lia
  subst e;exact .inl ⟨⟨xs,G _ σ H @f p,Nat.le_refl _⟩,R σ H p⟩
section
variable {κ:Type}[DecidableEq κ]
noncomputable def fL (kvs:List (κ×V))(k:κ):Option V:=(kvs.find? λkv=>decide (kv.1=k)).map (·.2)
noncomputable def fX (kvs:List (κ×V))(k:κ)(v:V):List (κ×V):=
 if (kvs.any λkv=>decide (kv.1=k))=true then kvs.map (λkv=>if kv.1=k then (kv.1,v) else kv) else kvs++[(k,v)]
theorem cF {p:κ×V}{r:List (κ×V)}{k:κ}(e:p.1=k):fL (p::r) k=some p.2:=by simp [fL,find?_cons,e]
theorem cG {p:κ×V}{r:List (κ×V)}{k:κ}(e: ¬p.1=k):fL (p::r) k=fL r k:=by simp [fL,find?_cons,e]
theorem kK (k:κ):∀kvs:List (κ×V),(kvs.any λkv=>decide (kv.1=k))=(fL kvs k).isSome
 |[]=>rfl
 |p::r=>by
  rw [any_cons];by_cases e:p.1=k
  ·simp only [cF e,decide_eq_true e,Bool.true_or,Option.isSome_some]
  ·rw [cG e,decide_eq_false e,Bool.false_or];exact kK k r
theorem xL (k j:κ)(y:V):∀kvs:List (κ×V),fL (kvs.map λkv=>if kv.1=k then (kv.1,y) else kv) j=(fL kvs j).map λx=>if j=k then y else x
 |[]=>rfl
 |p::r=>by
  have F:=xL k j y r;rw [map_cons];by_cases h:p.1=k
  ·rw [if_pos h];by_cases e:p.1=j
   ·rw [cF (p:=(p.1,y)) e,cF e,Option.map_some,if_pos (e.symm.trans h)]
   ·rw [cG (p:=(p.1,y)) e,cG e,F]
  ·rw [if_neg h];by_cases e:p.1=j
   ·rw [cF (p:=p) e,cF e,Option.map_some,if_neg (λz=>h (e.trans z))]
   ·rw [cG (p:=p) e,cG e,F]
theorem uo (k j:κ)(y:V):∀kvs:List (κ×V),fL kvs k=none->fL (kvs++[(k,y)]) j=if j=k then some y else fL kvs j
 |[],_=>by
  by_cases e:k=j
  ·rw [if_pos e.symm];exact cF (p:=(k,y)) e
  ·rw [if_neg (λz=>e z.symm)];exact cG (p:=(k,y)) e
 |p::r,hn=>by
  rw [cons_append]
  have Y: ¬p.1=k:=λz=>by rw [cF z] at hn;cases hn
  rw [cG Y] at hn;have F:=uo k j y r hn;by_cases e:p.1=j
  ·rw [cF e,cF e,if_neg (λz=>Y (e.trans z))]
  ·rw [cG e,cG e,F]
theorem EK (z:List (κ×V))(k j:κ)(y:V):fL (fX z k y) j=if j=k then some y else fL z j:=by
 unfold fX;by_cases a:(z.any λF=>decide (F.1=k))=true
 ·rw [if_pos a,xL];rw [kK] at a;by_cases e:j=k
  ·obtain ⟨x,G⟩:=Option.isSome_iff_exists.mp a;rw [if_pos e,e,G,Option.map_some,if_pos rfl]
  ·rw [if_neg e]
   cases fL z j with
   |none=>rfl
   |some x=>rw [Option.map_some,if_neg e]
 ·rw [if_neg a];rwa[uo k j y z ?_];rw [kK] at a
  cases q:fL z k with
  |none=>rfl
  |some x=>rw [q] at a;exact (a rfl).elim
theorem dD (j:List (κ×V))(k:κ)(v:V):(fX j k v).length<=j.length+1:=by
 unfold fX;split
 ·rw [length_map];lia
 ·rw [length_append,length_cons,length_nil];lia
theorem md.isSome_eq {o:Option V}{u:Option Value}(r:md o u):o.isSome=u.isSome:=by
 cases o with
 |none=>cases u with
  |none=>rfl
  |some _=>exact (show False from r).elim
 |some _=>cases u with
  |none=>exact (show False from r).elim
  |some _=>rfl
theorem KV.val {j:List (κ×V)}{vs:List (κ×Value)}(r:KV j vs)(k:κ):md (fL j k) (valueAt vs k):=by
 unfold KV at r
 induction r with
 |nil=>exact True.intro
 | @cons p q ps qs h t ih=>
   obtain ⟨h1,h2⟩:=h;by_cases e:p.1=k
   ·have F:q.1=k:=h1.symm.trans e
    have b:valueAt (q::qs) k=some q.2:=by simp [valueAt,find?_cons,F]
    rw [cF e,b];exact h2
   ·have F: ¬q.1=k:=λz=>e @ff
    have b:valueAt (q::qs) k=valueAt qs k:=by simp [valueAt,find?_cons,F]
    rw [cG e,b];exact ih
theorem KV.any {j:List (κ×V)}{vs:List (κ×Value)}(r:KV j vs)(k:κ):(j.any λkv=>decide (kv.1=k))=vs.any λkv=>decide (kv.1=k):=by
 unfold KV at r
 induction r with
 |nil=>rfl
 |cons h t ih=>rw [any_cons,any_cons,ih,h.1]
theorem KV.repl {j:List (κ×V)}{vs:List (κ×Value)}(r:KV j vs)(k:κ){y:V}{u:Value}(O:aA y u):
 KV (j.map λkv=>if kv.1=k then (kv.1,y) else kv) (vs.map λkv=>if kv.1=k then (kv.1,u) else kv):=by
 unfold KV at r ⊢
 induction r with
 |nil=>exact .nil
 | @cons p q ps qs h t ih=>
   rw [map_cons,map_cons];rwa[.cons ?_ ih];obtain ⟨h1,h2⟩:=h;by_cases e:p.1=k
   ·rw [if_pos e,if_pos (h1.symm.trans e)];exact ⟨h1,O⟩
   ·rw [if_neg e,if_neg (λz=>e @ff)];exact ⟨h1,h2⟩
theorem KV.put {j:List (κ×V)}{vs:List (κ×Value)}(r:KV j vs)(k:κ){y:V}{u:Value}(O:aA y u):KV (fX j k y) (stored vs k u):=by
 unfold fX stored;rw [r.any k];by_cases e:(vs.any λF=>decide (F.1=k))=true
 ·rw [if_pos e,if_pos e];exact r.repl k O
 ·rw [if_neg e,if_neg e];exact Paired.snoc r ⟨rfl,O⟩
theorem KV.length {j:List (κ×V)}{vs:List (κ×Value)}(r:KV j vs):j.length=vs.length:=Paired.length r
end
theorem B8 {P:Program}{w:World}{k:dE}{u:Value}(r:aA (kV k) u):(cc P w).is k u=true:=by
 cases k with
 |inl i=>obtain ⟨t,e⟩:=(show ∃t,u=Value.int i t from r);subst e;exact yw P w i t
 |inr x=>obtain ⟨t,e⟩:=(show ∃t,u=Value.str x t from r);subst e;exact yv P w x t
theorem uH {P:Program}{w:World}:∀ {ks:List dE} {us:List Value},aJ @gK us->ItemsAre @dr ks us
 |[],_,r=>by rw [map_nil] at r;cases r;exact .nil
 |k::ks,_,r=>by
  rw [map_cons] at r
  cases r with
  |cons h t=>exact .cons (B8 h) (uH t)
abbrev KT (H:Hp):List (List dE×V)->List (List dE×Addr×Value)->Prop:=Paired λp q=>p.1=q.1/\H q.2.1=some (.tup (p.1.map kV))/\aA p.2 q.2.2
theorem KT.val {H:Hp}{j:List (List dE×V)}{xs:List (List dE×Addr×Value)}(r:KT H j xs)(k:List dE):md (fL j k) ((atKey xs k).map (·.2)):=by
 induction r with
 |nil=>exact True.intro
 | @cons p q ps qs h t ih=>
   obtain ⟨h1,_,h2⟩:=h;by_cases e:p.1=k
   ·have F:q.1=k:=h1.symm.trans e
    have b:atKey (q::qs) k=some q.2:=by simp [atKey,find?_cons,F]
    rw [cF e,b];exact h2
   ·have F: ¬q.1=k:=λz=>e @ff
    have b:atKey (q::qs) k=atKey qs k:=by simp [atKey,find?_cons,F]
    rw [cG e,b];exact ih
theorem KT.repl {H:Hp}{j:List (List dE×V)}{xs:List (List dE×Addr×Value)}(r:KT H j xs)(k:List dE){y:V}{u:Value}(O:aA y u):
 KT H (j.map λkv=>if kv.1=k then (kv.1,y) else kv) (xs.map (PySem.putAt k u)):=by
 induction r with
 |nil=>exact .nil
 | @cons p q ps qs h t ih=>
   rw [map_cons,map_cons];rwa[.cons ?_ ih];obtain ⟨h1,h2,S⟩:=h;unfold PySem.putAt;by_cases e:p.1=k
   ·rw [if_pos e,if_pos (h1.symm.trans e)];exact ⟨h1,h2,O⟩
   ·rw [if_neg e,if_neg (λz=>e @ff)];exact ⟨h1,h2,S⟩
theorem KT.put {H:Hp}{j:List (List dE×V)}{xs:List (List dE×Addr×Value)}(r:KT H j xs)(k:List dE){b:Addr}{y:V}{u:Value}(z:H b=some (.tup (k.map kV)))(O:aA y u):
 KT H (fX j k y) (storedH xs k b u):=by
 have e:(j.any λF=>decide (F.1=k))=(atKey xs k).isSome:=by
  rw [kK,(r.val k).isSome_eq,Option.isSome_map]
 unfold fX storedH;rw [e];by_cases q:(atKey xs k).isSome=true
 ·rw [if_pos q,if_pos q];exact r.repl k O
 ·rw [if_neg q,if_neg q];exact Paired.snoc r ⟨rfl,z,O⟩
theorem KT.keeps {H H':Hp}{j:List (List dE×V)}{xs:List (List dE×Addr×Value)}(r:KT H j xs)(J:∀b ys,H b=some (.tup ys)->H' b=some (.tup ys)):KT H' j xs:=
 Paired.mapP r λ_ _ z=>⟨z.1,J _ _ z.2.1,z.2.2⟩
section
variable {P:Program}{w:World}{H:Hp}{h:Heap}{a:Addr}
theorem LU {u:HO}(W:fh P w H h)(e:Rd H a u):bp P w H h a u:=e.ok W
theorem Ma {j:List (dE×V)}(W:fh P w H h)(e:Rd H a (.dK j)):j.length<=sizeLine/\(a==sysModules)=false/\∃vs,KV j vs/\h.DictOf @dr a vs:=
 show bp P w H h a (.dK j) from LU W e
theorem Mb {j:List (dE×V)}(W:fh P w H h)(e:H a=some (.dK j)):j.length<=sizeLine/\(a==sysModules)=false/\∃vs,KV j vs/\h.DictOf @dr a vs:=Ma W (.inl e)
theorem A5 {ks:List dE}(W:fh P w H h)(e:H a=some (.tup @gK)):(tupleKind @dr).is h ks a:=by
 obtain ⟨_,its,r,o,h1,h2,n,S⟩:=(show bp P w H h a (.tup @gK) from W a _ e);exact ⟨o,its.toArray,n,h1,h2,S,by simpa using uH r⟩
theorem L9 {j:List (List dE×V)}(W:fh P w H h)(e:Rd H a (.dT j)):j.length<=sizeLine/\(a==sysModules)=false/\
 ∃xs,KT H j xs/\h.DictOfH @fs a xs:=by
 obtain ⟨z,y,xs,r,o,es,J,h1,h2,S,I,Y⟩:=(show bp P w H h a (.dT j) from LU W e);rwa[⟨z,y,xs,r,o,es,J,h1,h2,S,I,λx F=> ?_,Y⟩]
 have G:∀ {l:List (List dE×V)} {m:List (List dE×Addr×Value)},KT H l m->∀x∈m,(tupleKind @dr).is h x.1 x.2.1:=by
  intro l m q
  induction q with
  |nil=>intro x F;exact nomatch F
  | @cons p q ps qs hq t ih=>
    intro x F
    rcases mem_cons.mp F with e|F
    ·subst e;exact A5 W (by rw [<-hq.1];exact hq.2.1)
    ·exact ih x F
 exact G r x F
theorem RI {j:List (List dE×V)}(W:fh P w H h)(e:H a=some (.dT j)):j.length<=sizeLine/\(a==sysModules)=false/\
 ∃xs,KT H j xs/\h.DictOfH @fs a xs:=L9 W (.inl e)
end
def IK (H:Hp)(a:Addr)(y:V)(r:Option V):Prop:=
 (∃kvs k,Rd H a (.dK kvs)/\y=kV k/\r=fL kvs k)\/∃kvs k b,Rd H a (.dT kvs)/\y= .ref b/\H b=some (.tup (k.map kV))/\r=fL kvs k
def IJ (H:Hp)(a:Addr)(y v:V)(H':Hp):Prop:=
 (∃kvs k,H a=some (.dK kvs)/\y=kV k/\kvs.length<sizeLine/\H'=upd H a (.dK (fX kvs k v)))\/
 ∃kvs k b,H a=some (.dT kvs)/\y= .ref b/\H b=some (.tup (k.map kV))/\kvs.length<sizeLine/\H'=upd H a (.dT (fX kvs k v))
theorem IK.k {H:Hp}{a:Addr}{j:List (dE×V)}{k:dE}(e:H a=some (.dK j)):IK H a (kV k) (fL j k):= .inl ⟨j,k,.inl e,rfl,rfl⟩
theorem IJ.k {H:Hp}{a:Addr}{j:List (dE×V)}{k:dE}{v:V}(e:H a=some (.dK j))(R:j.length<sizeLine):IJ H a (kV k) v (upd H a (.dK (fX j k v))):= .inl ⟨j,k,e,rfl,R,rfl⟩
section
variable {X:Cx}{pins:List (Addr×Obj)}{σ:St}{H:Hp}{s:Shared}{a:Addr}{y v:V}{u r:Value}{o:Option V}{A:Around}{E:Value->Shared->Prop}
theorem ar.big (I:ar X pins σ H s):sysModules<s.heap.objs.size:=by
 have h:mainGlobals<s.heap.objs.size:=(I.mod.glob.keeps I.bk).lt;exact Nat.lt_trans @b h
theorem TB {Q:Value->Shared->Prop}(S:A.units+1<cLine)(I:ar X pins σ H s)(g:IK H a y o)(O:aA y u)(h:∀s',ar X pins σ H s'->Q (.bool o.isSome) s'):
 wpAny @d A (compareOp .In u (.ref a)) Q E s:=by
 rcases g with ⟨J,k,e,F,l⟩|⟨J,k,b,e,F,R,l⟩
 ·subst F;obtain ⟨z,G,U,j,dd⟩:=Ma I.hok e;rwa[wpAny_in_of (B8 O) G dd.mapOf ?_];rw [<-(j.val k).isSome_eq,<-l];exact h _ @gs
 ·subst F;cases (show u=Value.ref b from O);obtain ⟨z,G,xs,j,dd⟩:=L9 I.hok e;rwa[wpAny_in_heap (tupleKind_room_in1 S) (A5 I.hok R) G dd ?_];have q:=(j.val k).isSome_eq;rw [Option.isSome_map] at q;rw [<-q,<-l];exact h _ @gs
theorem wR {h':Heap}{t':Nat}{j:HO}(I:ar X pins σ H s)(G:RX (H a))(hs:Heap.SameBut a s.heap h')(U:∃q,h'.get? a=some q)(F:bp X.prog X.w (upd H a j) h' a j):
 ar X pins σ (upd H a j) {s with heap:=h',toks:=t'}:=
 I.write (x:=a) (e:=a) G (.inl rfl) (λb q J z=>(hs.2 b J).trans z) U F
theorem Bl {P:Program}{w:World}{H':Hp}{h':Heap}{j:List (dE×V)}{vs:List (dE×Value)}(z:j.length<=sizeLine)(G:(a==sysModules)=false)(F:KV j vs)(dd:h'.DictOf @dr a vs):
 bp P w H' h' a (.dK j):=⟨z,G,vs,F,dd⟩
theorem DU {H':Hp}{Q:Unit->Shared->Prop}(hu:A.units+1<cLine)(I:ar X pins σ H s)(g:IJ H a y v H')(ry:aA y u)(Z:aA v r)(h:∀s',ar X pins σ H' s'->Q () s'):
 wpAny @d A (setItem (.ref a) u r) Q E s:=by
 rcases g with ⟨j,k,e,G,l,U⟩|⟨j,k,b,e,G,Y,l,U⟩
 ·subst G U;obtain ⟨z,S,vs,F,dd⟩:=Mb I.hok e
  have J:vs.length<=sizeLine:=by rw [<-F.length];exact z
  have O:(fX j k v).length<=sizeLine:=by have:=dD j k v;lia
  rwa[wpAny_setItem_pairs (hsz:=J) (B8 ry) dd λh' dd' hs=>h _ ?_];have he:∃q,h'.get? a=some q:=let ⟨q,_,_,R,_⟩:=dd';⟨q,R⟩;exact wR I (by rw [e];exact True.intro) hs he (Bl O S (F.put k Z) dd')
 ·subst G U;cases (show u=Value.ref b from ry);obtain ⟨z,S,xs,F,dd⟩:=RI I.hok e
  have J:xs.length<=sizeLine:=by rw [<-Paired.length F];exact z
  have O:(fX j k v).length<=sizeLine:=by have:=dD j k v;lia
  rwa[wpAny_setItem_heap (hsz:=J) (tupleKind_room_in1 hu) (A5 I.hok Y) dd λh' dd' hs=>h _ ?_];obtain ⟨q,es,ep,R,h2,h3,h4,_,h5⟩:=dd';rwa[wR I (by rw [e];exact True.intro) hs ⟨q,R⟩ ⟨O,S,_,(F.put k Y Z).keeps λc ys W=> ?_,q,es,ep,R,h2,h3,h4,h5⟩];rw [aj (Rn W e (λz=>nomatch z))];exact W
end
def S8 (ty td:TE):TE:=λσ H Q=>ty σ H λy H1=>td σ H1 λx H2=>∃a o,x= .ref a/\IK H2 a y o/\Q (.bl o.isSome) H2
def QL (td ty tv:TE):TS:=λD σ H=>tv σ H λv H1=>td σ H1 λx H2=>ty σ H2 λy H3=>∃a H4,x= .ref a/\IJ H3 a y v H4/\D.nx σ H4
section
variable {X:Cx}{o i e value:Expr}{pos pos' tpos:Pos}{td ty tv:TE}
theorem NW (S:X.A.units+1<cLine)(hi:PE X i ty)(U:PE X o td):PC X .In i o (S8 ty td):=by
 intro pins s σ H Q I h;rwa[bv @dV λZ O ⟨y,H1,j,Y,G⟩=>bv (U pins O σ H1 _ j G) λu s2 ⟨x,H2,R,F,a,J,ex,g,W⟩=> ?_];subst ex;obtain rfl:u=Value.ref a:=F;exact TB S R g Y λs3 z=>⟨.bl J.isSome,H2,z,rfl,W⟩
theorem JM (F:X.A.units+1<cLine)(U:PE X o td)(hi:PE X i ty)(hv:PE X value tv)(hs:swapsWith value (some (.Subscript o i pos')) pos.line X.env=pure false):
 PS X (.Assign [.Subscript o i pos'] value pos) (QL td ty tv):=by
 intro pins s σ H D I h;rwa[wpAny_Assign_Subscript (bv (hv pins s σ H _ I h) λr O ⟨v,H1,z,G,q1⟩=>bv (U pins O σ H1 _ z q1) λu J ⟨x,H2,R,j,q2⟩=>bv (hi pins J σ H2 _ R q2) λiv s3 ⟨y,H3,Y,W,a,H4,ex,g,Z⟩=> ?_) hs];subst ex;obtain rfl:u=Value.ref a:=j;exact DU F Y g W G λs4 S=>⟨σ,H4,S,Z⟩
end
structure M1 (X:Cx)(o:Expr)(m:Str)(apos:Pos)(e:Expr)(cpos:Pos):Prop where
 base:attributeBase o m X.env @fP=eval o X.env
 few:((backTo cpos (starEach [e] X.env)).all (λx=> !x.1)&&(backToKw cpos @dL).all @ev
  &&decide (([e]:List Expr).length+([]:List Keyword).length+(if ([]:List Keyword).isEmpty then 0 else 1)<30))=true
 line:(apos.endLine==cpos.line)=true
 trees:backTo cpos (starEach [e] X.env)=[(false,eval e X.env)]
structure M2 (X:Cx)(o:Expr)(m:Str)(apos:Pos)(e f:Expr)(cpos:Pos):Prop where
 base:attributeBase o m X.env @fP=eval o X.env
 few:((backTo cpos (starEach [e,f] X.env)).all (λx=> !x.1)&&(backToKw cpos @dL).all @ev
  &&decide (([e,f]:List Expr).length+([]:List Keyword).length+(if ([]:List Keyword).isEmpty then 0 else 1)<30))=true
 line:(apos.endLine==cpos.line)=true
 trees:backTo cpos (starEach [e,f] X.env)=[(false,eval e X.env),(false,eval f X.env)]
end L2
namespace PySem
namespace F
theorem lk_list_keys:typeLookup (.type "list") "keys"=pure none:=by rw [typeLookup_type,builtinLookup_eq_fast];kernel_rfl
theorem lk_list_hook:typeLookup (.type "list") "__getattr__"=pure none:=by rw [typeLookup_type,builtinLookup_eq_fast];kernel_rfl
theorem sub_attr_attr:isSubtype (.type "AttributeError") (.type "AttributeError")=pure true:=by rw [isSubtype_type];kernel_rfl
theorem attr_first:((Manifest.find? "AttributeError").elim false λt=>t.mro.contains "StopIteration"||t.mro.contains "SystemExit")=false:=by decide+kernel
end F
section
variable {α:Type}{prog:Program}{w:World}{A:Around}{E:Value->Shared->Prop}{s:Shared}
theorem Dw {e:Addr}{o name:Value}{vs:Array Value}{j:Option Addr}{sl:Array @E}{Q:Unit->Shared->Prop}(U:s.heap.get? e=some ⟨.type "AttributeError",j,.fields vs,sl⟩)(J:vs[6]? =some unsetMember)(W:vs[7]? =some unsetMember)
(R:Q () {s with heap:=s.heap.update e (Obj.mapFields λvs=>vs.extract 0 6++ #[name,o])}):wpAny @q A (noteAttr (.ref e) o name) Q E s:=by
 have O:s.TypeIs (.ref e) "AttributeError":=⟨_,U,rfl⟩;unfold noteAttr lacksNameAndObj;rwa[wpAny_bind ?_];rwa[wpAny_bind (wpAny_isInstance O F.sub_attr_attr ?_)];simp only [Bool.not_true,Bool.false_eq_true,if_false];rwa[wpAny_bind (wpAny_load U ?_)];simp only [J,W];have S:unsetMember=Value.int 0 0:=rfl;rw [S];simp only [Bool.or_self,Bool.false_eq_true,if_false];rw [if_neg @b];rwa[wpAny_pure ?_];simp only [if_true];rwa[wpAny_bind @fv];rwa[wpAny_bind (wpAny_typeOf O ?_)];exact wpAny_layMembers U rfl R
theorem AF {o:Value}{name j:Str}{Q:α->Shared->Prop}(J:A.handled=none)(I:j.length<=sizeLine)(S:∀e h' t',(∀b ob,s.heap.get? b=some ob->h'.get? b=some ob)->(∃ob,h'.get? e=some ob/\ob.cls= .type "AttributeError")->E (.ref e) {s with heap:=h',toks:=t'}):
 wpAny @q A (raiseAttrError o name j:Sem α) Q E s:=by
 unfold raiseAttrError;rwa[wpAny_bind (wpAny_mkStr ?_ I)];rwa[wpAny_bind ?_];unfold newExc newTuple;rwa[wpAny_bind (wpAny_newObj_type ?_ (by show (1:Nat)<=sizeLine;exact L2.aR @b))];rwa[wpAny_bind (m:=firstArgMember _ _) (wpAny_of_eq (a:=Value.none) (by simp only [firstArgMember,F.attr_first];rfl) ?_)];rwa[wpAny_newObj_type ?_];rwa[wpAny_bind (wpAny_mkText ?_)];rwa[wpAny_bind ?_];generalize G:(s.heap.push {cls:= .type "tuple",data:= .seq #[Value.str j s.toks]})=h1
 have k1:∀b ob,s.heap.get? b=some ob->h1.get? b=some ob:=λb ob z=>by rw [<-G];exact Heap.get?_push_of_some _ z
 show wpAny @q A (noteAttr (.ref h1.objs.size) o _) _ _ {s with heap:=h1.push {cls:= .type "AttributeError",data:= .fields #[Value.ref s.heap.objs.size,.none,.none,.none,.bool false,.none,unsetMember,unsetMember]},toks:=s.toks+1+1};rwa[Dw (vs:= #[Value.ref s.heap.objs.size,.none,.none,.none,.bool false,.none,unsetMember,unsetMember]) (Heap.get?_push_size _ rfl) rfl rfl ?_];rwa[wpAny_raiseNew_none J ?_];have R:=Heap.SameBut.update (h1.push {cls:= .type "AttributeError",data:= .fields #[Value.ref s.heap.objs.size,.none,.none,.none,.bool false,.none,unsetMember,unsetMember]}) h1.objs.size (Obj.mapFields λO=>O.extract 0 6++ #[Value.str name (s.toks+1),o]);rwa[S h1.objs.size _ _ (λb ob z=> ?_) ?_]
 ·rw [R.2 b (Nat.ne_of_lt (Heap.lt_size (k1 b ob z)))];exact Heap.get?_push_of_some _ (k1 b ob z)
 ·exact ⟨_,Heap.get?_update_self _ (Heap.get?_push_size _ rfl) rfl,rfl⟩
end
section
variable {prog:Program}{w:World}{A:Around}{E:Value->Shared->Prop}{h:Heap}{g:Array GenState}{d:Drawn}{t:Nat}{os:OsState}{a:Addr}{its:Array Value}{n:Nat}{sl:Array @E}
theorem pe {tk:Tok}{Q:Fin->Shared->Prop}(j:A.handled=none)(z:h.get? a=some ⟨.type "list",none,.seq its n,sl⟩)(R:∀e h' t',(∀b ob,h.get? b=some ob->h'.get? b=some ob)->(∃ob,h'.get? e=some ob/\ob.cls= .type "AttributeError")->E (.ref e) ⟨h',g,d,t',os⟩):
 wpAny @q A (Builtin.«object.__getattribute__» ⟨[.ref a,.str "keys" tk],[]⟩) Q E ⟨h,g,d,t,os⟩:=by
 have O:(⟨h,g,d,t,os⟩:Shared).TypeIs (.ref a) "list":=⟨_,z,rfl⟩;have G:=F.lk_list_keys
 repeat (any_goals (first|assumption|with_reducible refine AF j ?_ ?_|wp_step))
 all_goals first|exact L2.aR @h|exact R
theorem re {tk:Tok}{R:Result->Shared->Prop}(z:A.handled=none)(j:h.get? a=some ⟨.type "list",none,.seq its n,sl⟩)(G:∀e h' t',(∀b ob,h.get? b=some ob->h'.get? b=some ob)->(∃ob,h'.get? e=some ob/\ob.cls= .type "AttributeError")->R (.error (.ref e)) ⟨h',g,d,t',os⟩):
 codeAny @q A (.call (.builtin "list.__getattribute__") ⟨[.ref a,.str "keys" tk],[]⟩) R ⟨h,g,d,t,os⟩:=
 codeAny_call_builtin F.slot_list_getattribute.plain F.entry_list_ga (F.slot_list_getattribute.check _ _ _ _ _ _ _ _ (show (⟨h,g,d,t,os⟩:Shared).TypeIs (.ref a) "list" from ⟨_,j,rfl⟩) (F.args_list_getattribute_2 _ _) (pe z j G))
theorem rf {Q:Option Value->Shared->Prop}(I:A.handled=none)(j:h.get? a=some ⟨.type "list",none,.seq its n,sl⟩)(R:∀h' t',(∀b ob,h.get? b=some ob->h'.get? b=some ob)->Q none ⟨h',g,d,t',os⟩):wpAny @q A (getAttr? (.ref a) "keys") Q E ⟨h,g,d,t,os⟩:=by
 have W:(⟨h,g,d,t,os⟩:Shared).TypeIs (.ref a) "list":=⟨_,j,rfl⟩;have O:=F.slot_list_getattribute.lookup;have U:=F.slot_list_getattribute.bind (.ref a);have J:=F.lk_list_hook;unfold getAttr? getAttrBy?
 repeat (any_goals (first|assumption|wp_step))
 rwa[re I j (λe h' t' k x=> ?_)];have S:(⟨h',g,d,t',os⟩:Shared).TypeIs (.ref e) "AttributeError":=x;have G:=F.sub_attr_attr;have z:=R h' t' k;show wpAny _ _ (getattributeRaised _ _ _ _ _ _ _) _ _ _;unfold getattributeRaised;rwa[wpAny_bind (wpAny_isInstance S G ?_)];simp only [if_true]
 have Y:hookBehind (.type "list") none=pure none:=by unfold hookBehind;rw [if_neg @b,J]
 rwa[wpAny_bind ?_];show wpAny _ _ (hookBehind (.type "list") none) _ _ _;rw [Y];rwa[wpAny_pure ?_];unfold hookOrError attributeErrorLeaves;simp only [Bool.not_false,if_true];rwa[wpAny_throw ?_];rwa[wpAny_bind (wpAny_isInstance S G ?_)];simp only [if_true];exact wpAny_pure z
end
end PySem
namespace PySem
namespace F
theorem entry_dul:entryFor table "dict.update.loop"=some Builtin.«dict.update.loop»:=entryFor_of_tree @m
theorem plain_dul:plainId "dict.update.loop"=true:=by decide+kernel
end F
end PySem
namespace L2
open PySem PySem.Spec PyProof.Rows
noncomputable def gc (kvs ps:List (dE×V)):List (dE×V):=ps.foldl (λa p=>fX a p.1 p.2) kvs
theorem K9 {X:Cx}{pins:List (Addr×Obj)}{σ:St}{l It dd:Addr}{xs:List V}{R:Result->Shared->Prop}{A:Around}(hh:A.handled=none)
(aG:X.s₀.heap.objs.size<=It)(ai:∀p∈X.pn++pins,p.1≠It):
 ∀(r j:Nat) (s:Shared) (H:Hp) (kvs ps:List (dE×V)) (t:Tok) (oI:Obj),xs.length - j=r->j<=xs.length->
  ar X ((It,oI)::pins) σ H s->H l=some (.lst xs)->s.heap.IsListIter It l j->H dd=some (.dK kvs)->Paired (λx (p:dE×V)=>∃b,x=V.ref b/\H b=some (.tup [kV p.1,p.2])) (xs.drop j) ps->kvs.length+ps.length<sizeLine->
  (∀s',ar X pins σ (upd H dd (.dK (gc kvs ps))) s'->R (.ok (.ret .none)) s')->
  codeAny @d A (.builtin "dict.update.loop" ⟨[.ref dd,.ref It,.int j t,.none],[]⟩) R s:=by
 intro r
 induction r with
 |zero=>
  intro j s H kvs ps t oI hr hj I O ac hd hp hz hR
  have ej:j=xs.length:=by lia
  subst ej;rw [drop_length] at hp;cases hp;obtain ⟨us,ae,ag⟩:=jh I O
  have aa:us.toArray.size=xs.length:=by rw [size_toArray,ae.length]
  have U:=I.pin (It,oI) @t
  have am:l≠It:=λz=>by have:=U.2.1;rw [<-z,O] at this;cases this
  have W:=Walks.list (prog:=X.prog) (w:=X.w) (A:=A.in1) hh It l am us.toArray;rwa[codeAny_builtin PySem.F.entry_dul ?_];rw [Around.under_plainId PySem.F.plain_dul _];show wpAny _ A.in1 (pyNext (.ref It)>>=_) _ _ _;rwa[wpAny_bind (W.done _ _ _ ⟨by rw [aa];exact ac,ag⟩ λh1 ad Y=> ?_)];have Y:∀b u,b≠It->s.heap.get? b=some u->h1.get? b=some u:=λb u n e=>Y b u (by simpa using n) e;have I0:ar X pins σ H s:=I.sub λp hp=> .tail _ hp
  have ax:∀x c,X.env.cells.lookup x=some c->c≠It:=λx c e z=>by
   obtain ⟨v,oc,h1,h2⟩:=I.cell x c e;rw [z,U.1] at h1;cases h1;exact U.2.2.2.2 v h2
  have I1:ar X pins σ H {s with heap:=h1,toks:=ad}:=I0.turned (it:=It) Y U.2.1 U.2.2.1 (.inr aG) ax ai
  have eH:upd H dd (.dK (gc kvs []))=H:=by
   funext b
   unfold upd gc;split
   ·rename_i e;rw [e,hd];rfl
   ·rfl
  rw [eH] at hR;exact wpAny_bind (wpAny_pure (wpAny_pure (hR _ I1)))
 |succ r ih=>
  intro j s H kvs ps t oI hr hj I O ac hd hp hz hR
  have S:j<xs.length:=by lia
  obtain ⟨us,ae,ag⟩:=jh I O
  have aa:us.toArray.size=xs.length:=by rw [size_toArray,ae.length]
  have U:=I.pin (It,oI) @t
  have am:l≠It:=λz=>by have:=U.2.1;rw [<-z,O] at this;cases this
  have W:=Walks.list (prog:=X.prog) (w:=X.w) (A:=A.in1) hh It l am us.toArray;rw [drop_eq_getElem_cons S] at hp
  obtain ⟨G,J,rfl,⟨b,eb,hb⟩,aD⟩:∃G J,ps=G::J/\(∃b,xs[j]=V.ref b/\H b=some (.tup [kV G.1,G.2]))/\Paired (λx (p:dE×V)=>∃b,x=V.ref b/\H b=some (.tup [kV p.1,p.2])) (xs.drop (j+1)) J:=by
   cases hp with
   |cons a c=>exact ⟨_,_,rfl,a,c⟩
  rwa[codeAny_builtin PySem.F.entry_dul ?_];rw [Around.under_plainId PySem.F.plain_dul _];show wpAny _ A.in1 (pyNext (.ref It)>>=_) _ _ _;rwa[wpAny_bind (W.item j _ _ _ (by rw [aa];exact S) ⟨ac,ag⟩ λu h1 ad hP aB Y=> ?_)]
  have hu:us[j]? =some u:=by simpa using hP
  have ru:aA (V.ref b) u:=by
   obtain ⟨u',aF,ru⟩:=ae.get (show xs[j]? =some (V.ref b) by rw [getElem?_eq_getElem S,eb]);rw [hu] at aF;cases aF;exact ru
  cases (show u=Value.ref b from ru);obtain ⟨Z,au,aH,al⟩:=id aB.1;have Y:∀b u,b≠It->s.heap.get? b=some u->h1.get? b=some u:=λb u n e=>Y b u (by simpa using n) e
  have I1:ar X ((It,Z)::pins) σ H {s with heap:=h1,toks:=ad}:=
   I.repin (t':=ad) aG ai Y au λv e=>by rw [al] at e;cases e
  obtain ⟨its,av,ht,aJ⟩:=I1.tuple (aE.of hb)
  obtain ⟨ku,vu,ak,rk,rv⟩:∃ku vu,its=[ku,vu]/\aA (kV G.1) ku/\aA G.2 vu:=by
   cases av with|cons a t1=>cases t1 with|cons b t2=>cases t2;exact ⟨_,_,rfl,a,b⟩
  subst ak;show wpAny _ A.in1 (holding [Value.ref b] _>>=_) _ _ _;rwa[wpAny_bind (wpAny_holding ?_)];rwa[wpAny_bind (wpAny_tryCatch ?_)];unfold Builtin.Dict.pairItems;rwa[wpAny_bind (wpAny_typeOf ht.typeIs ?_)];rw [if_pos @b];obtain ⟨ot,as,aI,nt,aC⟩:=id ht;rwa[wpAny_bind (wpAny_seqItems as aC @bx)];show wpAny _ A.in1 (holding [ku,vu] (dictSet dd ku vu)) _ _ _;rwa[wpAny_holding ?_];obtain ⟨zk,ap,vs,an,dd'⟩:=Mb I1.hok hd
  have az:vs.length<=sizeLine:=by rw [<-an.length];exact zk
  have ay:(fX kvs G.1 G.2).length<=sizeLine:=by have:=dD kvs G.1 G.2;rw [length_cons] at hz;lia
  rwa[wpAny_dictSet_pairs (hsz:=az) (B8 rk) dd' λh2 ah ao=> ?_];have he:∃q,h2.get? dd=some q:=let ⟨q,_,_,hq,_⟩:=ah;⟨q,hq⟩;have I2:=wR (t':=ad+1) I1 (by rw [hd];exact True.intro) ao he (Bl ay ap (an.put G.1 rv) ah);have aw:=I2.pin (It,Z) @t
  have aq:l≠dd:=λz=>by rw [z,hd] at O;cases O
  rwa[wpAny_pure ⟨plainId_quiet PySem.F.plain_dul _,?_⟩];rwa[ih (j+1) _ (upd H dd (.dK @gV)) @gV J _ Z @c @c I2 (by rw [aj aq];exact O) ⟨Z,aw.1,aH,al⟩ af (Paired.imp' (λx p ⟨c,ec,hc⟩=>⟨c,ec,by rw [aj (λz=>by rw [z,hd] at hc;cases hc)];exact hc⟩) aD) ?_ ?_]
  ·have:=dD kvs G.1 G.2;rw [length_cons] at hz;lia
  ·intro s' I';rw [BH] at I';exact hR s' I'
def Mc (l:Addr)(H:Hp)(Q:VK):Prop:=∃(xs:List V) (ps:List (dE×V)),H l=some (.lst xs)/\Paired (λx (p:dE×V)=>∃b,x=V.ref b/\H b=some (.tup [kV p.1,p.2])) xs ps/\ps.length<sizeLine/\∀d,H d=none->Q (.ref d) (upd H d (.dK (gc [] ps)))
theorem DV {X:Cx}{pins:List (Addr×Obj)}{σ:St}{H:Hp}{s:Shared}{l:Addr}{Q:VK}(hh:X.A.handled=none)(I:ar X pins σ H s)(hP:Mc l H Q){E:Value->Shared->Prop}:
 wpAny @d X.A (call (.type "dict") [.ref l]) @w E s:=by
 obtain ⟨xs,ps,Z,hp,hz,q⟩:=hP;rwa[callType_codes (Q₁:=λJ s₁=>J= .ref s.heap.objs.size/\s₁= {s with heap:=s.heap.push {cls:= .type "dict",data:= .dict #[]}}) PySem.F.kt_called_dict (PySem.F.kt_typeCall_dict_1 _) PySem.F.entry_dict_init (kt_code_dict_new _ ⟨rfl,rfl⟩) ?_];rintro J s₁ ⟨rfl,rfl⟩;generalize hd:s.heap.objs.size=dd
 have Y:H dd=none:=by rw [<-hd];exact I.hok.fresh @f
 have G:(s.heap.push {cls:= .type "dict",data:= .dict #[]}).DictOf (cc X.prog X.w) dd []:=by rw [<-hd];exact Heap.DictOf.new s.heap
 have I1:ar X pins σ @cR {s with heap:=s.heap.push {cls:= .type "dict",data:= .dict #[]}}:=by
  have z:=I.laid (a:=s.heap.objs.size) (o:= .dK []) (t':=s.toks) (h':=s.heap.push {cls:= .type "dict",data:= .dict #[]}) (λb q hq=>Heap.get?_push_of_some _ hq) @f (Bl @fy (beq_eq_false_iff_ne.mpr (Ne.symm (Nat.ne_of_lt I.big))) .nil (Heap.DictOf.new s.heap));rw [hd] at z;exact z
 rwa[⟨G.typeIs,PySem.F.args_dict_init_2 _ _,?_⟩];unfold Builtin.«dict.__init__»;rwa[wpAny_bind ?_];unfold Builtin.Dict.selfAndRest;rwa[wpAny_bind (wpAny_notOrdered_dict G.typeIs ?_)];show wpAny _ _ (pure (dd,[Value.ref l])) _ _ _;rwa[wpAny_pure ?_];show wpAny _ _ (Builtin.Dict.updateFrom "dict.__init__" dd (.ref l) [] .none) _ _ _;unfold Builtin.Dict.updateFrom
 have aq:l≠dd:=λz=>by rw [z,Y] at Z;cases Z
 have j:upd H dd (.dK []) l=some (.lst xs):=by rw [aj aq];exact Z
 obtain ⟨_,us,n,ac,ae⟩:=(show bp X.prog X.w _ _ l (.lst xs) from I1.hok l _ j);have S:({s with heap:=s.heap.push {cls:= .type "dict",data:= .dict #[]}}:Shared).TypeIs (.ref l) "list":=⟨_,ae,rfl⟩;rwa[wpAny_bind (wpAny_typeOf S ?_)];rw [if_pos @b];rwa[wpAny_bind (rf (by exact hh) ae λh' O k=> ?_)];rw [if_pos (show (none:Option Value).isNone=true from rfl)];rwa[wpAny_bind @fv];have R:ar X pins σ @cR {s with heap:=h',toks:=O}:=I1.kept (t':=O) k;obtain ⟨ad,aa,U⟩:=jh R j;rwa[wpAny_bind (wpAny_pyIter_list U ?_)]
 have I3:ar X ((h'.objs.size,{cls:= .type "list_iterator",data:= .fields #[.ref l,.int 0 0]})::pins) σ @cR {s with heap:=h'.push {cls:= .type "list_iterator",data:= .fields #[.ref l,.int 0 0]},toks:=O}:=
  R.pinNew (t':=O) (a:=h'.objs.size) @f (λb u e=>Heap.get?_push_of_some _ e) (Heap.get?_push_size _ rfl) λv e=>by cases e
 rwa[wpAny_pure ⟨plainId_quiet PySem.F.plain_dul _,?_⟩];rwa[K9 (A:=X.A.in1) (xs:=xs) (l:=l) (It:=h'.objs.size) (dd:=dd) hh R.sz (λp hp=>Nat.ne_of_lt (Heap.lt_size (R.pin p hp).1)) _ 0 _ @cR [] ps _ _ rfl @fy I3 j ⟨_,Heap.get?_push_size _ rfl,rfl,rfl⟩ af ?_ ?_ ?_]
 ·exact Paired.imp' (λx p ⟨c,ec,W⟩=>⟨c,ec,by rw [aj (λz=>by rw [z,Y] at W;cases W)];exact W⟩) hp
 ·rw [length_nil,Nat.zero_add];exact hz
 ·intro s' I';rw [BH] at I';exact ⟨rfl,V.ref dd,_,I',rfl,q dd Y⟩
def MP:List V->Hp->VK->Prop:=λxs H Q=>match xs with|[.ref l]=>Mc l H Q|_=>False
theorem I9 {X:Cx}(J:X.calm=true):bc X (.type "dict") MP:=by
 intro pins s σ H xs j Q I r h
 match xs,h,r with
 |[.ref l],h,r=>
  cases r with
  |cons a t=>
   cases t;cases (show _=Value.ref l from a);exact DV @dc I h
open PySem.Calls PySem.W
theorem ip.imp {P:Program}{w:World}{K:Frag}{mg:Str->Option Value}{base:Heap}{n m:Nat}{f:Addr}{sp j:Sp}(c:ip P w K mg base n f sp)(F:n<=m)(h:∀vs H Q E,j vs H Q E->sp vs H Q E):ip P w K mg base m f j:=
 ⟨λA outer s H I vs Q E W z r g=>c.run A outer s H I vs Q E (W.mono F) z r (h _ _ _ _ g),λvs H Q E G g=>c.keep vs H Q E G (h _ _ _ _ g)⟩
section
variable {X:Cx}
theorem GZ:xg X "str.upper" (λx xs H Q=>∃z,x= .str z/\xs=[]/\z.length<=1000/\Q (.str @hc) H):=by
 intro pins s σ H x xs v J Q I G j h;obtain ⟨z,rfl,rfl,O,q⟩:=h;obtain ⟨t,rfl⟩:=G;cases j
 have hs:(placed z λx c=>Unicode.upperOf c).size<=sizeLine:=by
  have:=PyProof.Rows.len_upper z;have this:(placed z λx c=>Unicode.upperOf c).size<=3*z.length:=this;exact aR @c
 have R:Builtin.Str.tooLong (placed z λx c=>Unicode.upperOf c).size=false:=decide_eq_false (Nat.not_lt.mpr hs);exact call_gives F.slot_str_upper @du F.entry_str_upper (F.args_str_upper_1 _) (gives_str_upper z t R) ⟨hs,.str _,H,I.tok _,⟨_,rfl⟩,q⟩
def MK:V->List V->Hp->VK->Prop:=λx xs H Q=>match x,xs with| .str z,[]=>z.length<=1000/\Q (.str @hc) H|_,_=>False
theorem IY:xg X "str.upper" MK:=GZ.imp λx xs H Q h=>by
 match x,xs,h with
 | .str z,[],h=>exact ⟨z,rfl,rfl,h.1,h.2⟩
theorem MV {z:Str}(h:∀c∈z.cps.toList,c<128):(Txt.upper z).length=z.length/\∀c∈(Txt.upper z).cps.toList,c<128:=by
 rw [upper_ascii h];rwa[⟨by simp [Str.length],λc J=> ?_⟩];rw [Array.toList_map] at J;obtain ⟨d,G,rfl⟩:=mem_map.mp J;have G:=h d G
 have F:∀d<128,up1 d<128:=by decide+kernel
 exact F d G
end
def L6:D->Bool
 | .non=>true
 | .bl _=>true
 | .int _=>true
 |_=>false
def uU (d e:D):Prop:=(L6 d=true/\L6 e=true)\/((∃ds,d= .tup ds)/\e= .non)
open PySem.SeqAt in
theorem Bg {X:Cx}{pins:List (Addr×Obj)}{σ:St}{H:Hp}{s:Shared}(I:ar X pins σ H s){x y:V}{d e:D}{u v:Value}{A:Around}(h:bL X.K H x d)(S:bL X.K H y e)(c:uU d e)(j:aA x u)(z:aA y v)(J:A.units<cLine):EqAt A s u v (rM d e):=by
 rcases c with ⟨F,G⟩|⟨⟨ds,rfl⟩,rfl⟩
 ·cases h<;>cases S<;>first|exact HM j z rfl rfl|exact (Bool.false_ne_true F).elim|exact (Bool.false_ne_true G).elim
 ·cases h with
  |tup hq _ _=>
   cases S;cases j;cases z
   obtain ⟨_,_,p,_⟩:=I.tuple hq
   exact EqAt.tuple_none p J
def Bp (ds es:List D):Prop:=∀d∈ds,∀e∈es,uU d e
def nJ (K:Fg)(x y:V)(H:Hp)(P:Bool->Prop):Prop:=∃ds es,bL K H x (.lst ds)/\bL K H y (.lst es)/\Bp ds es/\P @dz
theorem RH {K:Fg}{x y:V}{H:Hp}{P:Bool->Prop}{ds es:List D}(h1:bL K H x (.lst ds))(h2:bL K H y (.lst es))(G:Bp ds es)(g:P @dz):nJ K x y H P:=⟨ds,es,h1,h2,G,g⟩
theorem Tz {K:Fg}{x y:V}{H:Hp}{P:Bool->Prop}{ds:List D}(h1:bL K H x (.lst ds))(h2:bL K H y (.lst ds))(G:Bp ds ds)(g:P true):nJ K x y H P:=⟨ds,ds,h1,h2,G,by rw [yT];exact g⟩
def Qh (K:Fg):R2:=λx y H Q=>match RG x y with|some b=>Q (.bl b) H|none=>nJ K x y H λb=>Q (.bl b) H
def Qb (K:Fg):R2:=λx y H Q=>match RG x y with|some b=>Q (.bl (!b)) H|none=>nJ K x y H λb=>Q (.bl (!b)) H
section
variable {X:Cx}{K:Fg}{m:Nat}
open PySem.SeqAt in
theorem xI (hK:X.K=K)(hr:bx m X.A):cX X (compareOp .Eq) (Qh K):=by
 subst hK
 intro pins s σ H x y v u Q I S W h
 unfold Qh at h
 cases e:RG x y with
 |some b=>
  rw [e] at h
  obtain ⟨h1,h2⟩:=HL e
  exact Q6 pins s σ H x y v u Q I S W ⟨h1,by rw [h2];exact h⟩
 |none=>
  rw [e] at h
  obtain ⟨ds,es,h1,h2,hd,q⟩:=h
  have z:EP X pins σ Q (.bool @dz) s:=⟨.bl _,H,I,rfl,q⟩
  have O:X.A.units+1<cLine:=by have:=hr.un;lia
  have J:X.A.units<cLine:=by lia
  cases h1 with
  | @lst a xs ds hq hl hi=>
  cases h2 with
  | @lst b ys es hq' hl' hi'=>
  cases S
  obtain ⟨its,R,Y,z1⟩:=I.list hq
  cases W
  obtain ⟨G,r2,p2,z2⟩:=I.list hq'
  rw [rM] at z
  have l1:=R.length
  have l2:=r2.length
  by_cases F:ds.length=es.length
  ·rw [<-rL F,show ds.length=its.toArray.size by rw [size_toArray];lia] at z
   rwa[RcAt.lists Y.isList p2.isList (by simp only [size_toArray];lia) J (λj g1 g2=> ?_) _ _ _ _ z]
   have j1:j<xs.length:=by rw [size_toArray] at g1;lia
   have j2:j<ys.length:=by rw [size_toArray] at g2;lia
   obtain ⟨w1,U,q1⟩:=R.get (i:=j) (x:=xs[j]) @e
   obtain ⟨w2,e2,q2⟩:=r2.get (i:=j) (x:=ys[j]) @e
   have k1:its.toArray[j]=w1:=by
    have:its[j]? =some its.toArray[j]:=by simp
    rw [this] at U;exact Option.some.inj U
   have k2:G.toArray[j]=w2:=by
    have:G[j]? =some G.toArray[j]:=by simp
    rw [this] at e2;exact Option.some.inj e2
   rw [k1,k2]
   have Z:ds[j]? =some (ds.getD j .non):=by simp [List.getD,getElem?_eq_getElem (show j<ds.length by lia)]
   have d2:es[j]? =some (es.getD j .non):=by simp [List.getD,getElem?_eq_getElem (show j<es.length by lia)]
   exact Bg I (hi j xs[j] _ @e Z) (hi' j ys[j] _ @e d2) (hd _ (mem_of_getElem? Z) _ (mem_of_getElem? d2)) q1 q2 O
  ·rw [rK F] at z
   exact RcAt.lists_lengths Y.isList p2.isList (by simp only [size_toArray];rw [bne_iff_ne];lia) J _ _ _ _ z
open PySem.SeqAt in
theorem xG (hK:X.K=K)(hr:bx m X.A):cX X (compareOp .NotEq) (Qb K):=by
 subst hK
 intro pins s σ H x y v u Q I S W h
 unfold Qb at h
 cases e:RG x y with
 |some b=>
  rw [e] at h
  obtain ⟨h1,h2⟩:=HL e
  exact Q1 pins s σ H x y v u Q I S W ⟨h1,by rw [h2];exact h⟩
 |none=>
  rw [e] at h
  obtain ⟨ds,es,h1,h2,hd,q⟩:=h
  have z:EP X pins σ Q (.bool (!rM (.lst ds) (.lst es))) s:=⟨.bl _,H,I,rfl,q⟩
  have O:X.A.units+1<cLine:=by have:=hr.un;lia
  have J:X.A.units<cLine:=by lia
  cases h1 with
  | @lst a xs ds hq hl hi=>
  cases h2 with
  | @lst b ys es hq' hl' hi'=>
  cases S
  obtain ⟨its,R,Y,z1⟩:=I.list hq
  cases W
  obtain ⟨G,r2,p2,z2⟩:=I.list hq'
  rw [rM] at z
  have l1:=R.length
  have l2:=r2.length
  by_cases F:ds.length=es.length
  ·rw [<-rL F,show ds.length=its.toArray.size by rw [size_toArray];lia] at z
   rwa[RcNeAt.lists Y.isList p2.isList (by simp only [size_toArray];lia) J (λj g1 g2=> ?_) _ _ _ _ z]
   have j1:j<xs.length:=by rw [size_toArray] at g1;lia
   have j2:j<ys.length:=by rw [size_toArray] at g2;lia
   obtain ⟨w1,U,q1⟩:=R.get (i:=j) (x:=xs[j]) @e
   obtain ⟨w2,e2,q2⟩:=r2.get (i:=j) (x:=ys[j]) @e
   have k1:its.toArray[j]=w1:=by
    have:its[j]? =some its.toArray[j]:=by simp
    rw [this] at U;exact Option.some.inj U
   have k2:G.toArray[j]=w2:=by
    have:G[j]? =some G.toArray[j]:=by simp
    rw [this] at e2;exact Option.some.inj e2
   rw [k1,k2]
   have Z:ds[j]? =some (ds.getD j .non):=by simp [List.getD,getElem?_eq_getElem (show j<ds.length by lia)]
   have d2:es[j]? =some (es.getD j .non):=by simp [List.getD,getElem?_eq_getElem (show j<es.length by lia)]
   exact Bg I (hi j xs[j] _ @e Z) (hi' j ys[j] _ @e d2) (hd _ (mem_of_getElem? Z) _ (mem_of_getElem? d2)) q1 q2 O
  ·rw [rK F] at z
   exact RcNeAt.lists_lengths Y.isList p2.isList (by simp only [size_toArray];rw [bne_iff_ne];lia) J _ _ _ _ z
theorem LX {pins:List (Addr×Obj)}{σ:St}{H:Hp}{s:Shared}{A:Around}(I:ar X pins σ H s){y:V}{v:Value}(O:aA y v)(S:bL X.K H y .non)(z:A.units<cLine):∀ {xs:List V} {ds:List D} {us:List Value},aJ xs us->az X.K H xs ds->(∀d∈ds,uU d .non)->∀u∈us,SeqAt.EqAt A s u v (Be X.K H .non u)
 |_,_,_,.nil,_,_=>λu z=>by cases z
 |_,_,_,.cons r t,.cons h p,hd=>λG aF=>by
  rcases mem_cons.mp aF with rfl|aF
  ·rw [Cj I r h];exact Bg I h S (hd _ (.head _)) r O z
  ·exact LX I O S z t p (λd j=>hd d (.tail _ j)) G aF
def vH (K:Fg)(p:Addr)(H:Hp)(Q:VK):Prop:=∃xs ds,aD K H p xs/\az K H xs ds/\(∀d∈ds,uU d .non)/\Q (.bl (ds.any λd=>rM d .non)) H
theorem Rv {p:Addr}{H:Hp}{Q:VK}{xs:List V}{ds:List D}(h:aD K H p xs)(h1:az K H xs ds)(S:∀d∈ds,uU d .non)(g:Q (.bl (ds.any λd=>rM d .non)) H):vH K p H Q:=⟨xs,ds,h,h1,S,g⟩
def SM (K:Fg):R2:=λx y H Q=>match x,y with| .non,.ref p=>vH K p H Q|_,_=>False
theorem PY {m:Nat}(Z:X.K=K)(W:bx m X.A):cX X @db (SM K):=by
 subst Z;intro pins s σ H x y v u Q I z F h
 match x,y,h with
 | .non,.ref p,⟨xs,ds,hq,dx,hd,q⟩=>
   cases F
   have O:X.A.units+1<cLine:=by have:=W.un;lia
   have J:X.A.units<cLine:=by lia
   obtain ⟨its,r,pl,G⟩:=I.list hq;rwa[SeqAt.in_listAt @fz pl.isList (λw j=>LX I z .non (by first|exact J|exact O) r dx hd w (by simpa using j)) ⟨.bl _,H,I,rfl,?_⟩];rw [show its.toArray.any @fz=its.any @fz by simp,zv I r dx];exact q
end
theorem F9 {X:Cx}(i:Nat){x:Str}{pos:Pos}(hi:X.N[i]? =some x:=by rfl)(z:X.N.Nodup:=by (conv=>arg 1;whnf);decide+kernel)(F:LA X.env.scope x:=by first|exact Or.inl rfl|exact Or.inr rfl)(G:X.fn x=true\/X.env.scope.names.lookup x=some .local:=by first|exact .inl rfl|exact .inr rfl|assumption):PG X (.Name x pos) (jJ i):=pI z hi F G
theorem F5 {X:Cx}(i:Nat){x:Str}{e:Expr}{te:TE}{pos pos':Pos}(U:PE X e te)(hi:X.N[i]? =some x:=by rfl)(z:X.N.Nodup:=by (conv=>arg 1;whnf);decide+kernel)(F:LA X.env.scope x:=by first|exact Or.inl rfl|exact Or.inr rfl)(hs:swapsWith e @dW pos.line X.env=pure false:=by rfl)(G:X.fn x=true\/X.env.scope.names.lookup x=some .local:=by first|exact .inl rfl|exact .inr rfl|assumption):PS X (.Assign [.Name x pos'] e pos) (E4 te (jJ i)):=bq z hi F U hs G
end L2
local macro_rules|`(tactic|walk_at "l3de")=>`(tactic|first|(show L2.PE _ (.Name _ _) _;first|exact L2.wv 0|exact L2.wv 1|exact L2.wv 2|exact L2.wv 3|exact L2.wv 4|exact L2.wv 5|exact L2.wv 6|exact L2.wv 7|exact L2.wv 8|exact L2.wv 9|exact L2.B0 rfl (by assumption) (by assumption)|exact L2.bR rfl (by assumption))|(show L2.PE _ (.Subscript _ (.Slice _ _ _ _) _) _;exact L2.Gb (L2.PL rfl) (by right) (by right) (by right))|(show L2.PE _ (.Subscript _ _ _) _;exact L2.BZ (L2.IZ rfl) (by right) (by right) (fun _ _=>rfl))|(show L2.PE _ (.Constant _ _ _) _;first|exact L2.b9|exact L2.bH|exact L2.fm|exact L2.iN)|(show L2.PE _ (.Call _ _ _ _) _;walk_at "l3dc")|(show L2.PE _ (.BinOp _ _ _ _) _;walk_at "l3db")|(show L2.PE _ (.Tuple _ _ _) _;exact L2.jT (by right))|(show L2.PE _ (.List _ _) _;exact L2.eL (by right))|(show L2.PE _ (.Attribute _ _ _) _;exact L2.ME rfl (by right))|(show L2.PE _ (.Compare _ _ _ _) _;walk_at "l3dm")|(show L2.PE _ (.IfExp _ _ _ _) _;exact L2.BD (by right) (by right) (by right))|(show L2.PE _ (.UnaryOp .Not _ _) _;exact L2.MD rfl (by right))|(show L2.PE _ (.UnaryOp .USub _ _) _;exact L2.yj L2.xF (by right))|(show L2.PE _ (.BoolOp _ [_] _) _;exact L2.Gc (by right))|(show L2.PE _ (.BoolOp .And _ _) _;exact L2.EA (by right) (by right))|(show L2.PE _ (.BoolOp .Or _ _) _;exact L2.PK (by right) (by right)))
local macro_rules|`(tactic|walk_at "l3dc")=>`(tactic|first|(show L2.PE _ (.Call (.Name "len" _) _ _ _) _;exact L2.aM (L2.PU rfl) rfl (by assumption) PySem.boot_len (by right))|(show L2.PE _ (.Call (.Name _ _) _ _ _) _;exact L2.c8 (by assumption) (by assumption) (by decide) rfl (by right))|(show L2.PE _ (.Call (.Attribute _ "append" _) _ _ _) _;exact L2.gW rfl PySem.F.plainAttrs_list PySem.F.slot_list_append PySem.F.type_list_append L2.xJ (by right) (by right))|(show L2.PE _ (.Call (.Attribute _ "extend" _) _ _ _) _;exact L2.gW rfl PySem.F.plainAttrs_list PySem.F.slot_list_extend PySem.F.type_list_extend L2.pR (by right) (by right))|(show L2.PE _ (.Call (.Attribute _ "split" _) _ _ _) _;exact L2.gW rfl PySem.F.plainAttrs_str PySem.F.slot_str_split PySem.F.type_str_split L2.BE (by right) (by right))|(show L2.PE _ (.Call (.Attribute _ "join" _) _ _ _) _;exact L2.gW rfl PySem.F.plainAttrs_str PySem.F.slot_str_join PySem.F.type_str_join (L2.zO rfl) (by right) (by right)))
local macro_rules|`(tactic|walk_at "l3db")=>`(tactic|first|(show L2.PE _ (.BinOp _ .Add _ _) _;exact L2.dO (L2.ir rfl) (by right) (by right))|(show L2.PE _ (.BinOp _ .Sub _ _) _;exact L2.dO L2.LJ (by right) (by right))|(show L2.PE _ (.BinOp _ .Mult _ _) _;exact L2.dO L2.ED (by right) (by right))|(show L2.PE _ (.BinOp _ .Mod _ _) _;exact L2.dO L2.PP (by right) (by right))|(show L2.PE _ (.BinOp _ .FloorDiv _ _) _;exact L2.dO L2.MI (by right) (by right))|(show L2.PE _ (.BinOp _ .Pow _ _) _;exact L2.dO L2.PN (by right) (by right))|(show L2.PE _ (.BinOp _ .LShift _ _) _;exact L2.dO L2.PM (by right) (by right))|(show L2.PE _ (.BinOp _ .BitAnd _ _) _;exact L2.dO L2.P2 (by right) (by right))|(show L2.PE _ (.BinOp _ .BitOr _ _) _;exact L2.dO L2.Sw (by right) (by right)))
local macro_rules|`(tactic|walk_at "l3dm")=>`(tactic|first|(show L2.PE _ (.Compare _ [.Eq] _ _) _;exact L2.c5 (L2.xI rfl (by assumption)) (by right) (by right) (L2.bV _))|(show L2.PE _ (.Compare _ [.NotEq] _ _) _;exact L2.c5 (L2.xG rfl (by assumption)) (by right) (by right) (L2.bV _))|(show L2.PE _ (.Compare _ [.Lt] _ _) _;exact L2.c5 L2.w_lt (by right) (by right) (L2.bV _))|(show L2.PE _ (.Compare _ [.Gt] _ _) _;exact L2.c5 L2.MH (by right) (by right) (L2.bV _))|(show L2.PE _ (.Compare _ [.LtE] _ _) _;exact L2.c5 L2.xH (by right) (by right) (L2.bV _))|(show L2.PE _ (.Compare _ [.GtE] _ _) _;exact L2.c5 L2.PZ (by right) (by right) (L2.bV _))|(show L2.PE _ (.Compare _ [.In] _ _) _;exact L2.c5 (L2.MG rfl) (by right) (by right) (by with_unfolding_all rfl))|(show L2.PE _ (.Compare _ [.LtE,.Lt] _ _) _;exact L2.xB L2.xH L2.w_lt (by right) (by right) (by right))|(show L2.PE _ (.Compare _ [.LtE,.LtE] _ _) _;exact L2.xB L2.xH L2.xH (by right) (by right) (by right)))
local macro_rules|`(tactic|walk_at "l3dt")=>`(tactic|first|(show L2.PT _ (.Compare _ _ _ _) _;walk_at "l3dn")|(show L2.PT _ (.BoolOp _ _ _) _;exact L2.PW.pt (by right))|(show L2.PT _ (.UnaryOp .Not _ _) _;exact L2.dN (by right))|(show L2.PT _ _ _;exact L2.pP rfl (by right)))
local macro_rules|`(tactic|walk_at "l3dn")=>`(tactic|first|(show L2.PT _ (.Compare _ [.Eq] _ _) _;exact L2.cq (L2.xI rfl (by assumption)) (by right) (by right) (L2.bV _))|(show L2.PT _ (.Compare _ [.Lt] _ _) _;exact L2.cq L2.w_lt (by right) (by right) (L2.bV _))|(show L2.PT _ (.Compare _ [.Gt] _ _) _;exact L2.cq L2.MH (by right) (by right) (L2.bV _))|(show L2.PT _ (.Compare _ [.LtE] _ _) _;exact L2.cq L2.xH (by right) (by right) (L2.bV _))|(show L2.PT _ (.Compare _ [.GtE] _ _) _;exact L2.cq L2.PZ (by right) (by right) (L2.bV _))|(show L2.PT _ (.Compare _ [.NotEq] _ _) _;exact L2.cq (L2.xG rfl (by assumption)) (by right) (by right) (L2.bV _))|(show L2.PT _ (.Compare _ [.In] _ _) _;exact L2.cq (L2.MG rfl) (by right) (by right) (by with_unfolding_all rfl))|(show L2.PT _ (.Compare _ [.Is] _ _) _;exact L2.cq L2.LK (by right) (by right) (L2.bV _))|(show L2.PT _ (.Compare _ [.LtE,.Lt] _ _) _;exact L2.xA L2.xH L2.w_lt (by right) (by right) (by right))|(show L2.PT _ (.Compare _ [.LtE,.LtE] _ _) _;exact L2.xA L2.xH L2.xH (by right) (by right) (by right)))
local macro_rules|`(tactic|walk_at "l3dd")=>`(tactic|first|(show L2.PE _ _ _;walk_at "l3de")| (show L2.PA _ _ _;first|exact L2.am|exact L2.aq (by right) (by right))| (show L2.PT _ _ _;walk_at "l3dt")| (show L2.PS _ (.Assign [.Name _ _] _ _) _;first|(refine' L2.F5 0 ?_;walk_at "l3dd")|(refine' L2.F5 1 ?_;walk_at "l3dd")|(refine' L2.F5 2 ?_;walk_at "l3dd")|(refine' L2.F5 3 ?_;walk_at "l3dd")|(refine' L2.F5 4 ?_;walk_at "l3dd")|(refine' L2.F5 5 ?_;walk_at "l3dd")|(refine' L2.F5 6 ?_;walk_at "l3dd")|(refine' L2.F5 7 ?_;walk_at "l3dd")|(refine' L2.F5 8 ?_;walk_at "l3dd")|(refine' L2.F5 9 ?_;walk_at "l3dd")|(refine' L2.F5 10 ?_;walk_at "l3dd"))| (show L2.PW _ (.BoolOp .And [_] _) _;exact L2.wb (by right))| (show L2.PW _ (.BoolOp .Or [_] _) _;exact L2.v9 (by right))| (show L2.PW _ (.BoolOp .And _ _) _;exact L2.ve (by right) (by right))| (show L2.PW _ (.BoolOp .Or _ _) _;exact L2.By (by right) (by right))| (show L2.PO _ none _;exact L2.JO)| (show L2.PO _ _ _;exact L2.IX (by right))| (show L2.PG _ (.Name _ _) _;first|exact L2.F9 0|exact L2.F9 1|exact L2.F9 2|exact L2.F9 3|exact L2.F9 4|exact L2.F9 5|exact L2.F9 6|exact L2.F9 7|exact L2.F9 8|exact L2.F9 9|exact L2.F9 10)| (show L2.PG _ (.Tuple _ _ _) _;exact L2.dF rfl rfl (by right))| (show L2.Eb _ [] _;exact L2.cz)| (show L2.Eb _ _ _;exact L2.ay (by right) (by right))| (show L2.PI _ _ _ _;exact L2.vf rfl (by right)))
namespace L2
open PySem PySem.Spec PyProof.Rows PySem.W
def NF (K:Frag)(x:Str)(st:Stmt)(f:Addr):Prop:=nsIn K mainGlobals x=some @Y/\∃fd,bo K x x st f fd
def MF (K:Frag)(C:Addr)(x q:Str)(st:Stmt)(f:Addr):Prop:=Ix K C x f/\∃fd,bo K x q st f fd
theorem Rj {K:Frag}{x:Str}{st:Stmt}{f:Addr}{R:Value}{od J:Option Addr}{ad:Array @E}{z Y I j Z:Value}(a:nsIn K mainGlobals x=some @Y)(l:K.lookup f=some ⟨R,od,.func (fnOf x x @dZ @cO @bX .none z Y I J j Z),ad⟩)(c:codeIn K j x=true)(k:keepIn K (.ref f)=true):NF K x st f:=⟨a,_,rH l c k⟩
theorem Ro {K:Frag}{C:Addr}{x q:Str}{st:Stmt}{f:Addr}{R:Value}{od J:Option Addr}{ad:Array @E}{z Y I j Z:Value}(a:findIn K (.ref C) x=some @Y)(l:K.lookup f=some ⟨R,od,.func (fnOf x q @dZ @cO @bX .none z Y I J j Z),ad⟩)(c:codeIn K j q=true)(k:keepIn K (.ref f)=true)(n:isFn K (.ref f)=true):MF K C x q st f:=⟨⟨a,n,k⟩,_,rH l c k⟩
structure pz (P:Program)(w:World)(K:Frag)(mg:Str->Option Value)(base:Heap)(h:Heap):Prop where
 X:K.In h
 G:h.Ns mainGlobals mg
def BA (x q:Str)(st:Stmt)(us:List Value)(ps:List Str):Prop:=∀(kV doc pm:Value) (an:Option Addr) (cdv ct:Value),bindArgs (fnOf x q @dZ @cO @bX .none kV doc pm an cdv ct) ⟨us,[]⟩=pure @cG
def Pu (x q:Str)(st:Stmt)(ps0:List Str):List Str->List Value->Prop
 |[],us=>BA x q st us ps0
 |_::ps,us=>∀a,Pu x q st ps0 ps (us++[a])
def BN (x q:Str)(st:Stmt)(ps:List Str):Prop:=Pu x q st ps ps []
theorem Pu.all {x q:Str}{st:Stmt}{j:List Str}:∀ {ps:List Str} {us vs:List Value},Pu x q st j ps us->vs.length=ps.length->BA x q st (us++vs) j
 |[],us,[],h,_=>by rw [append_nil];exact h
 |_::ps,us,v::vs,h,hl=>by
  have z:=Pu.all (h v) (Nat.succ.inj hl);rw [append_assoc] at z;exact z
theorem BN.all {x q:Str}{st:Stmt}{ps:List Str}(h:BN x q st ps)(us:List Value)(R:us.length=ps.length):BA x q st us ps:=Pu.all (us:=[]) h R
section
variable {P:Program}{w:World}{K:Frag}{mg:Str->Option Value}{base h:Heap}{x q:Str}{st:Stmt}{f C:Addr}{fd:FuncData}{ps:List Str}{n:Nat}{sp:Sp}
theorem bo.bn (F:bo K x q st f fd)(b:BN x q st ps):eK K fd ps []:=F.binds λG Y I J j Z z R=>b.all z R G Y I J j Z
theorem pz.gl (T:pz P w K mg base h){v:Value}(a:nsIn K mainGlobals x=some @bD):mg x=some v:=mg_of T.X T.G a
theorem pz.no (T:pz P w K mg base h)(a:nsIn K mainGlobals x=some none):mg x=none:=mg_none_of T.X T.G a
theorem pz.ok {CX:ml}(T:pz P w K mg base h)(o:av P w K mg base CX n f fd ps sp):av P w K mg base CX n f fd ps sp:=o
theorem pz.cal (T:pz P w K mg base h)(a:nsIn K mainGlobals x=some @Y)(F:bo K x x st f fd)(o:av P w K mg base bb n f fd ps sp)(b:BN x x st ps:=by (repeat intro _);rfl):bf P w K mg base n x ps sp:=⟨_,_,o,F.bn b,F.kp,T.gl a⟩
theorem pz.calX (T:pz P w K mg base h)(a:nsIn K mainGlobals x=some @Y)(F:bo K x x st f fd)(o:av P w K mg base @bU n f fd ps sp)(b:BN x x st ps:=by (repeat intro _);rfl):uk P w K mg base n x ps sp:=⟨_,_,o,F.bn b,F.kp,T.gl a⟩
theorem pz.calH {sp:Addr->Sp}(T:pz P w K mg base h)(a:nsIn K mainGlobals x=some @Y)(F:bo K x x st f fd)(o:zC P w K mg base n f fd ps sp)(b:BN x x st ps:=by (repeat intro _);rfl):LG P w K mg base n x ps sp:=⟨_,_,o,F.bn b,F.kp,T.gl a⟩
theorem Tn {CX:ml}(F:bo K x q st f fd)(c:uj K C)(m:Ix K C x f)(o:av P w K mg base CX n f fd ps sp)(b:BN x q st ps:=by (repeat intro _);rfl):jc P w K mg base CX n x C sp:=⟨_,_,_,c,m,o,F.bn b⟩
theorem pz.mkc {CX:ml}{y:Str}(T:pz P w K mg base h)(F:bo K x q st f fd)(m:Mk K C f)(g:mg y=some (.ref C))(o:av P w K mg base CX n f fd ps sp)(b:BN x q st ps:=by (repeat intro _);rfl):ja P w K mg base CX n y C sp:=⟨_,_,_,m,o,F.bn b,g⟩
theorem pz.cal' (T:pz P w K mg base h)(a:NF K x st f)(o:∀ {fd},bo K x x st f fd->av P w K mg base bb n f fd ps sp)(b:BN x x st ps:=by (repeat intro _);rfl):bf P w K mg base n x ps sp:=let ⟨a,_,F⟩:=a;T.cal a F (o F) b
theorem pz.calX' (T:pz P w K mg base h)(a:NF K x st f)(o:∀ {fd},bo K x x st f fd->av P w K mg base @bU n f fd ps sp)(b:BN x x st ps:=by (repeat intro _);rfl):uk P w K mg base n x ps sp:=let ⟨a,_,F⟩:=a;T.calX a F (o F) b
theorem pz.calH' {sp:Addr->Sp}(T:pz P w K mg base h)(a:NF K x st f)(o:∀ {fd},bo K x x st f fd->zC P w K mg base n f fd ps sp)(b:BN x x st ps:=by (repeat intro _);rfl):LG P w K mg base n x ps sp:=let ⟨a,_,F⟩:=a;T.calH a F (o F) b
theorem pz.mcal' {D:Addr}{CX:ml}(T:pz P w K mg base h)(a:MF K D x q st f)(c:uj K C)(m:Ix K C x f)(o:∀ {fd},bo K x q st f fd->av P w K mg base CX n f fd ps sp)(b:BN x q st ps:=by (repeat intro _);rfl):jc P w K mg base CX n x C sp:=let ⟨_,_,F⟩:=a;Tn F c m (o F) b
theorem pz.mkc' {D:Addr}{CX:ml}{y:Str}(T:pz P w K mg base h)(a:MF K D x q st f)(m:Mk K C f)(g:mg y=some (.ref C))(o:∀ {fd},bo K x q st f fd->av P w K mg base CX n f fd ps sp)(b:BN x q st ps:=by (repeat intro _);rfl):ja P w K mg base CX n y C sp:=let ⟨_,_,F⟩:=a;T.mkc F m g (o F) b
theorem bo.law {y:Str}(F:bo K x q st f fd)(b:BN x q st [y]:=by (repeat intro _);rfl)(s:Shared)(v:Value):BindsTo s fd ⟨[v],[]⟩ [(y,v)]:=by
 obtain ⟨R,S,G,Y,I,J,j,Z,ad,rfl,O,z⟩:=F.ex;exact .of_eq (b v G Y I J j Z)
end
theorem Uj {p:Prop}(h:p):p:=h
end L2
namespace My
open PySem L2 PyProof.Rows
theorem Lp (a b:Nat):Builtin.bitAnd (a:Int) (b:Int)=((a&&&b:Nat):Int):=by
 unfold Builtin.bitAnd;simp
theorem NX (a b:Nat):Builtin.bitOr (a:Int) (b:Int)=((a|||b:Nat):Int):=by
 unfold Builtin.bitOr Builtin.bitAnd Builtin.bitNot
 have h1: ¬(0:Int)<= -(a:Int) - 1:=by lia
 have h2: ¬(0:Int)<= -(b:Int) - 1:=by lia
 simp only [h1,h2,decide_false]
 have S:(-(-(a:Int) - 1) - 1).toNat=a:=by lia
 have O:(-(-(b:Int) - 1) - 1).toNat=b:=by lia
 rw [S,O];lia
theorem testBit_and (M k:Nat):decide (M&&&2^k=0)= !M.testBit k:=by
 have e:(M&&&2^k).testBit k=M.testBit k:=by rw [Nat.testBit_and,Nat.testBit_two_pow_self,Bool.and_true]
 cases h:M.testBit k with
 |true=>
  rw [h] at e;rwa[decide_eq_false λz=> ?_];rw [z] at e;simp at e
 |false=>
  rwa[decide_eq_true (Nat.eq_of_testBit_eq λi=> ?_)];rw [Nat.testBit_and,Nat.zero_testBit];by_cases hi:k=i
  ·subst hi;rw [h];rfl
  ·rw [Nat.testBit_two_pow_of_ne hi,Bool.and_false]
def jM (M n:Nat):List Nat:=(List.range n).filter λi=>M.testBit i
theorem kE (M n:Nat):jM M (n+1)=jM M n++if M.testBit n then [n] else []:=by
 unfold jM;rw [range_succ,filter_append];congr 1;cases h:M.testBit n<;>simp [h]
theorem uF {M n i:Nat}:i∈jM M n↔i<n/\M.testBit i=true:=by
 unfold jM;rw [mem_filter,mem_range]
def L (M:Nat):Nat:=Builtin.Int.intBits (M:Int)
theorem Iy (M:Nat):L M=if M=0 then 0 else M.log2+1:=by
 unfold L Builtin.Int.intBits;by_cases h:M=0
 ·subst h;rfl
 ·have:((M:Int)==0)=false:=beq_eq_false_iff_ne.mpr @c;rw [this,if_neg h];simp
theorem RZ (M:Nat):M<2^L M:=by
 rw [Iy];split
 ·rename_i h;subst h;decide
 ·exact Nat.lt_log2_self
theorem R0 {M n:Nat}(h:M<2^n):L M<=n:=by
 rw [Iy];split
 ·lia
 ·rename_i I;have:=(Nat.log2_lt I).mpr h;lia
theorem BI {M:Nat}(h:M≠0):M.testBit (L M - 1)=true:=by
 rw [Iy,if_neg h];have h1:=Nat.log2_self_le h;have h2:=Nat.lt_log2_self (n:=M);rw [Nat.add_sub_cancel,Nat.testBit_eq_decide_div_mod_eq];rwa[decide_eq_true ?_]
 have e:M / 2^M.log2=1:=by
  rwa[Nat.div_eq_of_lt_le @c ?_];rw [Nat.pow_succ] at h2;lia
 rw [e]
def jB (M:Nat):List Nat:=jM M (L M)
theorem lI {M i:Nat}:i∈jB M↔M.testBit i=true:=by
 unfold jB;rw [uF];rwa[⟨λh=>h.2,λh=>⟨?_,h⟩⟩];rwa[Nat.lt_of_not_le λj=> ?_];have:=Nat.testBit_lt_two_pow (Nat.lt_of_lt_of_le (RZ M) (Nat.pow_le_pow_right @b j));rw [this] at h;cases h
theorem Cz {M n i:Nat}(h:M<2^n)(hi:i∈jB M):i<n:=by
 have:=(uF.mp hi).1;have:=R0 h;lia
theorem D8 {M:Nat}(h:M≠0):∃l,jB M=l++[L M - 1]:=by
 have j:L M=(L M - 1)+1:=by
  have:=Iy M;rw [if_neg h] at this;lia
 rwa[⟨jM M (L M - 1),?_⟩]
 have e:jB M=jM M ((L M - 1)+1):=by rw [<-j];rfl
 rw [e,kE,BI h];rfl
theorem Il {M:Nat}:jB M=[]↔M=0:=by
 constructor
 ·intro h;rwa[Classical.byContradiction λF=> ?_];obtain ⟨l,e⟩:=D8 F;rw [h] at e;simp at e
 ·rintro rfl;rfl
def oy (ks:List Nat):Nat:=ks.foldl (λacc k=>acc|||2^k) 0
theorem qT:∀(ks:List Nat) (acc i:Nat),(ks.foldl (λacc k=>acc|||2^k) acc).testBit i=(acc.testBit i||decide (i∈ks))
 |[],acc,i=>by simp
 |k::ks,acc,i=>by
  rw [foldl_cons,qT ks,Nat.testBit_or];by_cases h:k=i
  ·subst h;simp [Nat.testBit_two_pow_self]
  ·rw [Nat.testBit_two_pow_of_ne h];have h': ¬i=k:=λz=>h z.symm;simp [h']
end My
namespace My
open PySem L2 PyProof.Rows
noncomputable def ua:List Nat:=[48,49,50,51,52,53,54,55,56,57]
noncomputable def mq (x:Str):Bool:=if x.length=0\/9<x.length then false else if x.cps.toList[0]? =some 48/\x≠Str.ofString "0" then false else x.cps.toList.all λc=>decide (c∈ua)
noncomputable def B4 (x:Str):Option Nat:=if mq x=true then some (PySem.NumText.digitsVal x.cps.toList) else none
noncomputable def bS (x:Str):Option Int:=(B4 x).map λn:Nat=>(n:Int)
def lk (fl:Nat):List Nat->Nat->Nat->Option Nat
 |[],_,lo=>some lo
 |k::ks,last,lo=>if last<k/\k<fl then lk fl ks k (lo+2^k) else none
def Se (i:Int):Str:=Str.ofString @gr
structure gQ where
 start:Int
 room:Int
 turns:Int
 kind:Str
noncomputable def gQ.ok (fl:Int)(l:gQ):Bool:=decide (0<=l.start/\l.start<fl/\1<=l.room/\l.room<=6/\1<=l.turns/\l.turns<=4/\(l.kind=Str.ofString "plain"\/l.kind=Str.ofString "hasty"\/l.kind=Str.ofString "slow"))
noncomputable def IL (fl:Int)(ls:List gQ)(lo:Int)(so:Str):Bool:=decide (2<=fl/\fl<=8)&&decide (1<=ls.length/\ls.length<=3)&&ls.all @cH&&decide (0<=lo/\lo<2^fl.toNat/\lo% 2=0)&&decide (so=Str.ofString "free"\/so=Str.ofString "way")
theorem wj {fl:Int}{j:List gQ}{lo:Int}{so:Str}:IL fl j lo so=true↔(2<=fl/\fl<=8)/\(1<=j.length/\j.length<=3)/\j.all @cH=true/\(0<=lo/\lo<2^fl.toNat/\lo% 2=0)/\(so=Str.ofString "free"\/so=Str.ofString "way"):=by
 unfold IL;simp only [Bool.and_eq_true,decide_eq_true_eq,and_assoc]
end My
namespace My
open PySem L2 PyProof.Rows
def Nu (bs:List Bool)(first:Int):Nat->Nat->Int
 |_,0=> -1
 |k,r+1=>if bs.getD ((first+k)% bs.length).toNat false=true then (first+k)% bs.length else Nu bs first (k+1) r
def sf (bs:List Bool)(first:Int):Int:=Nu bs first 0 bs.length
structure mi where
 pl:Int
 li:Int
 dr:Int
 mr:Int
 ab:List (Int×Int)
def mi.d (c:mi):D:= .tup [.int c.pl,.int c.li,.int c.dr,.int c.mr,.tup (c.ab.map λq=> .tup [.int q.1,.int q.2])]
def mi.srv (c:mi):Bool:=decide (c.mr=0)
structure Rd where
 t:Int
 s:Int
 g:Int
 l:Int
def Rd.d (r:Rd):D:= .tup [.int r.t,.int r.s,.int r.g,.int r.l]
end My
namespace L2
open PySem PySem.Spec PyProof.Rows
def jx (bs:List Bool)(n:Nat):List Nat:=(List.range n).filter λi=>bs.getD i false
abbrev srv (bs:List Bool):List Nat:=jx bs bs.length
theorem CQ {bs:List Bool}{n:Nat}:jx bs (n+1)=jx bs n++(if bs.getD n false=true then [n] else []):=by
 unfold jx;rw [range_succ,filter_append];congr 1;simp only [filter_cons,filter_nil]
theorem xU {bs:List Bool}{n:Nat}:(jx bs n).length<=n:=by
 unfold jx;rwa[Nat.le_trans @bT ?_];rw [length_range];exact Nat.le_refl _
theorem pD {bs:List Bool}{j:Nat}:j∈srv bs↔j<bs.length/\bs.getD j false=true:=by
 unfold srv jx;rw [mem_filter,mem_range]
theorem Ni {bs:List Bool}{i F j G:Nat}(h:(srv bs)[i]? =some j)(h':(srv bs)[F]? =some G)(Z:j<G):i<F:=by
 have J:(srv bs).Pairwise (· < ·):=List.Pairwise.filter _ pairwise_lt_range;obtain ⟨l,e⟩:=List.getElem?_eq_some_iff.mp h;obtain ⟨O,I⟩:=List.getElem?_eq_some_iff.mp h';have:=pairwise_iff_getElem.mp J
 rcases Nat.lt_trichotomy i F with z|z|z
 ·exact z
 ·subst z;rw [e] at I;lia
 ·have:=this F i O l z;rw [e,I] at this;lia
def R6 (bs:List Bool)(ws:Nat->Int)(n:Nat)(r:Int):Prop:=(r= -1/\∀j,j<n->bs.getD j false=false)\/∃i:Nat,r=i/\i<n/\bs.getD i false=true/\∀j,j<n->bs.getD j false=true->ws i<=ws j/\(j<i->ws i<ws j)
abbrev eR (bs:List Bool)(ws:Nat->Int)(r:Int):Prop:=R6 bs ws bs.length r
theorem eR.uniq {bs:List Bool}{ws:Nat->Int}{r R:Int}(h:eR bs ws r)(h':eR bs ws R):r=R:=by
 rcases h with ⟨rfl,h⟩|⟨i,rfl,hi,F,h⟩<;>rcases h' with ⟨rfl,h'⟩|⟨G,rfl,ah,j,h'⟩
 ·rfl
 ·rw [h G ah] at j;cases j
 ·rw [h' i hi] at F;cases F
 ·have a:=h G ah j;have b:=h' i hi F
  rcases Nat.lt_trichotomy i G with z|z|z
  ·have:=b.2 z;lia
  ·rw [z]
  ·have:=a.2 z;lia
theorem w6 {bs:List Bool}{ws:Nat->Int}(h:srv bs=[]):eR bs ws (-1):= .inl ⟨rfl,λj Z=>by
 cases z:bs.getD j false with
 |false=>rfl
 |true=>
  have:=pD.mpr ⟨Z,z⟩
  rw [h] at this;cases this⟩
theorem w5 {bs:List Bool}{ws:Nat->Int}{i j:Nat}(hi:(srv bs)[i]? =some j)(O:∀i',i'<(srv bs).length->ws ((srv bs).getD i 0)<=ws ((srv bs).getD i' 0)/\(i'<i->ws ((srv bs).getD i 0)<ws ((srv bs).getD i' 0))):eR bs ws (j:Int):=by
 have J:(srv bs).getD i 0=j:=by rw [getD_eq_getElem?_getD,hi];rfl
 have G:=pD.mp (mem_of_getElem? hi);rwa[.inr ⟨j,rfl,G.1,G.2,λk Y I=> ?_⟩];obtain ⟨i',ah⟩:=mem_iff_getElem?.mp (pD.mpr ⟨Y,I⟩)
 have F:(srv bs).getD i' 0=k:=by rw [getD_eq_getElem?_getD,ah];rfl
 have:=O i' (List.getElem?_eq_some_iff.mp ah).1;rw [J,F] at this;exact ⟨this.1,λz=>this.2 (Ni ah hi z)⟩
def RT (i:Int):Int:=if i<0 then -i else i
end L2
namespace My
open PySem L2
def NQ (cs:List mi)(i:Nat):Int:=match cs[i]? with|some c=>c.pl|none=>0
def Pc (cs:List mi)(i:Nat):Nat:=match cs[i]? with|some c=>c.ab.length|none=>0
def uC (cs:List mi)(s:Int)(i:Nat):Int:=RT (NQ cs i - 2*s)
def fP (cs:List mi)(ls:List Int)(i:Nat):Int:=(Pc cs i:Int)+(ls.count (i:Int):Nat)
end My
namespace My
open PySem L2 PyProof.Rows
abbrev d0:Str:=Str.ofString "0"
abbrev d1:Str:=Str.ofString "1"
abbrev d2:Str:=Str.ofString "2"
abbrev QA:Str:=Str.ofString "near"
abbrev Nb:Str:=Str.ofString "least"
abbrev M7:Str:=Str.ofString "turns"
abbrev Qu:Str:=Str.ofString "zone"
abbrev Nd:Str:=Str.ofString "fixed"
inductive Kd where
 |near
 |least
 |turns
 |zone (is:List Int)
 |fixed (is:List Int)
def Kd.nm:Kd->Str
 | .near=>QA
 | .least=>Nb
 | .turns=>M7
 | .zone _=>Qu
 | .fixed _=>Nd
def Kd.is:Kd->List Int
 | .zone is=>is
 | .fixed is=>is
 |_=>[]
def Kd.ok (fl:Int)(n:Nat):Kd->Prop
 | .zone is=>(is.length:Int)=fl/\∀i∈is,0<=i/\i<(n:Int)
 | .fixed is=>1<=is.length/\is.length<=9/\∀i∈is,0<=i/\i<(n:Int)
 |_=>True
def wt (ts:List Str):Nat:=(ts.map (·.length)).sum+2*ts.length
theorem pB (x:Str)(ts:List Str):wt (x::ts)=x.length+2+wt ts:=by unfold wt;simp only [map_cons,sum_cons,length_cons];lia
theorem Bz {z:Str}(j:z.length<=2)(ts:List Str):(Str.join z ts).length<=wt ts:=by
 have h1:=PySem.StrLaws.join_length_le z ts;have S:ts.length*z.length<=ts.length*2:=Nat.mul_le_mul_left _ j;unfold wt;lia
theorem PH {z:Str}(j:z.length<=2){ts:List Str}(h:wt ts<=100000):(ts.toArray.foldl (· + ·.length+z.length) 0)<=sizeLine/\(Builtin.Str.glued z ts).length<=sizeLine:=by
 have S:ts.length*z.length<=ts.length*2:=Nat.mul_le_mul_left _ j;rwa[⟨aR ?_,aR ?_⟩]
 ·rw [PySem.StrLaws.joinTotal];unfold wt at h;lia
 ·rw [PySem.StrLaws.glued_eq_join];have:=Bz j ts;lia
theorem Ev (s y:Str)(S:1<=y.length):wt (Txt.split s y)<=2*(s.length+1):=by
 have:=PyProof.Rows.split_weight s y S;unfold wt;lia
theorem Ew:∀(ts:List Str) (i:Nat) (v:Str),wt (ts.set i v)<=wt ts+v.length
 |[],_,_=>by simp
 |x::ts,0,v=>by rw [set_cons_zero,pB,pB];lia
 |x::ts,i+1,v=>by
  rw [set_cons_succ,pB,pB];have:=Ew ts i v;lia
theorem ss {z:Str}(j:CI z):∀ {ts:List Str},(∀t∈ts,CI t)->CI (Str.join z ts)
 |[],_=>λc J=>by cases J
 |[p],h=>h p (.head _)
 |p::q::r,h=>by
  intro c J;have J:c∈(p++z++Str.join z (q::r)).cps.toList:=J;rw [Str.cps_append,Str.cps_append,Array.toList_append,Array.toList_append,mem_append,mem_append] at J
  rcases J with (J|J)|J
  ·exact h p (.head _) c J
  ·exact j c J
  ·exact ss j (λx F=>h x (.tail _ F)) c J
def TL (n:Nat)(s:Str):Prop:=s.length<=n/\CI s
theorem TL.app {n m:Nat}{a b:Str}(h:TL n a)(h':TL m b):TL (n+m) (a++b):=by
 rwa[⟨?_,λx F=> ?_⟩]
 ·rw [strLen_append];have:=h.1;have:=h'.1;lia
 ·rw [jv] at F
  rcases mem_append.mp F with F|F
  ·exact h.2 x F
  ·exact h'.2 x F
theorem TL.to {m:Nat}{s:Str}(h:TL m s){n:Int}(Z:0<=n):TL m (Txt.slice s none @fq):=by
 have c:=iF (x:=s) Z;rwa[⟨?_,λx F=> ?_⟩]
 ·rw [<-aF,c,length_take,aF];have:=h.1;lia
 ·rw [c] at F;exact h.2 x (mem_of_mem_take F)
theorem TL.from {m:Nat}{s:Str}(h:TL m s){n:Int}(Z:0<=n):TL m (Txt.slice s @fq none):=by
 have c:=fi (x:=s) Z;rwa[⟨?_,λx F=> ?_⟩]
 ·rw [<-aF,c,length_drop,aF];have:=h.1;lia
 ·rw [c] at F;exact h.2 x (mem_of_mem_drop F)
theorem lE {i:Int}(I:0<=i)(h1:i<10^10):TL 20 (Se i):=by
 rwa[⟨Nat.le_trans (PySem.W.KT.len_num I h1) @b,?_⟩];obtain ⟨m,rfl⟩:=Int.eq_ofNat_of_zero_le I;intro c J;have J:c∈(PySem.Str.ofString (toString ((m:Nat):Int))).cps.toList:=J;rw [PySem.W.KIN.signs_num] at J;obtain ⟨z,j,e⟩:=mem_map.mp J;have r:=PyProof.Rows.digit_range (Nat.isDigit_of_mem_toDigits @b @b j);lia
end My
namespace L2
open PySem PySem.Spec PyProof.Rows
def aN (H H':Hp):Prop:=∀b o,(∀xs,o≠ .lst xs)->(∀C dx fs,o≠ .ins C dx fs)->H b=some o->H' b=some o
theorem aN.refl (H:Hp):aN H H:=λ_ _ _ _ e=>e
theorem aN.trans {H H1 H2:Hp}(a:aN H H1)(b:aN H1 H2):aN H H2:=λc o W S e=>b c o W S (a c o W S e)
theorem ak.st {H H':Hp}(s:ak H H'):aN H H':=λb o _ _ e=>s b o e
theorem aN.updL {H:Hp}{a:Addr}{xs:List V}{o:HO}(h:H a=some (.lst xs)):aN H @bg:=λb u W _ e=>by
 rw [aj (λz=>by rw [z,h] at e;cases e;exact W _ rfl)];exact e
theorem aN.updI {H:Hp}{a C dx:Addr}{fs:List (Str×V)}{o:HO}(h:H a=some (.ins C dx fs)):aN H @bg:=λb u _ S e=>by
 rw [aj (λz=>by rw [z,h] at e;cases e;exact S _ _ _ rfl)];exact e
theorem aN.tup {H H':Hp}(s:aN H H'){a:Addr}{xs:List V}(h:H a=some (.tup xs)):H' a=some (.tup xs):=s a _ (λ_ z=>by cases z) (λ_ _ _ z=>by cases z) h
theorem aN.sqT {K:Fg}{H H':Hp}(s:aN H H'){a:Addr}{xs:List V}(h:aE K H a xs):aE K H' a xs:=by
 rcases h with (h|⟨u,h⟩)|h
 ·exact .inl (.inl (s.tup h))
 ·exact .inl (.inr ⟨u,s _ _ (λ_ z=>by cases z) (λ_ _ _ z=>by cases z) h⟩)
 ·exact .inr h
theorem aN.den {K:Fg}{H H':Hp}(s:aN H H'){x:V}{d:D}(h:bL K H x d)(F:L2.noL d=true):bL K H' x d:=by
 induction h with
 |non=>exact .non
 |bl b=>exact .bl b
 |int i=>exact .int i
 |str z=>exact .str z
 |lst h hl hi ih=>rw [L2.noL] at F;cases F
 |tup h hl hi ih=>
  rw [L2.noL] at F;exact .tup (s.sqT h) hl λi x d h1 h2=>ih i x d h1 h2 @fx
theorem aN.dens {K:Fg}{H H':Hp}(s:aN H H'){xs:List V}{ds:List D}(h:az K H xs ds)(F:noLs ds=true):az K H' xs ds:=
 PySem.Paired.of h.len λi x d h1 h2=>by
  obtain ⟨e,S,r⟩:=h.get1 h1;rw [h2] at S;cases S;exact s.den r @fx
theorem none_of {H H':Hp}(s:ak H H'){a:Addr}(h:H' a=none):H a=none:=by
 cases y:H a with
 |none=>rfl
 |some o=>rw [s _ _ y] at h;cases h
theorem GX {a b:List D}(h1:noLs a=true)(h2:noLs b=true):noLs (a++b)=true:=by
 induction a with
 |nil=>exact h2
 |cons d a ih=>
  rw [noLs,Bool.and_eq_true] at h1;rw [cons_append,noLs,h1.1,ih h1.2];rfl
theorem qS {α β:Type}{R:α->β->Prop}{xs:List α}{ys:List β}{i:Nat}{x:α}{y:β}(h:Paired R xs ys)(r:R x y):Paired R (xs.set i x) (ys.set i y):=by
 have F:=h.len;rwa[PySem.Paired.of (by simp [F]) λj a b S O=> ?_];by_cases Z:i=j
 ·subst Z
  have hi:i<xs.length:=by
   have:=(List.getElem?_eq_some_iff.mp S).1;rwa [length_set] at this
  rw [getElem?_set_self hi] at S;rw [getElem?_set_self @c] at O;cases S;cases O;exact r
 ·rw [getElem?_set_ne Z] at S O;obtain ⟨G,h2,z⟩:=h.get1 S;rw [O] at h2;cases h2;exact z
theorem aT.sqT {K:Fg}{H H':Hp}(s:aT H H'){a:Addr}{xs:List V}(h:aE K H a xs):aE K H' a xs:=by
 rcases h with (h|⟨u,h⟩)|h
 ·exact .inl (.inl (s _ _ (λ_ z=>by cases z) h))
 ·exact .inl (.inr ⟨u,s _ _ (λ_ z=>by cases z) h⟩)
 ·exact .inr h
theorem aT.sqL {K:Fg}{H H':Hp}(s:aT H H'){a:Addr}{xs:List V}(h:aD K H a xs):aD K H' a xs:=by
 rcases h with (h|⟨u,h⟩)|h
 ·exact .inl (.inl (s _ _ (λ_ z=>by cases z) h))
 ·exact .inl (.inr ⟨u,s _ _ (λ_ z=>by cases z) h⟩)
 ·exact .inr h
theorem aT.den {K:Fg}{H H':Hp}(s:aT H H'){x:V}{d:D}(h:bL K H x d):bL K H' x d:=by
 induction h with
 |non=>exact .non
 |bl b=>exact .bl b
 |int i=>exact .int i
 |str z=>exact .str z
 |lst h hl hi ih=>exact .lst (s.sqL h) hl ih
 |tup h hl hi ih=>exact .tup (s.sqT h) hl ih
theorem aT.dens {K:Fg}{H H':Hp}(s:aT H H'){xs:List V}{ds:List D}(h:az K H xs ds):az K H' xs ds:=Paired.imp' (λ_ _ z=>s.den z) h
def dW (H H':Hp):Prop:=∀b o,(∀xs,o≠ .lst xs)->(∀C dx fs,o≠ .ins C dx fs)->(∀ps,o≠ .tbl ps)->H b=some o->H' b=some o
theorem dW.refl (H:Hp):dW H H:=λ_ _ _ _ _ e=>e
theorem dW.trans {H H1 H2:Hp}(a:dW H H1)(b:dW H1 H2):dW H H2:=λc o W S Z e=>b c o W S Z (a c o W S Z e)
theorem aN.sx {H H':Hp}(s:aN H H'):dW H H':=λb o W S _ e=>s b o W S e
theorem aT.sx {H H':Hp}(s:aT H H'):dW H H':=λb o _ _ Z e=>s b o Z e
theorem dW.sqT {K:Fg}{H H':Hp}(s:dW H H'){a:Addr}{xs:List V}(h:aE K H a xs):aE K H' a xs:=by
 rcases h with (h|⟨u,h⟩)|h
 ·exact .inl (.inl (s _ _ (λ_ z=>by cases z) (λ_ _ _ z=>by cases z) (λ_ z=>by cases z) h))
 ·exact .inl (.inr ⟨u,s _ _ (λ_ z=>by cases z) (λ_ _ _ z=>by cases z) (λ_ z=>by cases z) h⟩)
 ·exact .inr h
theorem dW.den {K:Fg}{H H':Hp}(s:dW H H'){x:V}{d:D}(h:bL K H x d)(F:L2.noL d=true):bL K H' x d:=by
 induction h with
 |non=>exact .non
 |bl b=>exact .bl b
 |int i=>exact .int i
 |str z=>exact .str z
 |lst h hl hi ih=>rw [L2.noL] at F;cases F
 |tup h hl hi ih=>
  rw [L2.noL] at F;exact .tup (s.sqT h) hl λi x d h1 h2=>ih i x d h1 h2 @fx
def GT (G:Hp->Prop):Prop:=∀H H',aN H H'->G H->G H'
def NT (H:Hp):Prop:=∀b ps,H b≠some (.tbl ps)
def zG (H:Hp):Hp:=λb=>match H b with|some (.tbl _)=>none|o=>o
theorem GV (H:Hp):NT (zG H):=λb ps h=>by
 unfold zG at h;split at h
 ·cases h
 ·rename_i x F;rw [h] at F;exact F _ rfl
theorem qV (H:Hp):ak (zG H) H:=λb o h=>by
 unfold zG at h;split at h
 ·cases h
 ·exact h
theorem qW {H:Hp}{b:Addr}{o:HO}(h:H b=some o)(n:∀ps,o≠ .tbl ps):zG H b=some o:=by
 unfold zG;rw [h]
 cases o<;>first|rfl|exact absurd rfl (n _)
theorem GW (H:Hp):aT H (zG H):=λ_ _ n h=>qW h n
theorem Ox {H H':Hp}(s:ak (zG H) H'):aT H H':=λb o n h=>s _ _ (qW h n)
theorem aT.onto {H0 H H':Hp}(j:NT H0)(s:ak H0 H)(s':aT H H'):ak H0 H':=λb o h=>s' b o (λps z=>j b ps (by rw [h,z])) (s b o h)
theorem lF {H:Hp}{b:Addr}(h:H b=none):zG H b=none:=by unfold zG;rw [h]
theorem cf.st {H H':Hp}{P:Addr}{q:Str}(s:aN H H')(t:cf H P q):cf H' P q:=by
 obtain ⟨ps,h1,h2,S⟩:=t;rwa[⟨ps,s _ _ (λ_ z=>by cases z) (λ_ _ _ z=>by cases z) h1,h2,λpos F J=> ?_⟩];obtain ⟨j,e,h⟩:=S pos F J;exact ⟨j,e,s _ _ (λ_ z=>by cases z) (λ_ _ _ z=>by cases z) h⟩
end L2
namespace My
open PySem L2 PyProof.Rows
seal PE PT PS sE PA PI PG Eb Ea PW PO cX Ps bc Ek xg Pg Iw
seal uJ gy jF vG Li on yF kt qj uw B9 Ln Ls yz CM yE setL CK yN pq sM Eg Bx hG Ci Jm
seal Ie rA A6 L2.yP L2.putAt L2.wm fZ K5 ub OF Sc Lj Lo EY
seal nJ vH Cp
def top (i:Nat):Stmt:=PySem.Challenge.pw_liftcourt_k63_ills.main.body.getD i (.Pass ⟨0,0,0,0⟩)
abbrev NE:Stmt:=top 15
theorem QK:ai ["k"] ["k"] (ae NE):=⟨rfl,rfl,rfl,by decide+kernel,rfl,by decide+kernel,by decide+kernel⟩
abbrev ND:Stmt:=top 16
theorem QJ:ai ["mask","k"] ["mask","k"] (ae ND):=⟨rfl,rfl,rfl,by decide+kernel,rfl,by decide+kernel,by decide+kernel⟩
abbrev qq:Stmt:=top 17
theorem CU:ai ["mask","k"] ["mask","k"] (ae qq):=⟨rfl,rfl,rfl,by decide+kernel,rfl,by decide+kernel,by decide+kernel⟩
abbrev AA:Stmt:=top 19
theorem JC:ai ["mask","k"] ["mask","k"] (ae AA):=⟨rfl,rfl,rfl,by decide+kernel,rfl,by decide+kernel,by decide+kernel⟩
abbrev AB:Stmt:=top 20
theorem JD:ai ["mask","k"] ["mask","k"] (ae AB):=⟨rfl,rfl,rfl,by decide+kernel,rfl,by decide+kernel,by decide+kernel⟩
abbrev vT:Stmt:=top 21
theorem FD:ai ["numbers","mask","k"] ["numbers"] (ae vT):=⟨rfl,rfl,rfl,by decide+kernel,rfl,by decide+kernel,by decide+kernel⟩
abbrev vV:Stmt:=top 22
theorem FF:ai ["mask"] ["mask"] (ae vV):=⟨rfl,rfl,rfl,by decide+kernel,rfl,by decide+kernel,by decide+kernel⟩
abbrev vU:Stmt:=top 23
theorem FE:ai ["mask","numbers"] ["mask"] (ae vU):=⟨rfl,rfl,rfl,by decide+kernel,rfl,by decide+kernel,by decide+kernel⟩
abbrev qD:Stmt:=top 24
theorem C3:ai ["mask"] ["mask"] (ae qD):=⟨rfl,rfl,rfl,by decide+kernel,rfl,by decide+kernel,by decide+kernel⟩
abbrev qG:Stmt:=top 26
theorem C7:ai ["lift"] ["lift"] (ae qG):=⟨rfl,rfl,rfl,by decide+kernel,rfl,by decide+kernel,by decide+kernel⟩
abbrev qE:Stmt:=top 27
theorem C4:ai ["cabin"] ["cabin"] (ae qE):=⟨rfl,rfl,rfl,by decide+kernel,rfl,by decide+kernel,by decide+kernel⟩
abbrev gF:Stmt:=top 28
theorem tT:ai ["cabin"] ["cabin"] (ae gF):=⟨rfl,rfl,rfl,by decide+kernel,rfl,by decide+kernel,by decide+kernel⟩
abbrev At:Stmt:=top 29
theorem Jy:ai ["start","goal"] ["start","goal"] (ae At):=⟨rfl,rfl,rfl,by decide+kernel,rfl,by decide+kernel,by decide+kernel⟩
abbrev qt:Stmt:=top 30
theorem CW:ai ["room","cabin","riders","goals"] ["room","cabin","riders"] (ae qt):=⟨rfl,rfl,rfl,by decide+kernel,rfl,by decide+kernel,by decide+kernel⟩
abbrev kb:Stmt:=top 31
theorem oq:ai ["floor","light","riders","ways"] ["floor","light","riders"] (ae kb):=⟨rfl,rfl,rfl,by decide+kernel,rfl,by decide+kernel,by decide+kernel⟩
abbrev v4:Stmt:=top 32
theorem FL:ai ["sort","cabin","tasks","riders","floor","light"] ["sort","cabin","tasks","riders"] (ae v4):=⟨rfl,rfl,rfl,by decide+kernel,rfl,by decide+kernel,by decide+kernel⟩
abbrev FR:Stmt:=top 33
theorem Nx:ai ["sort","room","cabin","riders","floor","tasks","next_up","next_down","up","down"] ["sort","room","cabin","riders"] (ae FR):=⟨rfl,rfl,rfl,by decide+kernel,rfl,by decide+kernel,by decide+kernel⟩
abbrev vO:Stmt:=top 34
theorem Fy:ai ["sort","cabin","word","goals","light"] ["sort","cabin","word"] (ae vO):=⟨rfl,rfl,rfl,by decide+kernel,rfl,by decide+kernel,by decide+kernel⟩
abbrev qI:Stmt:=top 35
theorem C9:ai ["floors","cabin","word"] ["floors","cabin","word"] (ae qI):=⟨rfl,rfl,rfl,by decide+kernel,rfl,by decide+kernel,by decide+kernel⟩
abbrev gz:Stmt:=top 36
theorem tM:ai ["cabin","place","light","door"] ["cabin","place","light","door"] (ae gz):=⟨rfl,rfl,rfl,by decide+kernel,rfl,by decide+kernel,by decide+kernel⟩
abbrev qu:Stmt:=top 37
theorem CY:ai ["sort","floors","turns","cabin","word","place","light","door","done"] ["sort","floors","turns","cabin","word"] (ae qu):=⟨rfl,rfl,rfl,by decide+kernel,rfl,by decide+kernel,by decide+kernel⟩
abbrev j6:Stmt:=top 38
theorem ya:ai ["sort","light","start","goal"] ["sort","light","start","goal"] (ae j6):=⟨rfl,rfl,rfl,by decide+kernel,rfl,by decide+kernel,by decide+kernel⟩
abbrev kg:Stmt:=top 39
theorem dB:ai ["sort","room","cabin","riders","floor","light","outs","ins","aboard","tag","start","goal","lift"] ["sort","room","cabin","riders"] (ae kg):=⟨rfl,rfl,rfl,by decide+kernel,rfl,by decide+kernel,by decide+kernel⟩
abbrev fN:Stmt:=top 43
theorem qk:ai ["text"] ["text"] (ae fN):=⟨rfl,rfl,rfl,by decide+kernel,rfl,by decide+kernel,by decide+kernel⟩
abbrev mT:Stmt:=top 44
theorem Aj:ai ["text"] ["text"] (ae mT):=⟨rfl,rfl,rfl,by decide+kernel,rfl,by decide+kernel,by decide+kernel⟩
abbrev j9:Stmt:=top 48
theorem yc:ai ["cabin"] ["cabin"] (ae j9):=⟨rfl,rfl,rfl,by decide+kernel,rfl,by decide+kernel,by decide+kernel⟩
abbrev qw:Stmt:=top 49
theorem C0:ai ["cabins"] ["cabins"] (ae qw):=⟨rfl,rfl,rfl,by decide+kernel,rfl,by decide+kernel,by decide+kernel⟩
abbrev gD:Stmt:=top 50
theorem tR:ai ["cabins","first","many","step","lift"] ["cabins","first"] (ae gD):=⟨rfl,rfl,rfl,by decide+kernel,rfl,by decide+kernel,by decide+kernel⟩
abbrev eS:Stmt:=top 51
theorem Ny:ai ["cabins","waiting","rider","last","place"] ["cabins","waiting","rider","last"] @gY:=⟨rfl,rfl,rfl,by decide+kernel,rfl,by decide+kernel,by decide+kernel⟩
abbrev cP:Stmt:=top 52
theorem vJ:ai ["cabins","waiting","rider","last","dealt","fewest"] ["cabins","waiting","rider","last"] @gZ:=⟨rfl,rfl,rfl,by decide+kernel,rfl,by decide+kernel,by decide+kernel⟩
abbrev qH:Stmt:=top 53
theorem C8:ai ["cabins","waiting","rider","last","lift"] ["cabins","waiting","rider","last"] (ae qH):=⟨rfl,rfl,rfl,by decide+kernel,rfl,by decide+kernel,by decide+kernel⟩
abbrev BX:Stmt:=top 54
abbrev yg:Stmt:=top 55
abbrev qx:Stmt:=top 56
abbrev m7:Stmt:=top 57
theorem As:ai ["text","house","words","lifts"] ["text","house"] (ae m7):=⟨rfl,rfl,rfl,by decide+kernel,rfl,by decide+kernel,by decide+kernel⟩
abbrev j4:Stmt:=top 59
theorem x9:ai ["house","floor"] ["house","floor"] (ae j4):=⟨rfl,rfl,rfl,by decide+kernel,rfl,by decide+kernel,by decide+kernel⟩
abbrev mV:Stmt:=top 60
theorem Al:ai ["house","lift"] ["house","lift"] (ae mV):=⟨rfl,rfl,rfl,by decide+kernel,rfl,by decide+kernel,by decide+kernel⟩
abbrev mU:Stmt:=top 61
theorem Ak:ai ["house","start","goal"] ["house","start","goal"] (ae mU):=⟨rfl,rfl,rfl,by decide+kernel,rfl,by decide+kernel,by decide+kernel⟩
abbrev mW:Stmt:=top 62
theorem Am:ai ["house","deed"] ["house","deed"] (ae mW):=⟨rfl,rfl,rfl,by decide+kernel,rfl,by decide+kernel,by decide+kernel⟩
abbrev v5:Stmt:=top 67
theorem FM:ai ["kind","turns"] ["kind","turns"] (ae v5):=⟨rfl,rfl,rfl,by decide+kernel,rfl,by decide+kernel,by decide+kernel⟩
abbrev m3:Stmt:=top 76
theorem Ap:ai ["floors","start","room","turns","kind"] ["floors","start","room","turns","kind"] (ae m3):=⟨rfl,rfl,rfl,by decide+kernel,rfl,by decide+kernel,by decide+kernel⟩
abbrev ke:Stmt:=top 77
theorem ye:ai ["floors","lifts"] ["floors","lifts"] (ae ke):=⟨rfl,rfl,rfl,by decide+kernel,rfl,by decide+kernel,by decide+kernel⟩
abbrev iJ:Stmt:=top 78
theorem vM:ai ["floors","locked"] ["floors","locked"] (ae iJ):=⟨rfl,rfl,rfl,by decide+kernel,rfl,by decide+kernel,by decide+kernel⟩
abbrev j8:Stmt:=top 79
theorem yb:ai ["floors","lifts","locked","sort"] ["floors","lifts","locked","sort"] (ae j8):=⟨rfl,rfl,rfl,by decide+kernel,rfl,by decide+kernel,by decide+kernel⟩
abbrev vS:Stmt:=top 80
theorem FC:ai ["house","lift"] ["house","lift"] (ae vS):=⟨rfl,rfl,rfl,by decide+kernel,rfl,by decide+kernel,by decide+kernel⟩
abbrev qr:Stmt:=top 81
theorem CV:ai ["house","lift"] ["house","lift"] (ae qr):=⟨rfl,rfl,rfl,by decide+kernel,rfl,by decide+kernel,by decide+kernel⟩
abbrev vY:Stmt:=top 82
theorem FI:ai ["house","lift"] ["house","lift"] (ae vY):=⟨rfl,rfl,rfl,by decide+kernel,rfl,by decide+kernel,by decide+kernel⟩
abbrev qv:Stmt:=top 87
theorem CZ:ai ["moment"] ["moment"] (ae qv):=⟨rfl,rfl,rfl,by decide+kernel,rfl,by decide+kernel,by decide+kernel⟩
abbrev vP:Stmt:=top 88
theorem xY:ai ["state","tags","place","light","door","marks","aboard"] ["state"] (ae vP):=⟨rfl,rfl,rfl,by decide+kernel,rfl,by decide+kernel,by decide+kernel⟩
abbrev j5:Stmt:=top 89
theorem oo:ai ["house","state","deeds","taken","deed"] ["house","state","deeds"] (ae j5):=⟨rfl,rfl,rfl,by decide+kernel,rfl,by decide+kernel,by decide+kernel⟩
abbrev v7:Stmt:=top 90
theorem FO:ai ["moment","tag","start","goal","key"] ["moment","tag","start","goal","key"] (ae v7):=⟨rfl,rfl,rfl,by decide+kernel,rfl,by decide+kernel,by decide+kernel⟩
abbrev qF:Stmt:=top 91
theorem C5:ai ["rider","lift"] ["rider","lift"] (ae qF):=⟨rfl,rfl,rfl,by decide+kernel,rfl,by decide+kernel,by decide+kernel⟩
abbrev v6:Stmt:=top 98
theorem FN:ai ["moment","deed","name"] ["moment","deed"] (ae v6):=⟨rfl,rfl,rfl,by decide+kernel,rfl,by decide+kernel,by decide+kernel⟩
abbrev BY:Stmt:=top 99
theorem FP:ai ["moment","dealer","place","rider","told"] ["moment","dealer","place","rider"] (ae BY):=⟨rfl,rfl,rfl,by decide+kernel,rfl,by decide+kernel,by decide+kernel⟩
abbrev ly:Stmt:=top 100
theorem C6:ai ["moment","dealer","place","rider"] ["moment","dealer"] (ae ly):=⟨rfl,rfl,rfl,by decide+kernel,rfl,by decide+kernel,by decide+kernel⟩
abbrev mX:Stmt:=top 101
theorem An:ai ["moment","word","tags","lift","floor"] ["moment","word","tags","lift"] (ae mX):=⟨rfl,rfl,rfl,by decide+kernel,rfl,by decide+kernel,by decide+kernel⟩
abbrev m4:Stmt:=top 104
theorem qp:ai ["moment","lift","riders","house","told","cabin","outs","ins","door","count"] ["moment","lift","riders"] (ae m4):=⟨rfl,rfl,rfl,by decide+kernel,rfl,by decide+kernel,by decide+kernel⟩
abbrev mY:Stmt:=top 105
theorem qo:ai ["moment","rule","lift","riders","house","cabin","word"] ["moment","rule","lift","riders"] (ae mY):=⟨rfl,rfl,rfl,by decide+kernel,rfl,by decide+kernel,by decide+kernel⟩
abbrev fj:Stmt:=top 106
theorem hU:ai ["moment","rule","lift","cabin","riders"] ["moment","rule","lift"] (ae fj):=⟨rfl,rfl,rfl,by decide+kernel,rfl,by decide+kernel,by decide+kernel⟩
abbrev Tb:Stmt:=top 107
theorem Ta:ai ["moment","rule","lift"] ["moment","rule","lift"] (ae Tb):=⟨rfl,rfl,rfl,by decide+kernel,rfl,by decide+kernel,by decide+kernel⟩
abbrev mZ:Stmt:=top 111
theorem Ao:ai ["house","name","numbers"] ["house","name","numbers"] (ae mZ):=⟨rfl,rfl,rfl,by decide+kernel,rfl,by decide+kernel,by decide+kernel⟩
abbrev mR:Stmt:=top 112
theorem ql:ai ["part","house","words","numbers"] ["part","house"] (ae mR):=⟨rfl,rfl,rfl,by decide+kernel,rfl,by decide+kernel,by decide+kernel⟩
abbrev vZ:Stmt:=top 113
theorem FJ:ai ["cabin"] ["cabin"] (ae vZ):=⟨rfl,rfl,rfl,by decide+kernel,rfl,by decide+kernel,by decide+kernel⟩
abbrev v3:Stmt:=top 114
theorem FK:ai ["cabin","goal","ahead"] ["cabin","goal"] (ae v3):=⟨rfl,rfl,rfl,by decide+kernel,rfl,by decide+kernel,by decide+kernel⟩
abbrev Az:Stmt:=top 115
theorem JB:ai ["house","state","name","numbers","lift","cabin"] ["house","state","name","numbers"] (ae Az):=⟨rfl,rfl,rfl,by decide+kernel,rfl,by decide+kernel,by decide+kernel⟩
abbrev cu:Stmt:=top 116
theorem BW:ai ["text","house","parts"] ["text","house"] (ae cu):=⟨rfl,rfl,rfl,by decide+kernel,rfl,by decide+kernel,by decide+kernel⟩
abbrev Au:Stmt:=top 121
theorem Jz:ai ["light","here","up","down"] ["light","here","up","down"] (ae Au):=⟨rfl,rfl,rfl,by decide+kernel,rfl,by decide+kernel,by decide+kernel⟩
abbrev qy:Stmt:=top 122
theorem C1:ai ["here","up","down"] ["here","up","down"] (ae qy):=⟨rfl,rfl,rfl,by decide+kernel,rfl,by decide+kernel,by decide+kernel⟩
abbrev mP:Stmt:=top 123
theorem Ah:ai ["top","floor","light","here","at_end"] ["top","floor","light","here"] (ae mP):=⟨rfl,rfl,rfl,by decide+kernel,rfl,by decide+kernel,by decide+kernel⟩
abbrev fO:Stmt:=top 124
theorem qm:ai ["light","here","up","down"] ["light","here","up","down"] (ae fO):=⟨rfl,rfl,rfl,by decide+kernel,rfl,by decide+kernel,by decide+kernel⟩
abbrev vQ:Stmt:=top 125
theorem Fz:ai ["place"] ["place"] (ae vQ):=⟨rfl,rfl,rfl,by decide+kernel,rfl,by decide+kernel,by decide+kernel⟩
abbrev qJ:Stmt:=top 131
theorem Da:ai ["rule"] ["rule"] (ae qJ):=⟨rfl,rfl,rfl,by decide+kernel,rfl,by decide+kernel,by decide+kernel⟩
abbrev vR:Stmt:=top 132
theorem FA:ai ["text","floors"] ["text","floors"] (ae vR):=⟨rfl,rfl,rfl,by decide+kernel,rfl,by decide+kernel,by decide+kernel⟩
abbrev Ay:Stmt:=top 134
theorem JA:ai ["_law_script","_law_k","_law_many","_law_cell"] ["_law_script","_law_k","_law_many"] (ae Ay):=⟨rfl,rfl,rfl,by decide+kernel,rfl,by decide+kernel,by decide+kernel⟩
abbrev Aw:Stmt:=top 135
theorem vK:ai ["_law_script","_law_floors","_law_way","_law_letters","_law_at"] ["_law_script","_law_floors"] (ae Aw):=⟨rfl,rfl,rfl,by decide+kernel,rfl,by decide+kernel,by decide+kernel⟩
abbrev vX:Stmt:=top 136
theorem FH:ai ["_law_script","_law_floors","_law_lifts","_law_k","_law_door","_law_room","_law_locked"] ["_law_script"] (ae vX):=⟨rfl,rfl,rfl,by decide+kernel,rfl,by decide+kernel,by decide+kernel⟩
abbrev qB:Stmt:=top 137
theorem jg:ai ["_law_e","_law_some"] ["_law_e"] (ae qB):=⟨rfl,rfl,rfl,by decide+kernel,rfl,by decide+kernel,by decide+kernel⟩
abbrev qC:Stmt:=top 138
theorem C2:ai ["_law_word","_law_sign"] ["_law_word"] (ae qC):=⟨rfl,rfl,rfl,by decide+kernel,rfl,by decide+kernel,by decide+kernel⟩
abbrev Ax:Stmt:=top 139
theorem BV:ai ["_law_text_here","_law_house_here","_law_words","_law_numbers"] ["_law_text_here","_law_house_here"] (ae Ax):=⟨rfl,rfl,rfl,by decide+kernel,rfl,by decide+kernel,by decide+kernel⟩
abbrev NB:Stmt:=top 140
theorem LR:ai ["_law_part_here","_law_state","_law_house_here","_law_place","_law_light","_law_count","_law_marks","_law_aboard","_law_some","_law_tag_here","_law_goal"] ["_law_part_here","_law_state","_law_house_here"] (ae NB):=⟨rfl,rfl,rfl,by decide+kernel,rfl,by decide+kernel,by decide+kernel⟩
abbrev FS:Stmt:=top 141
theorem Nz:ai ["_law_script","_law_k","_law_number_here","_law_turn"] ["_law_script","_law_k"] (ae FS):=⟨rfl,rfl,rfl,by decide+kernel,rfl,by decide+kernel,by decide+kernel⟩
abbrev qz:Stmt:=top 142
theorem mL:ai ["_law_script","_law_court","_law_state","_law_states_here","_law_floors","_law_k","_law_deeds","_law_start","_law_goal"] ["_law_script","_law_court"] (ae qz):=⟨rfl,rfl,rfl,by decide+kernel,rfl,by decide+kernel,by decide+kernel⟩
abbrev Av:Stmt:=top 143
theorem pH:ai ["_law_script","_law_at","_law_house_here","_law_parts","_law_k","_law_way","_law_lift","_law_crowd","_law_floor","_law_forms"] ["_law_script","_law_at","_law_house_here"] (ae Av):=⟨rfl,rfl,rfl,by decide+kernel,rfl,by decide+kernel,by decide+kernel⟩
abbrev qA:Stmt:=top 144
theorem uy:ai ["_law_script","_law_at","_law_text_here","_law_house_here","_law_way","_law_spot","_law_sign","_law_words","_law_some"] ["_law_script","_law_at","_law_text_here","_law_house_here"] (ae qA):=⟨rfl,rfl,rfl,by decide+kernel,rfl,by decide+kernel,by decide+kernel⟩
abbrev vW:Stmt:=top 145
theorem dM:ai ["_law_text_here","_law_house_here","_law_states_here","_law_parts","_law_others_here","_law_found","_law_e","_law_state","_law_told","_law_due"] ["_law_text_here","_law_house_here","_law_states_here"] (ae vW):=⟨rfl,rfl,rfl,by decide+kernel,rfl,by decide+kernel,by decide+kernel⟩
abbrev NA:Stmt:=top 146
theorem FG:ai ["_law_script","_law_house_here","_law_dealer","_law_states_here","_law_k","_law_text_here","_law_one"] ["_law_script"] (ae NA):=⟨rfl,rfl,rfl,by decide+kernel,rfl,by decide+kernel,by decide+kernel⟩
abbrev m6:Stmt:=fw (top 64) 0
theorem Ar:ai ["self","turns"] ["self","turns"] (ae m6):=⟨rfl,rfl,rfl,by decide+kernel,rfl,by decide+kernel,by decide+kernel⟩
abbrev m5:Stmt:=fw (top 64) 1
theorem Aq:ai ["self","count","blocked","stepped"] ["self","count","blocked","stepped"] (ae m5):=⟨rfl,rfl,rfl,by decide+kernel,rfl,by decide+kernel,by decide+kernel⟩
abbrev ka:Stmt:=fw (top 65) 0
theorem yd:ai ["self","count","blocked","stepped"] ["self","count","blocked","stepped"] (ae ka):=⟨rfl,rfl,rfl,by decide+kernel,rfl,by decide+kernel,by decide+kernel⟩
abbrev mM:Stmt:=fw (top 66) 0
theorem Ag:ai ["self","count","blocked","stepped"] ["self","count","blocked","stepped"] (ae mM):=⟨rfl,rfl,rfl,by decide+kernel,rfl,by decide+kernel,by decide+kernel⟩
abbrev iG:Stmt:=fw (top 86) 0
theorem vI:ai ["self","house","state"] ["self","house","state"] (ae iG):=⟨rfl,rfl,rfl,by decide+kernel,rfl,by decide+kernel,by decide+kernel⟩
abbrev kh:Stmt:=fw (top 108) 0
theorem yf:ai ["self","house","rule","dealer"] ["self","house","rule","dealer"] (ae kh):=⟨rfl,rfl,rfl,by decide+kernel,rfl,by decide+kernel,by decide+kernel⟩
abbrev iK:Stmt:=fw (top 108) 1
theorem lv:ai ["self","cabins"] ["self"] (ae iK):=⟨rfl,rfl,rfl,by decide+kernel,rfl,by decide+kernel,by decide+kernel⟩
abbrev gG:Stmt:=fw (top 108) 2
theorem ow:ai ["self","state","deeds","moment","deed","lift"] ["self","state","deeds"] (ae gG):=⟨rfl,rfl,rfl,by decide+kernel,rfl,by decide+kernel,by decide+kernel⟩
abbrev mQ:Stmt:=fw (top 126) 0
theorem Ai:ai ["self","seen"] ["self","seen"] (ae mQ):=⟨rfl,rfl,rfl,by decide+kernel,rfl,by decide+kernel,by decide+kernel⟩
abbrev iI:Stmt:=fw (top 127) 0
theorem vL:ai ["self","seen","told"] ["self","seen"] (ae iI):=⟨rfl,rfl,rfl,by decide+kernel,rfl,by decide+kernel,by decide+kernel⟩
abbrev gE:Stmt:=fw (top 128) 0
theorem tS:ai ["self","seen"] ["self","seen"] (ae gE):=⟨rfl,rfl,rfl,by decide+kernel,rfl,by decide+kernel,by decide+kernel⟩
abbrev gB:Stmt:=fw (top 129) 0
theorem tQ:ai ["self","top"] ["self","top"] (ae gB):=⟨rfl,rfl,rfl,by decide+kernel,rfl,by decide+kernel,by decide+kernel⟩
abbrev gA:Stmt:=fw (top 129) 1
theorem tO:ai ["self","seen"] ["self","seen"] (ae gA):=⟨rfl,rfl,rfl,by decide+kernel,rfl,by decide+kernel,by decide+kernel⟩
abbrev j3:Stmt:=fw (top 130) 0
theorem x6:ai ["self","letters"] ["self","letters"] (ae j3):=⟨rfl,rfl,rfl,by decide+kernel,rfl,by decide+kernel,by decide+kernel⟩
abbrev jZ:Stmt:=fw (top 130) 1
theorem xZ:ai ["self","seen"] ["self","seen"] (ae jZ):=⟨rfl,rfl,rfl,by decide+kernel,rfl,by decide+kernel,by decide+kernel⟩
section
variable {P:Program}{w:World}{K:Fg}{mg:Str->Option Value}{base:Heap}{f:Addr}{fd:FuncData}
theorem BK {n:Nat}(h:n<1000000):n<sizeLine:=by rw [sizeLine_eq];lia
inductive gt (K:Fg)(vs:List V)(H:Hp)(Q:VK)(_e:XK):Prop
 |mk (a ns k many:_) (_:vs=[.ref a,.int k,.int many]) (_:CH K H a ns) (_:0<=k) (_:k<100000) (_:0<many) (_:∀i:Int,0<=i->i<many->Q (.int i) H)
theorem Tj (F:bo K "_law_draw" "_law_draw" Ay f fd)(bE:mg "len"=none):av P w K mg base bb 1 f fd ["_law_script","_law_k","_law_many"] (gt K):=by
 rwa[F.ok JA (by intro _ _ _ _ h;cases h;subst_vars;rfl) (λO A outer s H vs Q E hr h=> ?_)];obtain ⟨a,S,k,j,rfl,⟨U,J⟩,Z,Y,I,q⟩:=h;have G:sM 31 k:=cy @b @b;have z:sM (31*k) k:=Bn @c @c;rwa[⟨_,(aa @a (eD @ew @g)),?_⟩];rwa[ue (λσ H'=>H'=H/\∃i:Int,σ=[some (.ref a),some (.int k),some (.int j),some (.int i)]/\0<=i/\i<2147483629) ?_ ?_]
 ·ext;erw[dL U ?_];rw [length_map];rwa[fe @eU @eU]
  ·have W:0<S.length:=by lia
   have h1:=Int.emod_nonneg k (show (S.length:Int)≠0 by lia);have h2:=Int.emod_lt_of_pos k (show (0:Int)<S.length by lia);erw[dL U ?_];rw [length_map];rwa[⟨R,aW U (Ip h1 h2) ⟨by decide,rfl,_,rfl,Int.emod_nonneg _ @b,Int.emod_lt_of_pos _ @b⟩⟩]
  ·exact ⟨rfl,_,rfl,by decide,by decide⟩
 ·rintro σ' H' ⟨rfl,i,rfl,h0,h1⟩;rwa[⟨G,z,cy @c @c,by decide,Bn @b @b,by decide,I,?_⟩];exact q _ (Int.emod_nonneg _ @c) (Int.emod_lt_of_pos _ I)
def vN (ks:List Nat):List V:=ks.map λk:Nat=>V.int (k:Int)
def QZ:Option Nat->V
 |none=> .non
 |some n=> .int (n:Int)
theorem JN (n:Nat):(1:Int)*2^((n:Int)).toNat=((2^n:Nat):Int):=by rw [Int.toNat_natCast,Int.natCast_pow];simp
inductive lq (vs:List V)(H:Hp)(Q:VK)(_e:XK):Prop
 |mk (n:Nat) (_:vs=[.int (n:Int)]) (_:n<=1000) (_:Q (.int ((2^n:Nat):Int)) H)
theorem Ou (F:bo K "bit" "bit" NE f fd):av P w K mg base bb 1 f fd ["k"] lq:=by
 rwa[F.ok QK (by intro _ _ _ _ h;cases h;subst_vars;rfl) @j];obtain ⟨n,rfl,z,q⟩:=h;rwa[⟨_,@g,?_⟩];rwa[⟨Co @c @c @b,?_⟩];rw [<-JN] at q;exact q
inductive fD (vs:List V)(H:Hp)(Q:VK)(_e:XK):Prop
 |mk (M n:Nat) (_:vs=[.int (M:Int),.int (n:Int)]) (_:n<=1000) (_:Q (.bl (M.testBit n)) H)
theorem Oo (F:bo K "has" "has" ND f fd)(G:bf P w K mg base 1 "bit" ["k"] lq):av P w K mg base bb 2 f fd ["mask","k"] fD:=by
 rwa[F.ok QJ (by intro _ _ _ _ h;cases h;subst_vars;rfl) @j];obtain ⟨M,n,rfl,z,q⟩:=h;rwa[⟨_,@g,?_⟩];rwa[eO @c ?_];rwa[lq.mk _ rfl z ?_];show Q (.bl (!decide (Builtin.bitAnd (M:Int) ((2^n:Nat):Int)=0))) H;rw [Lp]
 have e:decide (((M&&&2^n:Nat):Int)=0)= !M.testBit n:=by
  rw [<-testBit_and];exact decide_eq_decide.mpr @c
 rw [e,Bool.not_not];exact q
inductive kR (vs:List V)(H:Hp)(Q:VK)(_e:XK):Prop
 |mk (M n:Nat) (_:vs=[.int (M:Int),.int (n:Int)]) (_:n<=1000) (_:Q (.int ((M|||2^n:Nat):Int)) H)
theorem Gk (F:bo K "with_bit" "with_bit" qq f fd)(G:bf P w K mg base 1 "bit" ["k"] lq):av P w K mg base bb 2 f fd ["mask","k"] kR:=by
 rwa[F.ok CU (by intro _ _ _ _ h;cases h;subst_vars;rfl) @j];obtain ⟨M,n,rfl,z,q⟩:=h;rwa[⟨_,@g,?_⟩];rwa[lq.mk _ rfl z ?_];rw [<-NX] at q;exact q
inductive lr (vs:List V)(H:Hp)(Q:VK)(_e:XK):Prop
 |mk (M n:Nat) (_:vs=[.int (M:Int),.int (n:Int)]) (_:n<=1000) (_:Q (.int ((M% 2^n:Nat):Int)) H)
theorem GQ (F:bo K "below" "below" AA f fd)(G:bf P w K mg base 1 "bit" ["k"] lq):av P w K mg base bb 2 f fd ["mask","k"] lr:=by
 rwa[F.ok JC (by intro _ _ _ _ h;cases h;subst_vars;rfl) @j];obtain ⟨M,n,rfl,z,q⟩:=h;rwa[⟨_,(aa (au @a @go ap) @g),?_⟩];rwa[dQ @c ?_];rwa[lq.mk _ rfl z ⟨?_,?_⟩]
 ·have:=Nat.two_pow_pos n;lia
 ·rw [Int.natCast_emod] at q;exact q
inductive vE (vs:List V)(H:Hp)(Q:VK)(_e:XK):Prop
 |mk (M n:Nat) (_:vs=[.int (M:Int),.int (n:Int)]) (_:n<1000) (_:Q (.int ((M - M% 2^(n+1):Nat):Int)) H)
theorem GU (F:bo K "above" "above" AB f fd)(G:bf P w K mg base 2 "below" ["mask","k"] lr):av P w K mg base bb 3 f fd ["mask","k"] vE:=by
 rwa[F.ok JD (by intro _ _ _ _ h;cases h;subst_vars;rfl) @j];obtain ⟨M,n,rfl,z,q⟩:=h;rwa[⟨_,@g,?_⟩];rwa[lr.mk _ (n+1) rfl z ?_]
 have e:((M - M% 2^(n+1):Nat):Int)=(M:Int) - ((M% 2^(n+1):Nat):Int):=by
  have:=Nat.mod_le M (2^(n+1));lia
 rw [e] at q;exact q
inductive k9 (K:Fg)(vs:List V)(H:Hp)(Q:VK)(_e:XK):Prop
 |mk (p:Addr) (ks:List Nat) (_:vs=[.ref p]) (_:aD K H p (vN ks)) (_:(∀k∈ks,k<=1000)) (_:Q (.int (oy ks:Int)) H)
theorem MU {ks:List Nat}{i:Nat}{x:V}(h:(vN ks)[i]? =some x):∃k,ks[i]? =some k/\x=V.int (k:Int):=by
 unfold vN at h;rw [getElem?_map] at h
 cases e:ks[i]? with
 |none=>rw [e] at h;cases h
 |some k=>rw [e] at h;exact ⟨k,rfl,(Option.some.inj h).symm⟩
theorem EL (ks:List Nat):(vN ks).length=ks.length:=length_map _
theorem Dp (F:bo K "mask_of" "mask_of" vT f fd)(J:bf P w K mg base 2 "with_bit" ["mask","k"] kR):av P w K mg base bb 3 f fd ["numbers"] (k9 K):=by
 rwa[F.ok FD (by intro _ _ _ _ h;cases h;subst_vars;rfl) @Q];obtain ⟨p,ks,rfl,U,Y,q⟩:=h;rwa[⟨_,(aa @a (aa (cE PassesOwn.never rfl @a @a (ac @a)) (ac (ag (wv 1))))),?_⟩];rwa[b8 U ?_];rwa[fg (xs:=vN ks) (λi σ H'=>H'=H/\∃o,σ=[some (.ref p),some (.int (oy (ks.take i):Int)),o]) ⟨rfl,_,by rfl⟩ (λi σ H' _ h=>by rw [h.1];exact U) ?_ ?_]
 ·rintro i x σ H' G ⟨rfl,o,rfl⟩;obtain ⟨k,j,rfl⟩:=MU G;rwa[kR.mk _ _ rfl (Y k (mem_of_getElem? j)) ⟨rfl,some (.int (k:Int)),?_⟩]
  have e:oy (ks.take (i+1))=oy (ks.take i)|||2^k:=by
   unfold oy;rw [take_add_one,j,foldl_append];rfl
  rw [e];rfl
 ·rintro σ H' ⟨rfl,o,rfl⟩;rw [EL,take_of_length_le @f];exact q
inductive zY (vs:List V)(H:Hp)(Q:VK)(_e:XK):Prop
 |mk (M:Nat) (_:vs=[.int (M:Int)]) (_:M<2^200) (_:∀p,H p=none->Q (.ref p) (upd H p (.lst (vN (jB M)))))
theorem Dr (F:bo K "listed" "listed" vV f fd)(I:mg "range"=none)(O:bf P w K mg base 2 "has" ["mask","k"] fD):av P w K mg base bb 3 f fd ["mask"] zY:=by
 rwa[F.ok FF (by intro _ _ _ _ h;cases h;subst_vars;rfl) (λj A outer s H R Q E W h=> ?_)];obtain ⟨M,rfl,J,q⟩:=h;have S:=R0 J;have z:=sizeLine_eq;rwa[⟨_,(ac (ag (bG rfl (ax (N':=["k","mask"]) (pk:=[none,some 0]) @m) (cg rfl I (aq (zM rfl PySem.F.plainAttrs_int PySem.F.slot_int_bit_length PySem.F.type_int_bit_length EE (wv 0)) am)) @k @be @S))),?_⟩];rwa[⟨rfl,⟨by show -4611686018427387904<=((L M:Nat):Int);lia,by show ((L M:Nat):Int)<4611686018427387904;lia⟩,?_⟩];show pq (LF 0 (L M)) _ _ _ _ _ _ _
 refine kA (λi ys H'=>H'=H/\ys=vN (jM M i)) @c (λi ys H' p=>by
  rw [p.2,EL];unfold jM;exact Nat.le_trans @bT @e) ⟨rfl,rfl⟩ ?_ ?_
 ·rintro i ys H' hi ⟨rfl,rfl⟩;erw[⟨QG,?_⟩];show fD [.int (M:Int),.int (0+(i:Int))] _ _ _;rw [Int.zero_add];rwa[fD.mk _ _ rfl @c ?_];show if M.testBit i=true then _ else _
  cases h:M.testBit i with
  |true=>
   rw [if_pos rfl];rwa[⟨rfl,?_⟩];rw [kE,h];unfold vN;rw [map_append];rfl
  |false=>
   rw [if_neg Bool.false_ne_true];rwa[⟨rfl,?_⟩];rw [kE,h];simp
 ·rintro ys H' ⟨rfl,rfl⟩ p G;exact q p G
inductive qf (vs:List V)(H:Hp)(Q:VK)(_e:XK):Prop
 |mk (M:Nat) (_:vs=[.int (M:Int)]) (_:M<2^200) (_:∀H',ak H H'->Q (QZ (jB M)[0]?) H')
theorem FQ {H:Hp}{p:Addr}(h:H p=none)(o:HO):ak H @fw:=λb u q=>by rw [aj (br q h)];exact q
theorem Dq (F:bo K "lowest" "lowest" vU f fd)(S:bf P w K mg base 3 "listed" ["mask"] zY):av P w K mg base bb 4 f fd ["mask"] qf:=by
 rwa[F.ok FE (by intro _ _ _ _ h;cases h;subst_vars;rfl) (λI A outer s H R Q E W h=> ?_)];obtain ⟨M,rfl,O,q⟩:=h;rwa[⟨_,@eV,?_⟩];erw[zY.mk _ rfl O λp J=> ?_];have z:=q _ (FQ J (.lst (vN (jB M))));rwa[Jx @cV ?_]
 cases G:jB M with
 |nil=>
  rw [G] at z;exact aP rfl z
 |cons k ks=>
  rw [G] at z;rwa[bz rfl ?_];exact aW @cV (aK (j:=0) (v:=V.int (k:Int)) rfl) z
inductive mG (vs:List V)(H:Hp)(Q:VK)(_e:XK):Prop
 |mk (M:Nat) (_:vs=[.int (M:Int)]) (_:Q (QZ (if M=0 then none else some (L M - 1))) H)
theorem AS (F:bo K "highest" "highest" qD f fd):av P w K mg base bb 1 f fd ["mask"] mG:=by
 rwa[F.ok C3 (by intro _ _ _ _ h;cases h;subst_vars;rfl) (λj A outer s H z Q E W h=> ?_)];obtain ⟨M,rfl,q⟩:=h;rwa[⟨_,(ac (ag (BD @a (dO LJ (zM rfl PySem.F.plainAttrs_int PySem.F.slot_int_bit_length PySem.F.type_int_bit_length EE (wv 0)) b9) iN))),?_⟩];rwa[fe (λh=> ?_) (λh=> ?_)]
 ·rwa[⟨rfl,?_⟩]
  have I:M≠0:=by lia
  rw [if_neg I] at q
  have e:((L M - 1:Nat):Int)=((L M:Nat):Int) - 1:=by
   have:=Iy M;rw [if_neg I] at this;lia
  show Q (.int (((L M:Nat):Int) - 1)) H;rw [<-e];exact q
 ·have I:M=0:=by lia
  rw [if_pos I] at q;exact q
def lD (p:Int×Int):D:= .tup [.int p.1,.int p.2]
def RO (pl li dr mk:Int)(ps:List (Int×Int)):List D:=[.int pl,.int li,.int dr,.int mk,.tup @fA]
inductive bX (K:Fg)(H:Hp)(t:Addr)(pl li dr mk:Int)(ps:List (Int×Int)):Prop
 |mk (b xs:_) (_:H t=some (.tup [.int pl,.int li,.int dr,.int mk,.ref b])) (_:H b=some (.tup xs)) (_:az K H xs @fA)
theorem bX.same {H H':Hp}{t:Addr}{pl li dr j:Int}{ps:List (Int×Int)}(h:bX K H t pl li dr j ps)(s:ak H H'):bX K H' t pl li dr j ps:=by
 obtain ⟨b,xs,S,O,d⟩:=h;exact ⟨b,xs,s.get S,s.get O,az.same d s⟩
theorem bX.den {H:Hp}{t:Addr}{pl li dr j:Int}{ps:List (Int×Int)}(h:bX K H t pl li dr j ps):bL K H (.ref t) (.tup (RO pl li dr j ps)):=by
 obtain ⟨b,xs,S,O,d⟩:=h;exact iV (aE.of S) (.cons (.int _) (.cons (.int _) (.cons (.int _) (.cons (.int _) (.cons (iV (aE.of O) d) .nil)))))
theorem Sa:5<=sizeLine:=by rw [sizeLine_eq];lia
noncomputable def bY (so:Str)(pl li:Int)(ps:List (Int×Int))(wd:Str):Str:=
 if so=Str.ofString "free"\/ps=[] then wd else if ps.any (λp=>decide (2*p.2=pl))=true then Str.ofString "o" else if wd=Str.ofString "x" then Str.ofString "o" else
 if (wd=Str.ofString "u"/\li<0)\/(wd=Str.ofString "d"/\0<li) then Str.ofString "s" else wd
noncomputable def cO:List Str:=[Str.ofString "o",Str.ofString "x",Str.ofString "u",Str.ofString "d",Str.ofString "s"]
theorem O4 {x:Str}(h:x∈cO):x=Str.ofString "o"\/x=Str.ofString "x"\/x=Str.ofString "u"\/x=Str.ofString "d"\/x=Str.ofString "s":=by
 simpa [cO] using h
theorem iu {so:Str}{pl li:Int}{ps:List (Int×Int)}{j:Str}(h:j∈cO):bY so pl li ps j∈cO:=by
 unfold bY;split
 ·exact h
 split
 ·exact .head _
 split
 ·exact .head _
 split
 ·exact .tail _ (.tail _ (.tail _ (.tail _ (.head _))))
 ·exact h
noncomputable def fc (fl tu pl li dr:Int)(ps:List (Int×Int))(x:Str):Int×Int×Int:=
 if x=Str.ofString "o" then (pl,li,tu) else if x=Str.ofString "x" then (pl,0,tu) else if x=Str.ofString "u"/\pl / 2<fl - 1 then (pl+1,1,dr) else if x=Str.ofString "d"/\0<pl then (pl - 1,-1,dr) else (pl,if ps=[] then 0 else li,dr)
section
variable {fl tu pl li dr:Int}{ps:List (Int×Int)}
theorem HQ:fc fl tu pl li dr ps "o"=(pl,li,tu):=if_pos rfl
theorem HN:fc fl tu pl li dr ps "x"=(pl,0,tu):=by unfold fc;rw [if_neg @b,if_pos rfl]
theorem Bh (h:pl / 2<fl - 1):fc fl tu pl li dr ps "u"=(pl+1,1,dr):=by unfold fc;rw [if_neg @b,if_neg @b,if_pos ⟨rfl,h⟩]
theorem Bi (h: ¬pl / 2<fl - 1):fc fl tu pl li dr ps "u"=(pl,if ps=[] then 0 else li,dr):=by unfold fc;rw [if_neg @b,if_neg @b,if_neg @ep,if_neg @C]
theorem Bj (h:0<pl):fc fl tu pl li dr ps "d"=(pl - 1,-1,dr):=by unfold fc;rw [if_neg @b,if_neg @b,if_neg @C,if_pos ⟨rfl,h⟩]
theorem Bk (h: ¬0<pl):fc fl tu pl li dr ps "d"=(pl,if ps=[] then 0 else li,dr):=by unfold fc;rw [if_neg @b,if_neg @b,if_neg @C,if_neg @ep]
theorem HP:fc fl tu pl li dr ps "s"=(pl,if ps=[] then 0 else li,dr):=by unfold fc;rw [if_neg @b,if_neg @b,if_neg @C,if_neg @C]
end
def pN (ps:List (Int×Int)):Prop:=ps.length<=100/\∀p∈ps,0<=p.2/\p.2<100
inductive cA (K:Fg)(vs:List V)(H:Hp)(Q:VK)(_e:XK):Prop
 |mk (c pl li dr mk ps:_) (_:vs=[.ref c]) (_:bX K H c pl li dr mk ps) (_:Q (.int (pl / 2)) H)
theorem GJ (F:bo K "floor_of" "floor_of" qE f fd):av P w K mg base bb 1 f fd ["cabin"] (cA K):=by
 rwa[F.ok C4 (by intro _ _ _ _ h;cases h;subst_vars;rfl) @j];obtain ⟨c,pl,li,dr,z,ps,rfl,J,q⟩:=h;obtain ⟨b,xs,G,R,dx⟩:=id J;rwa[⟨_,@g,?_⟩];left;exact q
def d6 (ps:List (Int×Int)):List V:=ps.map λp=>V.int p.2
inductive gx (K:Fg)(vs:List V)(H:Hp)(Q:VK)(_e:XK):Prop
 |mk (c pl li dr mk ps:_) (_:vs=[.ref c]) (_:bX K H c pl li dr mk ps) (_:ps.length<=100) (_:∀p H',ak H H'->H p=none->H' p=some (.lst (d6 ps))->Q (.ref p) H')
theorem GI (F:bo K "goals_aboard" "goals_aboard" gF f fd):av P w K mg base bb 1 f fd ["cabin"] (gx K):=by
 rwa[F.ok tT (by intro _ _ _ _ h;cases h;subst_vars;rfl) (λI A outer s H U Q E hr h=> ?_)];obtain ⟨c,pl,li,dr,mk,ps,rfl,J,hl,q⟩:=h;obtain ⟨b,xs,Y,R,dx⟩:=id J;have hx:=aB dx;rwa[⟨_,(ac (ag (bG rfl (ax (N':=["tag","goal"]) (pk:=[none,none]) @m) @a @p @u (λC s H ex=>(wv 1))))),?_⟩];left;rwa[d5 @cs ?_];rwa[cK (xs:=xs) (λi ys H'=>H'=H/\ys=(d6 ps).take i) @bs (λi ys H' p=>by rw [p.2,length_take];exact Nat.min_le_left _ _) ⟨rfl,rfl⟩ (λi ys H' _ p=>by rw [p.1];exact aE.of R) (λi x ys H' G p=> ?_) (λys H' p l2 S=> ?_)]
 ·obtain ⟨rfl,rfl⟩:=p;obtain ⟨Z,j,O⟩:=bu dx G;obtain ⟨u,W,rfl,hu,z⟩:=O.outT
  cases z with|cons q0 t0=>cases t0 with|cons q1 t1=>
  cases t1;cases q0.isInt;cases q1.isInt;left;rwa[⟨fU,?_⟩];left;rwa[⟨rfl,?_⟩];rw [take_succ];congr 1;unfold d6;rw [getElem?_map,j];rfl
 ·obtain ⟨rfl,rfl⟩:=p;rwa[q l2 _ (.upd S) S ?_];rw [af,take_of_length_le (by unfold d6;rw [length_map];lia)]
structure bj where
 tag:Int
 start:Int
 goal:Int
 lift:Int
def bj.d (r:bj):D:= .tup [.int r.tag,.int r.start,.int r.goal,.int r.lift]
def Ph (rs:List bj):Prop:=rs.length<=64/\∀r∈rs,r.start≠r.goal
theorem gH (rs:List bj):noLs @bt=true:=by
 induction rs with
 |nil=>rfl
 |cons r rs ih=>rw [map_cons,noLs,ih];rfl
theorem ng (ps:List (Int×Int)):noLs @fA=true:=by
 induction ps with
 |nil=>rfl
 |cons r rs ih=>rw [map_cons,noLs,ih];rfl
theorem ak.updF {H0 H1:Hp}{o:Addr}{x:HO}(s:ak H0 H1)(h:H0 o=none):ak H0 (upd H1 o x):=λb u z=>by
 rw [aj (λe=>by rw [e,h] at z;cases z)];exact s b u z
def vg (s g:Int):Int:=if s<g then 1 else -1
inductive qd (vs:List V)(H:Hp)(Q:VK)(_e:XK):Prop
 |mk (s g:Int) (_:vs=[.int s,.int g]) (_:Q (.int (vg s g)) H)
theorem N8 (F:bo K "way_of" "way_of" At f fd):av P w K mg base bb 1 f fd ["start","goal"] qd:=by
 rwa[F.ok Jy (by intro _ _ _ _ h;cases h;subst_vars;rfl) @j];obtain ⟨s,g,rfl,q⟩:=h;rwa[⟨_,@g,?_⟩];unfold vg at q;by_cases h:s<g
 ·rw [if_pos h] at q;left;exact q
 ·rw [if_neg h] at q;left;exact q
def tk (room:Int)(ps:List (Int×Int))(rs:List bj)(f:Int):Bool:=ps.any (λp=>decide (p.2=f))||(decide ((ps.length:Int)<room)&&rs.any (λr=>decide (r.start=f)))
def Ec (t:Int->Bool)(f u:Int):Prop:=(u=0/\∀j:Int,1<=j->j<=7->t (f+j)=false)\/(1<=u/\u<=7/\t (f+u)=true/\∀j:Int,1<=j->j<u->t (f+j)=false)
def Ed (t:Int->Bool)(f d:Int):Prop:=(d=0/\∀j:Int,1<=j->j<=7->j<=f->t (f - j)=false)\/(1<=d/\d<=7/\d<=f/\t (f - d)=true/\∀j:Int,1<=j->j<d->t (f - j)=false)
def Mg (ps:List (Int×Int))(f:Int):Bool:=ps.any λp=>decide (p.2=f)
def Lu (rs:List bj)(f li:Int):Bool:=rs.any λr=>decide (r.start=f)&&decide (vg r.start r.goal=li)
noncomputable def ia (so:Str)(li:Int)(t0 ab al:Bool):Int:=if t0=false then 0 else if so=Str.ofString "free"\/li=0 then 2 else if ab=true\/al=true then 2 else 1
def Sh (ps:List (Int×Int))(rs:List bj):Prop:=(∀p∈ps,0<=p.2/\p.2<8)/\(∀r∈rs,0<=r.start/\r.start<8)/\ps.length<=64/\rs.length<=64
theorem nh (ks:List Nat)(i:Nat):(oy ks).testBit i=decide (i∈ks):=by
 unfold oy;rw [qT];simp
theorem yo {ks:List Nat}(h:∀k∈ks,k<8):oy ks<2^8:=Nat.lt_pow_two_of_testBit _ λi hi=>by
 rw [nh]
 exact decide_eq_false λz=>by have:=h i z;lia
theorem Hr {ps:List (Int×Int)}(h:∀p∈ps,0<=p.2/\p.2<8):d6 ps=vN @dw:=by
 unfold d6 vN;rw [map_map];rwa[map_congr_left λp G=> ?_];show V.int p.2=V.int ((p.2.toNat:Nat):Int);rw [Int.toNat_of_nonneg (h p G).1]
def dI (rs:List bj):List V:=rs.map λr=>V.int r.start
theorem CO {rs:List bj}(h:∀r∈rs,0<=r.start/\r.start<8):dI rs=vN (rs.map λr=>r.start.toNat):=by
 unfold dI vN;rw [map_map];rwa[map_congr_left λp G=> ?_];show V.int p.start=V.int ((p.start.toNat:Nat):Int);rw [Int.toNat_of_nonneg (h p G).1]
theorem uE {ps:List (Int×Int)}(h:∀p∈ps,0<=p.2/\p.2<8)(i:Nat):decide (i∈ps.map λp=>p.2.toNat)=ps.any λp=>decide (p.2=(i:Int)):=by
 rw [Bool.eq_iff_iff,decide_eq_true_eq,mem_map,any_eq_true];constructor
 ·rintro ⟨p,G,e⟩;exact ⟨p,G,decide_eq_true (by have:=h p G;lia)⟩
 ·rintro ⟨p,G,e⟩;exact ⟨p,G,by have:=of_decide_eq_true e;lia⟩
theorem AW {rs:List bj}(h:∀r∈rs,0<=r.start/\r.start<8)(i:Nat):decide (i∈rs.map λr=>r.start.toNat)=rs.any λr=>decide (r.start=(i:Int)):=by
 rw [Bool.eq_iff_iff,decide_eq_true_eq,mem_map,any_eq_true];constructor
 ·rintro ⟨p,G,e⟩;exact ⟨p,G,decide_eq_true (by have:=h p G;lia)⟩
 ·rintro ⟨p,G,e⟩;exact ⟨p,G,by have:=of_decide_eq_true e;lia⟩
theorem nz (ps:List (Int×Int)):(d6 ps).length=ps.length:=by unfold d6;rw [length_map]
inductive vq (K:Fg)(vs:List V)(H:Hp)(Q:VK)(_e:XK):Prop
 |mk (room c p pl li dr mk ps xs:_) (rs:List bj) (_:vs=[.int room,.ref c,.ref p]) (_:bX K H c pl li dr mk ps) (_:H p=some (.lst xs)) (_:az K H xs @bt) (_:Sh ps rs) (_:∀(M:Nat) H',ak H H'->(∀i:Nat,M.testBit i=tk room ps rs i)->M<2^8->Q (.int (M:Int)) H')
theorem Gp (F:bo K "tasks_of" "tasks_of" qt f fd)(bE:mg "len"=none)(cm:bf P w K mg base 1 "goals_aboard" ["cabin"] (gx K))(r9:bf P w K mg base 3 "mask_of" ["numbers"] (k9 K)):av P w K mg base bb 4 f fd ["room","cabin","riders"] (vq K):=by
 rwa[F.ok CW (by intro _ _ _ _ h;cases h;subst_vars;rfl) @bp];obtain ⟨z,c,p,pl,li,dr,mk,ps,xs,I,rfl,hc,ep,dp,G,q⟩:=h;have xl:=aB dp;have ad:=G.2.2.2;have ae:=G.2.2.1;rwa[⟨_,(aa @a (aa @M (ac (ag (c8 r9 hr @b rfl (aq (dO @eM (wv 3) (bG rfl @bb @a @v @u (λC s H ex=>(wv 1)))) am)))))),?_⟩];left;rwa[gx.mk _ _ _ _ _ _ rfl hc @c λg H1 R n1 e1=> ?_];have ev:=Hr G.1;left;rw [nz];rwa[fe @cb @cb]
 ·left
  refine k9.mk _ @dw rfl (aD.of (by rw [<-ev];exact e1)) (λk Y=>by
   obtain ⟨p,j,rfl⟩:=mem_map.mp Y
   have:=G.1 p j;lia) ?_
  refine q _ H1 R (λi=> ?_) (yo λk Y=>by
   obtain ⟨p,j,rfl⟩:=mem_map.mp Y
   have:=G.1 p j;lia)
  rw [nh,uE G.1];unfold tk;rw [decide_eq_false (show ¬(ps.length:Int)<z by lia),Bool.false_and,Bool.or_false]
 ·left;rwa[b8 @cs ?_];rwa[bK (xs:=xs) (λi ys H'=>H'=H1/\ys=(dI I).take i) @bs (λi ys H' p=>by rw [p.2,length_take];exact Nat.min_le_left _ _) ⟨rfl,rfl⟩ (λi ys H' _ p=>by rw [p.1];exact R.seq (aD.of ep)) (λi x ys H' U p=> ?_) (λys H' p l2 n2=> ?_)]
  ·obtain ⟨rfl,rfl⟩:=p;obtain ⟨r,J,S⟩:=bu dp U;obtain ⟨u,us,rfl,hu,O⟩:=S.outT
   cases O with|cons q0 r0=>cases r0 with|cons q1 r1=>cases r1 with|cons q2 r2=>cases r2 with|cons q3 r3=>
   cases r3;cases q0.isInt;cases q1.isInt;cases q2.isInt;cases q3.isInt;left;rwa[⟨kO,?_⟩];left;rwa[⟨rfl,?_⟩];rw [take_succ];congr 1;unfold dI;rw [getElem?_map,J];rfl
  ·obtain ⟨rfl,rfl⟩:=p
   have e2:upd H' l2 (.lst ((dI I).take xs.length)) l2=some (.lst (dI I)):=by rw [af,take_of_length_le (by unfold dI;rw [length_map];lia)]
   have Z:ak H' (upd H' l2 (.lst ((dI I).take xs.length))):= .upd n2;generalize upd H' l2 (.lst ((dI I).take xs.length))=H2 at e2 Z ⊢
   have sl:(dI I).length=I.length:=by unfold dI;rw [length_map]
   erw[y7 (Z.get e1) e2 (aR (by rw [nz,sl];lia)) λl3 H3 s3 n3 e3=> ?_];have W:=CO G.2.1
   refine k9.mk _ (@dw++I.map λr=>r.start.toNat) rfl (aD.of (by rw [e3,ev,W];unfold vN;rw [map_append])) (λk Y=>by
    rcases mem_append.mp Y with Y|Y
    ·obtain ⟨p,j,rfl⟩:=mem_map.mp Y;have:=G.1 p j;lia
    ·obtain ⟨p,j,rfl⟩:=mem_map.mp Y
     have:=G.2.1 p j;lia) ?_
   refine q _ H3 ((R.trans Z).trans s3) (λi=> ?_) (yo λk Y=>by
    rcases mem_append.mp Y with Y|Y
    ·obtain ⟨p,j,rfl⟩:=mem_map.mp Y;have:=G.1 p j;lia
    ·obtain ⟨p,j,rfl⟩:=mem_map.mp Y
     have:=G.2.1 p j;lia)
   rw [nh];unfold tk;rw [decide_eq_true (show (ps.length:Int)<z by lia),Bool.true_and,<-uE G.1,<-AW G.2.1,<-Bool.decide_or];exact decide_eq_decide.mpr mem_append
inductive vD (K:Fg)(vs:List V)(H:Hp)(Q:VK)(_e:XK):Prop
 |mk (f li p xs:_) (rs:List bj) (_:vs=[.int f,.int li,.ref p]) (_:H p=some (.lst xs)) (_:az K H xs @bt) (_:rs.length<=64) (_:∀H',ak H H'->Q (.bl (Lu rs f li)) H')
def iq (rs:List bj)(f:Int):List V:=(rs.filter λr=>decide (r.start=f)).map λr=>V.int (vg r.start r.goal)
theorem KY {rs:List bj}{f li:Int}:sO (.int li) (iq rs f)=Lu rs f li:=by
 unfold sO iq Lu;rw [any_map,any_filter];rfl
theorem GS (F:bo K "goes_along" "goes_along" kb f fd)(gN:bf P w K mg base 1 "way_of" ["start","goal"] qd):av P w K mg base bb 2 f fd ["floor","light","riders"] (vD K):=by
 rwa[F.ok oq (by intro _ _ _ _ h;cases h;subst_vars;rfl) (λZ A outer s H vs Q E hr h=> ?_)];obtain ⟨f,li,p,xs,j,rfl,O,U,ad,q⟩:=h;have xl:=aB U;rwa[⟨_,(aa (eV (i:=3) rfl oq.nd rfl @o (ax (N':=["tag","start","goal","lift","floor"]) (pk:=[none,none,none,none,some 0]) @m) @a @v @be @k) @g),?_⟩];rwa[b8 (aD.of O) ?_]
 refine bK (xs:=xs) (λi ys H'=>H'=H/\ys=iq (j.take i) f) @bs (λi ys H' p=>by
  rw [p.2];unfold iq;rw [length_map];have:=length_filter_le (λr:bj=>decide (r.start=f)) (j.take i);rw [length_take] at this;lia) ⟨rfl,rfl⟩ (λi ys H' _ p=>by rw [p.1];exact aD.of O) (λi x ys H' J p=> ?_) (λys H' p l2 Y=> ?_)
 ·obtain ⟨rfl,rfl⟩:=p;obtain ⟨r,G,S⟩:=bu U J;obtain ⟨u,us,rfl,hu,I⟩:=S.outT
  cases I with|cons q0 r0=>cases r0 with|cons q1 r1=>cases r1 with|cons q2 r2=>cases r2 with|cons q3 r3=>
  cases r3;cases q0.isInt;cases q1.isInt;cases q2.isInt;cases q3.isInt;left;rwa[⟨kO,?_⟩];show if decide (r.start=f)=true then _ else _
  have e:iq (j.take (i+1)) f=iq (j.take i) f++if decide (r.start=f)=true then [V.int (vg r.start r.goal)] else []:=by
   unfold iq;rw [take_succ,G,filter_append,map_append];congr 1;cases z:decide (r.start=f)<;>simp [z]
  by_cases h1:r.start=f
  ·rw [if_pos @ex];rwa[qd.mk _ _ rfl ?_];rw [e,if_pos @ex];exact ⟨rfl,rfl⟩
  ·rw [if_neg (by rw [decide_eq_false h1];decide),e,if_neg (by rw [decide_eq_false h1];decide),append_nil];exact ⟨rfl,rfl⟩
 ·obtain ⟨rfl,rfl⟩:=p
  have W:upd H' l2 (.lst @dp) l2=some (.lst (iq j f)):=by rw [af,take_of_length_le @c]
  have R:ak H' (upd H' l2 (.lst @dp)):= .upd Y;generalize upd H' l2 (.lst @dp)=H2 at W R ⊢;rwa[mK (aD.of W) rfl ?_ ?_]
  ·rwa[all_eq_true.mpr λx hx=> ?_];obtain ⟨r,_,rfl⟩:=mem_map.mp hx;rfl
  ·rw [KY];exact q H2 R
inductive z7 (K:Fg)(vs:List V)(H:Hp)(Q:VK)(_e:XK):Prop
 |mk (so c p pl li dr mk ps xs:_) (rs:List bj) (M f0:Nat) (_:vs=[.str so,.ref c,.int (M:Int),.ref p]) (_:bX K H c pl li dr mk ps) (_:H p=some (.lst xs)) (_:az K H xs @bt) (_:Sh ps rs) (_:pl=2*(f0:Int)) (_:f0<8) (_:∀H',ak H H'->Q (.int (ia so li (M.testBit f0) (Mg ps f0) (Lu rs f0 li))) H')
theorem Hn {f:Int}{ps:List (Int×Int)}:sO (.int f) (d6 ps)=Mg ps f:=by
 unfold sO d6 Mg;rw [any_map];rfl
theorem rJ (ps:List (Int×Int)):(d6 ps).all cY=true:=by
 rwa[all_eq_true.mpr λx F=> ?_];obtain ⟨p,_,rfl⟩:=mem_map.mp F;rfl
theorem Kr (F:bo K "here_of" "here_of" v4 f fd)(bN:bf P w K mg base 1 "floor_of" ["cabin"] (cA K))(py:bf P w K mg base 2 "has" ["mask","k"] fD)(cm:bf P w K mg base 1 "goals_aboard" ["cabin"] (gx K))(oQ:bf P w K mg base 2 "goes_along" ["floor","light","riders"] (vD K)):av P w K mg base bb 3 f fd ["sort","cabin","tasks","riders"] (z7 K):=by
 rwa[F.ok FL (by intro _ _ _ _ h;cases h;subst_vars;rfl) @cf];obtain ⟨so,c,p,pl,li,dr,mk,ps,xs,rs,M,U,rfl,J,W,dp,R,Z,ad,q⟩:=h;obtain ⟨b,bs,ec,eb,db⟩:=id J;have ah:=R.2.2.2;have ae:=R.2.2.1;rwa[⟨_,(aa @a (aa @a (aa (au @gL @go ap) (aa (au @a @go ap) @g)))),?_⟩]
 have e0:pl / 2=(U:Int):=by lia
 left;rwa[cA.mk _ _ _ _ _ _ rfl J ?_];rw [e0];left;rwa[fD.mk _ _ rfl @c ?_];unfold ia at q
 cases I:M.testBit U with
 |false=>rw [I,if_pos rfl] at q;left;exact q H (.refl _)
 |true=>
  rw [I,if_neg @b] at q;left;by_cases h1:so=Str.ofString "free"
  ·rw [if_pos (.inl h1)] at q;left;exact q H (.refl _)
  ·by_cases h2:li=0
   ·rw [if_pos (.inr h2)] at q;left;exact q H (.refl _)
   ·rw [if_neg (λz=>z.elim h1 h2)] at q;left;rwa[gx.mk _ _ _ _ _ _ rfl J @c λg H1 O n1 Y=> ?_];rwa[mK (aD.of Y) rfl (rJ ps) ?_];rw [Hn]
    cases G:Mg ps U with
    |true=>rw [G,if_pos (.inl rfl)] at q;left;exact q H1 O
    |false=>
     rw [G] at q;left;rwa[vD.mk _ _ _ _ _ rfl (O.get W) (az.same dp O) @c λH2 S=> ?_]
     cases j:Lu rs U li with
     |true=>rw [j,if_pos (.inr rfl)] at q;left;exact q H2 (O.trans S)
     |false=>rw [j,if_neg @b] at q;left;exact q H2 (O.trans S)
theorem zt (M:Nat):(jB M).Pairwise (· < ·):=List.Pairwise.filter _ pairwise_lt_range
theorem og (M n i:Nat):(M - M% 2^(n+1)).testBit i=(M.testBit i&&decide (n<i)):=by
 have e:M - M% 2^(n+1)=2^(n+1)*(M / 2^(n+1)):=by have:=Nat.div_add_mod M (2^(n+1));lia
 rw [e,Nat.testBit_two_pow_mul,Nat.testBit_div_two_pow];by_cases h:n<i
 ·rw [decide_eq_true h,decide_eq_true (show i≥n+1 from h),Nat.sub_add_cancel h,Bool.true_and,Bool.and_true]
 ·rw [decide_eq_false h,decide_eq_false (show ¬i≥n+1 by lia),Bool.false_and,Bool.and_false]
theorem Qo {M n:Nat}{t:Int->Bool}(J:∀i:Nat,M.testBit i=t i)(R:M<2^8):Ec t n (match ((jB (M - M% 2^(n+1)))[(0:Nat)]? :Option Nat) with|none=>0|some k=>(k:Int) - n):=by
 cases I:jB (M - M% 2^(n+1)) with
 |nil=>
  rwa[.inl ⟨rfl,λj U j7=> ?_⟩];have S:=Il.mp I;have:=og M n (n+j.toNat);rw [S,Nat.zero_testBit,decide_eq_true @c,Bool.and_true,J] at this;rw [<-this.symm];congr 1;lia
 |cons k ks=>
  have hs:=zt (M - M% 2^(n+1));rw [I] at hs
  have Y:k∈jB (M - M% 2^(n+1)):=by rw [I];exact .head _
  have F:=lI.mp Y;rw [og,Bool.and_eq_true] at F;have nk:=of_decide_eq_true F.2;have Z:k<8:=Cz (M:=M) R (lI.mpr F.1);rwa[.inr ⟨by show 1<=(k:Int) - n;lia,by show (k:Int) - n<=7;lia,?_,λj U O=> ?_⟩]
  ·show t ((n:Int)+((k:Int) - n))=true;rw [show (n:Int)+((k:Int) - n)=(k:Int) by lia,<-J];exact F.1
  ·have O:j<(k:Int) - n:=O
   cases z:t ((n:Int)+j) with
   |false=>rfl
   |true=>
    have W:M.testBit (n+j.toNat)=true:=by rw [J,<-z];congr 1;lia
    have G:n+j.toNat∈jB (M - M% 2^(n+1)):=lI.mpr (by rw [og,W,decide_eq_true @c];rfl);rw [I] at G
    rcases mem_cons.mp G with e|G
    ·lia
    ·have:=rel_of_pairwise_cons hs G;lia
theorem RJ {M n:Nat}{t:Int->Bool}(S:n<8)(J:∀i:Nat,M.testBit i=t i)(G:M<2^8):Ed t n (match (if M% 2^n=0 then none else some (L (M% 2^n) - 1):Option Nat) with|none=>0|some k=>(n:Int) - k):=by
 by_cases I:M% 2^n=0
 ·rw [if_pos I];rwa[.inl ⟨rfl,λj F j7 jn=> ?_⟩];have:=Nat.testBit_mod_two_pow M n (n - j.toNat);rw [I,Nat.zero_testBit,decide_eq_true @c,Bool.true_and,J] at this;rw [<-this.symm];congr 1;lia
 ·rw [if_neg I];have Y:=BI I;have R:=RZ (M% 2^n);rw [Nat.testBit_mod_two_pow,Bool.and_eq_true] at Y;have U:=of_decide_eq_true Y.1;have Z:L (M% 2^n) - 1<8:=Cz (M:=M) G (lI.mpr Y.2);rwa[.inr ⟨by show 1<=(n:Int) - ((L (M% 2^n) - 1:Nat):Int);lia,?_,by show (n:Int) - ((L (M% 2^n) - 1:Nat):Int)<=n;lia,?_,λj F O=> ?_⟩]
  ·show (n:Int) - ((L (M% 2^n) - 1:Nat):Int)<=7;lia
  ·show t ((n:Int) - ((n:Int) - ((L (M% 2^n) - 1:Nat):Int)))=true;rw [show (n:Int) - ((n:Int) - ((L (M% 2^n) - 1:Nat):Int))=((L (M% 2^n) - 1:Nat):Int) by lia,<-J];exact Y.2
  ·have O:j<(n:Int) - ((L (M% 2^n) - 1:Nat):Int):=O
   cases z:t ((n:Int) - j) with
   |false=>rfl
   |true=>
    have W:(M% 2^n).testBit (n - j.toNat)=true:=by rw [Nat.testBit_mod_two_pow,decide_eq_true @c,J,Bool.true_and,<-z];congr 1;lia
    have:=Nat.testBit_lt_two_pow (Nat.lt_of_lt_of_le R (Nat.pow_le_pow_right @b (show L (M% 2^n)<=n - j.toNat by lia)));rw [W] at this;cases this
noncomputable def LN (room:Int)(so:Str)(li:Int)(ps:List (Int×Int))(rs:List bj)(f0:Nat)(u d:Int):List V:=[.int (f0:Int),.int li,.int (ia so li (tk room ps rs f0) (Mg ps f0) (Lu rs f0 li)),.int u,.int d]
inductive zT (K:Fg)(vs:List V)(H:Hp)(Q:VK)(_e:XK):Prop
 |mk (so room c p pl li dr mk ps xs:_) (rs:List bj) (f0:Nat) (_:vs=[.str so,.int room,.ref c,.ref p]) (_:bX K H c pl li dr mk ps) (_:H p=some (.lst xs)) (_:az K H xs @bt) (_:Sh ps rs) (_:pl=2*(f0:Int)) (_:f0<8) (_:∀r u d H',ak H H'->Ec (tk room ps rs) f0 u->Ed (tk room ps rs) f0 d->H' r=some (.tup (LN room so li ps rs f0 u d))->Q (.ref r) H')
theorem Rq {M n:Nat}(h:M<2^8):M - n<2^200:=Nat.lt_of_le_of_lt (Nat.sub_le _ _) (Nat.lt_trans h @b)
theorem Kf (F:bo K "view" "view" FR f fd)(bN:bf P w K mg base 1 "floor_of" ["cabin"] (cA K))(uV:bf P w K mg base 4 "tasks_of" ["room","cabin","riders"] (vq K))(Ij:bf P w K mg base 3 "above" ["mask","k"] vE)(Cv:bf P w K mg base 4 "lowest" ["mask"] qf)(w4:bf P w K mg base 2 "below" ["mask","k"] lr)(zj:bf P w K mg base 1 "highest" ["mask"] mG)(zm:bf P w K mg base 3 "here_of" ["sort","cabin","tasks","riders"] (z7 K)):av P w K mg base bb 5 f fd ["sort","room","cabin","riders"] (zT K):=by
 rwa[F.ok Nx (by intro _ _ _ _ h;cases h;subst_vars;rfl) @cf];obtain ⟨so,z,c,p,pl,li,dr,mk,ps,xs,rs,j,rfl,J,ep,dp,hf,S,ad,q⟩:=h;obtain ⟨b,bs,ec,eb,db⟩:=id J;rwa[⟨_,(aa @a (aa @a (aa @a (aa @a (aa @a @eV))))),?_⟩]
 have e0:pl / 2=(j:Int):=by lia
 rwa[cA.mk _ _ _ _ _ _ rfl J ?_];rw [e0];rwa[vq.mk _ _ _ _ _ _ _ _ _ _ rfl J ep dp hf λM H1 s1 Z h8=> ?_];rwa[vE.mk _ _ rfl @c ?_];rwa[qf.mk _ rfl (Rq h8) λH2 s2=> ?_];have U:=Qo (n:=j) Z h8;generalize ((jB (M - M% 2^(j+1)))[(0:Nat)]? :Option Nat)=ou at U ⊢;rwa[lr.mk _ _ rfl @c ?_];rwa[mG.mk _ rfl ?_];have D:=RJ (n:=j) ad Z h8;generalize (if M% 2^j=0 then none else some (L (M% 2^j) - 1):Option Nat)=od at D ⊢;have O:=s1.trans s2;have I:=J.same O;have ae:∀u d:Int,Ec (tk z ps rs) j u->Ed (tk z ps rs) j d->∀r Y G,ak H2 Y->ak Y G->G r=some (.tup (LN z so li ps rs j u d))->Q (.ref r) G:=λu d U D r Y G s5 s6 W=>q r u d G ((O.trans s5).trans s6) U D W;obtain ⟨b2,ah,R,_⟩:=id I;cases ou<;>cases od
 all_goals
  ext
  first|refine bz rfl ?_|refine aP rfl ?_
  ext
  first|refine bz rfl ?_|refine aP rfl ?_
  rwa[ao (aE.of R) rfl ?_];rwa[z7.mk _ _ _ _ _ _ _ _ _ _ _ _ rfl I (O.get ep) (az.same dp O) hf S ad λY s5=> ?_];rw [Z];exact ce Sa λr G s6 _ W=>ae _ _ U D r _ _ s5 s6 W
theorem DM {pl:Int}{f0:Int}{ps:List (Int×Int)}(h:pl=2*f0):sO (.int (pl / 2)) (d6 ps)=ps.any (λp=>decide (2*p.2=pl)):=by
 unfold sO d6;rw [any_map];congr 1
 funext p
 show (p.2==pl / 2)=decide (2*p.2=pl);by_cases e:p.2=pl / 2
 ·rw [decide_eq_true @c,beq_iff_eq];exact e
 ·rw [decide_eq_false @c,beq_eq_false_iff_ne];exact e
inductive mz (K:Fg)(vs:List V)(H:Hp)(Q:VK)(_e:XK):Prop
 |mk (so c wd pl li dr mk ps f0:_) (_:vs=[.str so,.ref c,.str wd]) (_:bX K H c pl li dr mk ps) (_:pN ps) (_:pl=2*f0) (_: -1<=li) (_:li<=1) (_:∀H',ak H H'->Q (.str @dg) H')
theorem AQ (F:bo K "turned" "turned" vO f fd)(bE:mg "len"=none)(bN:bf P w K mg base 1 "floor_of" ["cabin"] (cA K))(cm:bf P w K mg base 1 "goals_aboard" ["cabin"] (gx K)):av P w K mg base bb 2 f fd ["sort","cabin","word"] (mz K):=by
 rwa[F.ok Fy (by intro _ _ _ _ h;cases h;subst_vars;rfl) @Z];obtain ⟨so,c,G,pl,li,dr,mk,ps,f0,rfl,J,hg,j,ad,af,q⟩:=h;obtain ⟨b,xs,ec,eb,dx⟩:=id J;rwa[⟨_,(aa @a (aa @a (aa (au @a @eW ap) (aa @G (aa @G @eW))))),?_⟩];unfold bY at q;left;rwa[gx.mk _ _ _ _ _ _ rfl J hg.1 λp H1 O n1 U=> ?_];left;rwa[fe @cb @cb]
 ·rw [if_pos (.inl h1)] at q;left;exact q H1 O
 left;rw [nz];rwa[fe @bC @bC]
 ·rw [if_pos (.inr (length_eq_zero_iff.mp @c))] at q;left;exact q H1 O
 rw [if_neg (λz=>z.elim h1 λz=>h2 (by rw [z];rfl))] at q;left;rwa[cA.mk _ _ _ _ _ _ rfl @cW ?_];left;rwa[mK (aD.of U) rfl (rJ ps) ?_];rw [DM j];rwa[iR @dX @dX]
 ·rw [if_pos S] at q;left;exact q H1 O
 rw [if_neg (by rw [S];decide)] at q;left;rwa[fe @eX @eX]
 ·rw [if_pos I] at q;left;exact q H1 O
 rw [if_neg I] at q;by_cases Y:G=Str.ofString "u"
 ·have W: ¬G=Str.ofString "d":=by rw [Y];decide
  by_cases Z:li= -1
  ·rw [if_pos (.inl ⟨Y,by lia⟩)] at q;left;exact q H1 O
  ·rw [if_neg (λz=>z.elim (λz=>Z @c) @eq)] at q;left;exact q H1 O
 ·by_cases W:G=Str.ofString "d"
  ·by_cases R:li=1
   ·rw [if_pos (.inr ⟨W,by lia⟩)] at q;left;exact q H1 O
   ·rw [if_neg (λz=>z.elim (λz=>Y z.1) (λz=>R @c))] at q;left;exact q H1 O
  ·rw [if_neg (λz=>z.elim (λz=>Y z.1) @eq)] at q;left;exact q H1 O
noncomputable def bh (fl pl:Int)(x:Str):Str:=if x=Str.ofString "u"/\pl / 2=fl - 1 then Str.ofString "s" else if x=Str.ofString "d"/\pl / 2=0 then Str.ofString "s" else x
inductive mI (K:Fg)(vs:List V)(H:Hp)(Q:VK)(_e:XK):Prop
 |mk (fl c wd pl li dr mk ps:_) (_:vs=[.int fl,.ref c,.str wd]) (_:bX K H c pl li dr mk ps) (_:Q (.str (bh fl pl wd)) H)
theorem AT (F:bo K "bounded" "bounded" qI f fd)(S:bf P w K mg base 1 "floor_of" ["cabin"] (cA K)):av P w K mg base bb 2 f fd ["floors","cabin","word"] (mI K):=by
 rwa[F.ok C9 (by intro _ _ _ _ h;cases h;subst_vars;rfl) (λG A outer s H I Q E R h=> ?_)];obtain ⟨fl,c,j,pl,li,dr,O,ps,rfl,J,q⟩:=h;rwa[⟨_,(aa @G (aa @G @eW)),?_⟩];unfold bh at q;by_cases h1:j=Str.ofString "u"
 ·have W: ¬j=Str.ofString "d":=by rw [h1];decide
  left;rwa[cA.mk _ _ _ _ _ _ rfl J ?_];rwa[fe @bC @bC]
  ·rw [if_pos ⟨h1,h2⟩] at q;left;exact q
  ·rw [if_neg (λz=>h2 z.2),if_neg @eq] at q;left;exact q
 ·by_cases W:j=Str.ofString "d"
  ·left;rwa[cA.mk _ _ _ _ _ _ rfl J ?_];rwa[fe @bC @bC]
   ·rw [if_neg @dh,if_pos ⟨W,h2⟩] at q;left;exact q
   ·rw [if_neg @dh,if_neg (λz=>h2 z.2)] at q;left;exact q
  ·rw [if_neg @dh,if_neg @eq] at q;left;exact q
inductive eM (K:Fg)(vs:List V)(H:Hp)(Q:VK)(_e:XK):Prop
 |mk (c p l d pl li dr mk ps:_) (_:vs=[.ref c,.int p,.int l,.int d]) (_:bX K H c pl li dr mk ps) (_:∀r H',ak H H'->bX K H' r p l d mk ps->Q (.ref r) H')
theorem Ke (F:bo K "with_changes" "with_changes" gz f fd):av P w K mg base bb 1 f fd ["cabin","place","light","door"] (eM K):=by
 rwa[F.ok tM (by intro _ _ _ _ h;cases h;subst_vars;rfl) (λj A outer s H I Q E G h=> ?_)];obtain ⟨c,p,l,d,pl,li,dr,z,ps,rfl,J,q⟩:=h;obtain ⟨b,xs,W,R,dx⟩:=id J;rwa[⟨_,@g,?_⟩];left;exact ce Sa λr H1 O _ S=>q r H1 O ⟨b,xs,S,O.get R,az.same dx O⟩
theorem TK {fl pl:Int}:bh fl pl "o"=Str.ofString "o":=by unfold bh;rw [if_neg @C,if_neg @C]
theorem TF {fl pl:Int}:bh fl pl "x"=Str.ofString "x":=by unfold bh;rw [if_neg @C,if_neg @C]
theorem TH {fl pl:Int}:bh fl pl "s"=Str.ofString "s":=by unfold bh;rw [if_neg @C,if_neg @C]
theorem RP {fl pl:Int}(h:pl / 2=fl - 1):bh fl pl "u"=Str.ofString "s":=by unfold bh;rw [if_pos ⟨rfl,h⟩]
theorem RQ {fl pl:Int}(h: ¬pl / 2=fl - 1):bh fl pl "u"=Str.ofString "u":=by unfold bh;rw [if_neg @ep,if_neg @C]
theorem RR {fl pl:Int}(h:pl / 2=0):bh fl pl "d"=Str.ofString "s":=by unfold bh;rw [if_neg @C,if_pos ⟨rfl,h⟩]
theorem RS {fl pl:Int}(h: ¬pl / 2=0):bh fl pl "d"=Str.ofString "d":=by unfold bh;rw [if_neg @C,if_neg @ep]
inductive mx (K:Fg)(vs:List V)(H:Hp)(Q:VK)(_e:XK):Prop
 |mk (so fl tu c wd pl li dr mk ps f0:_) (_:vs=[.str so,.int fl,.int tu,.ref c,.str wd]) (_:bX K H c pl li dr mk ps) (_:wd∈cO) (_:pN ps) (_:pl=2*f0) (_:0<=f0) (_:f0<fl) (_: -1<=li) (_:li<=1) (_:∀r H',ak H H'->bX K H' r (fc fl tu pl li dr ps @dg).1 (fc fl tu pl li dr ps @dg).2.1 (fc fl tu pl li dr ps @dg).2.2 mk ps->Q (.ref r) H')
theorem E6 {H:Hp}{so:Str}{fl tu:Int}{c:Addr}{j:Str}{pl li dr z:Int}{ps:List (Int×Int)}{f0:Int}{Q:VK}{E:XK}(h1:bX K H c pl li dr z ps)(h2:j∈cO)(S:pN ps)(F:pl=2*f0)(Y:0<=f0)(J:f0<fl)(W: -1<=li)(O:li<=1)
(g:∀r H',ak H H'->bX K H' r (fc fl tu pl li dr ps @eN).1 (fc fl tu pl li dr ps @eN).2.1 (fc fl tu pl li dr ps @eN).2.2 z ps->Q (.ref r) H'):mx K [.str so,.int fl,.int tu,.ref c,.str j] H Q E:=⟨so,fl,tu,c,j,pl,li,dr,z,ps,f0,rfl,h1,h2,S,F,Y,J,W,O,g⟩
theorem O7 {fl tu pl li dr:Int}{ps:List (Int×Int)}{G:Str}(I:0<=pl)(h1:pl / 2<fl)(h2:pl% 2=0)(J:G∈cO):fc fl tu pl li dr ps G=if bh fl pl G=Str.ofString "o" then (pl,li,tu) else if bh fl pl G=Str.ofString "x" then (pl,0,tu) else if bh fl pl G=Str.ofString "u" then (pl+1,1,dr) else if bh fl pl G=Str.ofString "d" then (pl - 1,-1,dr) else (pl,if ps=[] then 0 else li,dr):=by
 have j: ¬Str.ofString "s"=Str.ofString "o":=by decide+kernel
 have R: ¬Str.ofString "s"=Str.ofString "x":=by decide+kernel
 have S: ¬Str.ofString "s"=Str.ofString "u":=by decide+kernel
 have O: ¬Str.ofString "s"=Str.ofString "d":=by decide+kernel
 rcases O4 J with rfl|rfl|rfl|rfl|rfl
 ·rw [TK,HQ,if_pos rfl]
 ·rw [TF,HN,if_neg @h,if_pos rfl]
 ·by_cases h:pl / 2=fl - 1
  ·rw [RP h,Bi @c,if_neg j,if_neg R,if_neg S,if_neg O]
  ·rw [RQ h,Bh @c,if_neg @h,if_neg @h,if_pos rfl]
 ·by_cases h:pl / 2=0
  ·rw [RR h,Bk @c,if_neg j,if_neg R,if_neg S,if_neg O]
  ·rw [RS h,Bj @c,if_neg @h,if_neg @h,if_neg @h,if_pos rfl]
 ·rw [TH,HP,if_neg j,if_neg R,if_neg S,if_neg O]
theorem AO (F:bo K "steered" "steered" qu f fd)(bE:mg "len"=none)(Cu:bf P w K mg base 2 "turned" ["sort","cabin","word"] (mz K))(zp:bf P w K mg base 2 "bounded" ["floors","cabin","word"] (mI K))(cj:bf P w K mg base 1 "with_changes" ["cabin","place","light","door"] (eM K)):av P w K mg base bb 3 f fd ["sort","floors","turns","cabin","word"] (mx K):=by
 rwa[F.ok CY (by intro _ _ _ _ h;cases h;subst_vars;rfl) @bp];obtain ⟨so,fl,tu,c,wd,pl,li,dr,mk,ps,f0,rfl,J,hw,hg,Y,af,ae,ad,Z,q⟩:=h;obtain ⟨b,xs,ec,eb,dx⟩:=id J;have hx:=aB dx;rwa[⟨_,(aa @a (aa @a (aa @a (aa @a (aa @M (aa @M (aa @M (aa @M @g)))))))),?_⟩];left;rwa[mz.mk _ _ _ _ _ _ _ _ _ rfl J hg Y ad Z λH1 O=> ?_];rwa[mI.mk _ _ _ _ _ _ _ _ rfl @cW ?_];have U:=iu (so:=so) (pl:=pl) (li:=li) (ps:=ps) hw;generalize bY so pl li ps wd=w' at U q ⊢;have j:=O7 (fl:=fl) (tu:=tu) (li:=li) (dr:=dr) (ps:=ps) (pl:=pl) @c @c @c U
 have R:∀I G S,fc fl tu pl li dr ps w'=(I,G,S)->∀r H',ak H1 H'->bX K H' r I G S mk ps->Q (.ref r) H':=λI G S e r H' s2 er=>by
  rwa[q r H' (O.trans s2) ?_];rw [e];exact er
 generalize bh fl pl w'=x at j ⊢;rwa[fe @B @gp]
 ·ext;exact eM.mk _ _ _ _ _ _ _ _ _ rfl @cW (R _ _ _ (by rw [j,if_pos z]))
 rwa[fe @B (λz2=> ?_)]
 ·ext;exact eM.mk _ _ _ _ _ _ _ _ _ rfl @cW (R _ _ _ (by rw [j,if_neg W,if_pos z]))
 rwa[fe @B (λz3=> ?_)]
 ·ext;exact eM.mk _ _ _ _ _ _ _ _ _ rfl @cW (R _ _ _ (by rw [j,if_neg W,if_neg z2,if_pos z]))
 rwa[fe @B (λz4=> ?_)]
 ·ext;exact eM.mk _ _ _ _ _ _ _ _ _ rfl @cW (R _ _ _ (by rw [j,if_neg W,if_neg z2,if_neg z3,if_pos z]))
 rw [if_neg W,if_neg z2,if_neg z3,if_neg z4] at j;rwa[ao (aE.of (O _ _ ec)) rfl ?_];rwa[bQ (aE.of (O _ _ eb)) ?_];rwa[fe @B @B]
 ·ext;exact eM.mk _ _ _ _ _ _ _ _ _ rfl @cW (R _ _ _ (by rw [j,if_neg (λy=>by subst y;rw [hx] at z;exact absurd z @b)]))
 ·ext;exact eM.mk _ _ _ _ _ _ _ _ _ rfl @cW (R _ _ _ (by rw [j,if_pos (length_eq_zero_iff.mp @c)]))
def xD (r:bj):Int:=if r.start<r.goal then 1 else -1
structure D9 where
 light:Int
 kept:List (Int×Int)
 ins:List Int
noncomputable def gK (so:Str)(room pl:Int)(s:D9)(r:bj):Bool:=decide (2*r.start=pl)&&decide ((s.kept.length:Int)<room)&&decide (so=Str.ofString "free"\/s.light=0\/s.light=xD r)
noncomputable def dA (so:Str)(room pl:Int)(s:D9)(r:bj):D9:=if gK so room pl s r=true then ⟨if so=Str.ofString "way" then xD r else s.light,s.kept++[(r.tag,r.goal)],s.ins++[r.tag]⟩ else s
noncomputable def bP (so:Str)(room pl:Int)(s:D9)(rs:List bj):D9:=rs.foldl (dA so room pl) s
theorem dH {so:Str}{room pl:Int}{s:D9}{rs:List bj}{i:Nat}{r:bj}(h:rs[i]? =some r):bP so room pl s (rs.take (i+1))=dA so room pl (bP so room pl s @dO) r:=by
 rw [take_succ,h];unfold bP;rw [foldl_append];rfl
theorem E5 {so:Str}{room pl:Int}(s:D9)(r:bj):(dA so room pl s r).kept.length<=s.kept.length+1/\(dA so room pl s r).ins.length<=s.ins.length+1:=by
 unfold dA;split<;>simp
theorem mw {so:Str}{room pl:Int}:∀(rs:List bj) (s:D9),(bP so room pl s rs).kept.length<=s.kept.length+rs.length/\(bP so room pl s rs).ins.length<=s.ins.length+rs.length
 |[],s=>⟨Nat.le_refl _,Nat.le_refl _⟩
 |r::rs,s=>by
  have h1:=mw (so:=so) (room:=room) (pl:=pl) rs @cq;have h2:=E5 (so:=so) (room:=room) (pl:=pl) s r;show (bP so room pl @cq rs).kept.length<=_/\(bP so room pl @cq rs).ins.length<=_;rw [length_cons];lia
def eU (pl:Int)(ps:List (Int×Int)):List (Int×Int):=ps.filter λp=> !decide (2*p.2=pl)
def dU (pl:Int)(ps:List (Int×Int)):List Int:=(ps.filter λp=>decide (2*p.2=pl)).map (·.1)
noncomputable def wQ (so:Str)(room pl li:Int)(ps:List (Int×Int))(rs:List bj):D9:=bP so room pl ⟨li,eU pl ps,[]⟩ rs
theorem jm {α:Type}(f:α->Bool){xs:List α}{i:Nat}{x:α}(h:xs[i]? =some x):(xs.take (i+1)).filter f=(xs.take i).filter f++if f x=true then [x] else []:=by
 rw [take_succ,h,filter_append];congr 1;cases e:f x<;>simp [e]
def ui (K:Fg)(H0 H:Hp)(n k:Addr)(ins:List Int)(kept:List (Int×Int)):Prop:=ak H0 H/\H0 n=none/\H0 k=none/\n≠k/\H n=some (.lst (ins.map V.int))/\∃ks,H k=some (.lst ks)/\az K H ks (kept.map lD)
theorem ui.pushN {H0 H:Hp}{n k:Addr}{z:List Int}{j:List (Int×Int)}(g:ui K H0 H n k z j)(t:Int):ui K H0 (upd H n (.lst (z.map V.int++[.int t]))) n k (z++[t]) j:=by
 obtain ⟨s,F,Y,R,G,ks,J,I⟩:=g;rwa[⟨ak.updF s F,F,Y,R,by rw [af,map_append];rfl,ks,by rw [aj (Ne.symm R)];exact J,rN I (ng j) G⟩]
theorem ui.same {H0 H H':Hp}{n k:Addr}{z:List Int}{j:List (Int×Int)}(g:ui K H0 H n k z j)(s':ak H H'):ui K H0 H' n k z j:=by
 obtain ⟨s,G,Y,R,F,ks,J,I⟩:=g;exact ⟨s.trans s',G,Y,R,s'.get F,ks,s'.get J,az.same I s'⟩
theorem ui.pushK {H0 H:Hp}{n k l:Addr}{F:List Int}{j:List (Int×Int)}{ks:List V}{t g:Int}(G:ui K H0 H n k F j)(R:H k=some (.lst ks))(O:H l=some (.tup [.int t,.int g])):ui K H0 (upd H k (.lst (ks++[.ref l]))) n k F (j++[(t,g)]):=by
 obtain ⟨s,S,Y,I,J,W,z,U⟩:=G;rw [R] at z;cases z;rwa[⟨ak.updF s Y,S,Y,I,by rw [aj I];exact J,_,af,?_⟩];rw [map_append];exact Paired.app (rN U (ng j) R) (.cons (bL.noL (d:=lD (t,g)) (iV (aE.of O) (.cons (.int _) (.cons (.int _) .nil))) rfl R) .nil)
def Iu (K:Fg)(H0 H:Hp)(r:Addr)(pl li dr mk:Int)(kept:List (Int×Int))(outs ins:List Int):Prop:=∃c o n,H r=some (.tup [.ref c,.ref o,.ref n])/\bX K H c pl li dr mk kept/\H o=some (.lst (outs.map V.int))/\H n=some (.lst (ins.map V.int))/\H0 o=none/\H0 n=none/\o≠n
inductive Fe (vs:List V)(H:Hp)(Q:VK)(_e:XK):Prop
 |mk (so:_) (li s g:Int) (_:vs=[.str so,.int li,.int s,.int g]) (_:Q (.bl (decide (so=Str.ofString "free"\/li=0\/li=vg s g))) H)
theorem Oe (F:bo K "may_step_in" "may_step_in" j6 f fd)(J:bf P w K mg base 1 "way_of" ["start","goal"] qd):av P w K mg base bb 2 f fd ["sort","light","start","goal"] Fe:=by
 rwa[F.ok ya (by intro _ _ _ _ h;cases h;subst_vars;rfl) @ct];obtain ⟨j,li,s,g,rfl,q⟩:=h;rwa[⟨_,@g,?_⟩];by_cases h1:j=Str.ofString "free"
 ·rw [decide_eq_true (.inl h1)] at q;left;exact q
 ·by_cases h2:li=0
  ·rw [decide_eq_true (.inr (.inl h2))] at q;left;exact q
  ·left;rwa[qd.mk _ _ rfl ?_];have e:decide (j=Str.ofString "free"\/li=0\/li=vg s g)=decide (vg s g=li):=decide_eq_decide.mpr ⟨λz=>by rcases z with z|z|z;exact absurd z h1;exact absurd z h2;exact z.symm,λz=> .inr (.inr z.symm)⟩;rw [e] at q;exact q
inductive Ab (K:Fg)(vs:List V)(H:Hp)(Q:VK)(_e:XK):Prop
 |mk (so room c p pl li dr mk ps xs:_) (rs:List bj) (f0:Int) (_:vs=[.str so,.int room,.ref c,.ref p]) (_:bX K H c pl li dr mk ps) (_:ps.length<=64) (_:H p=some (.lst xs)) (_:az K H xs @bt) (_:Ph rs) (_:pl=2*f0) (_:∀r H',ak H H'->Iu K H H' r pl (wQ so room pl li ps rs).light dr mk (wQ so room pl li ps rs).kept (dU pl ps) (wQ so room pl li ps rs).ins->Q (.ref r) H')
theorem RE {H:Hp}{so:Str}{room:Int}{c p:Addr}{pl li dr j:Int}{ps:List (Int×Int)}{xs:List V}{rs:List bj}{f0:Int}{Q:VK}{E:XK}(h1:bX K H c pl li dr j ps)(h2:ps.length<=64)(S:H p=some (.lst xs))(z:az K H xs @bt)(Y:Ph rs)(J:pl=2*f0)
(g:∀r H',ak H H'->Iu K H H' r pl (wQ so room pl li ps rs).light dr j (wQ so room pl li ps rs).kept (dU pl ps) (wQ so room pl li ps rs).ins->Q (.ref r) H'):Ab K [.str so,.int room,.ref c,.ref p] H Q E:=⟨so,room,c,p,pl,li,dr,j,ps,xs,rs,f0,rfl,h1,h2,S,z,Y,J,g⟩
theorem Kw (F:bo K "exchanged" "exchanged" kg f fd)(bE:mg "len"=none)(b7:mg "tuple"=none)(bN:bf P w K mg base 1 "floor_of" ["cabin"] (cA K))(gN:bf P w K mg base 1 "way_of" ["start","goal"] qd)(gO:bf P w K mg base 2 "may_step_in" ["sort","light","start","goal"] Fe):av P w K mg base bb 3 f fd ["sort","room","cabin","riders"] (Ab K):=by
 rwa[F.ok dB (by intro _ _ _ _ h;cases h;subst_vars;rfl) (λaL A outer s H vs Q E hr h=> ?_)];obtain ⟨J,j,c,p,pl,li,dr,mk,ps,xs,rs,f0,rfl,hc,aI,ep,dp,aH,hf,q⟩:=h;obtain ⟨b,bs,ec,eb,db⟩:=id hc;have bl:=aB db;have xl:=aB dp;rwa[⟨_,(aa @a (aa @a (aa (eV (i:=6) rfl dB.nd rfl @o (ax (N':=["tag","goal","floor"]) (pk:=[none,none,some 4]) @m) @a @p @be @S) (aa @a (aa (eV (i:=8) rfl dB.nd rfl @o (ax (N':=["tag","goal","floor"]) (pk:=[none,none,some 4]) @m) @a @p @be @k) (aa (cE PassesOwn.never rfl @a (dF (K:=K) (n:=4) rfl rfl (ay @a (ay @a (ay (pI (i:=11) dB.nd rfl @o) (ay (pI (i:=12) dB.nd rfl @o) cz))))) (ac (au (PW.pt (ve (cq @gM @gN (wv 4) (bV _)) (ve @a (wb (pP rfl (c8 gO hr @b rfl (aq (wv 0) (aq (wv 5) (aq @gN @fm))))))))) (aa @eY (aa (aS (gW rfl PySem.F.plainAttrs_list PySem.F.slot_list_append PySem.F.type_list_append xJ (wv 8) (aq (jT (aq (wv 9) @fm)) am))) (ac (bq (i:=5) dB.nd rfl @o (BD @a (c8 gN hr @b rfl (aq @gN @fm)) (wv 5)))))) ap))) (ac (ag (jT (aq (jT (aq @a (aq (wv 5) (aq @a (aq @a (aq (aV @eO rfl b7 boot_tuple (aq (wv 8) am)) am)))))) (aq (wv 6) @fB))))))))))),?_⟩];left;rwa[cA.mk _ _ _ _ _ _ rfl hc ?_];left;rwa[d5 @cs ?_]
 refine cK (xs:=bs) (λi ys H'=>H'=H/\ys=(dU pl @fC).map V.int) @bs (λi ys H' p=>by
  rw [p.2,length_map];unfold dU;rw [length_map];have:=length_filter_le (λp=>decide (2*p.2=pl)) @fC;rw [length_take] at this;lia) ⟨rfl,rfl⟩ (λi ys H' _ p=>by rw [p.1];exact aE.of eb) (λi x ys H' ae p=> ?_) (λys H' p o n1=> ?_)
 ·obtain ⟨rfl,rfl⟩:=p;obtain ⟨Y,ad,ah⟩:=bu db ae;obtain ⟨u,us,rfl,hu,R⟩:=ah.outT
  cases R with|cons q0 r0=>cases r0 with|cons q1 r1=>
  cases r1;cases q0.isInt;cases q1.isInt;left;rwa[⟨fU,?_⟩];show if decide (Y.2=pl / 2)=true then _ else _;unfold dU;rw [jm _ ad];by_cases h1:Y.2=pl / 2
  ·rw [if_pos @ex,if_pos (decide_eq_true (show 2*Y.2=pl by lia)),map_append,map_append];exact ⟨rfl,rfl⟩
  ·rw [if_neg (by rw [decide_eq_false h1];decide),if_neg (by rw [decide_eq_false (show ¬2*Y.2=pl by lia)];decide),append_nil];exact ⟨rfl,rfl⟩
 obtain ⟨rfl,rfl⟩:=p;rw [take_of_length_le (show ps.length<=bs.length by lia)];have e1:upd H' o (.lst ((dU pl ps).map V.int)) o=some (.lst ((dU pl ps).map V.int)):=af;have s1:ak H' (upd H' o (.lst ((dU pl ps).map V.int))):= .upd n1;generalize upd H' o (.lst ((dU pl ps).map V.int))=H1 at e1 s1 ⊢;left;rwa[fq (aR (by first|decide|simp)) λn H2 s2 n2 e2=> ?_]
 have no:n≠o:=λz=>by rw [z,e1] at n2;cases n2
 have nH:H' n=none:=s1.free n2;left;rwa[d5 @cs ?_]
 refine cK (xs:=bs) (λi ys I=>ak H2 I/\az K I ys ((eU pl @fC).map lD)) @bs (λi ys I p=>by
  rw [aB p.2];unfold eU;have:=length_filter_le (λp=> !decide (2*p.2=pl)) @fC;rw [length_take] at this;lia) ⟨.refl _,.nil⟩ (λi ys I _ p=>p.1.seqT (s2.seqT (s1.seqT @cX))) (λi x ys I ae p=> ?_) (λys I p k Z=> ?_)
 ·obtain ⟨W,dy⟩:=p;obtain ⟨Y,ad,ah⟩:=bu db ae;obtain ⟨u,us,rfl,hu,R⟩:=ah.outT
  cases R with|cons q0 r0=>cases r0 with|cons q1 r1=>
  cases r1;cases q0.isInt;cases q1.isInt;left;rwa[⟨fU,?_⟩];show if (!decide (Y.2=pl / 2))=true then _ else _;unfold eU;rw [jm _ ad];by_cases h1:Y.2=pl / 2
  ·rw [if_neg (by rw [decide_eq_true h1];decide),if_neg (by rw [decide_eq_true (show 2*Y.2=pl by lia)];decide),append_nil];exact ⟨W,dy⟩
  ·rw [if_pos (by rw [decide_eq_false h1];rfl),if_pos (by rw [decide_eq_false (show ¬2*Y.2=pl by lia)];rfl)];rwa[ce (aR (by first|decide|simp)) λl HY sy ny ey=> ?_];rwa[⟨W.trans sy,?_⟩];rw [map_append];exact Paired.app (az.same dy sy) (.cons (iV (aE.of ey) (.cons (.int _) (.cons (.int _) .nil))) .nil)
 obtain ⟨W,dy⟩:=p;rw [take_of_length_le (show ps.length<=bs.length by lia)] at dy
 have nk:n≠k:=λz=>by rw [<-z,W.get e2] at Z;cases Z
 have ok:o≠k:=λz=>by rw [<-z,W.get @gO] at Z;cases Z
 have kH:H' k=none:=s1.free (s2.free (W.free Z));have al:ak H' (upd I k (.lst ys)):=((s1.trans s2).trans W).trans (.upd Z);have e3:upd I k (.lst ys) n=some (.lst []):=(ak.upd Z).get (W.get e2);have eo:upd I k (.lst ys) o=some (.lst ((dU pl ps).map V.int)):=(ak.upd Z).get (W.get @gO);have aA:upd I k (.lst ys) k=some (.lst ys):=af;have aw:az K (upd I k (.lst ys)) ys ((eU pl ps).map lD):=az.same dy (.upd Z);generalize upd I k (.lst ys)=H3 at al e3 eo aA aw ⊢;left;rwa[b8 (al.seq (aD.of ep)) ?_];rwa[fg (xs:=xs) (λi σ I=>ui K H' I n k (bP J j pl ⟨li,eU pl ps,[]⟩ @dO).ins (bP J j pl ⟨li,eU pl ps,[]⟩ @dO).kept/\I o=some (.lst ((dU pl ps).map V.int))/\∃t1 t2 t3 t4,σ=[some (.str J),some (.int j),some (.ref c),some (.ref p),some (.int (pl / 2)),some (.int (bP J j pl ⟨li,eU pl ps,[]⟩ @dO).light),some (.ref o),some (.ref n),some (.ref k),t1,t2,t3,t4]) ⟨⟨al,nH,kH,nk,e3,ys,aA,aw⟩,eo,_,_,_,_,rfl⟩ (λi σ I _ pv=>by obtain ⟨⟨sm,_⟩,_⟩:=pv;exact sm.seq (aD.of ep)) (λi x σ I hx pv=> ?_) @dq]
 ·obtain ⟨G,eo,t1,t2,t3,t4,rfl⟩:=pv;obtain ⟨r,O,aG⟩:=bu dp hx;obtain ⟨u,us,rfl,hu,R⟩:=aG.outT
  cases R with|cons q0 r0=>cases r0 with|cons q1 r1=>cases r1 with|cons q2 r2=>cases r2 with|cons q3 r3=>
  cases r3;cases q0.isInt;cases q1.isInt;cases q2.isInt;cases q3.isInt;have sm:=G.1
  have lp:i<rs.length:=by have:=(List.getElem?_eq_some_iff.mp O).1;lia
  have ll:=mw (so:=J) (room:=j) (pl:=pl) @dO ⟨li,eU pl ps,[]⟩;rw [length_take] at ll;have aJ:=aH.1;have kp:(eU pl ps).length<=ps.length:=length_filter_le _ _;generalize hS:bP J j pl ⟨li,eU pl ps,[]⟩ @dO=S at *;simp only [length_nil] at ll
  have U:gK J j pl S r=false->dA J j pl S r=S:=λe=>by unfold dA;rw [e];rfl
  obtain ⟨ks,ek,dk⟩:=G.2.2.2.2.2;have kl:=aB dk;left;rwa[fe @cb @cb]
  ·have aC:2*r.start=pl:=by lia
   left;rw [kl];rwa[fe @bC @bC]
   ·left;rwa[Fe.mk _ _ _ _ rfl ?_]
    have ar:(J=Str.ofString "free"\/S.light=0\/S.light=vg r.start r.goal)->dA J j pl S r=⟨if J=Str.ofString "way" then xD r else S.light,S.kept++[(r.tag,r.goal)],S.ins++[r.tag]⟩:=λz=>by
     unfold dA gK;rw [if_pos (by rw [decide_eq_true aC,decide_eq_true h2,decide_eq_true (show J=Str.ofString "free"\/S.light=0\/S.light=xD r from z)];rfl)]
    have aN:=G.2.2.2.2.1;rwa[fe (λh4=> ?_) (λh4=> ?_)]
    ·left;rwa[fK G.2.2.2.2.1 (BR (by rw [length_map];lia)) ?_];have GB:=G.pushN r.tag
     have ao:upd I n (.lst (S.ins.map V.int++[.int r.tag])) o=some (.lst ((dU pl ps).map V.int)):=by rw [aj (Ne.symm no)];exact eo
     generalize upd I n (.lst (S.ins.map V.int++[.int r.tag]))=HB at GB ao ⊢;obtain ⟨aK,aM,aO⟩:=GB.2.2.2.2.2;left;erw[ce (aR (by first|decide|simp)) λlA HA sA nA eA=> ?_];have GA:=GB.same sA;obtain ⟨as,an,aF⟩:=GA.2.2.2.2.2;rwa[fK an (BR (by rw [aB aF];lia)) ?_];have GC:=GA.pushK an eA
     have ai:upd HA k (.lst (as++[.ref lA])) o=some (.lst ((dU pl ps).map V.int)):=by rw [aj ok];exact sA.get ao
     generalize upd HA k (.lst (as++[.ref lA]))=HC at GC ai ⊢;ext;by_cases h5:J=Str.ofString "way"
     ·left;erw[qd.mk _ _ rfl ?_];rw [dH O,hS,ar h4,if_pos h5];exact ⟨GC,ai,_,_,_,_,rfl⟩
     ·left;rw [dH O,hS,ar h4,if_neg h5];exact ⟨GC,ai,_,_,_,_,rfl⟩
    ·left;rw [dH O,hS,U (by unfold gK;rw [decide_eq_false (show ¬(J=Str.ofString "free"\/S.light=0\/S.light=xD r) from h4),Bool.and_false])];exact ⟨G,eo,_,_,_,_,rfl⟩
   ·left;rw [dH O,hS,U (by unfold gK;rw [decide_eq_false h2,Bool.and_false];rfl)];exact ⟨G,eo,_,_,_,_,rfl⟩
  ·left;rw [dH O,hS,U (by unfold gK;rw [decide_eq_false (show ¬2*r.start=pl by lia)];rfl)];exact ⟨G,eo,_,_,_,_,rfl⟩
 ·obtain ⟨G,eo,t1,t2,t3,t4,rfl⟩:=pv;rw [take_of_length_le (show rs.length<=xs.length by lia)] at G ⊢;obtain ⟨ks,ek,dk⟩:=G.2.2.2.2.2;have sm:=G.1;left;rwa[jV (aD.of ek) λl HA sA nA eA=> ?_];left;rwa[ce Sa λc' HB sB nB eB=> ?_];left;rwa[ce (aR (by first|decide|simp)) λr' HC sC nC eC=> ?_];exact q r' HC (((G.1.trans sA).trans sB).trans sC) ⟨c',o,n,eC,⟨l,ks,sC.get eB,sC.get (sB.get eA),by walk_at "l3sq"⟩,by walk_at "l3sq",sC.get (sB.get (sA.get G.2.2.2.2.1)),n1,nH,Ne.symm no⟩
abbrev JP:Str:=Str.ofString "plain"
abbrev hst:Str:=Str.ofString "hasty"
abbrev Ju:Str:=Str.ofString "slow"
def rc (k:Str):Prop:=k=JP\/k=hst\/k=Ju
def kc (kD kH kS:Addr)(k:Str):Addr:=if k=hst then kH else if k=Ju then kS else kD
theorem OT {j z F:Addr}:kc j z F JP=j:=by unfold kc;rw [if_neg @b,if_neg @b]
theorem OU {j z F:Addr}:kc j z F hst=z:=by unfold kc;rw [if_pos rfl]
theorem OS {j z F:Addr}:kc j z F Ju=F:=by unfold kc;rw [if_neg @b,if_pos rfl]
noncomputable def im (k:Str)(t n:Int)(b s:Bool):Int:=if (k=JP/\b=true)\/(k=Ju/\(b=true\/s=true)) then t else if k=hst/\b=true then n else n - 1
abbrev La (C dx:Addr)(t:Int):HO:= .ins C dx [(Str.ofString "turns",.int t)]
inductive jY (K:Fg)(vs:List V)(H:Hp)(Q:VK)(_e:XK):Prop
 |mk (a t C dx:_) (_:vs=[.ref a,.int t]) (_:H a=some (.ins C dx [])) (_:uj K C) (_:aQ K C "turns") (_:Q .non (upd H a @gP))
theorem Kp (F:bo K "__init__" "Door.__init__" m6 f fd):av P w K mg base bb 1 f fd ["self","turns"] (jY K):=by
 rwa[F.ok Ar (by intro _ _ _ _ h;cases h;subst_vars;rfl) @j];obtain ⟨a,t,C,dx,rfl,G,U,z,q⟩:=h;rwa[⟨_,(ac @bQ),?_⟩];exact cQ G U z @b q
inductive iE (K:Fg)(k:Str)(vs:List V)(H:Hp)(Q:VK)(_e:XK):Prop
 |mk (a n b s t C dx:_) (_:vs=[.ref a,.int n,.bl b,.bl s]) (_:H a=some @gP) (_:uj K C) (_:aQ K C "turns") (_:Q (.int (im k t n b s)) H)
theorem GE (F:bo K "left" "Door.left" m5 f fd):av P w K mg base bb 1 f fd ["self","count","blocked","stepped"] (iE K JP):=by
 rwa[F.ok Aq (by intro _ _ _ _ h;cases h;subst_vars;rfl) @j];obtain ⟨a,n,b,s,t,C,dx,rfl,G,U,z,q⟩:=h;rwa[⟨_,@g,?_⟩];cases b
 ·rw [show im JP t n false s=n - 1 from by unfold im;rw [if_neg (by cases s<;>decide),if_neg @b]] at q;left;exact q
 ·rw [show im JP t n true s=t from by unfold im;rw [if_pos (.inl ⟨rfl,rfl⟩)]] at q;left;exact dS G U z rfl q
theorem GD (F:bo K "left" "Hasty.left" ka f fd):av P w K mg base bb 1 f fd ["self","count","blocked","stepped"] (iE K hst):=by
 rwa[F.ok yd (by intro _ _ _ _ h;cases h;subst_vars;rfl) @j];obtain ⟨a,n,b,s,t,C,dx,rfl,G,U,z,q⟩:=h;rwa[⟨_,@g,?_⟩];cases b
 ·rw [show im hst t n false s=n - 1 from by unfold im;rw [if_neg (by cases s<;>decide),if_neg @b]] at q;left;exact q
 ·rw [show im hst t n true s=n from by unfold im;rw [if_neg (by cases s<;>decide),if_pos ⟨rfl,rfl⟩]] at q;left;exact q
theorem Gz (F:bo K "left" "Slow.left" mM f fd):av P w K mg base bb 1 f fd ["self","count","blocked","stepped"] (iE K Ju):=by
 rwa[F.ok Ag (by intro _ _ _ _ h;cases h;subst_vars;rfl) @ct];obtain ⟨a,n,b,s,t,C,dx,rfl,z,U,j,q⟩:=h;rwa[⟨_,@g,?_⟩];cases b
 ·cases s
  ·rw [show im Ju t n false false=n - 1 from by unfold im;rw [if_neg @b,if_neg @b]] at q;left;exact q
  ·rw [show im Ju t n false true=t from by unfold im;rw [if_pos (.inr ⟨rfl,.inr rfl⟩)]] at q;left;exact dS z U j rfl q
 ·rw [show im Ju t n true s=t from by unfold im;rw [if_pos (.inr ⟨rfl,.inl rfl⟩)]] at q;left;exact dS z U j rfl q
structure Mp (K:Fg)(C:Addr):Prop where
 i:gp K C
 n:aQ K C "turns"
unseal fZ in
theorem Oz {C:Addr}{E:XK}{t:Int}{H:Hp}{Q:VK}(c:Mp K C)(g:∀a dx H',ak H H'->H a=none->H' a=some @gP->Q (.ref a) H'):fZ C (jY K) E [.int t] H Q:=by
 show ∀a dx,H a=none->H dx=none->dx≠a->jY K (.ref a::([.int t]++[])) @r (λv H2=>v= .non/\Q (.ref a) H2) E;intro a dx h1 h2 S;rwa[jY.mk _ _ _ _ rfl af c.i.cl c.n ⟨rfl,g a dx _ ?_ h1 af⟩];intro b u z;rw [aj (λe=>by rw [e,h1] at z;cases z)];exact d4 h1 h2 b u z
inductive qg (K:Fg)(kD kH kS:Addr)(vs:List V)(H:Hp)(Q:VK)(_e:XK):Prop
 |mk (k t:_) (_:vs=[.str k,.int t]) (_:rc k) (_:∀a dx H',ak H H'->H a=none->H' a=some (La @ha dx t)->Q (.ref a) H')
theorem Dt (F:bo K "door_of" "door_of" v5 f fd)(G:Mp K tZ)(J:Mp K lP)(R:Mp K wB)(I:ja P w K mg base bb 1 "Door" tZ (jY K))(j:ja P w K mg base bb 1 "Hasty" lP (jY K))(O:ja P w K mg base bb 1 "Slow" wB (jY K)):av P w K mg base bb 3 f fd ["kind","turns"] (qg K tZ lP wB):=by
 rwa[F.ok FM (by intro _ _ _ _ h;cases h;subst_vars;rfl) (λz A outer s H S Q E W h=> ?_)];obtain ⟨k,t,rfl,Y,q⟩:=h;rwa[⟨_,(aa (au @a (ac (ag (gv j hV W @b rfl @T))) ap) (aa (au @a (ac (ag (gv O hV W @b rfl @T))) ap) (ac (ag (gv I hV W @b rfl @T))))),?_⟩]
 rcases Y with rfl|rfl|rfl
 ·rw [OT] at q;left;exact Oz G q
 ·rw [OU] at q;left;exact Oz J q
 ·rw [OS] at q;left;exact Oz R q
structure Lf where
 st:Int
 rm:Int
 tn:Int
 kd:Str
structure Hs where
 fl:Int
 ls:List Lf
 lo:Nat
 so:Str
structure Hs.ok (h:Hs):Prop where
 f2:2<=h.fl
 f8:h.fl<=8
 l1:1<=h.ls.length
 l3:h.ls.length<=3
 lf:∀l∈h.ls,1<=l.rm/\l.rm<=6/\1<=l.tn/\l.tn<=4/\rc l.kd
 so:h.so=Str.ofString "free"\/h.so=Str.ofString "way"
def Pj (K:Fg)(H:Hp)(x:V)(l:Lf):Prop:=∃b,x= .ref b/\aE K H b [.int l.st,.int l.rm,.int l.tn,.str l.kd]
def gu (K:Fg)(H:Hp)(a:Addr)(h:Hs):Prop:=h.ok/\∃p xs,aE K H a [.int h.fl,.ref p,.int (h.lo:Int),.str h.so]/\aE K H p xs/\Paired (Pj K H) xs h.ls
theorem gu.keep {H H':Hp}{a:Addr}{h:Hs}(c:gu K H a h)(s:aN H H'):gu K H' a h:=by
 obtain ⟨o,p,xs,h1,h2,S⟩:=c;exact ⟨o,p,xs,s.sqT h1,s.sqT h2,Paired.imp' (λx l ⟨b,e,z⟩=>⟨b,e,s.sqT z⟩) S⟩
theorem gu.same {H H':Hp}{a:Addr}{h:Hs}(c:gu K H a h)(s:ak H H'):gu K H' a h:=c.keep s.st
theorem gu.at {H:Hp}{a:Addr}{h:Hs}(c:gu K H a h){i:Int}{l:Lf}(I:0<=i)(R:h.ls[i.toNat]? =some l):∃p xs b,aE K H a [.int h.fl,.ref p,.int (h.lo:Int),.str h.so]/\aE K H p xs/\xs.length=h.ls.length/\lY xs i=some (.ref b)/\aE K H b [.int l.st,.int l.rm,.int l.tn,.str l.kd]:=by
 obtain ⟨o,p,xs,h1,h2,S⟩:=c;obtain ⟨j,rfl⟩:=Int.eq_ofNat_of_zero_le I;rw [show ((j:Int)).toNat=j by lia] at R
 have Z:j<xs.length:=by rw [S.len];exact (List.getElem?_eq_some_iff.mp R).1
 obtain ⟨O,W,b,F,z⟩:=S.get1 (getElem?_eq_getElem Z);rw [R] at W;cases W;exact ⟨p,xs,b,h1,h2,S.len,by rw [aK (getElem?_eq_getElem Z),F],z⟩
inductive jX (K:Fg)(g:Lf->V)(vs:List V)(H:Hp)(Q:VK)(_e:XK):Prop
 |mk (a h i l:_) (_:vs=[.ref a,.int i]) (_:gu K H a h) (_:0<=i) (_:h.ls[i.toNat]? =some l) (_:Q (g l) H)
theorem Kj (F:bo K "room_of" "room_of" vS f fd):av P w K mg base bb 1 f fd ["house","lift"] @co:=by
 rwa[F.ok FC (by intro _ _ _ _ h;cases h;subst_vars;rfl) @Q];obtain ⟨a,h,i,l,rfl,G,U,R,q⟩:=h;obtain ⟨p,xs,b,h1,h2,S,j,Y⟩:=G.at U R;rwa[⟨_,@g,?_⟩];rwa[ao h1 rfl ?_];rwa[ao h2 j ?_];exact ao Y rfl q
theorem AN (F:bo K "turns_of" "turns_of" qr f fd):av P w K mg base bb 1 f fd ["house","lift"] @dA:=by
 rwa[F.ok CV (by intro _ _ _ _ h;cases h;subst_vars;rfl) @Q];obtain ⟨a,h,i,l,rfl,G,U,R,q⟩:=h;obtain ⟨p,xs,b,h1,h2,S,j,Y⟩:=G.at U R;rwa[⟨_,@g,?_⟩];rwa[ao h1 rfl ?_];rwa[ao h2 j ?_];exact ao Y rfl q
theorem Ds (F:bo K "kind_of" "kind_of" vY f fd):av P w K mg base bb 1 f fd ["house","lift"] (jX K λl=> .str l.kd):=by
 rwa[F.ok FI (by intro _ _ _ _ h;cases h;subst_vars;rfl) @Q];obtain ⟨a,h,i,l,rfl,G,U,R,q⟩:=h;obtain ⟨p,xs,b,h1,h2,S,j,Y⟩:=G.at U R;rwa[⟨_,@g,?_⟩];rwa[ao h1 rfl ?_];rwa[ao h2 j ?_];exact ao Y rfl q
structure Cb where
 pl:Int
 li:Int
 dr:Int
 mr:Int
 ps:List (Int×Int)
def d8 (K:Fg)(H:Hp)(x:V)(c:Cb):Prop:=∃t,x= .ref t/\bX K H t c.pl c.li c.dr c.mr c.ps
theorem bX.keep {H H':Hp}{t:Addr}{pl li dr j:Int}{ps:List (Int×Int)}(h:bX K H t pl li dr j ps)(s:aN H H'):bX K H' t pl li dr j ps:=by
 obtain ⟨b,xs,S,O,d⟩:=h;exact ⟨b,xs,s.tup S,s.tup O,s.dens d (ng ps)⟩
theorem d8.keep {H H':Hp}{x:V}{c:Cb}(h:d8 K H x c)(s:aN H H'):d8 K H' x c:=let ⟨t,e,z⟩:=h;⟨t,e,z.keep s⟩
structure MS where
 cs:List Cb
 ws:List bj
 last:Int
 fire:Bool
 bl:Nat
 log:List D
abbrev tY (h lc lw:Addr)(last:Int)(fire:Bool)(bl:Nat)(ll:Addr):List (Str×V):=[(Str.ofString "house",.ref h),(Str.ofString "cabins",.ref lc),(Str.ofString "waiting",.ref lw),(Str.ofString "last",.int last),(Str.ofString "fire",.bl fire),(Str.ofString "blocked",.int (bl:Int)),(Str.ofString "log",.ref ll)]
structure zD (K:Fg)(C:Addr):Prop where
 i:gp K C
 house:aQ K C "house"
 cabins:aQ K C "cabins"
 waiting:aQ K C "waiting"
 last:aQ K C "last"
 fire:aQ K C "fire"
 blocked:aQ K C "blocked"
 log:aQ K C "log"
structure dj (K:Fg)(C:Addr)(H0 H:Hp)(m h dx lc lw ll:Addr)(xs ys zs:List V)(M:MS):Prop where
 s:ak H0 H
 nm:H0 m=none
 nc:H0 lc=none
 nw:H0 lw=none
 nl:H0 ll=none
 cw:lc≠lw
 cl:lc≠ll
 wl:lw≠ll
 em:H m=some (.ins C dx @eA)
 ec:H lc=some (.lst xs)
 ew:H lw=some (.lst ys)
 el:H ll=some (.lst zs)
 dc:Paired (d8 K H) xs M.cs
 dw:az K H ys (M.ws.map bj.d)
 dl:az K H zs M.log
 ln:noLs M.log=true
inductive ii (K:Fg)(C:Addr)(H0 H:Hp)(m h:Addr)(M:MS):Prop
 |mk (dx lc lw ll xs ys zs:_) (_:dj K C H0 H m h dx lc lw ll xs ys zs M)
section
variable {C:Addr}{H0 H H':Hp}{m h dx lc lw ll:Addr}{xs ys zs:List V}{M:MS}
theorem dj.same (a:dj K C H0 H m h dx lc lw ll xs ys zs M)(s':ak H H'):dj K C H0 H' m h dx lc lw ll xs ys zs M:=
 ⟨a.s.trans s',a.nm,a.nc,a.nw,a.nl,a.cw,a.cl,a.wl,s' _ _ a.em,s' _ _ a.ec,s' _ _ a.ew,s' _ _ a.el,Paired.imp' (λx c z=>d8.keep z s'.st) a.dc,az.same a.dw s',az.same a.dl s',a.ln⟩
theorem ii.same (a:ii K C H0 H m h M)(s':ak H H'):ii K C H0 H' m h M:=let ⟨dx,lc,lw,ll,xs,ys,zs,z⟩:=a;⟨dx,lc,lw,ll,xs,ys,zs,z.same s'⟩
theorem d8.nt {H H':Hp}(s:aT H H'){v:V}{c:Cb}(h:d8 K H v c):d8 K H' v c:=by
 obtain ⟨t,e,b,bs,h1,h2,S⟩:=h;exact ⟨t,e,b,bs,s _ _ (λ_ z=>by cases z) h1,s _ _ (λ_ z=>by cases z) h2,s.dens S⟩
theorem dj.sameN (a:dj K C H0 H m h dx lc lw ll xs ys zs M)(j:NT H0)(s':aT H H'):dj K C H0 H' m h dx lc lw ll xs ys zs M:=
 ⟨aT.onto j a.s s',a.nm,a.nc,a.nw,a.nl,a.cw,a.cl,a.wl,s' _ _ (λ_ z=>by cases z) a.em,s' _ _ (λ_ z=>by cases z) a.ec,s' _ _ (λ_ z=>by cases z) a.ew,s' _ _ (λ_ z=>by cases z) a.el,Paired.imp' (λx c z=>d8.nt s' z) a.dc,s'.dens a.dw,s'.dens a.dl,a.ln⟩
theorem dj.setC (a:dj K C H0 H m h dx lc lw ll xs ys zs M){i:Nat}{v:V}{c:Cb}(Y:d8 K H v c):dj K C H0 (upd H lc (.lst @gw)) m h dx lc lw ll @gw ys zs {M with cs:=M.cs.set i c}:=by
 have st:aN H (upd H lc (.lst @gw)):= .updL a.ec;rwa[⟨λb u z=> ?_,a.nm,a.nc,a.nw,a.nl,a.cw,a.cl,a.wl,?_,af,?_,?_,qS (Paired.imp' @bE a.dc) (Y.keep st),st.dens a.dw (gH _),st.dens a.dl a.ln,a.ln⟩]
 ·rw [aj (λe=>by rw [e,a.nc] at z;cases z)];exact a.s b u z
 ·rw [aj (λe=>by have:=a.em;rw [e,a.ec] at this;cases this)];exact a.em
 ·rw [aj a.cw.symm];exact a.ew
 ·rw [aj a.cl.symm];exact a.el
theorem dj.setL (a:dj K C H0 H m h dx lc lw ll xs ys zs M){vs:List V}{ds:List D}(Y:az K H vs ds)(F:noLs ds=true):dj K C H0 (upd H ll (.lst (zs++vs))) m h dx lc lw ll xs ys (zs++vs) {M with log:=M.log++ds}:=by
 have st:aN H (upd H ll (.lst (zs++vs))):= .updL a.el;rwa[⟨λb u z=> ?_,a.nm,a.nc,a.nw,a.nl,a.cw,a.cl,a.wl,?_,?_,?_,af,Paired.imp' @bE a.dc,st.dens a.dw (gH _),Paired.app (st.dens a.dl a.ln) (st.dens Y F),GX a.ln F⟩]
 ·rw [aj (λe=>by rw [e,a.nl] at z;cases z)];exact a.s b u z
 ·rw [aj (λe=>by have:=a.em;rw [e,a.el] at this;cases this)];exact a.em
 ·rw [aj a.cl];exact a.ec
 ·rw [aj a.wl];exact a.ew
theorem dj.setW (a:dj K C H0 H m h dx lc lw ll xs ys zs M){vs:List V}{rs:List bj}(Y:az K H vs @bt):dj K C H0 (upd H lw (.lst vs)) m h dx lc lw ll xs vs zs {M with ws:=rs}:=by
 have st:aN H (upd H lw (.lst vs)):= .updL a.ew;rwa[⟨λb u z=> ?_,a.nm,a.nc,a.nw,a.nl,a.cw,a.cl,a.wl,?_,?_,af,?_,Paired.imp' @bE a.dc,st.dens Y (gH _),st.dens a.dl a.ln,a.ln⟩]
 ·rw [aj (λe=>by rw [e,a.nw] at z;cases z)];exact a.s b u z
 ·rw [aj (λe=>by have:=a.em;rw [e,a.ew] at this;cases this)];exact a.em
 ·rw [aj a.cw];exact a.ec
 ·rw [aj a.wl.symm];exact a.el
theorem dj.putW (a:dj K C H0 H m h dx lc lw ll xs ys zs M){l:Addr}{vs:List V}{rs:List bj}(j:H0 l=none)(G:lc≠l)(F:l≠ll)(e:H l=some (.lst vs))(Y:az K H vs @bt):dj K C H0 (upd H m (.ins C dx (tY h lc l M.last M.fire M.bl ll))) m h dx lc l ll xs vs zs {M with ws:=rs}:=by
 have st:aN H (upd H m (.ins C dx (tY h lc l M.last M.fire M.bl ll))):= .updI a.em
 have nm:∀ {p:Addr} {I:List V},H p=some (.lst I)->p≠m:=λ{p I} e z=>by rw [z,a.em] at e;cases e
 rwa[⟨λb u z=> ?_,a.nm,a.nc,j,a.nl,G,a.cl,F,af,?_,?_,?_,Paired.imp' @bE a.dc,st.dens Y (gH _),st.dens a.dl a.ln,a.ln⟩]
 ·rw [aj (λe=>by rw [e,a.nm] at z;cases z)];exact a.s b u z
 ·rw [aj (nm a.ec)];exact a.ec
 ·rw [aj (nm e)];exact e
 ·rw [aj (nm a.el)];exact a.el
theorem dj.putF (a:dj K C H0 H m h dx lc lw ll xs ys zs M)(last:Int)(j:Bool)(F:Nat):dj K C H0 (upd H m (.ins C dx (tY h lc lw last j F ll))) m h dx lc lw ll xs ys zs {M with last:=last,fire:=j,bl:=F}:=by
 have st:aN H (upd H m (.ins C dx (tY h lc lw last j F ll))):= .updI a.em
 have nm:∀ {p:Addr} {G:List V},H p=some (.lst G)->p≠m:=λ{p G} e z=>by rw [z,a.em] at e;cases e
 rwa[⟨λb u z=> ?_,a.nm,a.nc,a.nw,a.nl,a.cw,a.cl,a.wl,af,?_,?_,?_,Paired.imp' @bE a.dc,st.dens a.dw (gH _),st.dens a.dl a.ln,a.ln⟩]
 ·rw [aj (λe=>by rw [e,a.nm] at z;cases z)];exact a.s b u z
 ·rw [aj (nm a.ec)];exact a.ec
 ·rw [aj (nm a.ew)];exact a.ew
 ·rw [aj (nm a.el)];exact a.el
end
inductive Dd where
 |come (t s g:Int) (k:Bool)
 |lf (x:Str) (n:Int)
 |sg (x:Str)
abbrev BJ:Str:=Str.ofString "come"
noncomputable def Dd.v:Dd->List V
 | .come t s g k=>[.str BJ,.int t,.int s,.int g,.bl k]
 | .lf x n=>[.str x,.int n]
 | .sg x=>[.str x]
def Dd.ok:Dd->Prop
 | .come _ _ _ _=>True
 | .lf x _=>x=Str.ofString "block"\/x=Str.ofString "stick"\/x=Str.ofString "free"\/x=Str.ofString "goods"\/x=Str.ofString "back"
 | .sg x=>x=Str.ofString "fire"\/x=Str.ofString "calm"
def sK (H:Hp)(a:Addr)(d:Dd):Prop:=H a=some (.tup d.v)/\d.ok
theorem sK.keep {H H':Hp}{a:Addr}{d:Dd}(h:sK H a d)(s:aN H H'):sK H' a d:=⟨s.tup h.1,h.2⟩
theorem sK.same {H H':Hp}{a:Addr}{d:Dd}(h:sK H a d)(s:ak H H'):sK H' a d:=⟨s _ _ h.1,h.2⟩
def QN (t:Int):D:= .tup [.str "barred",.int t]
def NH (t:Int):D:= .tup [.str "sent",.int t]
noncomputable def fH (lo:Nat)(M:MS)(t s g:Int)(k:Bool):MS:=if lo.testBit g.toNat=true/\k=false then {M with log:=M.log++[QN t]} else if M.fire=true then {M with log:=M.log++[NH t]} else {M with ws:=M.ws++[⟨t,s,g,-1⟩]}
theorem cB {C:Addr}{H0 H:Hp}{m h dx lc lw ll:Addr}{xs ys zs:List V}{M:MS}{j:Str}{v:V}{Q:VK}(a:dj K C H0 H m h dx lc lw ll xs ys zs M)(c:uj K C)(n:aQ K C j)(e:(tY h lc lw M.last M.fire M.bl ll).lookup j=some v)(g:Q v H):yP K j m H Q:=dS a.em c n e g
inductive Ac (K:Fg)(C:Addr)(vs:List V)(H:Hp)(Q:VK)(_e:XK):Prop
 |mk (m t s g k h hs H0 M:_) (_:vs=[.ref m,.int t,.int s,.int g,.bl k]) (_:gu K H h hs) (_:ii K C H0 H m h M) (_:M.ws.length<=1000) (_:M.log.length<=1000) (_:0<=g) (_:g<1000) (_:∀H',aN H H'->ii K C H0 H' m h (fH hs.lo M t s g k)->Q .non H')
theorem Kx {C:Addr}{R:Tok}(F:bo K "do_come" "do_come" v7 f fd)(j:zD K C)(bt:mg "NO_LIFT"=some (.int (-1) R))(py:bf P w K mg base 2 "has" ["mask","k"] fD):av P w K mg base bb 3 f fd ["moment","tag","start","goal","key"] (Ac K C):=by
 have fW:aA (.int (-1)) (.int (-1) R):=⟨_,rfl⟩;rwa[F.ok FO (by intro _ _ _ _ h;cases h;subst_vars;rfl) @cg];obtain ⟨m,t,s,g,k,h,hs,H0,M,rfl,hH,hM,wl,Z,Y,g1,q⟩:=h;obtain ⟨dx,lc,lw,ll,xs,ys,zs,a⟩:=hM;obtain ⟨o,p,ps,h1,h2,h3⟩:=hH;obtain ⟨I,rfl⟩:=Int.eq_ofNat_of_zero_le Y;have yl:=aB a.dw;have zl:zs.length=M.log.length:=a.dl.len;have U:=j.i.cl;rwa[⟨_,(ac (au @a @N (ac (au @a @N @N)))),?_⟩];rwa[cB a U j.house rfl ?_];rwa[ao h1 rfl ?_];rwa[fD.mk _ _ rfl @c ?_];unfold fH at q;rw [show ((I:Int)).toNat=I by lia] at q;ext;by_cases J:hs.lo.testBit I=true
 ·rwa[bz J ?_]
  cases k with
  |false=>
   rw [if_pos ⟨J,rfl⟩] at q;rwa[bz rfl ?_];rwa[cB a U j.log (v:= .ref ll) rfl ?_];rwa[⟨.inl ⟨rfl,_,aD.of a.el⟩,?_⟩];rwa[ce (aR (by show 2<=1000000;decide)) λr H1 O W S=> ?_];rwa[fK @gx @ed ?_];exact q _ @cx ⟨dx,lc,lw,ll,xs,ys,_,(a.same O).setL (ds:=[QN t]) (.cons @bl .nil) rfl⟩
  |true=>
   rw [if_neg (λz=>by cases z.2)] at q;rwa[aP rfl ?_];erw[cB a U j.fire (v:= .bl M.fire) rfl ?_]
   cases G:M.fire with
   |true=>
    rw [if_pos G] at q;rwa[bz rfl ?_];rwa[cB a U j.log (v:= .ref ll) rfl ?_];rwa[⟨.inl ⟨rfl,_,aD.of a.el⟩,?_⟩];rwa[ce (aR (by show 2<=1000000;decide)) λr H1 O W S=> ?_];rwa[fK @gx @ed ?_];exact q _ @cx ⟨dx,lc,lw,ll,xs,ys,_,(a.same O).setL (ds:=[NH t]) (.cons @bl .nil) rfl⟩
   |false=>
    rw [if_neg (by rw [G];decide)] at q;rwa[aP rfl ?_];rwa[cB a U j.waiting (v:= .ref lw) rfl ?_];rwa[⟨.inl ⟨rfl,_,aD.of a.ew⟩,?_⟩];rwa[ce (aR (by show 4<=1000000;decide)) λr H1 O W S=> ?_];rwa[fK @fg @ed ?_];rwa[q _ (O.st.trans (.updL @fg)) ⟨dx,lc,lw,ll,xs,_,zs,(a.same O).setW (rs:=M.ws++[⟨t,s,(I:Int),-1⟩]) ?_⟩];rw [map_append];exact Paired.app (az.same a.dw O) (.cons (iV (aE.of S) (.cons (.int _) (.cons (.int _) (.cons (.int _) (.cons (.int _) .nil))))) .nil)
 ·rwa[aP (by simpa using J) ?_];rwa[aP rfl ?_];rw [if_neg (λz=>J z.1)] at q;erw[cB a U j.fire (v:= .bl M.fire) rfl ?_]
  cases G:M.fire with
  |true=>
   rw [if_pos G] at q;rwa[bz rfl ?_];rwa[cB a U j.log (v:= .ref ll) rfl ?_];rwa[⟨.inl ⟨rfl,_,aD.of a.el⟩,?_⟩];rwa[ce (aR (by show 2<=1000000;decide)) λr H1 O W S=> ?_];rwa[fK @gx @ed ?_];exact q _ @cx ⟨dx,lc,lw,ll,xs,ys,_,(a.same O).setL (ds:=[NH t]) (.cons @bl .nil) rfl⟩
  |false=>
   rw [if_neg (by rw [G];decide)] at q;rwa[aP rfl ?_];rwa[cB a U j.waiting (v:= .ref lw) rfl ?_];rwa[⟨.inl ⟨rfl,_,aD.of a.ew⟩,?_⟩];rwa[ce (aR (by show 4<=1000000;decide)) λr H1 O W S=> ?_];rwa[fK @fg @ed ?_];rwa[q _ (O.st.trans (.updL @fg)) ⟨dx,lc,lw,ll,xs,_,zs,(a.same O).setW (rs:=M.ws++[⟨t,s,(I:Int),-1⟩]) ?_⟩];rw [map_append];exact Paired.app (az.same a.dw O) (.cons (iV (aE.of S) (.cons (.int _) (.cons (.int _) (.cons (.int _) (.cons (.int _) .nil))))) .nil)
theorem eW {H:Hp}{x:V}{r:bj}(h:bL K H x r.d):∃a,x= .ref a/\aE K H a [.int r.tag,.int r.start,.int r.goal,.int r.lift]:=by
 obtain ⟨a,xs,rfl,h1,h2⟩:=h.outT
 cases h2 with|cons q0 t0=>cases t0 with|cons q1 t1=>cases t1 with|cons q2 t2=>cases t2 with|cons q3 t3=>
 cases t3;cases q0.isInt;cases q1.isInt;cases q2.isInt;cases q3.isInt;exact ⟨a,rfl,h1⟩
inductive pF (K:Fg)(vs:List V)(H:Hp)(Q:VK)(_e:XK):Prop
 |mk (x r i:_) (_:vs=[x,.int i]) (_:bL K H x (bj.d r)) (_:∀v H',ak H H'->bL K H' v (bj.d {r with lift:=i})->Q v H')
theorem GM (F:bo K "dealt_to" "dealt_to" qF f fd):av P w K mg base bb 1 f fd ["rider","lift"] (pF K):=by
 rwa[F.ok C5 (by intro _ _ _ _ h;cases h;subst_vars;rfl) @j];obtain ⟨x,r,i,rfl,G,q⟩:=h;obtain ⟨a,rfl,O⟩:=eW G;rwa[⟨_,@g,?_⟩];rwa[ao O rfl ?_];rwa[ao O rfl ?_];rwa[ao O rfl ?_];exact ce (aR (by show 4<=1000000;decide)) λb H2 R S z=>q _ H2 R (iV (aE.of z) (.cons (.int _) (.cons (.int _) (.cons (.int _) (.cons (.int _) .nil)))))
def atC (M:MS)(i:Int)(c:Cb):Prop:=0<=i/\M.cs[i.toNat]? =some c
theorem dj.atC {C:Addr}{H0 H:Hp}{m h dx lc lw ll:Addr}{xs ys zs:List V}{M:MS}(a:dj K C H0 H m h dx lc lw ll xs ys zs M){i:Int}{c:Cb}(J:atC M i c):∃t,xs[i.toNat]? =some (.ref t)/\lY xs i=some (.ref t)/\bX K H t c.pl c.li c.dr c.mr c.ps/\i.toNat<xs.length:=by
 obtain ⟨U,J⟩:=J;obtain ⟨j,rfl⟩:=Int.eq_ofNat_of_zero_le U;rw [show ((j:Int)).toNat=j by lia] at J ⊢
 have Z:j<xs.length:=by rw [a.dc.len];exact (List.getElem?_eq_some_iff.mp J).1
 obtain ⟨G,ad,t,z,F⟩:=a.dc.get1 (getElem?_eq_getElem Z);rw [J] at ad;cases ad;exact ⟨t,by rw [getElem?_eq_getElem Z,z],by rw [aK (getElem?_eq_getElem Z),z],F,Z⟩
theorem Hk {xs:List V}{i:Int}(I:0<=i)(h1:i.toNat<xs.length):Cd xs.length i=some i.toNat:=by
 unfold Cd;rw [if_pos @c,if_pos @c]
noncomputable def jK (lo:Nat)(M:MS):Dd->MS
 | .come t s g k=>fH lo M t s g k
 | .lf _ i=> {M with bl:=M.bl|||2^i.toNat}
 | .sg _=>M
theorem DS {lo:Nat}{M:MS}{d:Dd}:(jK lo M d).fire=M.fire:=by
 cases d with
 |come t s g k=>
  show (fH lo M t s g k).fire=M.fire;unfold fH;split
  ·rfl
  ·split<;>rfl
 |lf x i=>rfl
 |sg x=>rfl
def Dd.fit (fl:Int)(n:Nat):Dd->Prop
 | .come _ s g _=>0<=s/\s<fl/\0<=g/\g<fl/\s≠g
 | .lf x i=>x=Str.ofString "block"/\0<=i/\i<(n:Int)
 | .sg _=>False
inductive Jr (K:Fg)(C:Addr)(vs:List V)(H:Hp)(Q:VK)(_e:XK):Prop
 |mk (m a d h hs H0 M:_) (_:vs=[.ref m,.ref a]) (_:gu K H h hs) (_:sK H a d) (_:Dd.fit (Hs.fl hs) hs.ls.length d) (_:ii K C H0 H m h M) (_:M.ws.length<=1000) (_:M.log.length<=1000) (_:∀H',aN H H'->ii K C H0 H' m h (jK hs.lo M d)->Q .non H')
theorem Rf {C:Addr}(F:bo K "do_deed" "do_deed" v6 f fd)(G:zD K C)(zo:bf P w K mg base 3 "do_come" ["moment","tag","start","goal","key"] (Ac K C))(jp:bf P w K mg base 2 "with_bit" ["mask","k"] kR):av P w K mg base bb 5 f fd ["moment","deed"] (Jr K C):=by
 rwa[F.ok FN (by intro _ _ _ _ h;cases h;subst_vars;rfl) @H];obtain ⟨m,S,d,h,hs,H0,M,rfl,J,⟨U,ok⟩,z,R,wl,Y,q⟩:=h;have f8:=J.1.f8;have l3:=J.1.l3;rwa[⟨_,(aa @a (ac (au @a @N (ac (au @a (ac @dk) (ac (au @a @dP (ac (au @a @dP (ac (au @a @dP (ac (au @a @dP (ac (au @a @dP @dP))))))))))))))),?_⟩]
 cases d with
 |come t s' g k=>
  have O:aE K H S [.str BJ,.int t,.int s',.int g,.bl k]:=aE.of U;obtain ⟨_,_,Z,g1,_⟩:=z;rwa[ao O rfl ?_];rwa[bz rfl ?_];rwa[ao O rfl ?_];rwa[ao O rfl ?_];rwa[ao O rfl ?_];rwa[ao O rfl ?_];exact Ac.mk _ _ _ _ _ _ _ _ _ rfl J R wl Y Z @c λH' st I=>q H' st I
 |lf x i=>
  obtain ⟨W,i0,i1⟩:=z;obtain ⟨j,rfl⟩:=Int.eq_ofNat_of_zero_le i0;have O:aE K H S [.str x,.int (j:Int)]:=aE.of U;have q:∀H',aN H H'->ii K C H0 H' m h {M with bl:=M.bl|||2^((j:Int)).toNat}->Q .non H':=q;rw [show ((j:Int)).toNat=j by lia] at q;rwa[ao O rfl ?_];rwa[dQ (by rw [W];decide+kernel) ?_];rwa[eO W ?_];obtain ⟨dx,lc,lw,ll,xs,ys,zs,a⟩:=R;rwa[cB a G.i.cl G.blocked (v:= .int (M.bl:Int)) rfl ?_];rwa[ao O rfl ?_];rwa[kR.mk _ _ rfl @c ?_];rwa[cQ a.em G.i.cl G.blocked (by show 7<1000;decide) ?_];exact q _ (.updI a.em) ⟨dx,lc,lw,ll,xs,ys,zs,a.putF M.last M.fire (M.bl|||2^j)⟩
 |sg x=>exact False.elim z
abbrev xo:=List Cb->List bj->bj->Int->Int×Int
inductive qh (K:Fg)(GG:Hp->Prop)(pre:List Cb->List bj->bj->Int->Prop)(dl:xo)(vs:List V)(H:Hp)(Q:VK)(_e:XK):Prop
 |mk (tc tw x cs ws r last xs ys:_) (_:vs=[.ref tc,.ref tw,x,.int last]) (_:H tc=some (.tup xs)) (_:Paired (d8 K H) xs cs) (_:H tw=some (.tup ys)) (_:az K H ys @gi) (_:bL K H x (bj.d r)) (_:GG H) (_:pre cs ws r last) (_:∀t H',aT H H'->GG H'->H' t=some (.tup [.int (dl cs ws r last).1,.int (dl cs ws r last).2])->Q (.ref t) H')
noncomputable def QM (t i:Int):D:= .tup [.str "deal",.int t,.int i]
noncomputable def ge (dl:xo)(M:MS)(p:Nat)(r:bj):MS:=if (dl M.cs M.ws r M.last).1= -1 then {M with last:=(dl M.cs M.ws r M.last).2} else {M with last:=(dl M.cs M.ws r M.last).2,ws:=M.ws.set p {r with lift:=(dl M.cs M.ws r M.last).1},log:=M.log++[QM r.tag (dl M.cs M.ws r M.last).1]}
inductive vB (P:Program)(w:World)(K:Fg)(mg:Str->Option Value)(base:Heap)(C:Addr)(GG:Hp->Prop)(pre:List Cb->List bj->bj->Int->Prop)(dl:xo)(vs:List V)(H:Hp)(Q:VK)(_e:XK):Prop
 |mk (m df x h H0 M r:_) (p:Nat) (_:vs=[.ref m,.ref df,.int (p:Int),x]) (_:ip P w K mg base 5 df @fo) (_:GG H) (_:NT H0) (_:ii K C H0 H m h M) (_:bL K H x (bj.d r)) (_:p<M.ws.length) (_:M.ws.length<=1000) (_:M.log.length<=1000) (_:M.cs.length<=10) (_:pre M.cs M.ws r M.last) (_:∀H',dW H H'->GG H'->ii K C H0 H' m h @hd->Q .non H')
theorem B3 {C:Addr}{GG:Hp->Prop}{pre:List Cb->List bj->bj->Int->Prop}{dl:xo}{t1:Tok}(F:bo K "deal" "deal" BY f fd)(gT:GT GG)(R:zD K C)(b7:mg "tuple"=none)(bt:mg "NO_LIFT"=some (.int (-1) t1))(gk:bf P w K mg base 1 "dealt_to" ["rider","lift"] (pF K)):av P w K mg base bb 6 f fd ["moment","dealer","place","rider"] (vB P w K mg base C GG pre dl):=by
 have fW:aA (.int (-1)) (.int (-1) t1):=⟨_,rfl⟩;rwa[F.ok FP (by intro _ _ _ _ h;cases h;subst_vars;rfl) (λal A outer s H vs Q E hr h=> ?_)];obtain ⟨m,df,x,h,H0,M,r,p,rfl,ae,hg,nt,⟨dx,lc,lw,ll,xs,ys,zs,a⟩,hx,pw,wl,gl,ai,Z,q⟩:=h;have W:=R.i.cl;have yl:ys.length=M.ws.length:=aB a.dw;have zl:zs.length=M.log.length:=a.dl.len;obtain ⟨ra,rfl,hT⟩:=eW hx;rwa[⟨_,(aa (bq (i:=4) FP.nd rfl @o (ym 1 hr rfl @o (aq (aV @eO rfl b7 boot_tuple @I) (aq (aV @eO rfl b7 boot_tuple @I) (aq (wv 3) @I))))) (aa @dk (ac (au @a (aa @dl @N) ap)))),?_⟩];rwa[⟨df,5,_,rfl,by decide,ae,?_⟩];rwa[cB a W R.cabins (v:= .ref lc) rfl ?_];rwa[jV @cM λtc H1 s1 n1 e1=> ?_];have a1:=a.same s1;rwa[cB a1 W R.waiting (v:= .ref lw) rfl ?_];rwa[jV (aD.of a1.ew) λtw H2 s2 n2 e2=> ?_];have a2:=a1.same s2;have U:=s1.trans s2;rwa[cB a2 W R.last (v:= .int M.last) rfl ?_];rwa[⟨tc,tw,.ref ra,M.cs,M.ws,r,M.last,xs,ys,rfl,s2 _ _ e1,a2.dc,e2,a2.dw,bL.same hx U,gT _ _ U.st hg,Z,λt H3 s3 g3 e3=> ?_⟩];have a3:=a2.sameN nt s3;have ag:dW H H3:=U.st.sx.trans s3.sx;unfold ge at q;generalize ak:(dl M.cs M.ws r M.last).1=d1 at *;generalize aj:(dl M.cs M.ws r M.last).2=Y at *;rwa[ao (aE.of e3) rfl ?_];rwa[cQ a3.em W R.last (by show 7<1000;decide) ?_];have a4:=a3.putF Y M.fire M.bl;have e0:putF "last" (.int Y) @eA=tY h lc lw Y M.fire M.bl ll:=rfl;rw [e0];generalize G:upd H3 m (.ins C dx (tY h lc lw Y M.fire M.bl ll))=H4 at a4 ⊢
 have J:dW H H4:=by rw [<-G];exact ag.trans (aN.updI a3.em).sx
 have g4:GG H4:=by rw [<-G];exact gT _ _ (aN.updI a3.em) g3
 have O:aE K H4 t [.int d1,.int Y]:=by rw [<-G];exact (aN.updI a3.em).sqT (aE.of e3)
 clear G;erw[ao O rfl ?_];by_cases z:d1= -1
 ·rw [if_pos z] at q;rwa[aP (by simp [z]) ?_];exact q _ J g4 ⟨dx,lc,lw,ll,xs,ys,zs,a4⟩
 ·rw [if_neg z] at q;rwa[bz (by simp [z]) ?_];rwa[ao O rfl ?_];rwa[pF.mk _ _ _ rfl (J.den hx rfl) λv H5 s5 dv=> ?_];have S:=a4.same s5;rwa[cB S W R.waiting (v:= .ref lw) rfl ?_];rwa[xX (j:=p) S.ew (by unfold Cd;rw [if_pos @c,if_pos @c];congr 1) ?_]
  have ah:az K H5 (ys.set p v) ((M.ws.set p {r with lift:=d1}).map bj.d):=by
   rw [map_set];exact qS S.dw dv
  have a6:=S.setW ah;generalize I:upd H5 lw (.lst (ys.set p v))=H6 at a6 ⊢
  have ad:dW H H6:=by rw [<-I];exact (J.trans s5.st.sx).trans (aN.updL S.ew).sx
  have g6:GG H6:=by rw [<-I];exact gT _ _ (s5.st.trans (.updL S.ew)) g4
  have af:aE K H6 t [.int d1,.int Y]:=by rw [<-I];exact (aN.updL S.ew).sqT (s5.seqT O)
  clear I;rwa[cB a6 W R.log (v:= .ref ll) rfl ?_];rwa[⟨.inl ⟨rfl,_,aD.of a6.el⟩,?_⟩];rwa[ao (ad.sqT hT) rfl ?_];rwa[ao af rfl ?_];rwa[ce (aR (by show 3<=1000000;decide)) λg7 H7 s7 n7 e7=> ?_];have a7:=a6.same s7;rwa[fK a7.el @ed ?_];exact q _ ((ad.trans s7.st.sx).trans (aN.updL a7.el).sx) (gT _ _ (s7.st.trans (.updL a7.el)) g6) ⟨dx,lc,lw,ll,xs,_,_,a7.setL (ds:=[QM r.tag d1]) (.cons (iV (aE.of e7) (.cons (.str _) (.cons (.int _) (.cons (.int _) .nil)))) .nil) rfl⟩
noncomputable def bg (dl:xo)(W:List bj):Nat->MS->MS
 |0,M=>M
 |i+1,M=>match W[i]? with
  |some r=>if r.lift= -1 then ge dl @he i r else bg dl W i M
  |none=>bg dl W i M
inductive lm (P:Program)(w:World)(K:Fg)(mg:Str->Option Value)(base:Heap)(C:Addr)(GG:Hp->Prop)(pre:List Cb->List bj->bj->Int->Prop)(dl:xo)(vs:List V)(H:Hp)(Q:VK)(_e:XK):Prop
 |mk (m df h H0 M:_) (_:vs=[.ref m,.ref df]) (_:ip P w K mg base 5 df @fo) (_:GG H) (_:NT H0) (_:ii K C H0 H m h M) (_:M.ws.length<=500) (_:M.log.length<=400) (_:M.cs.length<=10) (_:(∀i r,M.ws[i]? =some r->r.lift= -1->pre (bg dl M.ws i M).cs (bg dl M.ws i M).ws r (bg dl M.ws i M).last)) (_:∀H',dW H H'->GG H'->ii K C H0 H' m h (bg dl M.ws M.ws.length M)->Q .non H')
theorem DT {dl:xo}{M:MS}{p:Nat}{r:bj}:(ge dl M p r).ws.length=M.ws.length/\(ge dl M p r).cs=M.cs/\(ge dl M p r).log.length<=M.log.length+1:=by
 unfold ge;split
 ·exact ⟨rfl,rfl,Nat.le_succ _⟩
 ·exact ⟨length_set,rfl,by simp⟩
theorem fu {dl:xo}{W:List bj}{M:MS}:∀i,(bg dl W i M).ws.length=M.ws.length/\(bg dl W i M).cs=M.cs/\(bg dl W i M).log.length<=M.log.length+i
 |0=>⟨rfl,rfl,by simp [bg]⟩
 |i+1=>by
  have h:=fu (dl:=dl) (W:=W) (M:=M) i;unfold bg;split
  ·rename_i r _;split
   ·have g:=DT (dl:=dl) (M:=bg dl W i M) (p:=i) (r:=r);exact ⟨g.1.trans h.1,g.2.1.trans h.2.1,by have:=g.2.2;lia⟩
   ·exact ⟨h.1,h.2.1,by lia⟩
  ·exact ⟨h.1,h.2.1,by lia⟩
theorem oK {dl:xo}{W:List bj}{M:MS}:∀i,(bg dl W i M).fire=M.fire
 |0=>rfl
 |i+1=>by
  have j:=oK (dl:=dl) (W:=W) (M:=M) i;unfold bg;split
  ·split
   ·unfold ge;split
    ·exact j
    ·exact j
   ·exact j
  ·exact j
def jA (H:Hp)(m lc lw ll:Addr):Hp:=λb=>if b=m\/b=lc\/b=lw\/b=ll then none else H b
theorem DW {H:Hp}{m lc lw ll:Addr}:ak @cI H:=λb u z=>by
 unfold jA at z;split at z
 ·cases z
 ·exact z
theorem jo {H:Hp}{m lc lw ll b:Addr}{u:HO}(h:H b=some u)(h1:b≠m)(h2:b≠lc)(S:b≠lw)(j:b≠ll):jA H m lc lw ll b=some u:=by
 unfold jA;rw [if_neg (λz=>by rcases z with z|z|z|z;exact h1 z;exact h2 z;exact S z;exact j z)];exact h
theorem dj.wide {C:Addr}{H0 H:Hp}{m h dx lc lw ll:Addr}{xs ys zs:List V}{M:MS}(a:dj K C H0 H m h dx lc lw ll xs ys zs M):dj K C @cI H m h dx lc lw ll xs ys zs M/\ak H0 @cI:=by
 rwa[⟨⟨DW,if_pos (.inl rfl),if_pos (.inr (.inl rfl)),if_pos (.inr (.inr (.inl rfl))),if_pos (.inr (.inr (.inr rfl))),a.cw,a.cl,a.wl,a.em,a.ec,a.ew,a.el,a.dc,a.dw,a.dl,a.ln⟩,λb u z=> ?_⟩];exact jo (a.s _ _ z) (λe=>by rw [e,a.nm] at z;cases z) (λe=>by rw [e,a.nc] at z;cases z) (λe=>by rw [e,a.nw] at z;cases z) (λe=>by rw [e,a.nl] at z;cases z)
theorem dj.wideN {C:Addr}{H0 H:Hp}{m h dx lc lw ll:Addr}{xs ys zs:List V}{M:MS}(j:NT H0)(a:dj K C H0 H m h dx lc lw ll xs ys zs M):dj K C (zG @cI) H m h dx lc lw ll xs ys zs M/\ak H0 (zG @cI):=by
 obtain ⟨b,s⟩:=a.wide;rwa[⟨⟨(qV _).trans b.s,lF b.nm,lF b.nc,lF b.nw,lF b.nl,a.cw,a.cl,a.wl,a.em,a.ec,a.ew,a.el,a.dc,a.dw,a.dl,a.ln⟩,λx u z=> ?_⟩];exact qW (s _ _ z) (λps e=>j x ps (by rw [z,e]))
theorem ii.onto {C:Addr}{H0 j H:Hp}{m h:Addr}{M:MS}(s:ak H0 j)(z:ii K C j H m h M):ii K C H0 H m h M:=by
 obtain ⟨dx,lc,lw,ll,xs,ys,zs,a⟩:=z;exact ⟨dx,lc,lw,ll,xs,ys,zs,s.trans a.s,none_of s a.nm,none_of s a.nc,none_of s a.nw,none_of s a.nl,a.cw,a.cl,a.wl,a.em,a.ec,a.ew,a.el,a.dc,a.dw,a.dl,a.ln⟩
theorem ii.s {C:Addr}{H0 H:Hp}{m h:Addr}{M:MS}(z:ii K C H0 H m h M):ak H0 H:=let ⟨_,_,_,_,_,_,_,a⟩:=z;a.s
theorem GO {C:Addr}{GG:Hp->Prop}{pre:List Cb->List bj->bj->Int->Prop}{dl:xo}{t1:Tok}(F:bo K "deal_all" "deal_all" ly f fd)(gT:GT GG)(cM:zD K C)(lJ:mg "list"=none)(cJ:mg "enumerate"=none)(bt:mg "NO_LIFT"=some (.int (-1) t1))(Cy:bf P w K mg base 6 "deal" ["moment","dealer","place","rider"] (vB P w K mg base C GG pre dl)):av P w K mg base bb 7 f fd ["moment","dealer"] (lm P w K mg base C GG pre dl):=by
 have fW:aA (.int (-1)) (.int (-1) t1):=⟨_,rfl⟩;rwa[F.ok C6 (by intro _ _ _ _ h;cases h;subst_vars;rfl) (λaj A outer s H vs Q E hr h=> ?_)];obtain ⟨m,df,h,H0,M,rfl,ae,hg,nt,⟨dx,lc,lw,ll,xs,ys,zs,a⟩,wl,gl,ai,U,q⟩:=h;have cl:=cM.i.cl;have yl:ys.length=M.ws.length:=aB a.dw;rwa[⟨_,(ac (cE PassesOwn.never rfl (BC rfl rfl cJ @cy) @a (ac (au @a @N ap)))),?_⟩];rwa[cB a cl cM.waiting (v:= .ref lw) rfl ?_];rwa[wz (.inl @gy) λlk H1 s1 n1 e1=> ?_];have a1:=a.same s1;have ah:H0 lk=none:=none_of a.s n1;erw[.inl ⟨ys,aD.of e1,?_⟩];obtain ⟨aw,sw⟩:=a1.wideN nt;have Z:NT (zG (jA H1 m lc lw ll)):=GV _;generalize ag:zG (jA H1 m lc lw ll)=Hc at aw sw Z
 have kk:∀ {p:Addr} {us:List V},H1 p=some (.lst us)->p≠m:=λ{p us} e z=>by rw [z,a1.em] at e;cases e
 have J:∀ {p:Addr} {o:HO},H p=some o->lk≠p:=λ{p o} e z=>by rw [<-z,n1] at e;cases e
 have ek:Hc lk=some (.lst ys):=by rw [<-ag];exact qW (jo e1 (kk e1) (J a.ec) (J a.ew) (J a.el)) (λ_ z=>by cases z)
 have dy:∀ {i:Nat} {x:V},ys[i]? =some x->∃r b,M.ws[i]? =some r/\x= .ref b/\bL K H1 (.ref b) r.d:=λ{i x} G=>by
  obtain ⟨r,j,dr⟩:=bu (f:=bj.d) a1.dw G;obtain ⟨b,rfl,_⟩:=eW dr;exact ⟨r,b,j,rfl,dr⟩
 rwa[HD (xs:=ys) (λi σ R=>dW H1 R/\ii K C Hc R m h @gW/\GG R/\∃o2 o3,σ=[some (.ref m),some (.ref df),o2,o3]) ⟨.refl _,⟨dx,lc,lw,ll,xs,ys,zs,aw⟩,gT _ _ s1.st hg,_,_,rfl⟩ (λi σ R _ S=>aD.of (S.2.1.s _ _ ek)) (λi x σ R T HY G S sT eT=> ?_) (λσ R S=> ?_)]
 ·obtain ⟨st,hM,gX,o2,o3,rfl⟩:=S;have gY:=gT _ _ sT.st gX;obtain ⟨r,b,j,rfl,dr⟩:=dy G;have hi:i<M.ws.length:=(List.getElem?_eq_some_iff.mp j).1;have hl:=fu (dl:=dl) (W:=M.ws) (M:=M) i;have O:=st.trans sT.st.sx;have I:=hM.same sT;have aa:bL K HY (.ref b) r.d:=O.den dr rfl;obtain ⟨b',ad,hT⟩:=eW aa;cases ad
  have nx:bg dl M.ws (i+1) M=if r.lift= -1 then ge dl @gW i r else bg dl M.ws i M:=by
   show (match M.ws[i]? with|some r=>_|none=>_)=_;rw [j]
  rwa[om (aE.of eT) rfl ?_];erw[ao hT rfl ?_];by_cases z:r.lift= -1
  ·rw [if_pos z] at nx;rwa[bz @cD ?_];rwa[vB.mk _ _ _ _ _ _ _ _ rfl ae gY Z I aa @c @c @c (by rw [hl.2.1];lia) (U i r j z) λHZ af gZ Y=> ?_];rw [<-nx] at Y;exact ⟨O.trans af,Y,gZ,_,_,rfl⟩
  ·rw [if_neg z] at nx;rwa[aP (decide_eq_false z) ?_];rw [<-nx] at I;exact ⟨O,I,gY,_,_,rfl⟩
 ·obtain ⟨st,hM,gX,o2,o3,rfl⟩:=S;rw [yl] at hM;exact q _ (s1.st.sx.trans st) gX (hM.onto sw)
def NI (wd:Str)(t i fl:Int):D:= .tup [.str wd,.int t,.int i,.int fl]
theorem FV (j:Str)(i fl:Int)(ts:List Int):noLs (ts.map λt=>NI j t i fl)=true:=by
 induction ts with
 |nil=>rfl
 |cons r rs ih=>rw [map_cons,noLs,ih];rfl
def A4 (M:MS)(wd:Str)(ts:List Int)(i:Int)(c:Cb):MS:= {M with log:=M.log++ts.map λt=>NI wd t i (c.pl / 2)}
inductive zX (K:Fg)(C:Addr)(vs:List V)(H:Hp)(Q:VK)(_e:XK):Prop
 |mk (m wd tg i h H0 M c:_) (ts:List Int) (_:vs=[.ref m,.str wd,.ref tg,.int i]) (_:ii K C H0 H m h M) (_:atC M i c) (_:(∃us,aD K H0 tg us/\us=ts.map V.int)) (_:ts.length<=1000) (_:M.log.length<=3000) (_:∀H',aN H H'->ii K C H0 H' m h (A4 M wd ts i c)->Q .non H')
theorem LY {C:Addr}{H H0:Hp}{m tg h:Addr}{j:Str}{i:Int}{M:MS}{c:Cb}{ts:List Int}{Q:VK}{E:XK}(h1:ii K C H0 H m h M)(h2:atC M i c)(S:aD K H0 tg (ts.map V.int))(z:ts.length<=1000)(Y:M.log.length<=3000)(q:∀H',aN H H'->ii K C H0 H' m h (A4 M j ts i c)->Q .non H'):zX K C [.ref m,.str j,.ref tg,.int i] H Q E:=⟨m,j,tg,i,h,H0,M,c,ts,rfl,h1,h2,⟨_,S,rfl⟩,z,Y,q⟩
theorem Kn {C:Addr}(F:bo K "log_steps" "log_steps" mX f fd)(cM:zD K C)(bN:bf P w K mg base 1 "floor_of" ["cabin"] (cA K)):av P w K mg base bb 2 f fd ["moment","word","tags","lift"] (zX K C):=by
 rwa[F.ok An (by intro _ _ _ _ h;cases h;subst_vars;rfl) @Z];obtain ⟨m,wd,tg,i,h,H0,M,c,U,rfl,⟨dx,lc,lw,ll,xs,ys,zs,a⟩,hc,⟨z,Z,rfl⟩,tl,gl,q⟩:=h;obtain ⟨t,hx,hi,ht,ad⟩:=a.atC hc;have cl:=cM.i.cl;have zl:zs.length=M.log.length:=a.dl.len;rwa[⟨_,(aa @a (ac (aS (gW rfl PySem.F.plainAttrs_list PySem.F.slot_list_extend PySem.F.type_list_extend pR @a (aq (bG rfl (ax (N':=["tag","word","lift","floor"]) (pk:=[none,some 1,some 3,some 4]) @m) @a @k @u @k) am))))),?_⟩];rwa[cB a cl cM.cabins (v:= .ref lc) rfl ?_];rwa[aW @cM hi ?_];rwa[cA.mk _ _ _ _ _ _ rfl ht ?_];rwa[cB a cl cM.log (v:= .ref ll) rfl ?_];erw[⟨.inl ⟨rfl,_,aD.of a.el⟩,?_⟩];have hL:=a.s.seq Z;rwa[b8 hL ?_];rwa[bK (xs:=U.map V.int) (λj z I=>ak H I/\z.length=j/\az K I z ((U.take j).map λt=>NI wd t i (c.pl / 2))) (aR (by rw [length_map];lia)) (λj z I h=>Nat.le_of_eq h.2.1) ⟨.refl _,rfl,.nil⟩ (λj z I _ h=>h.1.seq hL) (λj y z I hy Y=> ?_) (λz I Y l n=> ?_)]
 ·obtain ⟨W,G,O⟩:=Y;rw [getElem?_map] at hy;obtain ⟨v,hv,rfl⟩:=Option.map_eq_some_iff.mp hy;rwa[⟨bZ,?_⟩];rwa[ce (aR (by show 4<=1000000;decide)) λb H3 S n3 J=>⟨W.trans S,by simp [G],?_⟩];rw [take_add_one,hv,map_append];exact Paired.app (az.same O S) (.cons (iV (aE.of J) (.cons (.str _) (.cons (.int _) (.cons (.int _) (.cons (.int _) .nil))))) .nil)
 obtain ⟨W,G,O⟩:=Y;rw [length_map,take_of_length_le @f] at O;rw [length_map] at G;have aX:=a.same W;have S:ak I (upd I l (.lst z)):= .upd n;have R:=aX.same S;have J:upd I l (.lst z) l=some (.lst z):=af;generalize ag:upd I l (.lst z)=H3 at S R J ⊢;rwa[L7 R.el J @bs ?_];exact q _ ((W.trans S).st.trans (.updL R.el)) ⟨dx,lc,lw,ll,xs,ys,_,R.setL (az.same O S) (FV wd i _ U)⟩
noncomputable def lu (M:MS)(i:Int)(c:Cb):MS:= {M with cs:=M.cs.set i.toNat c}
theorem qR {H:Hp}{bs:List V}{ps:List (Int×Int)}(d:az K H bs @fA){j:Nat}{y:V}(S:bs[j]? =some y):∃p t,ps[j]? =some p/\y= .ref t/\aE K H t [.int p.1,.int p.2]:=by
 obtain ⟨p,G,O⟩:=bu (f:=lD) d S;obtain ⟨t,xs,rfl,h1,h2⟩:=O.outT
 cases h2 with|cons q0 t0=>cases t0 with|cons q1 t1=>
 cases t1;cases q0.isInt;cases q1.isInt;exact ⟨p,t,G,rfl,h1⟩
theorem wF {a:Int}{bs:List Int}:sO (.int a) (bs.map V.int)=decide (a∈bs):=by
 unfold sO;rw [any_map,Bool.eq_iff_iff,any_eq_true,decide_eq_true_eq];constructor
 ·rintro ⟨x,F,z⟩;have z:(x==a)=true:=z;rw [<-eq_of_beq z];exact F
 ·intro h;exact ⟨a,h,beq_self_eq_true a⟩
theorem nG (bs:List Int):(bs.map V.int).all cY=true:=by
 rw [all_map,all_eq_true];intro x _;rfl
noncomputable def lT (hs:Hs)(c:Cb)(l:Lf)(rs:List bj):D9:=wQ hs.so l.rm c.pl c.li c.ps rs
noncomputable def uO (hs:Hs)(M:MS)(i:Int)(c:Cb)(l:Lf)(rs:List bj):MS:=
 {lu (A4 (A4 M "out" (dU c.pl c.ps) i c) (Str.ofString "in") (lT hs c l rs).ins i c) i ⟨c.pl,(lT hs c l rs).light,im l.kd l.tn c.dr (M.bl.testBit i.toNat) (decide (((dU c.pl c.ps).length:Int)+((lT hs c l rs).ins.length:Int)>0)),c.mr,(lT hs c l rs).kept⟩ with ws:=M.ws.filter λr=> !decide (r.tag∈(lT hs c l rs).ins)}
structure Mn (P:Program)(w:World)(K:Fg)(mg:Str->Option Value)(base:Heap)(kD kH kS:Addr):Prop where
 c:∀k,rc k->Mp K @ha
 m:∀k,rc k->jc P w K mg base bb 1 "left" (kc kD kH kS k) (iE K k)
theorem yU {hs:Hs}{c:Cb}{l:Lf}{rs:List bj}:(lT hs c l rs).ins.length<=rs.length:=by
 have:=(mw (so:=hs.so) (room:=l.rm) (pl:=c.pl) rs ⟨c.li,eU c.pl c.ps,[]⟩).2;simpa [lT,wQ] using this
theorem yn {pl:Int}{ps:List (Int×Int)}:(dU pl ps).length<=ps.length:=by
 unfold dU;rw [length_map];exact length_filter_le _ _
inductive Fo (K:Fg)(C:Addr)(vs:List V)(H:Hp)(Q:VK)(_e:XK):Prop
 |mk (m i rl h hs l H0 M c xr rs:_) (_:vs=[.ref m,.int i,.ref rl]) (_:gu K H0 h hs) (_:hs.ls[i.toNat]? =some l) (_:ii K C H0 H m h M) (_:atC M i c) (_:i<1000) (_:c.ps.length<=64) (_:M.log.length<=2000) (_:M.ws.length<=1000) (_:(∃f0,c.pl=2*f0)) (_:H0 rl=some (.lst xr)) (_:az K H0 xr @bt) (_:Ph rs) (_:∀H',aN H H'->ii K C H0 H' m h (uO hs M i c l rs)->Q .non H')
theorem Oq {C kD kH kS:Addr}(F:bo K "exchange" "exchange" m4 f fd)(cM:zD K C)(D:Mn P w K mg base kD kH kS)(bE:mg "len"=none)(gf:bf P w K mg base 1 "room_of" ["house","lift"] @co)(jq:bf P w K mg base 1 "turns_of" ["house","lift"] @dA)(zg:bf P w K mg base 1 "kind_of" ["house","lift"] (jX K λl=> .str l.kd))(sk:bf P w K mg base 3 "exchanged" ["sort","room","cabin","riders"] (Ab K))(sd:bf P w K mg base 2 "log_steps" ["moment","word","tags","lift"] (zX K C))(zn:bf P w K mg base 3 "door_of" ["kind","turns"] (qg K kD kH kS))(py:bf P w K mg base 2 "has" ["mask","k"] fD)(cj:bf P w K mg base 1 "with_changes" ["cabin","place","light","door"] (eM K)):av P w K mg base bb 4 f fd ["moment","lift","riders"] (Fo K C):=by
 rwa[F.ok qp (by intro _ _ _ _ h;cases h;subst_vars;rfl) (λbg A outer s H vs Q E hr h=> ?_)];obtain ⟨m,i,rl,h,hs,l,H0,M,c,xr,rs,rfl,hH,hl,⟨dx,lc,lw,ll,xs,ys,zs,a⟩,R,i1,ad,gl,wl,⟨f0,a7⟩,er,dr,aH,q⟩:=h;obtain ⟨t,hx,hi,ht,be⟩:=a.atC R;have cl:=cM.i.cl;obtain ⟨j,hj⟩:=Int.eq_ofNat_of_zero_le R.1;obtain ⟨ph,bi,pb,aL,bp,bt,bc,bk⟩:=(hH.same a.s).at R.1 hl;have W:rc l.kd:=(hH.1.lf l (mem_of_getElem? hl)).2.2.2.2;rwa[⟨_,(aa @a (aa @a (aa @a (aa @a (aa @a (aa @eY (aa @eY (aa @a (aa (bq (i:=9) qp.nd rfl @o (pC (n:=1) hV hr @b (wv 8) (aq @a (aq @a @I)))) (aa (m8 @a (qQ @a (wv 1) xE)) (ac (cN rfl (wv 0) (bG rfl (ax (N':=["rider","ins"]) (pk:=[none,some 7]) @m) @a @k (λC s H ex=>(eh (cq @gj @a (wv 1) @K))) @S))))))))))))),?_⟩];rwa[cB a cl cM.house (v:= .ref h) rfl ?_];rwa[ao aL rfl ?_];rwa[jX.mk (g:=λl=> .int l.rm) _ _ _ _ rfl @hf R.1 hl ?_];rwa[cB a cl cM.cabins (v:= .ref lc) rfl ?_];rwa[aW @cM hi ?_];rwa[RE ht ad (a.s _ _ er) (az.same dr a.s) aH a7 λr H1 s1 au=> ?_];obtain ⟨cn,co,ci,aV,ar,eo,ei,no,ni,br⟩:=au;have e1:wQ hs.so l.rm c.pl c.li c.ps rs=lT hs c l rs:=rfl;rw [e1] at ar ei;generalize hE:lT hs c l rs=U at *;generalize hO:dU c.pl c.ps=O at *
 have el:U.ins.length<=rs.length:=by rw [<-hE];exact yU
 have ol:O.length<=64:=by rw [<-hO];exact Nat.le_trans yn ad
 have ba:rs.length<=64:=aH.1;have a1:=a.same s1;obtain ⟨aw,sw⟩:=a1.wide
 have nk:∀ {p q:Addr} {o:HO},H p=none->H q=some o->p≠q:=λ{p q o} h1 h2 z=>by rw [z,h2] at h1;cases h1
 have aj:jA H1 m lc lw ll co=some (.lst (O.map V.int)):=jo eo (nk no a.em) (nk no a.ec) (nk no a.ew) (nk no a.el);have Y:jA H1 m lc lw ll ci=some (.lst (U.ins.map V.int)):=jo ei (nk ni a.em) (nk ni a.ec) (nk ni a.ew) (nk ni a.el);generalize bh:jA H1 m lc lw ll=Hc at aw sw aj Y;have I:=aE.of (K:=K) aV;rwa[ao I rfl ?_];rwa[ao I rfl ?_];erw[ao I rfl ?_];have a0:ii K C Hc H1 m h M:=⟨dx,lc,lw,ll,xs,ys,zs,aw⟩;rwa[LY (ts:=O) a0 R (aD.of aj) @c @c λH2 aO aQ=> ?_];rwa[LY (ts:=U.ins) (c:=c) aQ R (aD.of Y) @c (by show (M.log++_).length<=_;rw [length_append,length_map];lia) λH3 aK aY=> ?_];have al:=aO.trans aK;obtain ⟨aU,S,aJ,aG,ay,ap,a2,a3⟩:=aY;have aC:=hH.same (sw.trans a3.s);rwa[jX.mk (g:=λl=> .str l.kd) _ _ _ _ rfl aC R.1 hl ?_];rwa[jX.mk (g:=λl=> .int l.tn) _ _ _ _ rfl aC R.1 hl ?_];rwa[qg.mk _ _ rfl W λda bn H4 s4 n4 e4=> ?_];have a4:=a3.same s4;have ag:=al.trans s4.st;have ae:bX K H4 cn c.pl U.light c.dr c.mr U.kept:=ar.keep ag;obtain ⟨nb,bv,aT,bd,bw⟩:=id ae;have ah:=aE.of (K:=K) aT;rwa[lH e4 rfl (D.m _ W) ?_];rwa[ao ah rfl ?_];erw[cB a4 cl cM.blocked (v:= .int (M.bl:Int)) rfl ?_];rw [hj];rwa[fD.mk _ _ rfl @c ?_];rwa[dL (aD.of (a4.s _ _ aj)) ?_];rw [length_map];rwa[dL (aD.of (a4.s _ _ Y)) ?_];rw [length_map];rwa[iE.mk _ _ _ _ _ _ _ rfl e4 (D.c _ W).i.cl (D.c _ W).n ?_];rwa[ao ah rfl ?_];rwa[ao ah rfl ?_];rwa[eM.mk _ _ _ _ _ _ _ _ _ rfl ae λt5 H5 s5 aI=> ?_];have a5:=a4.same s5;obtain ⟨_,_,_,_,aA⟩:=a3.atC (c:=c) R;erw[cB a5 cl cM.cabins (v:= .ref S) rfl ?_];rw [<-hj];rwa[xX (j:=i.toNat) a5.ec (Hk R.1 aA) ?_];have a6:=a5.setC (i:=i.toNat) (c:=⟨c.pl,U.light,im l.kd l.tn c.dr (M.bl.testBit j) (decide ((O.length:Int)+(U.ins.length:Int)>0)),c.mr,U.kept⟩) ⟨t5,rfl,aI⟩;generalize as:upd H5 S (.lst (ay.set i.toNat (.ref t5)))=H6 at a6 ⊢
 have aF:aN H1 H6:=by rw [<-as];exact (ag.trans s5.st).trans (.updL a5.ec)
 clear as;have yl:ap.length=M.ws.length:=aB a3.dw;rwa[cB a6 cl cM.waiting (v:= .ref aJ) rfl ?_];rwa[b8 (aD.of a6.ew) ?_];rwa[bK (xs:=ap) (λj G J=>ak H6 J/\G.length<=j/\az K J G (((M.ws.take j).filter λr=> !decide (r.tag∈U.ins)).map bj.d)) @bs (λj G J h=>h.2.1) ⟨.refl _,Nat.le_refl _,.nil⟩ (λj G J _ h=>h.1.seq (aD.of a6.ew)) (λj y G J hy hP=> ?_) (λG J hP l7 n7=> ?_)]
 ·obtain ⟨Z,aZ,hd⟩:=hP;obtain ⟨r,ai,an⟩:=bu (f:=bj.d) a6.dw hy;have ai:M.ws[j]? =some r:=ai;obtain ⟨ra,rfl,hT⟩:=eW (bL.same an Z);have nx:=jm (λr:bj=> !decide (r.tag∈U.ins)) ai;rwa[⟨bZ,?_⟩];rwa[ao hT rfl ?_];rwa[CS (aD.of (Z _ _ (a6.s _ _ Y))) rfl (nG _) ?_];rw [wF];show if (!decide (r.tag∈U.ins))=true then _ else _
  cases hb:(!decide (r.tag∈U.ins)) with
  |true=>
   rw [if_pos rfl];rwa[⟨Z,by rw [length_append];show _+1<=_;lia,?_⟩];rw [nx,hb,if_pos rfl,map_append];exact Paired.app hd (.cons (bL.same an Z) .nil)
  |false=>
   rw [if_neg @b];rwa[⟨Z,by lia,?_⟩];rw [nx,hb,if_neg @b,append_nil];exact hd
 obtain ⟨Z,aZ,hd⟩:=hP;rw [yl,take_of_length_le @f] at hd;have aX:=a6.same Z;have s8:ak J (upd J l7 (.lst G)):= .upd n7;have a8:=aX.same s8;have e8:upd J l7 (.lst G) l7=some (.lst G):=af;generalize bx:upd J l7 (.lst G)=H8 at s8 a8 e8 ⊢
 have aM:S≠l7:=λz=>by rw [<-z,aX.ec] at n7;cases n7
 have aP:l7≠aG:=λz=>by rw [z,aX.el] at n7;cases n7
 rwa[cQ a8.em cl cM.waiting (by show 7<1000;decide) ?_];have a9:=a8.putW (rs:=M.ws.filter λr=> !decide (r.tag∈U.ins)) (none_of aX.s n7) aM aP e8 (az.same hd s8);rwa[q _ ((s1.st.trans aF).trans (((Z.trans s8).st).trans (.updI a8.em))) (ii.onto sw ⟨aU,S,l7,aG,ay.set i.toNat (.ref t5),G,a2,?_⟩)]
 have ee:uO hs M i c l rs= {lu (A4 (A4 M "out" O i c) (Str.ofString "in") U.ins i c) i ⟨c.pl,U.light,im l.kd l.tn c.dr (M.bl.testBit j) (decide ((O.length:Int)+(U.ins.length:Int)>0)),c.mr,U.kept⟩ with ws:=M.ws.filter λr=> !decide (r.tag∈U.ins)}:=by
  unfold uO;rw [hE,hO,hj,show ((j:Int)).toNat=j by lia]
 rw [ee];exact a9
structure i8 (li he up dn:Int):Prop where
 l0: -1<=li
 l1:li<=1
 h0:0<=he
 h1:he<=2
 u0:0<=up
 d0:0<=dn
abbrev Wf:=Int->Int->Int->Int->Int->Str
inductive Ej (P:Program)(w:World)(K:Fg)(mg:Str->Option Value)(base:Heap)(H:Hp)(a:Addr)(wf:Wf):Prop
 |mk (C dx fs sp:_) (_:H a=some (.ins C dx fs)) (_:fs.lookup (Str.ofString "word")=none) (_:jc P w K mg base bb 2 "word" C sp) (_:(∀fl li he up dn,i8 li he up dn->wf fl li he up dn∈cO)) (_:∀(H':Hp) (sa:Addr) (fl li he up dn:Int) (Q:VK) (E:XK),H' a=some (.ins C dx fs)->aE K H' sa [.int fl,.int li,.int he,.int up,.int dn]->i8 li he up dn->Q (.str (wf fl li he up dn)) H'->sp [.ref a,.ref sa] H' Q E)
theorem Ej.same {H H':Hp}{a:Addr}{wf:Wf}(r:Ej P w K mg base H a wf)(s:ak H H'):Ej P w K mg base H' a wf:=by
 obtain ⟨C,dx,fs,sp,h1,h2,S,j,Y⟩:=r;exact ⟨C,dx,fs,sp,s _ _ h1,h2,S,j,Y⟩
noncomputable def qa (hs:Hs)(l:Lf)(c:Cb)(wd:Str):Cb:=⟨(fc hs.fl l.tn c.pl c.li c.dr c.ps @cS).1,(fc hs.fl l.tn c.pl c.li c.dr c.ps @cS).2.1,(fc hs.fl l.tn c.pl c.li c.dr c.ps @cS).2.2,c.mr,c.ps⟩
def TY (hs:Hs)(wf:Wf)(M:MS)(i:Int)(c:Cb)(l:Lf)(rs:List bj)(M':MS):Prop:=∃(f0:Nat) (u d:Int),c.pl=2*(f0:Int)/\Ec (tk l.rm c.ps rs) f0 u/\Ed (tk l.rm c.ps rs) f0 d/\M'=lu M i (qa hs l c (wf f0 c.li (ia hs.so c.li (tk l.rm c.ps rs f0) (Mg c.ps f0) (Lu rs f0 c.li)) u d))
structure mh (fl:Int)(c:Cb):Prop where
 p0:0<=c.pl
 p1:c.pl<=2*(fl - 1)
 l0: -1<=c.li
 l1:c.li<=1
 m0:0<=c.mr
 ev:0<c.dr->c.pl% 2=0
 len:c.ps.length<=64
 gs:∀p∈c.ps,0<=p.2/\p.2<fl
structure i9 (fl:Int)(r:bj):Prop where
 s0:0<=r.start
 s1:r.start<fl
 g0:0<=r.goal
 g1:r.goal<fl
 ne:r.start≠r.goal
theorem Cg {so:Str}{li:Int}{a b c:Bool}:0<=ia so li a b c/\ia so li a b c<=2:=by
 unfold ia;split
 ·decide
 split
 ·decide
 split
 ·decide
 ·decide
theorem Ec.nn {t:Int->Bool}{f u:Int}(h:Ec t f u):0<=u:=by rcases h with ⟨h,_⟩|⟨h,_⟩<;>lia
theorem Ed.nn {t:Int->Bool}{f u:Int}(h:Ed t f u):0<=u:=by rcases h with ⟨h,_⟩|⟨h,_⟩<;>lia
inductive Fs (P:Program)(w:World)(K:Fg)(mg:Str->Option Value)(base:Heap)(C:Addr)(vs:List V)(H:Hp)(Q:VK)(_e:XK):Prop
 |mk (m ru i rl h hs l H0 M c xr rs wf:_) (_:vs=[.ref m,.ref ru,.int i,.ref rl]) (_:gu K H0 h hs) (_:hs.ls[i.toNat]? =some l) (_:Ej P w K mg base H0 ru wf) (_:ii K C H0 H m h M) (_:atC M i c) (_:mh hs.fl c) (_:c.pl% 2=0) (_:H0 rl=some (.lst xr)) (_:az K H0 xr @bt) (_:(∀r∈rs,i9 hs.fl r)) (_:rs.length<=64) (_:∀M' H',TY hs wf M i c l rs M'->aN H H'->ii K C H0 H' m h M'->Q .non H')
theorem Ot {C:Addr}(F:bo K "go_by_rule" "go_by_rule" mY f fd)(Z:zD K C)(gf:bf P w K mg base 1 "room_of" ["house","lift"] @co)(jq:bf P w K mg base 1 "turns_of" ["house","lift"] @dA)(Md:bf P w K mg base 5 "view" ["sort","room","cabin","riders"] (zT K))(zc:bf P w K mg base 3 "steered" ["sort","floors","turns","cabin","word"] (mx K)):av P w K mg base bb 6 f fd ["moment","rule","lift","riders"] (Fs P w K mg base C):=by
 rwa[F.ok qo (by intro _ _ _ _ h;cases h;subst_vars;rfl) (λas A outer s H vs Q E hr h=> ?_)];obtain ⟨m,ru,i,rl,h,hs,l,H0,M,c,xr,S,wf,rfl,hH,hl,ag,⟨dx,lc,lw,ll,xs,ys,zs,a⟩,J,W,ev,er,dr,aH,ba,q⟩:=h;obtain ⟨t,hx,hi,ht,ak⟩:=a.atC J;have cl:=Z.i.cl;have f8:=hH.1.f8;obtain ⟨ph,bi,pb,G,bp,bt,bc,bk⟩:=(hH.same a.s).at J.1 hl;obtain ⟨kC,ap,an,ar,kr,al,kM,kw,ks⟩:=ag;obtain ⟨U,ad⟩:∃U:Nat,c.pl=2*(U:Int):=⟨(c.pl / 2).toNat,by have:=W.p0;lia⟩
 have ah:(U:Int)<hs.fl:=by have:=W.p1;lia
 have af:Sh c.ps S:=⟨λp z=>⟨(W.gs p z).1,by have:=(W.gs p z).2;lia⟩,λr hr=>⟨(aH r hr).s0,by have:=(aH r hr).s1;lia⟩,W.len,ba⟩;have ai:pN c.ps:=⟨by have:=W.len;lia,λp z=>⟨(W.gs p z).1,by have:=(W.gs p z).2;lia⟩⟩;rwa[⟨_,(aa @a (aa @a (aa (bq (i:=6) qo.nd rfl @o (pC (n:=2) hV hr @b (wv 1) @I)) (ac @dl)))),?_⟩];rwa[cB a cl Z.house (v:= .ref h) rfl ?_];rwa[cB a cl Z.cabins (v:= .ref lc) rfl ?_];rwa[aW @cM hi ?_];rwa[lH (a.s _ _ kr) al kM ?_];rwa[ao G rfl ?_];rwa[jX.mk (g:=λl=> .int l.rm) _ _ _ _ rfl @hf J.1 hl ?_];rwa[zT.mk _ _ _ _ _ _ _ _ _ _ _ _ rfl ht (a.s _ _ er) (az.same dr a.s) af ad @c λv u d H1 O hu hd aj=> ?_];have a1:=a.same O;have sn:i8 c.li (ia hs.so c.li (tk l.rm c.ps S U) (Mg c.ps U) (Lu S U c.li)) u d:=⟨W.l0,W.l1,Cg.1,Cg.2,hu.nn,hd.nn⟩;rwa[ks H1 v U c.li _ u d _ _ (a1.s _ _ kr) (aE.of aj) sn ?_];have I:=kw U _ _ _ _ sn;generalize R:wf U c.li (ia hs.so c.li (tk l.rm c.ps S U) (Mg c.ps U) (Lu S U c.li)) u d=wd at I ⊢;rwa[ao (O.seqT G) rfl ?_];rwa[ao (O.seqT G) rfl ?_];rwa[jX.mk (g:=λl=> .int l.tn) _ _ _ _ rfl (hH.same a1.s) J.1 hl ?_];rwa[E6 (f0:=(U:Int)) (ht.same O) I ai ad @c ah W.l0 W.l1 λr H2 s2 ae=> ?_];have Y:=a1.same s2;rwa[cB Y cl Z.cabins (v:= .ref lc) rfl ?_];rwa[xX (j:=i.toNat) Y.ec (Hk J.1 ak) ?_];rwa[q (lu M i (qa hs l c wd)) _ ⟨U,u,d,ad,hu,hd,by rw [R]⟩ ((O.trans s2).st.trans (.updL Y.ec)) ⟨dx,lc,lw,ll,_,ys,zs,Y.setC (i:=i.toNat) (c:=qa hs l c wd) ⟨r,rfl,ae⟩⟩]
def c9 (i:Int)(M:MS):List bj:=M.ws.filter λr=>decide (r.lift=i)
def IG (hs:Hs)(wf:Wf)(M:MS)(i:Int)(c:Cb)(l:Lf)(M':MS):Prop:=if 0<c.dr then M'=uO hs M i c l @eP else if c.pl% 2=1 then M'=lu M i ⟨c.pl+c.li,c.li,0,c.mr,c.ps⟩ else TY hs wf M i c l @eP M'
section
variable {hs:Hs}{wf:Wf}{M M':MS}{i:Int}{c:Cb}{l:Lf}
theorem Up (z:0<c.dr):IG hs wf M i c l (uO hs M i c l @eP):=by unfold IG;rw [if_pos z]
theorem Uo (z: ¬0<c.dr)(F:c.pl% 2=1):IG hs wf M i c l (lu M i ⟨c.pl+c.li,c.li,0,c.mr,c.ps⟩):=by unfold IG;rw [if_neg z,if_pos F]
theorem Um (z: ¬0<c.dr)(F: ¬c.pl% 2=1)(h:TY hs wf M i c l @eP M'):IG hs wf M i c l M':=by unfold IG;rw [if_neg z,if_neg F];exact h
end
inductive Fn (P:Program)(w:World)(K:Fg)(mg:Str->Option Value)(base:Heap)(C:Addr)(vs:List V)(H:Hp)(Q:VK)(_e:XK):Prop
 |mk (m ru i h hs l H0 M c wf:_) (_:vs=[.ref m,.ref ru,.int i]) (_:gu K H0 h hs) (_:hs.ls[i.toNat]? =some l) (_:Ej P w K mg base H0 ru wf) (_:ii K C H0 H m h M) (_:atC M i c) (_:mh hs.fl c) (_:i<1000) (_:(∀r∈M.ws,i9 hs.fl r)) (_:M.ws.length<=64) (_:M.log.length<=2000) (_:∀M' H',IG hs wf M i c l M'->aN H H'->ii K C H0 H' m h M'->Q .non H')
theorem Op {C:Addr}(F:bo K "go_without_fire" "go_without_fire" fj f fd)(cM:zD K C)(uZ:bf P w K mg base 4 "exchange" ["moment","lift","riders"] (Fo K C))(cj:bf P w K mg base 1 "with_changes" ["cabin","place","light","door"] (eM K))(oR:bf P w K mg base 6 "go_by_rule" ["moment","rule","lift","riders"] (Fs P w K mg base C)):av P w K mg base bb 7 f fd ["moment","rule","lift"] (Fn P w K mg base C):=by
 rwa[F.ok hU (by intro _ _ _ _ h;cases h;subst_vars;rfl) @bq];obtain ⟨m,ru,i,h,hs,l,H0,M,c,wf,rfl,hH,hl,ag,⟨dx,lc,lw,ll,xs,ys,zs,a⟩,hc,ok,i1,al,wl,gl,q⟩:=h;obtain ⟨t,hx,hi,ht,aj⟩:=a.atC hc;obtain ⟨b,bs,et,eb,db⟩:=id ht;have hT:=aE.of (K:=K) et;have cl:=cM.i.cl;have yl:ys.length=M.ws.length:=aB a.dw;rwa[⟨_,(aa @a (aa (eV (i:=4) rfl hU.nd rfl @o (ax (N':=["rider","lift"]) (pk:=[none,some 2]) @m) @a @k @be @S) (ac (au @a @N (ac (au @a (ac @dl) @N)))))),?_⟩];rwa[cB a cl cM.cabins (v:= .ref lc) rfl ?_];rwa[aW @cM hi ?_];rwa[cB a cl cM.waiting (v:= .ref lw) rfl ?_];rwa[b8 @gy ?_];rwa[bK (xs:=ys) (λj G I=>ak H I/\G.length<=j/\az K I G (((M.ws.take j).filter λr=>decide (r.lift=i)).map bj.d)) @bs (λj G I h=>h.2.1) ⟨.refl _,Nat.le_refl _,.nil⟩ (λj G I _ h=>h.1.seq @gy) (λj y G I hy hP=> ?_) (λG I hP rl n1=> ?_)]
 ·obtain ⟨W,ai,hd⟩:=hP;obtain ⟨r,O,ad⟩:=bu (f:=bj.d) a.dw hy;obtain ⟨ra,rfl,ah⟩:=eW (bL.same ad W);have nx:=jm (λr:bj=>decide (r.lift=i)) O;rwa[⟨bZ,?_⟩];rwa[ao ah rfl ?_];show if decide (r.lift=i)=true then _ else _
  cases hb:decide (r.lift=i) with
  |true=>
   rw [if_pos rfl];rwa[⟨W,by rw [length_append];show _+1<=_;lia,?_⟩];rw [nx,hb,if_pos rfl,map_append];exact Paired.app hd (.cons (bL.same ad W) .nil)
  |false=>
   rw [if_neg @b];rwa[⟨W,by lia,?_⟩];rw [nx,hb,if_neg @b,append_nil];exact hd
 obtain ⟨W,ai,hd⟩:=hP;rw [yl,take_of_length_le @f] at hd;have U:ak I (upd I rl (.lst G)):= .upd n1;have e2:upd I rl (.lst G) rl=some (.lst G):=af;have d2:=az.same hd U;generalize am:upd I rl (.lst G)=H2 at U e2 d2 ⊢;have R:=W.trans U;have Z:=a.same R;obtain ⟨aw,sw⟩:=Z.wide
 have nk:∀ {p:Addr} {o:HO},H p=some o->rl≠p:=λ{p o} e z=>by rw [<-z] at e;rw [W _ _ e] at n1;cases n1
 have Y:jA H2 m lc lw ll rl=some (.lst G):=jo e2 (nk a.em) (nk a.ec) (nk a.ew) (nk a.el)
 have dC:az K (jA H2 m lc lw ll) G ((c9 i M).map bj.d):=by
  rwa[aN.dens (λb o z1 J e=> ?_) d2 (gH _)];exact jo e (λz=>by rw [z,Z.em] at e;cases e;exact J _ _ _ rfl) (λz=>by rw [z,Z.ec] at e;cases e;exact z1 _ rfl) (λz=>by rw [z,Z.ew] at e;cases e;exact z1 _ rfl) (λz=>by rw [z,Z.el] at e;cases e;exact z1 _ rfl)
 generalize ap:jA H2 m lc lw ll=Hc at aw sw Y dC;have aQ:ii K C Hc H2 m h M:=⟨dx,lc,lw,ll,xs,ys,zs,aw⟩;have aH:∀r∈c9 i M,i9 hs.fl r:=λr hr=>al r ((mem_filter.mp hr).1);have ba:(c9 i M).length<=64:=Nat.le_trans @bT wl;rwa[ao @ey rfl ?_];rwa[fe @B @B]
 ·have z:0<c.dr:=z;exact Fo.mk _ _ _ _ _ _ _ _ _ _ _ rfl (hH.same sw) hl aQ hc i1 ok.len gl @c ⟨c.pl / 2,by have:=ok.ev z;lia⟩ Y dC ⟨ba,λr hr=>(aH r hr).ne⟩ λH' st S=>q _ H' (Up z) (R.st.trans st) (S.onto sw)
 have z: ¬0<c.dr:=z;rwa[ao @ey rfl ?_];rwa[⟨by decide,?_⟩];rwa[fe @eZ @eZ]
 ·have J:c.pl% 2=1:=J;rwa[ao @ey rfl ?_];rwa[ao @ey rfl ?_];rwa[ao @ey rfl ?_];rwa[eM.mk _ _ _ _ _ _ _ _ _ rfl (ht.same R) λr H3 s3 O=> ?_];have a3:=Z.same s3;rwa[cB a3 cl cM.cabins (v:= .ref lc) rfl ?_];rwa[xX (j:=i.toNat) a3.ec (Hk hc.1 aj) ?_];exact q _ _ (Uo z J) ((R.trans s3).st.trans (.updL a3.ec)) ⟨dx,lc,lw,ll,_,ys,zs,a3.setC (i:=i.toNat) (c:=⟨c.pl+c.li,c.li,0,c.mr,c.ps⟩) ⟨r,rfl,O⟩⟩
 ·have J: ¬c.pl% 2=1:=J;exact Fs.mk _ _ _ _ _ _ _ _ _ _ _ _ _ rfl (hH.same sw) hl (ag.same sw) aQ hc ok @c Y dC aH ba λM' H' ae st S=>q M' H' (Um z J ae) (R.st.trans st) (S.onto sw)
def Pp (hs:Hs)(wf:Wf)(M:MS)(i:Int)(c:Cb)(l:Lf)(M':MS):Prop:=(c.mr.toNat.testBit 0=true/\M'=M)\/(c.mr.toNat.testBit 0=false/\M.fire=true/\M'=M)\/(c.mr.toNat.testBit 0=false/\M.fire=false/\IG hs wf M i c l M')
inductive Jq (P:Program)(w:World)(K:Fg)(mg:Str->Option Value)(base:Heap)(C:Addr)(vs:List V)(H:Hp)(Q:VK)(_e:XK):Prop
 |mk (m ru i h hs l H0 M c wf:_) (_:vs=[.ref m,.ref ru,.int i]) (_:gu K H0 h hs) (_:hs.ls[i.toNat]? =some l) (_:Ej P w K mg base H0 ru wf) (_:ii K C H0 H m h M) (_:atC M i c) (_:mh hs.fl c) (_:i<1000) (_:(∀r∈M.ws,i9 hs.fl r)) (_:M.ws.length<=64) (_:M.log.length<=2000) (_:M.fire=false) (_:∀M' H',Pp hs wf M i c l M'->aN H H'->ii K C H0 H' m h M'->Q .non H')
theorem Re {C:Addr}{S:Tok}(F:bo K "go" "go" Tb f fd)(J:zD K C)(Hw:mg "STUCK"=some (.int 0 S))(py:bf P w K mg base 2 "has" ["mask","k"] fD)(gh:bf P w K mg base 7 "go_without_fire" ["moment","rule","lift"] (Fn P w K mg base C)):av P w K mg base bb 8 f fd ["moment","rule","lift"] (Jq P w K mg base C):=by
 have G:aA (.int 0) (.int 0 S):=⟨_,rfl⟩;rwa[F.ok Ta (by intro _ _ _ _ h;cases h;subst_vars;rfl) @Z];obtain ⟨m,ru,i,h,hs,l,H0,M,c,wf,rfl,hH,hl,ag,hM,W,Z,i1,al,wl,gl,Y,q⟩:=h;have j:=hM;obtain ⟨dx,lc,lw,ll,xs,ys,zs,a⟩:=hM;obtain ⟨t,hx,hi,ht,ad⟩:=a.atC W;obtain ⟨b,bs,et,eb,db⟩:=id ht;have U:=J.i.cl;obtain ⟨R,z⟩:=Int.eq_ofNat_of_zero_le Z.m0;rwa[⟨_,(aa (au @a (ac JL) ap) (ac (au @a @dP @N))),?_⟩];rwa[cB a U J.cabins (v:= .ref lc) rfl ?_];rwa[aW @cM hi ?_];rwa[ao @dE rfl ?_];rw [z]
 have em:c.mr.toNat=R:=by rw [z];rfl
 erw[fD.mk _ 0 rfl @b ?_];by_cases O:R.testBit 0=true
 ·rwa[bz O ?_];exact q M H (.inl ⟨by rw [em];exact O,rfl⟩) (.refl _) j
 ·have ay:R.testBit 0=false:=by simpa using O
  rwa[aP ay ?_];rwa[cB a U J.fire (v:= .bl M.fire) rfl ?_];rwa[aP Y ?_];exact Fn.mk _ _ _ _ _ _ _ _ _ _ rfl hH hl ag j W Z i1 al wl gl λM' H' hg st I=>q M' H' (.inr (.inr ⟨by rw [em];exact ay,Y,hg⟩)) st I
inductive oh (K:Fg)(H:Hp)(st:Addr)(cs:List Cb)(ws:List bj)(last:Int)(fire:Bool):Prop
 |mk (tc tw xs ys:_) (_:aE K H st [.ref tc,.ref tw,.int last,.bl fire]) (_:aE K H tc xs) (_:aE K H tw ys) (_:Paired (d8 K H) xs cs) (_:az K H ys @gi)
theorem oh.keep {H H':Hp}{st:Addr}{cs:List Cb}{ws:List bj}{last:Int}{j:Bool}(h:oh K H st cs ws last j)(s:aN H H'):oh K H' st cs ws last j:=by
 obtain ⟨tc,G,xs,ys,h1,h2,S,F,Y⟩:=h;exact ⟨tc,G,xs,ys,s.sqT h1,s.sqT h2,s.sqT S,Paired.imp' (λx c z=>d8.keep z s) F,s.dens Y (gH _)⟩
inductive Ff (K:Fg)(vs:List V)(H:Hp)(Q:VK)(_e:XK):Prop
 |mk (a h st C dx tc tw xs ys last fire:_) (_:vs=[.ref a,.ref h,.ref st]) (_:H a=some (.ins C dx [])) (_:zD K C) (_:aE K H st [.ref tc,.ref tw,.int last,.bl fire]) (_:aE K H tc xs) (_:aE K H tw ys) (_:∀lc lw ll H',eJ a H H'->H lc=none->H lw=none->H ll=none->lc≠lw->lc≠ll->lw≠ll->H' a=some (.ins C dx (tY h lc lw last fire 0 ll))->H' lc=some (.lst xs)->H' lw=some (.lst ys)->H' ll=some (.lst [])->Q .non H')
theorem fV {a:Addr}{H H':Hp}{C dx:Addr}{fs:List (Str×V)}(s:eJ a H H')(e:H a=some (.ins C dx fs)){p:Addr}{xs:List V}(h:aE K H p xs):aE K H' p xs:=by
 rcases h with (h|⟨u,h⟩)|h
 ·exact .inl (.inl (s _ _ (λz=>by rw [z,e] at h;cases h) h))
 ·exact .inl (.inr ⟨u,s _ _ (λz=>by rw [z,e] at h;cases h) h⟩)
 ·exact .inr h
theorem Gx (F:bo K "__init__" "Moment.__init__" iG f fd)(lJ:mg "list"=none):av P w K mg base bb 1 f fd ["self","house","state"] (Ff K):=by
 rwa[F.ok vI (by intro _ _ _ _ h;cases h;subst_vars;rfl) (λaE A outer s H vs Q E hr h=> ?_)];obtain ⟨a,h,st,C,dx,tc,tw,xs,ys,O,R,rfl,Z,U,h1,h2,h3,q⟩:=h;have Y:=U.i.cl;rwa[⟨_,(aa @bQ (aa (cN rfl (wv 0) @cy) (aa (cN rfl (wv 0) @cy) (aa @dk (aa @dk (aa (cN rfl (wv 0) b9) (ac (cN rfl (wv 0) (eL am))))))))),?_⟩];rwa[cQ Z Y U.house @b ?_];generalize W:upd H a _=H1
 have p1:eJ a H H1:=by rw [<-W];exact λb o n e=>by rw [aj n];exact e
 have ai:H1 a=some (.ins C dx [(Str.ofString "house",.ref h)]):=by rw [<-W];exact af
 clear W;rwa[ao (fV p1 Z h1) rfl ?_];rwa[wz (.inr (fV p1 Z h2)) λlc H2 s2 n2 e2=> ?_];have aC:=s2 _ _ ai;rwa[cQ aC Y U.cabins (by show 1<1000;decide) ?_];generalize ag:upd H2 a _=H3
 have p3:eJ a H H3:=by rw [<-ag];exact λb o n e=>by rw [aj n];exact s2 _ _ (p1 b o n e)
 have ah:H3 a=some (.ins C dx [(Str.ofString "house",.ref h),(Str.ofString "cabins",.ref lc)]):=by rw [<-ag];exact af
 have aM:lc≠a:=λz=>by rw [z,ai] at n2;cases n2
 have e3:H3 lc=some (.lst xs):=by rw [<-ag,aj aM];exact e2
 have al:H lc=none:=by
  cases y:H lc with
  |none=>rfl
  |some o=>rw [p1 _ _ aM y] at n2;cases n2
 clear ag;rwa[ao (fV p3 Z h1) rfl ?_];rwa[wz (.inr (fV p3 Z h3)) λlw H4 s4 n4 e4=> ?_];have aw:=s4 _ _ ah;rwa[cQ aw Y U.waiting (by show 2<1000;decide) ?_];generalize G:upd H4 a _=H5
 have p5:eJ a H H5:=by rw [<-G];exact λb o n e=>by rw [aj n];exact s4 _ _ (p3 b o n e)
 have ay:H5 a=some (.ins C dx [(Str.ofString "house",.ref h),(Str.ofString "cabins",.ref lc),(Str.ofString "waiting",.ref lw)]):=by rw [<-G];exact af
 have j:lw≠a:=λz=>by rw [z,ah] at n4;cases n4
 have au:lc≠lw:=λz=>by rw [<-z,e3] at n4;cases n4
 have e5:H5 lw=some (.lst ys):=by rw [<-G,aj j];exact e4
 have ax:H5 lc=some (.lst xs):=by rw [<-G,aj aM];exact s4 _ _ e3
 have ar:H lw=none:=by
  cases y:H lw with
  |none=>rfl
  |some o=>rw [p3 _ _ j y] at n4;cases n4
 clear G;rwa[ao (fV p5 Z h1) rfl ?_];rwa[cQ ay Y U.last (by show 3<1000;decide) ?_];generalize I:upd H5 a _=H6
 have p6:eJ a H H6:=by rw [<-I];exact λb o n e=>by rw [aj n];exact p5 b o n e
 have aD:H6 a=some (.ins C dx [(Str.ofString "house",.ref h),(Str.ofString "cabins",.ref lc),(Str.ofString "waiting",.ref lw),(Str.ofString "last",.int O)]):=by rw [<-I];exact af
 have e6:H6 lw=some (.lst ys):=by rw [<-I,aj j];exact e5
 have az:H6 lc=some (.lst xs):=by rw [<-I,aj aM];exact ax
 clear I;rwa[ao (fV p6 Z h1) rfl ?_];rwa[cQ aD Y U.fire (by show 4<1000;decide) ?_];generalize J:upd H6 a _=H7
 have p7:eJ a H H7:=by rw [<-J];exact λb o n e=>by rw [aj n];exact p6 b o n e
 have aB:H7 a=some (.ins C dx [(Str.ofString "house",.ref h),(Str.ofString "cabins",.ref lc),(Str.ofString "waiting",.ref lw),(Str.ofString "last",.int O),(Str.ofString "fire",.bl R)]):=by rw [<-J];exact af
 have e7:H7 lw=some (.lst ys):=by rw [<-J,aj j];exact e6
 have ap:H7 lc=some (.lst xs):=by rw [<-J,aj aM];exact az
 clear J;rwa[cQ aB Y U.blocked (by show 5<1000;decide) ?_];generalize bx:upd H7 a _=H8
 have p8:eJ a H H8:=by rw [<-bx];exact λb o n e=>by rw [aj n];exact p7 b o n e
 have ae:H8 a=some (.ins C dx [(Str.ofString "house",.ref h),(Str.ofString "cabins",.ref lc),(Str.ofString "waiting",.ref lw),(Str.ofString "last",.int O),(Str.ofString "fire",.bl R),(Str.ofString "blocked",.int 0)]):=by rw [<-bx];exact af
 have e8:H8 lw=some (.lst ys):=by rw [<-bx,aj j];exact e7
 have ak:H8 lc=some (.lst xs):=by rw [<-bx,aj aM];exact ap
 clear bx;rwa[fq (aR (by show 0<=1000000;decide)) λll H9 s9 S e9=> ?_];have aA:=s9 _ _ ae;rwa[cQ aA Y U.log (by show 6<1000;decide) ?_]
 have ad:ll≠a:=λz=>by rw [z,ae] at S;cases S
 have an:lc≠ll:=λz=>by rw [<-z,ak] at S;cases S
 have as:lw≠ll:=λz=>by rw [<-z,e8] at S;cases S
 rwa[q lc lw ll _ (λb o n e=> ?_) al ar ?_ au an as af ?_ ?_ ?_]
 ·rw [aj n];exact s9 _ _ (p8 b o n e)
 ·cases y:H ll with
  |none=>rfl
  |some o=>rw [p8 _ _ ad y] at S;cases S
 ·rw [aj aM];exact s9 _ _ ak
 ·rw [aj j];exact s9 _ _ e8
 ·rw [aj ad];exact e9
unseal fZ in
theorem Tk {C:Addr}{E:XK}{H:Hp}{h st:Addr}{cs:List Cb}{ws:List bj}{last:Int}{j:Bool}{Q:VK}(cM:zD K C)(hs:oh K H st cs ws last j)(g:∀m H',ii K C H H' m h ⟨cs,ws,last,j,0,[]⟩->Q (.ref m) H'):fZ C (Ff K) E [.ref h,.ref st] H Q:=by
 show ∀a dx,H a=none->H dx=none->dx≠a->Ff K (.ref a::([.ref h,.ref st]++[])) @r (λv H2=>v= .non/\Q (.ref a) H2) E;intro a dx h1 h2 h3;have F:ak H @r:=d4 h1 h2;obtain ⟨tc,tw,xs,ys,i1,i2,O,i4,S⟩:=hs;rwa[⟨a,h,st,C,dx,tc,tw,xs,ys,last,j,rfl,af,cM,F.seqT i1,F.seqT i2,F.seqT O,λlc lw ll H' sp R J Z Y G U em W ew el=>⟨rfl,g a H' ?_⟩⟩];have I:ak H H':=λb o e=>sp b o (λz=>by rw [z,h1] at e;cases e) (F b o e);exact ⟨dx,lc,lw,ll,xs,ys,[],I,h1,none_of F R,none_of F J,none_of F Z,Y,G,U,em,W,ew,el,Paired.imp' (λx c z=>d8.keep z I.st) i4,az.same S I,.nil,rfl⟩
inductive BO (K:Fg)(C:Addr)(vs:List V)(H:Hp)(Q:VK)(_e:XK):Prop
 |mk (m h H0 M:_) (_:vs=[.ref m]) (_:ii K C H0 H m h M) (_:∀st H',ak H H'->oh K H' st M.cs M.ws M.last M.fire->Q (.ref st) H')
theorem Oa {C:Addr}(F:bo K "state_of" "state_of" qv f fd)(j:zD K C)(G:mg "tuple"=none):av P w K mg base bb 1 f fd ["moment"] (BO K C):=by
 rwa[F.ok CZ (by intro _ _ _ _ h;cases h;subst_vars;rfl) @cg];obtain ⟨m,h,H0,M,rfl,⟨dx,lc,lw,ll,xs,ys,zs,a⟩,q⟩:=h;have U:=j.i.cl;rwa[⟨_,(ac (ag (jT (aq (aV @eO rfl G boot_tuple @I) (aq (aV @eO rfl G boot_tuple @I) (aq @a @I)))))),?_⟩];rwa[cB a U j.cabins (v:= .ref lc) rfl ?_];rwa[jV @cM λtc H1 O n1 W=> ?_];have z:=a.same O;rwa[cB z U j.waiting (v:= .ref lw) rfl ?_];rwa[jV (aD.of z.ew) λtw H2 R n2 e2=> ?_];have Y:=z.same R;rwa[cB Y U j.last (v:= .int M.last) rfl ?_];rwa[cB Y U j.fire (v:= .bl M.fire) rfl ?_];rwa[ce (aR (by show 4<=1000000;decide)) λst Z S n3 J=> ?_];have I:=Y.same S;exact q st Z (O.trans (R.trans S)) ⟨tc,tw,xs,ys,aE.of J,aE.of (S _ _ (R _ _ W)),aE.of (S _ _ e2),I.dc,I.dw⟩
structure sQ (hs:Hs)(n:Nat)(M:MS):Prop where
 len:M.cs.length=hs.ls.length
 cs:∀c∈M.cs,mh hs.fl c
 ws:∀r∈M.ws,i9 hs.fl r
 sum:M.log.length+M.ws.length<=n
theorem pK {α:Type}{l:List α}{i:Nat}{x y:α}(h:y∈l.set i x):y∈l\/y=x:=mem_or_eq_of_mem_set h
theorem sQ.deed {hs:Hs}{n:Nat}{M:MS}(o:sQ hs n M){d:Dd}(G:d.fit hs.fl hs.ls.length):sQ hs (n+1) (jK hs.lo M d):=by
 have F:∀ {M':MS},sQ hs n M'->sQ hs (n+1) M':=λz=>⟨z.len,z.cs,z.ws,by have:=z.sum;lia⟩
 cases d with
 |come t s g k=>
  obtain ⟨Y,O,S,j,R⟩:=G;show sQ hs (n+1) (fH hs.lo M t s g k);unfold fH;have I:=o.sum;split
  ·exact ⟨o.len,o.cs,o.ws,by show (M.log++_).length+M.ws.length<=_;rw [length_append];simp;lia⟩
  split
  ·exact ⟨o.len,o.cs,o.ws,by show (M.log++_).length+M.ws.length<=_;rw [length_append];simp;lia⟩
  ·rwa[⟨o.len,o.cs,λr W=> ?_,by show M.log.length+(M.ws++_).length<=_;rw [length_append];simp;lia⟩]
   rcases mem_append.mp W with z|z
   ·exact o.ws r z
   ·rw [mem_singleton.mp z];exact ⟨Y,O,S,j,R⟩
 |lf x i=>exact F ⟨o.len,o.cs,o.ws,o.sum⟩
 |sg x=>exact False.elim G
theorem sQ.dealt {hs:Hs}{n:Nat}{M:MS}(o:sQ hs n M){dl:xo}{p:Nat}{r:bj}(W:i9 hs.fl r):sQ hs (n+1) @hd:=by
 unfold ge;have j:=o.sum;split
 ·exact ⟨o.len,o.cs,o.ws,by show M.log.length+M.ws.length<=_;lia⟩
 ·rwa[⟨o.len,o.cs,λs I=> ?_,by show (M.log++_).length+(M.ws.set _ _).length<=_;rw [length_append,length_set];simp;lia⟩]
  rcases pK I with z|z
  ·exact o.ws s z
  ·rw [z];exact ⟨W.s0,W.s1,W.g0,W.g1,W.ne⟩
theorem sQ.deals {hs:Hs}{n:Nat}{M:MS}(o:sQ hs n M){dl:xo}{W:List bj}(j:∀r∈W,i9 hs.fl r):∀i,sQ hs (n+i) @he
 |0=>o
 |i+1=>by
  have h:=sQ.deals (dl:=dl) o j i;unfold bg;split
  ·rename_i r z;split
   ·exact h.dealt (j r (mem_of_getElem? z))
   ·exact ⟨h.len,h.cs,h.ws,by have:=h.sum;lia⟩
  ·exact ⟨h.len,h.cs,h.ws,by have:=h.sum;lia⟩
def IN (hs:Hs)(wf:Wf):Nat->MS->MS->Prop
 |0,M,M'=>M'=M
 |i+1,M,M''=>∃M' c l,IN hs wf i M M'/\atC M' (i:Int) c/\hs.ls[i]? =some l/\Pp hs wf M' (i:Int) c l M''
structure jQ (hs:Hs)(M0:MS)(i:Nat)(M:MS):Prop where
 len:M.cs.length=M0.cs.length
 cs:∀j,i<=j->M.cs[j]? =M0.cs[j]?
 ws:∀r∈M.ws,r∈M0.ws
 wl:M.ws.length<=M0.ws.length
 log:M.log.length<=M0.log.length+128*i
 fire:M.fire=M0.fire
theorem jQ.set {hs:Hs}{z M:MS}{i:Nat}(o:jQ hs z i M){c:Cb}{lg:List D}{ws:List bj}(J:∀r∈ws,r∈M.ws)(R:ws.length<=M.ws.length)(Y:lg.length<=M.log.length+128):jQ hs z (i+1) {M with cs:=M.cs.set i c,ws:=ws,log:=lg}:=by
 rwa[⟨by rw [length_set];exact o.len,λj Z=> ?_,λr W=>o.ws r (J r W),Nat.le_trans R o.wl,by have:=o.log;show lg.length<=_;lia,o.fire⟩];rw [getElem?_set_ne @c];exact o.cs j @c
theorem jQ.go {hs:Hs}{wf:Wf}{G M M':MS}{i:Nat}{c:Cb}{l:Lf}(o:jQ hs G i M)(O:c.ps.length<=64)(J:M.ws.length<=64)(h:Pp hs wf M (i:Int) c l M'):jQ hs G (i+1) M':=by
 have z:jQ hs G (i+1) M:=⟨o.len,λj Z=>o.cs j @c,o.ws,o.wl,by have:=o.log;lia,o.fire⟩
 have e:((i:Int)).toNat=i:=by lia
 have F:∀I,jQ hs G (i+1) (lu M (i:Int) I):=λI=>by
  have:=o.set (c:=I) (lg:=M.log) (ws:=M.ws) (λr h=>h) @f @c;unfold lu;rw [e];exact this
 rcases h with ⟨_,rfl⟩|⟨_,_,rfl⟩|⟨_,_,h⟩
 ·exact z
 ·exact z
 ·unfold IG at h;split at h
  ·rw [h];unfold uO lu A4;rw [e];rwa[o.set (λr h=>(mem_filter.mp h).1) @bT ?_];rw [length_append,length_append,length_map,length_map];have h1:=yn (pl:=c.pl) (ps:=c.ps);have h2:=yU (hs:=hs) (c:=c) (l:=l) (rs:=c9 (i:Int) M);have S:(c9 (i:Int) M).length<=M.ws.length:=length_filter_le _ _;lia
  split at h
  ·rw [h];exact F _
  ·obtain ⟨U,u,d,_,_,_,rfl⟩:=h;exact F _
noncomputable def Qt:Dd->List Int
 | .come t _ _ _=>[t]
 |_=>[]
def yK (fl:Int)(n:Nat):List Int->List Dd->Prop
 |_,[]=>True
 |ts,d::ds=>d.fit fl n/\(∀t∈Qt d,t∉ts)/\yK fl n (ts++Qt d) ds
theorem A9 {fl:Int}{n:Nat}:∀ {ds:List Dd} {ts:List Int},yK fl n ts ds->∀d∈ds,d.fit fl n
 |[],_,_,d,G=>by cases G
 |e::ds,ts,h,d,G=>by
  rcases mem_cons.mp G with rfl|G
  ·exact h.1
  ·exact A9 h.2.2 d G
def fM (cs:List Cb)(ws:List bj):List Int:=ws.map (·.tag)++cs.flatMap λc=>c.ps.map (·.1)
def II (K:Fg)(H:Hp)(p:Addr)(ds:List Dd):Prop:=∃xs,aD K H p xs/\Paired (λx d=>∃a,x=V.ref a/\sK H a d) xs ds
inductive BP (K:Fg)(vs:List V)(H:Hp)(Q:VK)(_e:XK):Prop
 |mk (h st dl hs cs ws last fire ds:_) (_:vs=[.ref h,.ref st,.ref dl]) (_:gu K H h hs) (_:oh K H st cs ws last fire) (_:II K H dl ds) (_:ws.length<=64) (_:(∀c∈cs,c.ps.length<=64)) (_:cs.length<=10) (_:ds.length<=100) (_:yK (Hs.fl hs) hs.ls.length (fM cs ws) ds) (_:∀H',ak H H'->Q .non H')
structure Mo (K:Fg)(C:Addr):Prop where
 i:gp K C
 house:aQ K C "house"
 rule:aQ K C "rule"
 dealer:aQ K C "dealer"
abbrev nL (h ru df:Addr):List (Str×V):=[(Str.ofString "house",.ref h),(Str.ofString "rule",.ref ru),(Str.ofString "dealer",.ref df)]
noncomputable def aH (lo:Nat)(M:MS)(ds:List Dd):MS:=ds.foldl (jK lo) M
noncomputable def DA (dl:xo)(M:MS):MS:=bg dl M.ws M.ws.length M
theorem oJ {lo:Nat}:∀ {ds:List Dd} {M:MS},(aH lo M ds).fire=M.fire
 |[],M=>rfl
 |d::ds,M=>(oJ (ds:=ds) (M:=jK lo M d)).trans DS
inductive zU (P:Program)(w:World)(K:Fg)(mg:Str->Option Value)(base:Heap)(GG:Hp->Prop)(pre:List Cb->List bj->bj->Int->Prop)(dl:xo)(vs:List V)(H:Hp)(Q:VK)(_e:XK):Prop
 |mk (a st dp C dx h ru df hs wf cs ws last ds:_) (_:vs=[.ref a,.ref st,.ref dp]) (_:H a=some (.ins C dx @ee)) (_:Mo K C) (_:gu K H h hs) (_:Ej P w K mg base H ru wf) (_:ip P w K mg base 5 df @fo) (_:GG H) (_:oh K H st cs ws last false) (_:II K H dp ds) (_:sQ hs ws.length ⟨cs,ws,last,false,0,[]⟩) (_:ws.length+ds.length<=64) (_:yK (Hs.fl hs) hs.ls.length (fM cs ws) ds) (_:(∀i r,(aH hs.lo ⟨cs,ws,last,false,0,[]⟩ ds).ws[i]? =some r->r.lift= -1->pre (bg dl (aH hs.lo ⟨cs,ws,last,false,0,[]⟩ ds).ws i @D).cs (bg dl (aH hs.lo ⟨cs,ws,last,false,0,[]⟩ ds).ws i @D).ws r (bg dl (aH hs.lo ⟨cs,ws,last,false,0,[]⟩ ds).ws i @D).last)) (_:(∀r st' ll M' H',aT H H'->GG H'->H' r=some (.tup [.ref st',.ref ll])->oh K H' st' M'.cs M'.ws M'.last M'.fire->IN hs wf hs.ls.length (DA dl @D) M'->Q (.ref r) H'))
theorem rO {lo:Nat}{M:MS}{ds:List Dd}{i:Nat}{d:Dd}(h:ds[i]? =some d):aH lo M (ds.take (i+1))=jK lo (aH lo M @fD) d:=by
 unfold aH;rw [take_add_one,h,foldl_append];rfl
theorem sQ.deeds {hs:Hs}{n:Nat}{M:MS}(o:sQ hs n M):∀ {ds:List Dd},(∀d∈ds,d.fit hs.fl hs.ls.length)->∀i,sQ hs (n+i) (aH hs.lo M @fD)
 |ds,h,0=>by
  rw [take_zero];exact o
 |ds,h,i+1=>by
  have z:=sQ.deeds o h i
  cases e:ds[i]? with
  |none=>
   rw [take_add_one,e];simp only [Option.toList_none,append_nil];exact ⟨z.len,z.cs,z.ws,by have:=z.sum;lia⟩
  |some d=>
   rw [rO e];have:=h d (mem_of_getElem? e);exact z.deed this
theorem oB {H H':Hp}(s:aT H H'){a:Addr}{h:Hs}(c:gu K H a h):gu K H' a h:=by
 obtain ⟨o,p,xs,h1,h2,S⟩:=c;exact ⟨o,p,xs,s.sqT h1,s.sqT h2,Paired.imp' (λx l ⟨b,e,z⟩=>⟨b,e,s.sqT z⟩) S⟩
theorem LS {H H':Hp}(s:aT H H'){a:Addr}{wf:Wf}(r:Ej P w K mg base H a wf):Ej P w K mg base H' a wf:=by
 obtain ⟨C,dx,fs,sp,h1,h2,S,j,Y⟩:=r;exact ⟨C,dx,fs,sp,s _ _ (λ_ z=>by cases z) h1,h2,S,j,Y⟩
theorem QH {H H':Hp}(s:aT H H'){st:Addr}{cs:List Cb}{ws:List bj}{last:Int}{j:Bool}(h:oh K H st cs ws last j):oh K H' st cs ws last j:=by
 obtain ⟨tc,G,xs,ys,h1,h2,S,F,Y⟩:=h;exact ⟨tc,G,xs,ys,s.sqT h1,s.sqT h2,s.sqT S,Paired.imp' (λx c z=>d8.nt s z) F,s.dens Y⟩
theorem Kg {kM:Addr}{GG:Hp->Prop}{pre:List Cb->List bj->bj->Int->Prop}{dl:xo}(gT:GT GG)(F:bo K "turn" "Court.turn" gG f fd)(cM:zD K kM)(bE:mg "len"=none)(aZ:mg "range"=none)(fI:bf P w K mg base 7 "need_deeds" ["house","state","deeds"] (BP K))(lK:ja P w K mg base bb 1 "Moment" kM (Ff K))(lX:bf P w K mg base 5 "do_deed" ["moment","deed"] (Jr K kM))(ju:bf P w K mg base 7 "deal_all" ["moment","dealer"] (lm P w K mg base kM GG pre dl))(bg:bf P w K mg base 8 "go" ["moment","rule","lift"] (Jq P w K mg base kM))(jr:bf P w K mg base 1 "state_of" ["moment"] (BO K kM)):av P w K mg base bb 9 f fd ["self","state","deeds"] (zU P w K mg base GG pre dl):=by
 rwa[F.ok ow (by intro _ _ _ _ h;cases h;subst_vars;rfl) (λbv A outer s H vs Q E hr h=> ?_)];obtain ⟨a,st,dp,C,dx,h,ru,df,hs,wf,cs,ws,aO,ds,rfl,ea,cC,hH,aW,aD,a3,aJ,aK,Z,bA,af,R,q⟩:=h;have O:=cC.i.cl;have cl:=cM.i.cl;have l3:=hH.1.l3
 have aB:cs.length<=10:=by have:=Z.len;have:cs.length=hs.ls.length:=this;lia
 have aT:∀c∈cs,c.ps.length<=64:=λc hc=>(Z.cs c hc).len;rwa[⟨_,(aa @eY (aa (bq (i:=3) ow.nd rfl @o (gv lK hV hr @b rfl @fY)) (aa (cE PassesOwn.never rfl @a @a @N) (eD (au @gL @N ap) (aa (cE PassesOwn.never rfl @er @a @N) @g))))),?_⟩];rwa[dS ea O cC.house (v:= .ref h) rfl ?_];rwa[BP.mk _ _ _ _ _ _ _ _ _ rfl hH aJ aK @c aT aB @c af λH1 W=> ?_];have aL:=A9 af;obtain ⟨xd,a9,pd⟩:=aK;have ai:=W _ _ ea;rwa[dS ai O cC.house (v:= .ref h) rfl ?_];rwa[Tk cM (aJ.keep W.st) λm H2 aQ=> ?_];have a7:=gT _ _ (W.trans aQ.s).st a3;have a5:=aQ.s.st;have aQ:=aQ.onto (qV H1);have aE:=GV H1;have s2:=aQ.s;have ai:=qW ai (λ_ z=>by cases z);generalize ax:(⟨cs,ws,aO,false,0,[]⟩:MS)=M0 at aQ Z R q
 have bc:M0.fire=false:=by rw [<-ax]
 have bB:M0.ws.length=ws.length:=by rw [<-ax]
 have al:=(GW H1).sqL (W.seq a9);rwa[b8 (s2.seq al) ?_];have xl:xd.length=ds.length:=pd.len;have an:=oB (GW H1) (hH.same W);have ak:=LS (GW H1) (aW.same W);have aV:aN (zG H1) H1:=(qV H1).st;generalize a2:zG H1=Hb at aQ aE s2 ai al an ak aV;have aG:∀i,sQ hs (ws.length+i) (aH hs.lo M0 @fD):=λi=>Z.deeds aL i;rwa[fg (xs:=xd) (λi σ J=>ii K kM Hb J m h (aH hs.lo M0 @fD)/\aN H1 J/\GG J/\∃S U,σ=[some (.ref a),some (.ref st),some (.ref dp),some (.ref m),S,U]) ⟨by rw [take_zero];exact aQ,a5,a7,_,_,rfl⟩ (λi σ J _ Y=>Y.1.s.seq al) (λi x σ J hx Y=> ?_) (λσ J Y=> ?_)]
 ·obtain ⟨hM,ae,gX,S,U,rfl⟩:=Y;obtain ⟨d,hd,ad,rfl,aX⟩:=pd.get1 hx;have il:i<ds.length:=(List.getElem?_eq_some_iff.mp hd).1;have mo:=aG i;have sm:=mo.sum;rwa[Jr.mk _ _ _ _ _ _ _ rfl ((hH.same W).keep ae) ((aX.same W).keep ae) (aL d (mem_of_getElem? hd)) hM @c @c λH' j I=> ?_];rw [<-rO hd] at I;exact ⟨I,ae.trans j,gT _ _ j gX,_,_,rfl⟩
 obtain ⟨hM,ae,gX,S,U,rfl⟩:=Y;rw [xl,take_of_length_le @f] at hM;have mo:=aG ds.length;rw [take_of_length_le @f] at mo;have ar:(aH hs.lo M0 ds).fire=false:=oJ.trans bc;generalize bF:aH hs.lo M0 ds=M1 at hM mo R q ar;have bk:=mo.sum;have aM:=hM;obtain ⟨bD,bx,bi,bh,bG,bn,bw,ma⟩:=hM;rwa[ue (λσ H3=>ii K kM Hb H3 m h (DA dl M1)/\GG H3/\∃S U,σ=[some (.ref a),some (.ref st),some (.ref dp),some (.ref m),S,U]) ?_ ?_]
 ·ext;rwa[cB ma cl cM.fire (v:= .bl M1.fire) rfl ?_];rwa[bz (by rw [ar];rfl) ?_];rwa[dS (aM.s _ _ ai) O cC.dealer (v:= .ref df) rfl ?_];exact lm.mk _ _ _ _ _ rfl aD gX aE aM @c @c (by rw [mo.len];lia) R λH' j gY I=>⟨I,gY,_,_,rfl⟩
 rintro σ' H3 ⟨aY,g3,S,U,rfl⟩;have G:sQ hs (ws.length+ds.length+M1.ws.length) (DA dl M1):=mo.deals mo.ws M1.ws.length;have h1:(DA dl M1).ws.length=M1.ws.length:=(fu _).1;have aI:(DA dl M1).fire=false:=(oK _).trans ar;generalize be:DA dl M1=M2 at aY G q h1 aI
 have br:M2.ws.length<=64:=by lia
 have bu:=G.sum;have s3:=aY.s;rwa[dS (s3 _ _ ai) O cC.house (v:= .ref h) rfl ?_];obtain ⟨_,ph,bC,a0,bp,bt⟩:=an.same s3;rwa[ao a0 rfl ?_];rwa[bQ bp ?_];rw [bt.len];rwa[⟨⟨by lia,by lia⟩,?_⟩];rwa[dh (λi σ J=>∃M',ii K kM Hb J m h M'/\IN hs wf i M2 M'/\jQ hs M2 i M'/\GG J/\∃S U,σ=[some (.ref a),some (.ref st),some (.ref dp),some (.ref m),S,U]) ⟨M2,aY,rfl,⟨rfl,λ_ _=>rfl,λ_ h=>h,Nat.le_refl _,by lia,rfl⟩,g3,_,_,rfl⟩ (λi σ J hi Y=> ?_) (λσ J Y=> ?_)]
 ·obtain ⟨M',I,hg,ah,as,S,U,rfl⟩:=Y
  have i0:(0:Int)+(i:Nat)=((i:Nat):Int):=by lia
  rw [i0]
  have il:i<hs.ls.length:=by lia
  have hl:hs.ls[i]? =some hs.ls[i]:=getElem?_eq_getElem il
  have ic:i<M2.cs.length:=by rw [G.len];exact il
  have hc:M'.cs[i]? =some M2.cs[i]:=by rw [ah.cs i @f];exact getElem?_eq_getElem ic
  have aj:mh hs.fl M2.cs[i]:=G.cs _ (getElem_mem ic);have aP:atC M' (i:Int) M2.cs[i]:=⟨by lia,by rw [show ((i:Int)).toNat=i by lia];exact hc⟩
  have aA:M'.ws.length<=64:=by have:=ah.wl;lia
  rwa[dS (I.s _ _ ai) O cC.rule (v:= .ref ru) rfl ?_];rwa[Jq.mk _ _ _ _ _ _ _ _ _ _ rfl an (by rw [show ((i:Int)).toNat=i by lia];exact hl) ak I aP aj @c (λr hr=>G.ws r (ah.ws r hr)) aA (by have:=ah.log;lia) (ah.fire.trans aI) λM'' H' az j aF=> ?_];exact ⟨M'',aF,⟨M',_,_,hg,aP,hl,az⟩,ah.go aj.len aA az,gT _ _ j as,_,_,rfl⟩
 obtain ⟨M',I,hg,ah,as,S,U,rfl⟩:=Y;rw [show ((hs.ls.length:Int)).toNat=hs.ls.length by lia] at hg;obtain ⟨aU,a8,ba,aw,a4,a6,a1,fa⟩:=I;rwa[BO.mk _ _ _ _ rfl ⟨aU,a8,ba,aw,a4,a6,a1,fa⟩ λj H4 s4 ay=> ?_];have aC:=fa.same s4;rwa[cB aC cl cM.log (v:= .ref aw) rfl ?_];rwa[ce (aR (by show 2<=1000000;decide)) λr H5 s5 n5 e5=> ?_];have bd:=aC.same s5;exact q r j aw M' H5 (W.nt.trans (Ox (by rw [a2];exact bd.s))) (gT _ _ (s4.trans s5).st as) e5 (ay.keep s5.st) hg
def zB (K:Fg)(H:Hp)(a:Addr)(fl:Int)(n:Nat):Prop:=∃p c0 so ls,aE K H a [.int fl,.ref p,c0,so]/\aE K H p ls/\ls.length=n/\2<=fl/\fl<=8/\1<=n/\n<=3
theorem zB.same {H H':Hp}{a:Addr}{fl:Int}{n:Nat}(h:zB K H a fl n)(s:ak H H'):zB K H' a fl n:=by
 obtain ⟨p,I,z,j,h1,h2,r⟩:=h;exact ⟨p,I,z,j,s.seqT h1,s.seqT h2,r⟩
theorem gu.at' {H:Hp}{h:Addr}{hs:Hs}(c:gu K H h hs):zB K H h hs.fl hs.ls.length:=by
 obtain ⟨o,p,xs,h1,h2,S⟩:=c;exact ⟨p,_,_,xs,h1,h2,S.len,o.f2,o.f8,o.l1,o.l3⟩
inductive kZ (K:Fg)(vs:List V)(H:Hp)(Q:VK)(_e:XK):Prop
 |mk (h fl n i:_) (_:vs=[.ref h,.int i]) (_:zB K H h fl n) (_:0<=i) (_:i<fl) (_:Q .non H)
theorem Do (F:bo K "need_floor" "need_floor" j4 f fd):av P w K mg base bb 1 f fd ["house","floor"] (kZ K):=by
 rwa[F.ok x9 (by intro _ _ _ _ h;cases h;subst_vars;rfl) (λj A outer s H I Q E hr h=> ?_)];obtain ⟨h,fl,n,i,rfl,⟨p,S,so,z,R,U,W,J,O,n1,Z⟩,G,Y,q⟩:=h;rwa[⟨_,(ac (au @gL @dP ap)),?_⟩];left;exact q
inductive vx (K:Fg)(vs:List V)(H:Hp)(Q:VK)(_e:XK):Prop
 |mk (h fl:_) (n:Nat) (i:Int) (_:vs=[.ref h,.int i]) (_:zB K H h fl n) (_:0<=i) (_:i<(n:Int)) (_:Q .non H)
theorem Gw (F:bo K "need_lift" "need_lift" mV f fd)(W:mg "len"=none):av P w K mg base bb 1 f fd ["house","lift"] (vx K):=by
 rwa[F.ok Al (by intro _ _ _ _ h;cases h;subst_vars;rfl) (λG A outer s H I Q E hr h=> ?_)];obtain ⟨h,fl,n,i,rfl,⟨p,Y,so,j,U,hp,R,O,S,n1,Z⟩,J,z2,q⟩:=h
 have z:(j.length:Int)=n:=by rw [R]
 rwa[⟨_,(ac (au @gL @dP ap)),?_⟩];left;exact q
inductive vw (K:Fg)(vs:List V)(H:Hp)(Q:VK)(_e:XK):Prop
 |mk (h fl n st go:_) (_:vs=[.ref h,.int st,.int go]) (_:zB K H h fl n) (_:0<=st) (_:st<fl) (_:0<=go) (_:go<fl) (_:st≠go) (_:Q .non H)
theorem Gv (F:bo K "need_ride" "need_ride" mU f fd)(U:bf P w K mg base 1 "need_floor" ["house","floor"] (kZ K)):av P w K mg base bb 2 f fd ["house","start","goal"] (vw K):=by
 rwa[F.ok Ak (by intro _ _ _ _ h;cases h;subst_vars;rfl) @Q];obtain ⟨h,fl,n,st,J,rfl,j,Y,O,S,G,R,q⟩:=h;rwa[⟨_,(aa @eY (aa @eY (ac (au @a @dP ap)))),?_⟩];rwa[kZ.mk _ _ _ _ rfl j Y O ?_];rwa[kZ.mk _ _ _ _ rfl j S G ?_];left;exact q
inductive zW (K:Fg)(vs:List V)(H:Hp)(Q:VK)(_e:XK):Prop
 |mk (h fl n a d:_) (_:vs=[.ref h,.ref a]) (_:zB K H h fl n) (_:sK H a d) (_:Dd.fit fl n d) (_:∀H',ak H H'->Q .non H')
theorem Kk (F:bo K "need_deed" "need_deed" mW f fd)(rY:bf P w K mg base 2 "need_ride" ["house","start","goal"] (vw K))(rZ:bf P w K mg base 1 "need_lift" ["house","lift"] (vx K)):av P w K mg base bb 3 f fd ["house","deed"] (zW K):=by
 rwa[F.ok Am (by intro _ _ _ _ h;cases h;subst_vars;rfl) (λR A outer s H vs Q E hr h=> ?_)];obtain ⟨h,fl,n,a,d,rfl,G,⟨Z,ok⟩,z,q⟩:=h;have O:=aE.of (K:=K) Z;rwa[⟨_,(ac (au @a @N (ac (au (cq @gj @a @a @K) @N ap)))),?_⟩]
 cases d with
 |come t s g k=>
  have O:aE K H a [.str BJ,.int t,.int s,.int g,.bl k]:=O;obtain ⟨Y,j,S,g1,W⟩:=z;rwa[ao O rfl ?_];rwa[bz rfl ?_];left;exact vw.mk _ _ _ _ _ rfl G Y j S g1 W (q _ (.refl _))
 |lf x i=>
  obtain ⟨I,U,i1⟩:=z;have O:aE K H a [.str x,.int i]:=O;rwa[ao O rfl ?_];rwa[dQ (by rw [I];decide+kernel) ?_];rwa[ao O rfl ?_];rwa[ce (aR (by show 2<=1000000;decide)) λl1 H1 j n1 J=> ?_];rwa[ux (aE.of J) rfl rfl ?_];rw [show sO (.str x) [.str "fire",.str "calm"]=false by rw [I];rfl];rwa[bz rfl ?_];rwa[ao (j.seqT O) rfl ?_];exact vx.mk _ _ _ _ rfl (G.same j) U i1 (q _ j)
 |sg x=>exact False.elim z
inductive zV (K:Fg)(vs:List V)(H:Hp)(Q:VK)(_e:XK):Prop
 |mk (st cs ws last fire:_) (_:vs=[.ref st]) (_:oh K H st cs ws last fire) (_:ws.length<=64) (_:(∀c∈cs,c.ps.length<=64)) (_:cs.length<=10) (_:∀l H',ak H H'->H' l=some (.lst ((fM cs ws).map V.int))->Q (.ref l) H')
theorem yQ {cs:List Cb}(h:∀c∈cs,c.ps.length<=64):(cs.flatMap λc=>c.ps.map (·.1)).length<=64*cs.length:=by
 induction cs with
 |nil=>simp
 |cons c cs ih=>
  rw [flatMap_cons,length_append,length_map,length_cons];have:=h c (.head _);have:=ih λc J=>h c (.tail _ J);lia
theorem Kh (F:bo K "tags_in" "tags_in" vP f fd):av P w K mg base bb 1 f fd ["state"] (zV K):=by
 rwa[F.ok xY (by intro _ _ _ _ h;cases h;subst_vars;rfl) (λar A outer s H vs Q E hr h=> ?_)];obtain ⟨st,Z,J,an,al,rfl,⟨tc,tw,xs,ys,h1,h2,h3,h4,h5⟩,wl,S,cl,q⟩:=h;have yl:ys.length=J.length:=aB h5;have xl:xs.length=Z.length:=h4.len;rwa[⟨_,(aa (eV (i:=1) rfl xY.nd rfl @o @bb @a @v @u @S) (aa (cE PassesOwn.never rfl @a @a (ac (aS (gW rfl PySem.F.plainAttrs_list PySem.F.slot_list_extend PySem.F.type_list_extend pR (wv 1) (aq (bG rfl (ax (N':=["tag","goal"]) (pk:=[none,none]) @m) @a @p @u @S) am))))) (ac (ag (wv 1))))),?_⟩];rwa[ao h1 rfl ?_];rwa[d5 h3 ?_];rwa[cK (xs:=ys) (λj z I=>ak H I/\z=((J.take j).map (·.tag)).map V.int) @bs (λj z I h=>by rw [h.2,length_map,length_map,length_take];exact Nat.min_le_left _ _) ⟨.refl _,rfl⟩ (λj z I _ h=>h.1.seqT h3) (λj y z I hy O=> ?_) (λz I O l n=> ?_)]
 ·obtain ⟨W,rfl⟩:=O;obtain ⟨r,ae,dr⟩:=bu (f:=bj.d) h5 hy;obtain ⟨ra,rfl,hT⟩:=eW (bL.same dr W);rwa[om hT rfl ?_];rwa[⟨kO,?_⟩];rwa[⟨W,?_⟩];rw [take_add_one,ae,map_append,map_append];rfl
 obtain ⟨W,rfl⟩:=O;rw [yl,take_of_length_le @f];have s2:ak I (upd I l (.lst ((J.map (·.tag)).map V.int))):= .upd n;have e2:upd I l (.lst ((J.map (·.tag)).map V.int)) l=some (.lst ((J.map (·.tag)).map V.int)):=af;generalize ap:upd I l (.lst ((J.map (·.tag)).map V.int))=H2 at s2 e2 ⊢;have n0:H l=none:=none_of W n;have U:=W.trans s2;rwa[ao (U.seqT h1) rfl ?_];rwa[d5 (U.seqT h2) ?_];rwa[yM (xs:=xs) (λi σ G=>ak H G/\G l=some (.lst ((J.map (·.tag)++(Z.take i).flatMap λc=>c.ps.map (·.1)).map V.int))/\∃o2 o3 o4 o5 o6,σ=[some (.ref st),some (.ref l),o2,o3,o4,o5,o6]) ⟨U,by rw [take_zero,flatMap_nil,append_nil];exact e2,_,_,_,_,_,rfl⟩ (λi σ G _ Y=>Y.1.seqT h2) (λi x σ G hx Y=> ?_) (λσ G Y=> ?_)]
 ·obtain ⟨sY,R,o2,o3,o4,o5,o6,rfl⟩:=Y;obtain ⟨c,hc,t,rfl,ai⟩:=h4.get1 hx;obtain ⟨b,bs,et,eb,db⟩:=ai.keep sY.st;have bl:bs.length=c.ps.length:=aB db;have aj:=S c (mem_of_getElem? hc);rwa[om @dE rfl ?_];rwa[⟨.inl ⟨rfl,_,aD.of R⟩,?_⟩];rwa[d5 @cX ?_];rwa[cK (xs:=bs) (λj z I=>ak G I/\z=((c.ps.take j).map (·.1)).map V.int) @bs (λj z I h=>by rw [h.2,length_map,length_map,length_take];exact Nat.min_le_left _ _) ⟨.refl _,rfl⟩ (λj z I _ h=>h.1.seqT @cX) (λj y z I hy O=> ?_) (λz HZ O l3 n3=> ?_)]
  ·obtain ⟨W,rfl⟩:=O;obtain ⟨p,pt,hp,rfl,ah⟩:=qR db hy;rwa[om (W.seqT ah) rfl ?_];rwa[⟨fU,?_⟩];rwa[⟨W,?_⟩];rw [take_add_one,hp,map_append,map_append];rfl
  obtain ⟨W,rfl⟩:=O;rw [bl,take_of_length_le @f];have s3:ak HZ (upd HZ l3 (.lst ((c.ps.map (·.1)).map V.int))):= .upd n3;have e3:upd HZ l3 (.lst ((c.ps.map (·.1)).map V.int)) l3=some (.lst ((c.ps.map (·.1)).map V.int)):=af;generalize as:upd HZ l3 (.lst ((c.ps.map (·.1)).map V.int))=H3 at s3 e3 ⊢;have ad:=W.trans s3;rwa[L7 (ad _ _ R) e3 (aR ?_) ?_]
  ·have h1:((Z.take i).flatMap λc=>c.ps.map (·.1)).length<=64*(Z.take i).length:=yQ λc hc=>S c (mem_of_mem_take hc)
   have h2:(Z.take i).length<=10:=by rw [length_take];lia
   simp only [length_map,length_append];lia
  ·rwa[⟨ak.updF (sY.trans ad) n0,?_,_,_,_,_,_,rfl⟩];rw [af,take_add_one,hc];simp only [Option.toList_some,flatMap_append,flatMap_cons,flatMap_nil,append_nil,map_append,append_assoc]
 obtain ⟨sY,R,o2,o3,o4,o5,o6,rfl⟩:=Y;rw [xl,take_of_length_le @f] at R;exact q l G sY R
def jE (ts:List Int)(kvs:List (dE×V)):Prop:=∀t:Int,(fL kvs (Sum.inl t)).isSome=decide (t∈ts)
theorem jE.nil:jE [] []:=λt=>by
 show (none:Option V).isSome=_;simp
theorem jE.put {ts:List Int}{j:List (dE×V)}(h:jE ts j)(t:Int)(v:V):jE (ts++[t]) (fX j (Sum.inl t) v):=λu=>by
 rw [EK];by_cases e:u=t
 ·subst e;rw [if_pos rfl];simp
 ·rw [if_neg (λz=>e (by cases z;rfl)),h u];simp [e]
theorem DR {ts:List Int}:∀ {us:List Int} {kvs:List (dE×V)},jE us kvs->jE (us++ts) (gc kvs (ts.map λt=>(Sum.inl t,V.bl true))):=by
 induction ts with
 |nil=>intro us kvs h;rw [append_nil];exact h
 |cons t ts ih=>
  intro us kvs h;have:=ih (h.put t (V.bl true));rw [append_assoc] at this;exact this
theorem Od (F:bo K "need_deeds" "need_deeds" j5 f fd)(G5:mg "dict"=none)(za:bf P w K mg base 1 "tags_in" ["state"] (zV K))(r6:bf P w K mg base 3 "need_deed" ["house","deed"] (zW K)):av P w K mg base bb 7 f fd ["house","state","deeds"] (BP K):=by
 rwa[F.ok oo (by intro _ _ _ _ h;cases h;subst_vars;rfl) (λaF A outer s H vs Q E hr h=> ?_)];obtain ⟨h,st,dl,hs,cs,ws,aA,az,ds,rfl,hH,as,⟨xd,a9,pd⟩,wl,Z,aB,an,gd,q⟩:=h;have xl:xd.length=ds.length:=pd.len;rwa[⟨_,(aa (bq (i:=3) oo.nd rfl @o (aV (I9 rfl) rfl G5 boot_dict (aq (bG rfl (ax (N':=["tag"]) (pk:=[none]) @m) @a @k @u @k) am))) (ac (cE PassesOwn.never rfl @a @a (aa @eY (ac (au @a (aa (au (NO (NW (LZ hr) @a (wv 3))) @dP ap) (ac (JM (LZ hr) (wv 3) @a fm rfl))) ap)))))),?_⟩];rwa[zV.mk _ _ _ _ _ rfl as wl Z aB λl H1 s1 e1=> ?_]
 have tl:(fM cs ws).length<=1000:=by
  unfold fM;rw [length_append,length_map];have:=yQ Z;lia
 generalize aH:fM cs ws=I at e1 gd tl;rwa[b8 @dF ?_];rwa[bK (xs:=I.map V.int) (λj R O=>ak H1 O/\Paired (λx (p:dE×V)=>∃b,x=V.ref b/\O b=some (.tup [kV p.1,p.2])) R ((I.take j).map λt=>(Sum.inl t,V.bl true))) (aR (by rw [length_map];lia)) (λj R O h=>by have:=h.2.len;rw [length_map,length_take] at this;lia) ⟨.refl _,.nil⟩ (λj R O _ h=>h.1.seq @dF) (λj y R O hy hP=> ?_) (λR O hP l2 n2=> ?_)]
 ·obtain ⟨sx,hp⟩:=hP;rw [getElem?_map] at hy;obtain ⟨v,hv,rfl⟩:=Option.map_eq_some_iff.mp hy;rwa[⟨bZ,?_⟩];rwa[ce (aR (by show 2<=1000000;decide)) λb H3 s3 n3 e3=>⟨sx.trans s3,?_⟩];rw [take_add_one,hv,map_append];exact Paired.app (Paired.imp' (λx p ⟨c,ec,hc⟩=>⟨c,ec,s3 _ _ hc⟩) hp) (.cons ⟨b,rfl,e3⟩ .nil)
 obtain ⟨sx,hp⟩:=hP;rw [length_map,take_of_length_le @f] at hp;have s2:ak O (upd O l2 (.lst R)):= .upd n2;have e2:upd O l2 (.lst R) l2=some (.lst R):=af;generalize aC:upd O l2 (.lst R)=H2 at s2 e2 ⊢;have ah:=s1.trans (sx.trans s2);rwa[⟨R,I.map λt=>(Sum.inl t,V.bl true),e2,Paired.imp' (λx p ⟨c,ec,hc⟩=>⟨c,ec,s2 _ _ hc⟩) hp,BK (by rw [length_map];lia),λd nd=> ?_⟩];have s3:ak H2 (upd H2 d (.dK (gc [] (I.map λt=>(Sum.inl t,V.bl true))))):= .upd nd;have e3:upd H2 d (.dK (gc [] (I.map λt=>(Sum.inl t,V.bl true)))) d=some (.dK (gc [] (I.map λt=>(Sum.inl t,V.bl true)))):=af;generalize aG:upd H2 d (.dK (gc [] (I.map λt=>(Sum.inl t,V.bl true))))=H3 at s3 e3 ⊢;have ay:H d=none:=none_of ah nd
 have k0:jE I (gc [] (I.map λt=>(Sum.inl t,V.bl true))):=by
  have:=DR (ts:=I) jE.nil;rw [nil_append] at this;exact this
 have aw:∀(W:List (dE×V)) (a:List (dE×V)),(gc a W).length<=a.length+W.length:=by
  intro W
  induction W with
  |nil=>intro a;exact Nat.le_refl _
  |cons p W ih=>
   intro a;have h1:=ih (fX a p.1 p.2);have h2:=dD a p.1 p.2;show (gc (fX a p.1 p.2) W).length<=_;rw [length_cons];lia
 have l0:=aw (I.map λt=>(Sum.inl t,V.bl true)) [];rw [length_map,length_nil] at l0;have ai:=ah.trans s3;generalize aI:gc [] (I.map λt=>((Sum.inl t:dE),V.bl true))=ar at e3 k0 l0;rwa[b8 (ai.seq a9) ?_];rwa[fg (xs:=xd) (λi σ Y=>ak H Y/\∃G z o4,Y d=some (.dK z)/\jE G z/\z.length<=1000+i/\yK hs.fl hs.ls.length G (ds.drop i)/\σ=[some (.ref h),some (.ref st),some (.ref dl),some (.ref d),o4]) ⟨ai,I,ar,_,e3,k0,by lia,gd,rfl⟩ (λi σ Y _ pv=>pv.1.seq a9) (λi x σ Y hx pv=> ?_) (λσ Y pv=> ?_)]
 ·obtain ⟨sY,G,z,o4,eY,kk,kl,J,rfl⟩:=pv;obtain ⟨dd,U,ad,rfl,al⟩:=pd.get1 hx;have il:i<ds.length:=(List.getElem?_eq_some_iff.mp U).1;have S:=al.same sY
  have aj:ds.drop i=dd::ds.drop (i+1):=by
   rw [drop_eq_getElem_cons il];rw [getElem?_eq_getElem il] at U;cases U;rfl
  rw [aj] at J;obtain ⟨g1,g2,g3⟩:=J;rwa[zW.mk _ _ _ _ _ rfl ((hH.same sY).at') S g1 λHZ sZ=> ?_];have ag:=sY.trans sZ;have eZ:=sZ _ _ eY;obtain ⟨ae,aJ⟩:=S.same sZ
  cases dd with
  |come t' s' g' k'=>
   have hT:aE K HZ ad [.str BJ,.int t',.int s',.int g',.bl k']:=aE.of ae;rwa[ao hT rfl ?_];rwa[bz rfl ?_];rwa[ao hT rfl ?_];rwa[⟨d,_,rfl,IK.k (k:=Sum.inl t') eZ,?_⟩];rwa[⟨_,rfl,?_⟩];rwa[aP (by rw [kk t'];exact decide_eq_false (g2 t' (.head _))) ?_];rwa[ao hT rfl ?_];rwa[⟨d,_,rfl,IJ.k (k:=Sum.inl t') eZ @ed,?_⟩];exact ⟨ak.updF ag ay,G++[t'],_,_,af,kk.put t' (.bl true),by have:=dD z (Sum.inl t') (V.bl true);lia,g3,rfl⟩
  |lf x' i'=>
   have hT:aE K HZ ad [.str x',.int i']:=aE.of ae;have g3:yK hs.fl hs.ls.length (G++[]) (ds.drop (i+1)):=g3;rw [append_nil] at g3;rwa[ao hT rfl ?_];rwa[dQ (by rw [g1.1];decide+kernel) ?_];exact ⟨ag,G,z,_,eZ,kk,by lia,g3,rfl⟩
  |sg x'=>exact False.elim g1
 ·obtain ⟨sY,G,z,o4,eY,kk,kl,J,rfl⟩:=pv;exact q Y sY
def bW (K:Fg)(H:Hp)(p:Addr)(cs:List mi):Prop:=∃xs,(aD K H p xs\/aE K H p xs)/\az K H xs (cs.map mi.d)
theorem bW.same {H H':Hp}{p:Addr}{cs:List mi}(h:bW K H p cs)(s:ak H H'):bW K H' p cs:=let ⟨xs,h1,h2⟩:=h;⟨xs,s.any h1,az.same h2 s⟩
theorem Ct {H:Hp}{x:V}{c:mi}(h:bL K H x c.d):∃a b,x= .ref a/\aE K H a [.int c.pl,.int c.li,.int c.dr,.int c.mr,.ref b]:=by
 obtain ⟨a,xs,rfl,h1,h2⟩:=h.outT
 cases h2 with|cons q0 t0=>cases t0 with|cons q1 t1=>cases t1 with|cons q2 t2=>cases t2 with|cons q3 t3=>cases t3 with|cons q4 t4=>
 cases t4;cases q0.isInt;cases q1.isInt;cases q2.isInt;cases q3.isInt;obtain ⟨b,ys,rfl,_⟩:=q4.outT;exact ⟨a,b,rfl,h1⟩
theorem AD {H:Hp}{x:V}{r:Rd}(h:bL K H x r.d):∃a,x= .ref a/\aE K H a [.int r.t,.int r.s,.int r.g,.int r.l]:=by
 obtain ⟨a,xs,rfl,h1,h2⟩:=h.outT
 cases h2 with|cons q0 t0=>cases t0 with|cons q1 t1=>cases t1 with|cons q2 t2=>cases t2 with|cons q3 t3=>
 cases t3;cases q0.isInt;cases q1.isInt;cases q2.isInt;cases q3.isInt;exact ⟨a,rfl,h1⟩
theorem bW.at {H:Hp}{p:Addr}{cs:List mi}(h:bW K H p cs){i:Int}(I:0<=i)(h1:i<cs.length){Q:VK}(g:∀c a b,cs[i.toNat]? =some c->aE K H a [.int c.pl,.int c.li,.int c.dr,.int c.mr,.ref b]->Q (.ref a) H):jF K p i H Q:=by
 obtain ⟨xs,O,G⟩:=h;have S:=aB G;obtain ⟨j,rfl⟩:=Int.eq_ofNat_of_zero_le I
 have Z:j<xs.length:=by lia
 obtain ⟨c,J,F⟩:=bu G (getElem?_eq_getElem Z);obtain ⟨a,b,z,R⟩:=Ct F;rwa[Fx O (v:= .ref a) (aK (by rw [getElem?_eq_getElem Z,z])) (g c a b ?_ R)];rw [show ((j:Int)).toNat=j by lia];exact J
theorem bW.len {H:Hp}{p:Addr}{cs:List mi}(h:bW K H p cs){Q:VK}(g:Q (.int cs.length) H):gy K p H Q:=by
 obtain ⟨xs,F,G⟩:=h;rwa[BU F ?_];rw [aB G];exact g
inductive uv (K:Fg)(vs:List V)(H:Hp)(Q:VK)(_e:XK):Prop
 |mk (a x0 x1 x2 m x4:_) (_:vs=[.ref a]) (_:aE K H a [x0,x1,x2,.int m,x4]) (_:Q (.bl (decide (m=0))) H)
theorem Ol (F:bo K "is_serving" "is_serving" j9 f fd):av P w K mg base bb 1 f fd ["cabin"] (uv K):=by
 rwa[F.ok yc (by intro _ _ _ _ h;cases h;subst_vars;rfl) @j];obtain ⟨a,G,U,R,m,z,rfl,O,q⟩:=h;rwa[⟨_,@g,?_⟩];rwa[ao O rfl ?_];exact q
abbrev bI (cs:List mi):List Bool:=cs.map mi.srv
theorem E9 {cs:List mi}{i:Nat}{c:mi}(h:cs[i]? =some c):(bI cs).getD i false=decide (c.mr=0):=by
 rw [getD_eq_getElem?_getD,getElem?_map,h];rfl
inductive Nl (K:Fg)(vs:List V)(H:Hp)(Q:VK)(_e:XK):Prop
 |mk (p cs first:_) (_:vs=[.ref p,.int first]) (_:bW K H p cs) (_:1<=cs.length) (_:cs.length<=3) (_:0<=first) (_:Q (.int (sf @ef first)) H)
theorem Ra (F:bo K "serving_from" "serving_from" gD f fd)(bE:mg "len"=none)(aZ:mg "range"=none){R:Tok}(bt:mg "NO_LIFT"=some (.int (-1) R))(fJ:bf P w K mg base 1 "is_serving" ["cabin"] (uv K)):av P w K mg base bb 2 f fd ["cabins","first"] (Nl K):=by
 have fW:aA (.int (-1)) (.int (-1) R):=⟨_,rfl⟩;rwa[F.ok tR (by intro _ _ _ _ h;cases h;subst_vars;rfl) @H];obtain ⟨p,G,first,rfl,U,c1,c3,f0,q⟩:=h;have Y:(bI G).length=G.length:=length_map _;rwa[⟨_,(aa @a (aa (cE PassesOwn.never rfl (cg rfl aZ @fE) @a (aa @a (ac (au @a (ac (ag (wv 4))) ap)))) @g)),?_⟩];rwa[U.len ?_];rwa[⟨⟨by lia,by lia⟩,?_⟩];rwa[dh (λi σ J=>J=H/\sf (bI G) first=Nu (bI G) first i (G.length - i)/\∃Z W,σ=[some (.ref p),some (.int first),some (.int G.length),Z,W]) ⟨rfl,by unfold sf;rw [Y];rfl,_,_,rfl⟩ (λi σ J hi S=> ?_) (λσ J S=> ?_)]
 ·obtain ⟨rfl,j,Z,W,rfl⟩:=S
  have hi:i<G.length:=by lia
  have i0:(0:Int)+(i:Nat)=((i:Nat):Int):=by lia
  rw [i0];have I:0<=(first+(i:Int))% (G.length:Int):=Int.emod_nonneg _ @c;have O:(first+(i:Int))% (G.length:Int)<(G.length:Int):=Int.emod_lt_of_pos _ @c;rw [show G.length - i=(G.length - (i+1))+1 by lia] at j
  have j:sf (bI G) first=if (bI G).getD ((first+(i:Int))% (bI G).length).toNat false=true then (first+(i:Int))% (bI G).length else Nu (bI G) first (i+1) (G.length - (i+1)):=j
  rw [Y] at j;rwa[⟨by lia,?_⟩];rwa[U.at I O λc a b hc hT=> ?_];rwa[uv.mk _ _ _ _ _ _ rfl hT ?_];rw [E9 hc] at j;rwa[fe @B @B]
  ·rw [if_pos @cD] at j;rw [j] at q;exact q
  ·rw [if_neg (by rw [decide_eq_false z];decide)] at j;exact ⟨rfl,j,_,_,rfl⟩
 obtain ⟨rfl,j,Z,W,rfl⟩:=S;rw [show ((G.length:Int)).toNat=G.length by lia,Nat.sub_self] at j
 have j:sf (bI G) first= -1:=j
 rw [j] at q;exact q
inductive pE (K:Fg)(vs:List V)(H:Hp)(Q:VK)(_e:XK):Prop
 |mk (p cs x1 x2 last:_) (_:vs=[.ref p,x1,x2,.int last]) (_:bW K H p cs) (_:1<=cs.length) (_:cs.length<=3) (_:0<=last) (_:∀r H',ak H H'->H' r=some (.tup [.int (sf @ef (last+1)),.int (if sf @ef (last+1)= -1 then last else sf @ef (last+1))])->Q (.ref r) H')
theorem Gn (F:bo K "by_turns" "by_turns" qH f fd){G:Tok}(bt:mg "NO_LIFT"=some (.int (-1) G))(Z:bf P w K mg base 2 "serving_from" ["cabins","first"] (Nl K)):av P w K mg base bb 3 f fd ["cabins","waiting","rider","last"] (pE K):=by
 have fW:aA (.int (-1)) (.int (-1) G):=⟨_,rfl⟩;rwa[F.ok C8 (by intro _ _ _ _ h;cases h;subst_vars;rfl) (λI A outer s H Y Q E hr h=> ?_)];obtain ⟨p,cs,x1,x2,j,rfl,J,U,W,l0,q⟩:=h;rwa[⟨_,@eV,?_⟩];rwa[Nl.mk _ _ _ rfl J U W @c ?_];rwa[fe @B @B]
 ·ext;rw [if_pos z] at q;exact ce (aR (by show 2<=1000000;decide)) λr H2 R S O=>q r H2 R O
 ·ext;rw [if_neg z] at q;exact ce (aR (by show 2<=1000000;decide)) λr H2 R S O=>q r H2 R O
theorem Ik {cs:List mi}:(bI cs).length=cs.length:=length_map _
inductive my (K:Fg)(vs:List V)(H:Hp)(Q:VK)(_e:XK):Prop
 |mk (p cs:_) (_:vs=[.ref p]) (_:bW K H p cs) (_:cs.length<=3) (_:∀l H',ak H H'->H l=none->H' l=some (.lst ((srv @ef).map λi:Nat=>V.int i))->Q (.ref l) H')
theorem Ki (F:bo K "serving" "serving" qw f fd)(cJ:mg "enumerate"=none)(fJ:bf P w K mg base 1 "is_serving" ["cabin"] (uv K)):av P w K mg base bb 2 f fd ["cabins"] (my K):=by
 rwa[F.ok C0 (by intro _ _ _ _ h;cases h;subst_vars;rfl) @H];obtain ⟨p,j,rfl,hC,c3,q⟩:=h;rwa[⟨_,(ac (ag (bG rfl (ax (N':=["lift","cabin"]) (pk:=[none,none]) @m) (BC rfl rfl cJ (wv 0)) @p @be @S))),?_⟩];obtain ⟨xs,J,hd⟩:=hC;have hl:xs.length=j.length:=aB hd
 have U:∀ys H',ak H H'/\ys=(jx (bI j) xs.length).map (λi:Nat=>V.int i)->∀p,H' p=none->Q (.ref p) (upd H' p (.lst ys)):=by
  rintro ys H' ⟨S,rfl⟩ p0 n0;rwa[q p0 _ (S.trans (.upd n0)) ?_ ?_]
  ·cases z:H p0 with
   |none=>rfl
   |some o=>rw [S _ _ z] at n0;cases n0
  ·rw [af,hl,<-Ik (cs:=j)]
 have Z:∀(i:Nat) x (ys:List V) H1 T H',xs[i]? =some x->(ak H H1/\ys=(jx (bI j) i).map (λi:Nat=>V.int i))->ak H1 H'->H' T=some (.tup [.int i,x])->∃c a b,x= .ref a/\j[i]? =some c/\aE K H' a [.int c.pl,.int c.li,.int c.dr,.int c.mr,.ref b]/\aE K H' T [.int i,.ref a]/\ak H H':=by
  rintro i x ys H1 T H' G ⟨S,_⟩ R I;obtain ⟨c,O,dc⟩:=bu hd G;obtain ⟨a,b,rfl,ha⟩:=Ct dc;exact ⟨c,a,b,rfl,O,(S.trans R).seqT ha,aE.of I,S.trans R⟩
 have aa:∀(i:Nat) (c:mi),j[i]? =some c->jx (bI j) (i+1)=jx (bI j) i++(if decide (c.mr=0)=true then [i] else []):=λi c O=>by rw [CQ,E9 O]
 have Y:∀(i:Nat) x (ys:List V) H1 T H',xs[i]? =some x->(ak H H1/\ys=(jx (bI j) i).map (λi:Nat=>V.int i))->ak H1 H'->H' T=some (.tup [.int i,x])->CK K 2 T H' λxs=>
  zL (jJ 0) (zL (jJ 1) LH) xs (bM [none,none] (L2.start [Str.ofString "cabins"] [V.ref p])) H' λσ2 H2=>pA (bM [none,none] (L2.start [Str.ofString "cabins"] [V.ref p])) σ2/\
   P6 K (p9 (uv K) [] E0 (E2 (EG 1) Jl)) σ2 H2 λb H3=>if b=true then EG 0 σ2 H3 λv H4=>ak H H4/\ys++[v]=List.map (λi:Nat=>V.int i) (jx (bI j) (i+1)) else ak H H3/\ys=List.map (λi:Nat=>V.int i) (jx (bI j) (i+1)):=by
  intro i x ys H1 T H' G W R I;obtain ⟨c,a,b,rfl,O,ha,hT,s3⟩:=Z i x ys H1 T H' G W R I;rwa[om hT rfl ?_];rwa[⟨⟨rfl,λi v h=>match i,h with|0,h=>(nomatch h)|1,h=>(nomatch h)|(i+2),h=>(nomatch h)⟩,?_⟩];rwa[uv.mk _ _ _ _ _ _ rfl ha ?_];show if decide (c.mr=0)=true then _ else _;by_cases z:c.mr=0
  ·rw [if_pos @cD];rwa[⟨s3,?_⟩];rw [aa i c O,if_pos @cD,W.2,map_append];rfl
  ·rw [if_neg (by rw [decide_eq_false z];decide)];rwa[⟨s3,?_⟩];rw [aa i c O,if_neg (by rw [decide_eq_false z];decide),W.2,append_nil]
 ext
 rcases J with J|J
 ·rwa[.inl ⟨xs,J,?_⟩];exact HW (xs:=xs) (λi ys H'=>ak H H'/\ys=(jx (bI j) i).map (λi:Nat=>V.int i)) @bs (λi ys H' h=>by rw [h.2,length_map];exact xU) ⟨.refl _,rfl⟩ (λi ys H' _ h=>h.1.seq J) (λi x ys H1 T H' G W R I=>Y i x ys H1 T H' G W R I) (λys H' h=>U ys H' h)
 ·rwa[.inr ⟨xs,J,?_⟩];exact HV (xs:=xs) (λi ys H'=>ak H H'/\ys=(jx (bI j) i).map (λi:Nat=>V.int i)) @bs (λi ys H' h=>by rw [h.2,length_map];exact xU) ⟨.refl _,rfl⟩ (λi ys H' _ h=>h.1.seqT J) (λi x ys H1 T H' G W R I=>Y i x ys H1 T H' G W R I) (λys H' h=>U ys H' h)
theorem aD.nt {H H':Hp}(s:aT H H'){a:Addr}{xs:List V}(h:aD K H a xs):aD K H' a xs:=by
 rcases h with (h|⟨o,h⟩)|h
 ·exact .inl (.inl (s _ _ (λps z=>by cases z) h))
 ·exact .inl (.inr ⟨o,s _ _ (λps z=>by cases z) h⟩)
 ·exact .inr h
theorem aE.nt {H H':Hp}(s:aT H H'){a:Addr}{xs:List V}(h:aE K H a xs):aE K H' a xs:=by
 rcases h with (h|⟨o,h⟩)|h
 ·exact .inl (.inl (s _ _ (λps z=>by cases z) h))
 ·exact .inl (.inr ⟨o,s _ _ (λps z=>by cases z) h⟩)
 ·exact .inr h
theorem bL.nt {H H':Hp}(s:aT H H'){x:V}{d:D}(h:bL K H x d):bL K H' x d:=by
 induction h with
 |non=>exact .non
 |bl a=>exact .bl a
 |int a=>exact .int a
 |str a=>exact .str a
 |lst h hl hi ih=>exact .lst (aD.nt s h) hl λi x d S O=>ih i x d S O
 |tup h hl hi ih=>exact .tup (aE.nt s h) hl λi x d S O=>ih i x d S O
theorem az.nt {H H':Hp}(s:aT H H'){xs:List V}{ds:List D}(h:az K H xs ds):az K H' xs ds:=Paired.imp' (λ_ _ z=>bL.nt s z) h
theorem bW.nt {H H':Hp}(s:aT H H'){p:Addr}{cs:List mi}(h:bW K H p cs):bW K H' p cs:=let ⟨xs,h1,h2⟩:=h;⟨xs,h1.elim (λz=> .inl (aD.nt s z)) (λz=> .inr (aE.nt s z)),az.nt s h2⟩
theorem JQ {cs:List mi}{i:Nat}{c:mi}(h:cs[i]? =some c):NQ cs i=c.pl:=by unfold NQ;rw [h]
theorem CF {cs:List mi}{i:Nat}{c:mi}(h:cs[i]? =some c):Pc cs i=c.ab.length:=by unfold Pc;rw [h]
theorem je {cs:List mi}{i:Nat}{v:V}(h:((srv @ef).map λi:Nat=>V.int i)[i]? =some v):∃j,(srv @ef)[i]? =some j/\v= .int (j:Nat)/\(srv @ef).getD i 0=j/\j<cs.length:=by
 rw [getElem?_map] at h;obtain ⟨j,Z,rfl⟩:=Option.map_eq_some_iff.mp h;rwa[⟨j,Z,rfl,by rw [getD_eq_getElem?_getD,Z];rfl,?_⟩];have:=(pD.mp (mem_of_getElem? Z)).1;rw [Ik] at this;exact this
def G3:Expr->Expr
 | .Call _ _ (⟨_,l,_⟩::_) _=>l
 |e=>e
noncomputable def B7:Expr:=match be eS with
 |[_,.Return (some (.Tuple (e::_) _ _)) _]=>G3 e
 |_=> .Constant .none 0 ⟨0,0,0,0⟩
noncomputable def yA:Expr:=match be cP with
 |[_,.Assign _ e _,_]=>G3 e
 |_=> .Constant .none 0 ⟨0,0,0,0⟩
def KM (st:Stmt):Expr->Scope
 | .Lambda _ _ sc _=>sc
 |_=>ae st
theorem OJ:jd ["lift"] ["cabins","place"] (KM eS B7):=⟨rfl,rfl,rfl,by decide+kernel,by decide+kernel,by decide+kernel,by decide+kernel,by decide+kernel⟩
theorem KN:jd ["lift"] ["cabins","dealt"] (KM cP yA):=⟨rfl,rfl,rfl,by decide+kernel,by decide+kernel,by decide+kernel,by decide+kernel,by decide+kernel⟩
abbrev qN:Str:="near"++".<locals>."++"<lambda>"
abbrev qL:Str:="least"++".<locals>."++"<lambda>"
inductive vv (K:Fg)(Pn:Addr)(vs:List V)(H:Hp)(Q:VK)(_e:XK):Prop
 |mk (p cs x1 rv r last:_) (_:vs=[.ref p,x1,rv,.int last]) (_:bW K H p cs) (_:cs.length<=3) (_:bL K H rv (Rd.d r)) (_:cf H Pn qN) (_:∀m t H',eR @ef (uC cs r.s) m->eJ Pn H H'->cf H' Pn qN->H' t=some (.tup [.int m,.int last])->Q (.ref t) H')
theorem Kl {c Pn:Addr}{kV af pm ct oc:Value}{an od:Option Addr}{aw:Array @E}{t1:Tok}(lk:K.lookup f=some ⟨oc,od,.func (W.fnOf "near" "near" (bB eS) (be eS) @gY .none kV af pm an (.ref c) ct),aw⟩)(al:W.codeIn K (.ref c) "near"=true)
(I:PySem.W.CodeHd base c Pn)(Y:ij base mg)(wq:mg "min"=none)(OI:mg "abs"=none)(bt:mg "NO_LIFT"=some (.int (-1) t1))(lV:bf P w K mg base 2 "serving" ["cabins"] (my K)):
 av P w K mg base bb 5 f (W.fnOf "near" "near" (bB eS) (be eS) @gY .none kV af pm an (.ref c) ct) ["cabins","waiting","rider","last"] (vv K Pn):=by
 have fW:aA (.int (-1)) (.int (-1) t1):=⟨_,rfl⟩;rwa[yO lk al Ny @bi @cu]
 ·obtain ⟨p,F,x1,rv,r,O,rfl,_⟩:=h;rfl
 obtain ⟨p,F,x1,rv,r,O,rfl,hC,c3,ap,G,q⟩:=h;have J:PySem.closureFor (KM eS B7) (envOfC "near" (ae eS) s.heap.objs.size f (.ref c))=(pure [("place",s.heap.objs.size+1+1),("cabins",s.heap.objs.size+1)]:Sem (List (Str×Addr))):=rfl;have ah:oW (io bb P w K mg base ["cabins","waiting","rider","last","place"] "near" (ae eS) f (.ref c) A outer s H E).nox ["cabins","place"] [0,4] [("place",s.heap.objs.size+1+1),("cabins",s.heap.objs.size+1)]:=oW.two @b rfl rfl rfl rfl rfl rfl (.inr rfl);have U:=OJ;rwa[⟨_,(aa @a (ac (ag (jT (aq (Gd rfl rfl wq hr @a (AI rfl I Y rfl J) @a U ah rfl (λ_ _ _=>rfl) (λ_ _ s H hr=>(aM P4 rfl OI boot_abs @I))) (aq (wv 3) am)))))),?_⟩];obtain ⟨ra,rfl,ai⟩:=AD ap;rwa[ao ai rfl ?_];rwa[⟨cy @b @b,?_⟩];rwa[my.mk _ _ rfl hC c3 λl H1 s1 n1 e1=> ?_];rwa[⟨G.same s1,λf' c' ar H2 sP nf ef ec as=> ?_⟩];obtain ⟨ps,hP,_⟩:=G.same s1;have sN:=sP.nt hP;have e2:H2 l=some (.lst ((srv (bI F)).map λi:Nat=>V.int i)):=sN l _ (λps z=>by cases z) e1;have aO:bW K H2 p F:=(hC.same s1).nt sN
 have ad:∀m Z,eR (bI F) (uC F r.s) m->ak H2 Z->OF [.int m,.int O] Z Q:=λm Z hb S=>
  ce (aR (by show 2<=1000000;decide)) λt H4 s4 n4 e4=>q m t H4 hb (λb o nb z=>s4 _ _ (S _ _ (sP b o nb (s1 b o z)))) ((as.same S).same s4) e4
 show ∃l f xs,_;rwa[⟨l,f',_,rfl,rfl,e2,λhx=> ?_,λhx=> ?_⟩]
 ·have hs:srv (bI F)=[]:=map_eq_nil_iff.mp hx;exact ad (-1) H2 (w6 hs) (.refl _)
 ·rwa[⟨c',ar,[.ref p,.int (2*r.s)],λi=>uC F r.s ((srv (bI F)).getD i 0),λZ=>ak H2 Z,rfl,.refl _,λZ S=>⟨S _ _ e2,S _ _ ef,S _ _ ec⟩,λi v Z hv S=> ?_,λi v Z hv hb S=> ?_⟩]
  ·obtain ⟨j,hj,rfl,gj,jl⟩:=je hv;rwa[(aO.same S).at (by lia) @c λcb a b R au=> ?_];rwa[ao au rfl ?_];rwa[⟨?_,S⟩];have R:F[j]? =some cb:=R;show V.int _=V.int (uC F r.s ((srv (bI F)).getD i 0));rw [gj];unfold uC RT;rw [JQ R]
  ·obtain ⟨j,hj,rfl,gj,jl⟩:=je hv;rwa[ad _ Z (w5 hj λi' aj=> ?_) S];exact hb i' (by rw [length_map];exact aj)
theorem Ih {H:Hp}{x:V}{c:mi}(h:bL K H x c.d):∃a b ys,x= .ref a/\aE K H a [.int c.pl,.int c.li,.int c.dr,.int c.mr,.ref b]/\aE K H b ys/\ys.length=c.ab.length:=by
 obtain ⟨a,xs,rfl,h1,h2⟩:=h.outT
 cases h2 with|cons q0 t0=>cases t0 with|cons q1 t1=>cases t1 with|cons q2 t2=>cases t2 with|cons q3 t3=>cases t3 with|cons q4 t4=>
 cases t4;cases q0.isInt;cases q1.isInt;cases q2.isInt;cases q3.isInt;obtain ⟨b,ys,rfl,z,S⟩:=q4.outT;exact ⟨a,b,ys,rfl,h1,z,by have:=S.length;rw [length_map] at this;exact this⟩
theorem bW.at2 {H:Hp}{p:Addr}{cs:List mi}(h:bW K H p cs){i:Int}(I:0<=i)(h1:i<cs.length){Q:VK}(g:∀c a b ys,cs[i.toNat]? =some c->aE K H a [.int c.pl,.int c.li,.int c.dr,.int c.mr,.ref b]->aE K H b ys->ys.length=c.ab.length->Q (.ref a) H):jF K p i H Q:=by
 obtain ⟨xs,O,G⟩:=h;have W:=aB G;obtain ⟨j,rfl⟩:=Int.eq_ofNat_of_zero_le I
 have Z:j<xs.length:=by lia
 obtain ⟨c,J,F⟩:=bu G (getElem?_eq_getElem Z);obtain ⟨a,b,ys,z,R,U,S⟩:=Ih F;rwa[Fx O (v:= .ref a) (aK (by rw [getElem?_eq_getElem Z,z])) (g c a b ys ?_ R U S)];rw [show ((j:Int)).toNat=j by lia];exact J
def Mi (K:Fg)(H:Hp)(p:Addr)(rs:List Rd):Prop:=∃xs,(aD K H p xs\/aE K H p xs)/\az K H xs (rs.map Rd.d)
abbrev fA (rs:List Rd):List Int:=rs.map λr=>r.l
inductive BQ (K:Fg)(Pl:Addr)(vs:List V)(H:Hp)(Q:VK)(_e:XK):Prop
 |mk (p cs wp rs x2 last:_) (_:vs=[.ref p,.ref wp,x2,.int last]) (_:bW K H p cs) (_:cs.length<=3) (_:Mi K H wp rs) (_:rs.length<=64) (_:cf H Pl qL) (_:∀m t H',eR @ef (fP cs (fA rs)) m->eJ Pl H H'->cf H' Pl qL->H' t=some (.tup [.int m,.int last])->Q (.ref t) H')
theorem GF {c Pl:Addr}{kV aG pm ct oc:Value}{an od:Option Addr}{aJ:Array @E}{t1:Tok}(lk:K.lookup f=some ⟨oc,od,.func (W.fnOf "least" "least" (bB cP) (be cP) @gZ .none kV aG pm an (.ref c) ct),aJ⟩)(aI:W.codeIn K (.ref c) "least"=true)
(al:PySem.W.CodeHd base c Pl)(aF:ij base mg)(wq:mg "min"=none)(bE:mg "len"=none)(bt:mg "NO_LIFT"=some (.int (-1) t1))(lV:bf P w K mg base 2 "serving" ["cabins"] (my K)):
 av P w K mg base bb 5 f (W.fnOf "least" "least" (bB cP) (be cP) @gZ .none kV aG pm an (.ref c) ct) ["cabins","waiting","rider","last"] (BQ K Pl):=by
 have fW:aA (.int (-1)) (.int (-1) t1):=⟨_,rfl⟩;rwa[yO lk aI vJ @bi @cu]
 ·obtain ⟨p,J,wp,I,x2,ah,rfl,_⟩:=h;rfl
 obtain ⟨p,J,wp,I,x2,ah,rfl,hC,c3,hR,aK,S,q⟩:=h;have az:PySem.closureFor (KM cP yA) (envOfC "least" (ae cP) s.heap.objs.size f (.ref c))=(pure [("dealt",s.heap.objs.size+1+1),("cabins",s.heap.objs.size+1)]:Sem (List (Str×Addr))):=rfl;have aH:oW (io bb P w K mg base ["cabins","waiting","rider","last","dealt","fewest"] "least" (ae cP) f (.ref c) A outer s H E).nox ["cabins","dealt"] [0,4] [("dealt",s.heap.objs.size+1+1),("cabins",s.heap.objs.size+1)]:=oW.two @b rfl rfl rfl rfl rfl rfl (.inr rfl);have aE:=KN;rwa[⟨_,(aa (bq (i:=4) vJ.nd rfl @dv (bG rfl @bb @a @v @u (λC s H ex=>(wv 3)))) (aa (bq (i:=5) vJ.nd rfl @o (Gd rfl rfl wq hr @a (AI rfl al aF rfl az) @a aE aH rfl (λ_ _ _=>rfl) (λ_ _ s H hr=>(dO @eM @a (gW rfl PySem.F.plainAttrs_list PySem.F.slot_list_count PySem.F.type_list_count (Ja rfl) (wv 2) @fF))))) @g)),?_⟩];obtain ⟨xs,U,hd⟩:=hR;have hl:xs.length=I.length:=aB hd;ext
 rcases U with U|U
 ·rwa[b8 U ?_];rwa[bK (xs:=xs) (λi ys H'=>ak H H'/\ys=((fA I).take i).map V.int) @bs (λi ys H' h=>by rw [h.2,length_map];exact length_take_le _ _) ⟨.refl _,rfl⟩ (λi ys H' _ h=>h.1.seq U) (λi x ys H' aj Z=> ?st) (λys H1 Z d n0=> ?rs)]
  case st=>
   obtain ⟨r,as,dr⟩:=bu hd aj;obtain ⟨a,rfl,hT⟩:=AD (bL.same dr Z.1);rwa[om hT rfl ?_];rwa[⟨⟨rfl,λi v h=>match i,h with|0,h=>(nomatch h)|1,h=>(nomatch h)|2,h=>(nomatch h)|3,h=>(nomatch h)|(i+4),h=>(nomatch h)⟩,?_⟩];rwa[⟨Z.1,?_⟩];rw [Z.2,take_add_one,getElem?_map,as,map_append];rfl
  have e1:upd H1 d (.lst (((fA I).take xs.length).map V.int)) d=some (.lst ((fA I).map V.int)):=by rw [af,take_of_length_le (by rw [length_map];lia)]
  have s1:ak H (upd H1 d (.lst (((fA I).take xs.length).map V.int))):=Z.1.trans (.upd n0);rw [Z.2];generalize upd H1 d (.lst (((fA I).take xs.length).map V.int))=H2 at e1 s1;rwa[my.mk _ _ rfl @hh c3 λl H3 s3 n3 e3=> ?_];have O:=s1.trans s3;rwa[⟨S.same O,λf' c' au H4 sP nf ef ec aw=> ?_⟩];obtain ⟨ps,ai,_⟩:=S.same O;have sN:=sP.nt ai;have e4:H4 l=some (.lst ((srv (bI J)).map λi:Nat=>V.int i)):=sN l _ (λps z=>by cases z) e3;have ed:H4 d=some (.lst ((fA I).map V.int)):=sN d _ (λps z=>by cases z) (s3 _ _ e1);have aC:bW K H4 p J:=(hC.same O).nt sN
  have ad:∀m Y,eR (bI J) (fP J (fA I)) m->ak H4 Y->OF [.int m,.int ah] Y Q:=λm Y hb G=>
   ce (aR (by show 2<=1000000;decide)) λt H6 s6 n6 e6=>q m t H6 hb (λb o nb z=>s6 _ _ (G _ _ (sP b o nb (O b o z)))) ((aw.same G).same s6) e6
  show ∃l f xs,_;rwa[⟨l,f',_,rfl,rfl,e4,λU=> ?_,λU=> ?_⟩]
  ·have hs:srv (bI J)=[]:=map_eq_nil_iff.mp U;exact ad (-1) H4 (w6 hs) (.refl _)
  ·rwa[⟨c',au,[.ref p,.ref d],λi=>fP J (fA I) ((srv (bI J)).getD i 0),λY=>ak H4 Y,rfl,.refl _,λY G=>⟨G _ _ e4,G _ _ ef,G _ _ ec⟩,λi v Y hv G=> ?_,λi v Y hv hb G=> ?_⟩]
   ·obtain ⟨j,hj,rfl,gj,jl⟩:=je hv;rwa[(aC.same G).at2 @c @c λcb a b ys R ap hb hy=> ?_];rwa[ao ap rfl ?_];rwa[bQ hb ?_];rwa[⟨.inl ⟨rfl,_,aD.of @fZ⟩,?_⟩];rwa[⟨fA I,aD.of @fZ,?_⟩];rwa[⟨?_,G⟩];have R:J[j]? =some cb:=R;show V.int _=V.int (fP J (fA I) ((srv (bI J)).getD i 0));rw [gj];unfold fP;rw [CF R,hy]
   ·obtain ⟨j,hj,rfl,gj,jl⟩:=je hv;rwa[ad _ Y (w5 hj λi' ar=> ?_) G];exact hb i' (by rw [length_map];exact ar)
 ·rwa[d5 U ?_];rwa[cK (xs:=xs) (λi ys H'=>ak H H'/\ys=((fA I).take i).map V.int) @bs (λi ys H' h=>by rw [h.2,length_map];exact length_take_le _ _) ⟨.refl _,rfl⟩ (λi ys H' _ h=>h.1.seqT U) (λi x ys H' aj Z=> ?stT) (λys H1 Z d n0=> ?rsT)]
  case stT=>
   obtain ⟨r,as,dr⟩:=bu hd aj;obtain ⟨a,rfl,hT⟩:=AD (bL.same dr Z.1);rwa[om hT rfl ?_];rwa[⟨⟨rfl,λi v h=>match i,h with|0,h=>(nomatch h)|1,h=>(nomatch h)|2,h=>(nomatch h)|3,h=>(nomatch h)|(i+4),h=>(nomatch h)⟩,?_⟩];rwa[⟨Z.1,?_⟩];rw [Z.2,take_add_one,getElem?_map,as,map_append];rfl
  have e1:upd H1 d (.lst (((fA I).take xs.length).map V.int)) d=some (.lst ((fA I).map V.int)):=by rw [af,take_of_length_le (by rw [length_map];lia)]
  have s1:ak H (upd H1 d (.lst (((fA I).take xs.length).map V.int))):=Z.1.trans (.upd n0);rw [Z.2];generalize upd H1 d (.lst (((fA I).take xs.length).map V.int))=H2 at e1 s1;rwa[my.mk _ _ rfl @hh c3 λl H3 s3 n3 e3=> ?_];have O:=s1.trans s3;rwa[⟨S.same O,λf' c' au H4 sP nf ef ec aw=> ?_⟩];obtain ⟨ps,ai,_⟩:=S.same O;have sN:=sP.nt ai;have e4:H4 l=some (.lst ((srv (bI J)).map λi:Nat=>V.int i)):=sN l _ (λps z=>by cases z) e3;have ed:H4 d=some (.lst ((fA I).map V.int)):=sN d _ (λps z=>by cases z) (s3 _ _ e1);have aC:bW K H4 p J:=(hC.same O).nt sN
  have ad:∀m Y,eR (bI J) (fP J (fA I)) m->ak H4 Y->OF [.int m,.int ah] Y Q:=λm Y hb G=>
   ce (aR (by show 2<=1000000;decide)) λt H6 s6 n6 e6=>q m t H6 hb (λb o nb z=>s6 _ _ (G _ _ (sP b o nb (O b o z)))) ((aw.same G).same s6) e6
  show ∃l f xs,_;rwa[⟨l,f',_,rfl,rfl,e4,λU=> ?_,λU=> ?_⟩]
  ·have hs:srv (bI J)=[]:=map_eq_nil_iff.mp U;exact ad (-1) H4 (w6 hs) (.refl _)
  ·rwa[⟨c',au,[.ref p,.ref d],λi=>fP J (fA I) ((srv (bI J)).getD i 0),λY=>ak H4 Y,rfl,.refl _,λY G=>⟨G _ _ e4,G _ _ ef,G _ _ ec⟩,λi v Y hv G=> ?_,λi v Y hv hb G=> ?_⟩]
   ·obtain ⟨j,hj,rfl,gj,jl⟩:=je hv;rwa[(aC.same G).at2 @c @c λcb a b ys R ap hb hy=> ?_];rwa[ao ap rfl ?_];rwa[bQ hb ?_];rwa[⟨.inl ⟨rfl,_,aD.of @fZ⟩,?_⟩];rwa[⟨fA I,aD.of @fZ,?_⟩];rwa[⟨?_,G⟩];have R:J[j]? =some cb:=R;show V.int _=V.int (fP J (fA I) ((srv (bI J)).getD i 0));rw [gj];unfold fP;rw [CF R,hy]
   ·obtain ⟨j,hj,rfl,gj,jl⟩:=je hv;rwa[ad _ Y (w5 hj λi' ar=> ?_) G];exact hb i' (by rw [length_map];exact ar)
inductive Dk where
 |near|least|turns
def rV (c:Cb):mi:=⟨c.pl,c.li,c.dr,c.mr,c.ps⟩
def Tc (r:bj):Rd:=⟨r.tag,r.start,r.goal,r.lift⟩
noncomputable def Im (bs:List Bool)(ws:Nat->Int):Int:=Classical.epsilon (eR bs ws)
theorem CA {bs:List Bool}{ws:Nat->Int}{m:Int}(h:eR bs ws m):m=Im bs ws:=h.uniq (Classical.epsilon_spec ⟨m,h⟩)
def ur (cs:List Cb)(last:Int):Int:=sf (bI @di) (last+1)
noncomputable def xn:Dk->xo
 | .near=>λcs ws r last=>(Im (bI @di) (uC @di r.start),last)
 | .least=>λcs ws r last=>(Im (bI @di) (fP @di (fA (ws.map Tc))),last)
 | .turns=>λcs ws r last=>(ur cs last,if ur cs last= -1 then last else ur cs last)
def qK:List Cb->List bj->bj->Int->Prop:=λcs ws r last=>1<=cs.length/\cs.length<=3/\ws.length<=64/\0<=last
abbrev Lv:Addr:=800
abbrev QV:Str:="ill_of"++".<locals>."++"<lambda>"
def sJ (Pn Pl:Addr)(H:Hp):Prop:=cf H Pn qN/\cf H Pl qL/\cf H Lv QV
theorem lQ {Pn Pl:Addr}:GT @cv:=λH H' s h=>⟨h.1.st s,h.2.1.st s,h.2.2.st s⟩
theorem wX {H:Hp}{tc:Addr}{xs:List V}{cs:List Cb}(h1:H tc=some (.tup xs))(h2:Paired (d8 K H) xs cs):bW K H tc @di:=by
 rwa[⟨xs,.inr (aE.of h1),?_⟩];rw [map_map];rwa[PySem.Paired.of (by rw [length_map];exact h2.len) λi x d S O=> ?_];rw [getElem?_map] at O;obtain ⟨c,J,t,rfl,z⟩:=h2.get1 S;rw [J] at O;cases O;exact z.den
theorem NK {H:Hp}{G:Addr}{ys:List V}{ws:List bj}(h1:H G=some (.tup ys))(h2:az K H ys @gi):Mi K H G (ws.map Tc):=by
 rwa[⟨ys,.inr (aE.of h1),?_⟩];rw [map_map];exact h2
def Dk.ad (kn kl kT:Addr):Dk->Addr
 | .near=>kn| .least=>kl| .turns=>kT
theorem O8 {Pn Pl kn kl kT:Addr}(R:Pn≠Pl)(G:Pn≠Lv)(aa:Pl≠Lv)(cn:ip P w K mg base 5 kn (vv K Pn))(cl:ip P w K mg base 5 kl (BQ K Pl))(ct:ip P w K mg base 3 kT (pE K))(k:Dk):ip P w K mg base 5 (k.ad kn kl kT) @ei:=by
 cases k with
 |near=>
  rwa[cn.imp @f λvs H Q E h=> ?_];obtain ⟨tc,tw,x,cs,ws,r,O,xs,ys,rfl,h1,h2,S,Z,I,Y,⟨U,z,J,l0⟩,q⟩:=h;rwa[vv.mk _ _ _ _ (Tc r) _ rfl (wX h1 h2) (by rw [length_map];exact z) I Y.1 λm t H' hb j F e=> ?_];obtain ⟨ps,W,_⟩:=id Y.1;rwa[q t H' (j.nt W) ⟨F,Y.2.1.sameP j W R.symm,Y.2.2.sameP j W G.symm⟩ ?_];rw [CA hb] at e;exact e
 |least=>
  rwa[cl.imp @f λvs H Q E h=> ?_];obtain ⟨tc,tw,x,cs,ws,r,O,xs,ys,rfl,h1,h2,S,Z,I,Y,⟨U,z,J,l0⟩,q⟩:=h;rwa[BQ.mk _ _ _ _ _ _ rfl (wX h1 h2) (by rw [length_map];exact z) (NK S Z) (by rw [length_map];exact J) Y.2.1 λm t H' hb j F e=> ?_];obtain ⟨ps,W,_⟩:=id Y.2.1;rwa[q t H' (j.nt W) ⟨Y.1.sameP j W R,F,Y.2.2.sameP j W aa.symm⟩ ?_];rw [CA hb] at e;exact e
 |turns=>
  rwa[ct.imp @b λvs H Q E h=> ?_];obtain ⟨tc,tw,x,cs,ws,r,O,xs,ys,rfl,h1,h2,S,Z,I,Y,⟨U,z,J,l0⟩,q⟩:=h;rwa[pE.mk _ _ _ _ _ rfl (wX h1 h2) (by rw [length_map];exact U) (by rw [length_map];exact z) l0 λt H' s e=> ?_];exact q t H' s.nt (lQ _ _ s.st Y) e
abbrev wo:Str:=Str.ofString "o"
abbrev wx:Str:=Str.ofString "x"
abbrev wu:Str:=Str.ofString "u"
abbrev wd:Str:=Str.ofString "d"
abbrev ws:Str:=Str.ofString "s"
noncomputable def iz (li he up dn:Int):Str:=if he=2 then wo else if he=1/\((li=1/\up=0)\/(li= -1/\dn=0)) then wx else if li= -1/\0<dn then wd else if 0<up then wu else if 0<dn then wd else ws
noncomputable def Ri (he up dn:Int):Str:=if 0<he then (if he=2 then wo else wx) else if 0<up/\(dn=0\/up<=dn) then wu else if 0<dn then wd else ws
noncomputable def xW (top fl li he:Int):Str:=if he=2 then wo else if he=1/\((fl=top/\li=1)\/(fl=0/\li= -1)) then wx else if li= -1 then (if fl≠0 then wd else wu) else if fl≠top then wu else wd
noncomputable def yH (fl li he up dn:Int):Str:=if iz li he up dn=ws/\fl≠0 then wd else iz li he up dn
theorem i8.li {li U F j:Int}(s:i8 li U F j):li= -1\/li=0\/li=1:=by have:=s.l0;have:=s.l1;lia
theorem i8.he {li U F j:Int}(s:i8 li U F j):U=0\/U=1\/U=2:=by have:=s.h0;have:=s.h1;lia
inductive kY (vs:List V)(H:Hp)(Q:VK)(_e:XK):Prop
 |mk (li he up dn:Int) (_:vs=[.int li,.int he,.int up,.int dn]) (_:i8 li he up dn) (_:Q (.str (iz li he up dn)) H)
theorem Nh {H:Hp}{Q:VK}{x y:Str}(q:Q (.str x) H)(e:x=y):Q (.str y) H:=e▸q
set_option maxHeartbeats 0 in
theorem Gr (F:bo K "swept" "swept" Au f fd):av P w K mg base bb 1 f fd ["light","here","up","down"] kY:=by
 rwa[F.ok Jz @ej (λJ A outer s H I Q E W h=> ?_)]
 ·obtain ⟨li,U,R,G,rfl,_⟩:=h;rfl
 obtain ⟨li,U,R,G,rfl,sn,q⟩:=h;rwa[⟨_,(aa @G (aa @G (aa @G (aa @G @g)))),?_⟩];have Y:=sn.u0;have S:=sn.d0;have j:=sn.li;have O:=sn.he;clear sn
 iterate 16 (all_goals (try ((ext);first|refine bz rfl ?_|refine aP rfl ?_|refine eO @c ?_|refine dQ @c ?_|refine fe @B @B)))
 all_goals
  rwa[Nh q ?_];unfold iz
  repeat (first|rw [if_pos @c]|rw [if_neg @c])
inductive mE (vs:List V)(H:Hp)(Q:VK)(_e:XK):Prop
 |mk (he up dn:Int) (_:vs=[.int he,.int up,.int dn]) (_:0<=he) (_:he<=2) (_:0<=up) (_:0<=dn) (_:Q (.str (Ri he up dn)) H)
set_option maxHeartbeats 0 in
theorem AR (F:bo K "nearest" "nearest" qy f fd):av P w K mg base bb 1 f fd ["here","up","down"] mE:=by
 rwa[F.ok C1 @ej @j]
 ·obtain ⟨U,J,G,rfl,_⟩:=h;rfl
 obtain ⟨U,J,G,rfl,O,h1,Y,S,q⟩:=h;rwa[⟨_,(aa @M (aa @G @g)),?_⟩]
 iterate 16 (all_goals (try ((ext);first|refine bz rfl ?_|refine aP rfl ?_|refine eO @c ?_|refine dQ @c ?_|refine fe @B @B)))
 all_goals
  rwa[Nh q ?_];unfold Ri
  repeat (first|rw [if_pos @c]|rw [if_neg @c])
inductive jW (vs:List V)(H:Hp)(Q:VK)(_e:XK):Prop
 |mk (top fl li he:Int) (_:vs=[.int top,.int fl,.int li,.int he]) (_: -1<=li) (_:li<=1) (_:0<=he) (_:he<=2) (_:0<top) (_:Q (.str (xW top fl li he)) H)
set_option maxHeartbeats 0 in
theorem yr (F:bo K "shuttled" "shuttled" mP f fd):av P w K mg base bb 1 f fd ["top","floor","light","here"] jW:=by
 rwa[F.ok Ah @ej @ct]
 ·obtain ⟨j,fl,li,U,rfl,_⟩:=h;rfl
 obtain ⟨j,fl,li,U,rfl,l0,l1,O,h1,J,q⟩:=h;rwa[⟨_,(aa @a (aa @G (aa @G (aa @M @g)))),?_⟩]
 iterate 16 (all_goals (try ((ext);first|refine bz rfl ?_|refine aP rfl ?_|refine eO @c ?_|refine dQ @c ?_|refine fe @B @B|refine Rw @c ?_|refine Rx @c ?_|refine Sd @B @B)))
 all_goals
  rwa[Nh q ?_];unfold xW
  repeat (first|rw [if_pos @c]|rw [if_neg @c])
def pc:List Nat:=[111,120,117,100,115]
theorem DF:(Str.ofString "oxuds").cps.toList=pc:=by decide+kernel
unseal hG Ci in
theorem CN (c:Nat):hG ⟨#[c]⟩ @gq=decide (c∈pc):=by
 unfold hG;rw [PySem.StrLaws.found_one,DF]
def tV (s:Str):Prop:=s.length=36/\∀c∈s.cps.toList,c∈pc
instance (s:Str):Decidable (tV s):=by unfold tV;infer_instance
inductive kW (K:Fg)(kX:Addr)(vs:List V)(H:Hp)(Q:VK)(E:XK):Prop
 |mk (a s C dx:_) (_:vs=[.ref a,.str s]) (_:H a=some (.ins C dx [])) (_:uj K C) (_:aQ K C "letters") (_:s.length<=1000) (_:CI s) (_:(tV s->∀H',(∀b o,b≠a->H b=some o->H' b=some o)->H' a=some (.ins C dx [(Str.ofString "letters",.str s)])->Q .non H')) (_:(¬tV s->∀H',ak H H'->E (.ref kX) none H'))
theorem Nc {j:Addr}{H:Hp}{a:Addr}{s:Str}{C dx:Addr}{Q:VK}{E:XK}(h1:H a=some (.ins C dx []))(h2:uj K C)(S:aQ K C "letters")(z:s.length<=1000)(Y:CI s)
(g:tV s->∀H',(∀b o,b≠a->H b=some o->H' b=some o)->H' a=some (.ins C dx [(Str.ofString "letters",.str s)])->Q .non H')(b: ¬tV s->∀H',ak H H'->E (.ref j) none H'):kW K j [.ref a,.str s] H Q E:=⟨a,s,C,dx,rfl,h1,h2,S,z,Y,g,b⟩
theorem Gq {I:Addr}{Y t2:Tok}(F:bo K "__init__" "Table.__init__" j3 f fd)(bE:mg "len"=none)(DD:mg "any"=none)(fG:mg "TABLE_SIZE"=some (.int 36 Y))(Hu:mg "WORDS"=some (.str "oxuds" t2))(fb:mg "NoRule"=some (.ref I))
(ji:W.excIn K I [.type "ValueError",.type "Exception",.type "BaseException",.type "object"] "ValueError.__new__"=true):av P w K mg base @bU 1 f fd ["self","letters"] (kW K I):=by
 have yi:aA (.int 36) (.int 36 Y):=⟨_,rfl⟩;have j:aA (.str "oxuds") (.str "oxuds" t2):=⟨_,rfl⟩;rwa[F.okX x6 (by intro _ _ _ _ h;cases h;subst_vars;rfl) @Z];obtain ⟨a,z,C,dx,rfl,ea,cl,na,hz,hA,q,qb⟩:=h;rwa[⟨_,(aa (au (PW.pt (By @a (v9 (pP rfl (aM (LM rfl rfl) rfl DD boot_any (aq (bG rfl (ax (N':=["letter"]) (pk:=[none]) @m) @a @k @u (λC s H ex=>(c5 @gj (wv 0) @a @K))) am)))))) (ac (eE c7 rfl ji PySem.F.excBase_ValueError rfl fb (aq (fS (qO (wv 1) (qM qP))) am))) ap) (ac @bQ)),?_⟩];have G:z.length<=sizeLine:=aR @c;have rl:=lB hA
 have rj:∀H',ak H H'-> ¬tV z->(reprText z).length<=sizeLine/\(Str.empty++reprText z).length<=sizeLine/\(Str.empty++reprText z++Str.ofString " is no table").length<=sizeLine/\(Str.empty++reprText z++Str.ofString " is no table").length<=sizeLine/\[V.str (Str.empty++reprText z++Str.ofString " is no table")].length<=sizeLine/\E (.ref I) none H':=λH' sm n=>by
  have e2:(Str.ofString " is no table").length<=100:=by decide
  rwa[⟨aR @c,aR ?_,aR ?_,aR ?_,aR @e,qb n H' sm⟩]
  ·rw [strLen_append,show Str.empty.length=0 from rfl];lia
  ·rw [strLen_append,strLen_append,show Str.empty.length=0 from rfl];lia
  ·rw [strLen_append,strLen_append,show Str.empty.length=0 from rfl];lia
 rwa[⟨G,?_⟩];by_cases S:(z.length:Int)=36
 ·left;rwa[yX (λi ys H'=>H'=H/\ys=(z.cps.toList.take i).map λc=>V.bl (!decide (c∈pc))) (by show z.length<=sizeLine;exact G) (λi ys H' p=>by rw [p.2,length_map,length_take];exact Nat.min_le_left _ _) ⟨rfl,rfl⟩ (λi c ys H' J p=> ?_) (λys H' p l n=> ?_)]
  ·obtain ⟨rfl,rfl⟩:=p;rwa[⟨bZ,?_⟩]
   have ad:z.cps.toList[i]? =some c:=by rw [Array.getElem?_toList];exact J
   rwa[⟨rfl,?_⟩];show _++[V.bl (!hG ⟨#[c]⟩ @gq)]=_;rw [CN,take_add_one,ad,map_append];rfl
  ·obtain ⟨rfl,rfl⟩:=p
   have Z:upd H' l (.lst ((z.cps.toList.take z.cps.size).map λc=>V.bl (!decide (c∈pc)))) l=some (.lst (List.map V.bl (z.cps.toList.map λc=> !decide (c∈pc)))):=by
    rw [af,take_of_length_le @e,map_map];rfl
   have O:ak H' (upd H' l (.lst ((z.cps.toList.take z.cps.size).map λc=>V.bl (!decide (c∈pc))))):= .upd n;generalize upd H' l (.lst ((z.cps.toList.take z.cps.size).map λc=>V.bl (!decide (c∈pc))))=H1 at Z O ⊢;rwa[Mf (aD.of Z) ?_];rw [any_map];rwa[iR @fa @fa]
   ·left;rwa[rj H1 O λk=> ?_];obtain ⟨c,J,e⟩:=any_eq_true.mp U;have:=decide_eq_true (k.2 c J);simp only [Function.comp,id,this] at e;cases e
   ·have hk:tV z:=⟨by lia,λc J=>by
     have:=any_eq_false.mp U c J
     simpa using this⟩
    left;rwa[cQ (O.get ea) cl na @b ?_];rwa[q hk _ (λb o R e=> ?_) af];rw [aj R];exact O b o e
 ·left;exact rj H (.refl _) λk=>S (by rw [k.1];rfl)
noncomputable def tW (li he up dn:Int):Int:=12*(li+1)+4*he+2*(if 0<up then 1 else 0)+(if 0<dn then 1 else 0)
theorem qU {li U F j:Int}(s:i8 li U F j):0<=tW li U F j/\tW li U F j<36:=by
 have:=s.l0;have:=s.l1;have:=s.h0;have:=s.h1;unfold tW;split<;>split<;>lia
inductive vt (vs:List V)(H:Hp)(Q:VK)(_e:XK):Prop
 |mk (li he up dn:Int) (_:vs=[.int li,.int he,.int up,.int dn]) (_:Q (.int (tW li he up dn)) H)
theorem Gu (F:bo K "place_in_table" "place_in_table" fO f fd):av P w K mg base bb 1 f fd ["light","here","up","down"] vt:=by
 rwa[F.ok qm (by intro _ _ _ _ h;cases h;subst_vars;rfl) (λj A outer s H O Q E W h=> ?_)];obtain ⟨li,U,J,I,rfl,q⟩:=h;rwa[⟨_,@g,?_⟩];unfold tW at q;by_cases z:0<J<;>by_cases G:0<I
 ·rw [if_pos z,if_pos G] at q;left;exact q
 ·rw [if_pos z,if_neg G] at q;left;exact q
 ·rw [if_neg z,if_pos G] at q;left;exact q
 ·rw [if_neg z,if_neg G] at q;left;exact q
inductive Rk where
 |sw|ho|ne
 |ba (top:Int)
 |ta (s:Str)
def Rk.ix:Rk->Nat
 | .sw=>0| .ho=>1| .ne=>2| .ba _=>3| .ta _=>4
def Rt (s:Str)(k:Int):Str:=⟨#[s.cps.toList.getD k.toNat 0]⟩
noncomputable def Rk.word (r:Rk)(fl li he up dn:Int):Str:=match r with
 | .sw=>iz li he up dn
 | .ho=>yH fl li he up dn
 | .ne=>Ri he up dn
 | .ba top=>xW top fl li he
 | .ta s=>Rt s (tW li he up dn)
noncomputable def Rk.fs:Rk->List (Str×V)
 | .ba top=>[(Str.ofString "top",.int top)]
 | .ta s=>[(Str.ofString "letters",.str s)]
 |_=>[]
def Rk.ok:Rk->Prop
 | .ba top=>0<top
 | .ta s=>tV s
 |_=>True
structure Ks where
 r:Addr
 h:Addr
 n:Addr
 s:Addr
 t:Addr
def Rk.cl (k:Ks):Rk->Addr
 | .sw=>k.r| .ho=>k.h| .ne=>k.n| .ba _=>k.s| .ta _=>k.t
structure Pt (K:Fg)(C:Addr):Prop where
 i:gp K C
 n:aQ K C "top"
 l:aQ K C "letters"
inductive dJ (K:Fg)(i:Nat)(vs:List V)(H:Hp)(Q:VK)(_e:XK):Prop
 |mk (rk:Rk) (a s C dx:Addr) (fl li he up dn:Int) (_:vs=[.ref a,.ref s]) (_:rk.ix=i) (_:rk.ok) (_:H a=some (.ins C dx rk.fs)) (_:Pt K C) (_:aE K H s [.int fl,.int li,.int he,.int up,.int dn]) (_:i8 li he up dn) (_:Q (.str (rk.word fl li he up dn)) H)
theorem Gm (F:bo K "word" "Rule.word" mQ f fd)(S:bf P w K mg base 1 "swept" ["light","here","up","down"] kY):av P w K mg base bb 2 f fd ["self","seen"] (dJ K 0):=by
 rwa[F.ok Ai (by intro _ _ _ _ h;cases h;subst_vars;rfl) (λG A outer s H J Q E Y h=> ?_)];obtain ⟨j,a,z,C,dx,fl,li,W,Z,O,rfl,I,ok,R,U,hs,sn,q⟩:=h;cases j<;>cases I;rwa[⟨_,@g,?_⟩];left;exact kY.mk _ _ _ _ rfl sn q
theorem AM (F:bo K "word" "Homing.word" iI f fd)(Y:bf P w K mg base 1 "swept" ["light","here","up","down"] kY):av P w K mg base bb 2 f fd ["self","seen"] (dJ K 1):=by
 rwa[F.ok vL (by intro _ _ _ _ h;cases h;subst_vars;rfl) (λJ A outer s H R Q E Z h=> ?_)];obtain ⟨I,a,z,C,dx,fl,li,U,G,j,rfl,O,ok,W,S,hs,sn,q⟩:=h;cases I<;>cases O;rwa[⟨_,@eV,?_⟩];have q:Q (.str (yH fl li U G j)) H:=q;unfold yH at q;left;rwa[kY.mk _ _ _ _ rfl sn ?_];by_cases h1:iz li U G j=ws
 ·by_cases h2:fl=0
  ·rw [if_neg (λz=>z.2 h2)] at q;left;exact q
  ·rw [if_pos ⟨h1,h2⟩] at q;left;exact q
 ·rw [if_neg @dh] at q;left;exact q
theorem yq (F:bo K "word" "Nearest.word" gE f fd)(S:bf P w K mg base 1 "nearest" ["here","up","down"] mE):av P w K mg base bb 2 f fd ["self","seen"] (dJ K 2):=by
 rwa[F.ok tS (by intro _ _ _ _ h;cases h;subst_vars;rfl) (λG A outer s H J Q E Y h=> ?_)];obtain ⟨j,a,z,C,dx,fl,li,W,Z,O,rfl,I,ok,R,U,hs,sn,q⟩:=h;cases j<;>cases I;rwa[⟨_,@g,?_⟩];left;exact mE.mk _ _ _ rfl sn.h0 sn.h1 sn.u0 sn.d0 q
theorem yp (F:bo K "word" "Shuttle.word" gA f fd)(S:bf P w K mg base 1 "shuttled" ["top","floor","light","here"] jW):av P w K mg base bb 2 f fd ["self","seen"] (dJ K 3):=by
 rwa[F.ok tO (by intro _ _ _ _ h;cases h;subst_vars;rfl) (λG A outer s H O Q E Z h=> ?_)];obtain ⟨j,a,z,C,dx,fl,li,Y,up,R,rfl,J,W,I,U,hs,sn,q⟩:=h;cases j<;>cases J;rwa[⟨_,@g,?_⟩];left;rwa[dS I U.i.cl U.n rfl ?_];left;exact jW.mk _ _ _ _ rfl sn.l0 sn.l1 sn.h0 sn.h1 W q
theorem Dj (F:bo K "word" "Table.word" jZ f fd)(ie:bf P w K mg base 1 "place_in_table" ["light","here","up","down"] vt):av P w K mg base bb 2 f fd ["self","seen"] (dJ K 4):=by
 rwa[F.ok xZ (by intro _ _ _ _ h;cases h;subst_vars;rfl) (λO A outer s H vs Q E hr h=> ?_)];obtain ⟨J,a,z,C,dx,fl,li,G,I,j,rfl,S,W,R,U,hs,sn,q⟩:=h;cases J<;>cases S;rename_i t;rwa[⟨_,@g,?_⟩];have W:tV t:=W;obtain ⟨n0,Z⟩:=qU sn;left;rwa[dS R U.i.cl U.l rfl ?_];left;erw[vt.mk _ _ _ _ rfl ?_]
 have Y:t.cps.toList.length=36:=by rw [aF];exact W.1
 rwa[jf (aR (by rw [W.1];decide)) (c:=t.cps.toList.getD (tW li G I j).toNat 0) ?_ q];unfold lY Cd;rw [if_pos n0,if_pos (by rw [Y];exact Z)];show t.cps.toList[(tW li G I j).toNat]? =_;rw [getElem?_eq_getElem @c,getD_eq_getElem?_getD,getElem?_eq_getElem @c];rfl
theorem Ch (j:Rk):j.fs.lookup (Str.ofString "word")=none:=by cases j<;>rfl
structure Sf (K:Fg)(P:Program)(w:World)(mg:Str->Option Value)(base:Heap)(k:Ks):Prop where
 c:∀rk:Rk,Pt K @fG
 m:∀rk:Rk,jc P w K mg base bb 2 "word" (rk.cl k) (dJ K rk.ix)
unseal fZ in
theorem Rl {C j:Addr}{E:XK}{s:Str}{H:Hp}{Q:VK}(c:Pt K C)(F:s.length<=1000)(Y:CI s)(g:tV s->∀a dx H',ak H H'->H a=none->H' a=some (.ins C dx [(Str.ofString "letters",.str s)])->Q (.ref a) H')(b: ¬tV s->∀H',ak H H'->E (.ref j) none H'):fZ C (kW K j) E [.str s] H Q:=by
 show ∀a dx,H a=none->H dx=none->dx≠a->kW K j (.ref a::([.str s]++[])) @r (λv H2=>v= .non/\Q (.ref a) H2) E;intro a dx h1 h2 S;rwa[Nc af c.i.cl c.l F Y (λW H' J G=>⟨rfl,g W a dx H' (λO o e=> ?_) h1 G⟩) (λR H' I=>b R H' ((d4 h1 h2).trans I))];exact J O o (λz=>by rw [z,h1] at e;cases e) (d4 h1 h2 O o e)
inductive Fb (K:Fg)(vs:List V)(H:Hp)(Q:VK)(_e:XK):Prop
 |mk (a t C dx:_) (_:vs=[.ref a,.int t]) (_:H a=some (.ins C dx [])) (_:uj K C) (_:aQ K C "top") (_:Q .non (upd H a (.ins C dx [(Str.ofString "top",.int t)])))
theorem Gs (F:bo K "__init__" "Shuttle.__init__" gB f fd):av P w K mg base bb 1 f fd ["self","top"] (Fb K):=by
 rwa[F.ok tQ (by intro _ _ _ _ h;cases h;subst_vars;rfl) @j];obtain ⟨a,t,C,dx,rfl,G,U,z,q⟩:=h;rwa[⟨_,(ac @bQ),?_⟩];exact cQ G U z @b q
unseal fZ in
theorem Rm {C:Addr}{E:XK}{t:Int}{H:Hp}{Q:VK}(c:Pt K C)(g:∀a dx H',ak H H'->H a=none->H' a=some (.ins C dx [(Str.ofString "top",.int t)])->Q (.ref a) H'):fZ C (Fb K) E [.int t] H Q:=by
 show ∀a dx,H a=none->H dx=none->dx≠a->Fb K (.ref a::([.int t]++[])) @r (λv H2=>v= .non/\Q (.ref a) H2) E;intro a dx h1 h2 S;rwa[Fb.mk _ _ _ _ rfl af c.i.cl c.n ⟨rfl,g a dx _ ?_ h1 af⟩];intro b u z;rw [aj (λe=>by rw [e,h1] at z;cases z)];exact d4 h1 h2 b u z
theorem FU {jy cU b0 bU eG:Addr}(ae:jc P w K mg base bb 2 "word" jy (dJ K 0))(W:jc P w K mg base bb 2 "word" cU (dJ K 1))(O:jc P w K mg base bb 2 "word" b0 (dJ K 2))(J:jc P w K mg base bb 2 "word" bU (dJ K 3))(ad:jc P w K mg base bb 2 "word" eG (dJ K 4))(ah:gp K jy)(ag:aQ K jy "top")(af:aQ K jy "letters")(Y:gp K cU)(S:aQ K cU "top")(U:aQ K cU "letters")(R:gp K b0)(j:aQ K b0 "top")(F:aQ K b0 "letters")(G:gp K bU)(I:aQ K bU "top")(z:aQ K bU "letters")(Z:gp K eG)(ac:aQ K eG "top")(aa:aQ K eG "letters"):Sf K P w mg base ⟨jy,cU,b0,bU,eG⟩ where
 c:=λrk=>by
  cases rk with
  |sw=>exact ⟨ah,ag,af⟩
  |ho=>exact ⟨Y,S,U⟩
  |ne=>exact ⟨R,j,F⟩
  |ba top=>exact ⟨G,I,z⟩
  |ta s=>exact ⟨Z,ac,aa⟩
 m:=λrk=>by
  cases rk with
  |sw=>exact ae
  |ho=>exact W
  |ne=>exact O
  |ba top=>exact J
  |ta s=>exact ad
theorem Ky {s:Str}(h:tV s):CI s:=λc J=>by
 have:=h.2 c J;simp only [pc,mem_cons,not_mem_nil,or_false] at this;lia
abbrev M9:Str:=Str.ofString "sweep"
abbrev QE:Str:=Str.ofString "homing"
abbrev QB:Str:=Str.ofString "nearest"
abbrev Qw:Str:=Str.ofString "shuttle"
abbrev tJ:Str:=Str.ofString "table "
noncomputable def fk (s:Str)(fl:Int):Option Rk:=if s=M9 then some .sw else if s=QE then some .ho else if s=QB then some .ne else if s=Qw then some (.ba (fl - 1)) else
 if Txt.slice s none @fr=tJ/\tV (Txt.slice s @fr none) then some (.ta (Txt.slice s @fr none)) else none
theorem lz {s:Str}{fl:Int}(h:2<=fl){j:Rk}(e:fk s fl=some j):j.ok:=by
 unfold fk at e;split at e
 ·cases e;trivial
 split at e
 ·cases e;trivial
 split at e
 ·cases e;trivial
 split at e
 ·cases e;show 0<fl - 1;lia
 split at e
 ·rename_i h;cases e;exact h.2
 ·cases e
theorem CP {s:Str}:vp s tJ=decide (Txt.slice s none @fr=tJ):=by
 have c:=iF (x:=s) (n:=6) @b
 have R:tJ.cps.toList.length=6:=by decide
 unfold vp Builtin.Str.subAt
 have e:(decide (0+tJ.length<=s.length)&&(s.cps.extract 0 (0+tJ.length)==tJ.cps))=decide (s.cps.toList.take 6=tJ.cps.toList):=by
  rw [Bool.eq_iff_iff,Bool.and_eq_true,decide_eq_true_eq,decide_eq_true_eq,beq_iff_eq]
  have U:(s.cps.extract 0 (0+tJ.length)).toList=s.cps.toList.take 6:=by
   show (s.cps.extract 0 6).toList=_;simp
  constructor
  ·rintro ⟨_,h⟩;rw [<-U,h]
  ·intro h;rwa[⟨?_,Array.toList_inj.mp (by rw [U,h])⟩];have:=congrArg List.length h;rw [length_take,R,aF] at this;show 0+6<=s.length;lia
 rw [e];rwa[decide_eq_decide.mpr ⟨λh=>vo (by rw [c];exact h),λh=> ?_⟩];have:=congrArg (λz:Str=>z.cps.toList) h;rw [<-this];exact c.symm
def sD (s:Str):Prop:=s.length<=1000/\CI s
theorem sD.from {s:Str}(h:sD s){n:Int}(Z:0<=n):sD (Txt.slice s @fq none):=by
 have c:=fi (x:=s) Z;rwa[⟨?_,λx F=> ?_⟩]
 ·rw [<-aF,c,length_drop,aF];have:=h.1;lia
 ·rw [c] at F;exact h.2 x (mem_of_mem_drop F)
def iA (K:Fg)(k:Ks)(kX:Addr):Sp:=λvs H Q E=>∃s fl,vs=[.str s,.int fl]/\sD s/\2<=fl/\(∀rk,fk s fl=some rk->∀a dx H',ak H H'->H a=none->H' a=some (.ins @fG dx rk.fs)->Q (.ref a) H')/\(fk s fl=none->∀H',ak H H'->E (.ref kX) none H')
theorem v8 {k:Ks}{j:Addr}{H:Hp}{s:Str}{fl:Int}{Q:VK}{E:XK}(h1:sD s)(h2:2<=fl)(g:∀rk,fk s fl=some rk->∀a dx H',ak H H'->H a=none->H' a=some (.ins @fG dx rk.fs)->Q (.ref a) H')(b:fk s fl=none->∀H',ak H H'->E (.ref j) none H'):iA K k j [.str s,.int fl] H Q E:=⟨s,fl,rfl,h1,h2,g,b⟩
theorem Dm {k:Ks}{I:Addr}{U:Tok}(F:bo K "rule_of" "rule_of" vR f fd)(bE:mg "len"=none)(cS:Pt K k.s)(cT:Pt K k.t)(Hx:mg "Rule"=some (.ref k.r))(wO:mg "Homing"=some (.ref k.h))(rF:mg "Nearest"=some (.ref k.n))(GY:Mj K k.r)(wk:Mj K k.h)(qZ:Mj K k.n)(rb:ja P w K mg base bb 1 "Shuttle" k.s (Fb K))(A0:ja P w K mg base @bU 1 "Table" k.t (kW K I))(lR:mg "TABLE_START"=some (.str "table " U))(fb:mg "NoRule"=some (.ref I))
(ji:W.excIn K I [.type "ValueError",.type "Exception",.type "BaseException",.type "object"] "ValueError.__new__"=true):av P w K mg base @bU 3 f fd ["text","floors"] (iA K k I):=by
 have j:aA (.str "table ") (.str "table " U):=⟨_,rfl⟩;rwa[F.okX FA @bi @H]
 ·obtain ⟨s,fl,rfl,_⟩:=h;rfl
 obtain ⟨z,fl,rfl,J,hf,q,G⟩:=h;rwa[⟨_,(aa (au @a (ac (ag (AH GY rfl Hx))) ap) (aa (au @a (ac (ag (AH wk rfl wO))) ap) (aa (au @a (ac (ag (AH qZ rfl rF))) ap) (aa (au @a (ac (ag (gv rb hV hr @b rfl @I))) ap) (aa (au (pP rfl (gW rfl PySem.F.plainAttrs_str PySem.F.slot_str_startswith PySem.F.type_str_startswith EC (wv 0) @I)) (ac (ag (gv A0 c7.passes hr @b rfl @I))) ap) (ac (eE c7 rfl ji PySem.F.excBase_ValueError rfl fb @cw))))))),?_⟩];have hz:z.length<=sizeLine:=aR (by have:=J.1;lia);unfold fk at q G;by_cases h1:z=M9
 ·rw [if_pos h1] at q;left;exact OG @gz
 rw [if_neg h1] at q G;by_cases h2:z=QE
 ·rw [if_pos h2] at q;left;exact OG @gz
 rw [if_neg h2] at q G;by_cases Z:z=QB
 ·rw [if_pos Z] at q;left;exact OG @gz
 rw [if_neg Z] at q G;by_cases h4:z=Qw
 ·rw [if_pos h4] at q;left;exact Rm cS @gz
 rw [if_neg h4] at q G;have R:=CP (s:=z);left;erw[⟨rfl,?_⟩];rw [R];rwa[fe @fb @fb]
 ·left;rwa[⟨aR @b,?_⟩];erw[⟨hz,?_⟩];have S:=J.from (n:=6) @b;rwa[Rl cT S.1 S.2 (λok a dx H' O na ea=> ?_) (λno H' O=> ?_)]
  ·rw [if_pos ⟨Y,ok⟩] at q;exact q _ rfl a dx H' O na ea
  ·rw [if_neg (λy=>no y.2)] at G;exact G rfl H' O
 ·rw [if_neg (λy=>Y y.1)] at G;have rl:=lB J.2;have zl:=J.1
  have e2:(Str.ofString " is no rule").length<=100:=by decide
  left;rwa[⟨aR @c,aR ?_,aR ?_,aR ?_,aR @e,G rfl H (.refl _)⟩]
  ·rw [strLen_append,show Str.empty.length=0 from rfl];lia
  ·rw [strLen_append,strLen_append,show Str.empty.length=0 from rfl];lia
  ·rw [strLen_append,strLen_append,show Str.empty.length=0 from rfl];lia
seal iA
noncomputable def MT (k:Int):List V:=[.int 1,.int (k / 12 - 1),.int (k / 4% 3),.int (k / 2% 2),.int (k% 2)]
theorem ms {k:Int}(I:0<=k)(h1:k<36):i8 (k / 12 - 1) (k / 4% 3) (k / 2% 2) (k% 2):=⟨by lia,by lia,by lia,by lia,by lia,by lia⟩
inductive qe (K:Fg)(vs:List V)(H:Hp)(Q:VK)(_e:XK):Prop
 |mk (k:Int) (_:vs=[.int k]) (_:∀r H',ak H H'->H r=none->H' r=some (.tup (MT k))->Q (.ref r) H')
theorem Dl (F:bo K "seen_at" "seen_at" vQ f fd):av P w K mg base bb 1 f fd ["place"] (qe K):=by
 rwa[F.ok Fz (by intro _ _ _ _ h;cases h;subst_vars;rfl) (λj A outer s H I Q E z h=> ?_)];obtain ⟨k,rfl,q⟩:=h;rwa[⟨_,@g,?_⟩];left;rwa[⟨by decide,?_⟩];left;rwa[⟨by decide,?_⟩];left;rwa[⟨by decide,?_⟩];left;exact ce Sa λr H1 O W S=>q r H1 O W S
theorem uL {z:Str}(G:z.length=0){ts:List Str}(h:∀t∈ts,t.length=1):(Builtin.Str.glued z ts).length<=ts.length/\ts.toArray.foldl (· + ·.length+z.length) 0<=ts.length:=by
 have W:∀(l:List Str) (j:Array Nat),(∀t∈l,t.length=1)->(l.foldl (λj p=>j++z.cps++p.cps) j).size=j.size+l.length:=by
  intro l
  induction l with
  |nil=>intro j _;simp
  |cons p l ih=>
   intro j R;have S:p.cps.size=1:=R p mem_cons_self;have O:z.cps.size=0:=G;rw [foldl_cons,ih _ λt J=>R t @bZ,Array.size_append,Array.size_append,S,O,length_cons];lia
 have F:∀(l:List Str) (n:Nat),(∀t∈l,t.length=1)->l.foldl (λU I=>U+I.length+z.length) n=n+l.length:=by
  intro l
  induction l with
  |nil=>intro n _;simp
  |cons p l ih=>
   intro n R;rw [foldl_cons,ih _ λt J=>R t @bZ,R p mem_cons_self,G,length_cons];lia
 rwa[⟨?_,?_⟩]
 ·cases ts with
  |nil=>exact Nat.le_refl _
  |cons p l=>
   show (l.foldl (λj p=>j++z.cps++p.cps) p.cps).size<=_;rw [W l _ λt J=>h t @bZ];have S:p.cps.size=1:=h p mem_cons_self;rw [S,length_cons];lia
 ·rw [foldl_toArray,F ts 0 h];lia
def isL (x:Str):Prop:=x.length=1/\∀c∈x.cps.toList,c∈pc
theorem Ce {x:Str}(h:x=wo\/x=wx\/x=wu\/x=wd\/x=ws):isL x:=by
 rcases h with rfl|rfl|rfl|rfl|rfl<;>exact ⟨by decide,by decide⟩
theorem BL (li U F j:Int):isL (iz li U F j):=Ce (by unfold iz;repeat (first|split|simp))
theorem OB (U F j:Int):isL (Ri U F j):=Ce (by unfold Ri;repeat (first|split|simp))
theorem Nr (j fl li U:Int):isL (xW j fl li U):=Ce (by unfold xW;repeat (first|split|simp))
theorem OY (fl li U F j:Int):isL (yH fl li U F j):=by
 unfold yH;split
 ·exact Ce (.inr (.inr (.inr (.inl rfl))))
 ·exact BL ..
theorem Rk.isL {z:Rk}(h:z.ok){fl li U F j:Int}(sn:i8 li U F j):My.isL (z.word fl li U F j):=by
 cases z with
 |sw=>exact BL ..
 |ho=>exact OY ..
 |ne=>exact OB ..
 |ba top=>exact Nr ..
 |ta s=>
  have h:tV s:=h;obtain ⟨Z,W⟩:=qU sn
  have R:s.cps.toList.length=36:=by rw [aF];exact h.1
  rwa[⟨rfl,λc J=> ?_⟩];have J:c∈[s.cps.toList.getD (tW li U F j).toNat 0]:=J;rw [mem_singleton.mp J,getD_eq_getElem?_getD,getElem?_eq_getElem (show (tW li U F j).toNat<s.cps.toList.length by lia)];exact h.2 _ (getElem_mem _)
noncomputable def Rk.at (rk:Rk)(k:Int):Str:=rk.word 1 (k / 12 - 1) (k / 4% 3) (k / 2% 2) (k% 2)
noncomputable def Rk.tbl (rk:Rk):Str:=Builtin.Str.glued "" ((List.range 36).map λ(k:Nat)=>rk.at k)
inductive Fu (K:Fg)(k:Ks)(vs:List V)(H:Hp)(Q:VK)(_e:XK):Prop
 |mk (rk:Rk) (a dx:Addr) (_:vs=[.ref a]) (_:rk.ok) (_:H a=some (.ins @fG dx rk.fs)) (_:∀H',ak H H'->Q (.str rk.tbl) H')
theorem Ow {k:Ks}{I:Tok}(F:bo K "as_table" "as_table" qJ f fd)(aZ:mg "range"=none)(R:Sf K P w mg base k)(fG:mg "TABLE_SIZE"=some (.int 36 I))(zd:bf P w K mg base 1 "seen_at" ["place"] (qe K)):av P w K mg base bb 3 f fd ["rule"] (Fu K k):=by
 have yi:aA (.int 36) (.int 36 I):=⟨_,rfl⟩;rwa[F.ok Da (by intro _ _ _ _ h;cases h;subst_vars;rfl) @cg];obtain ⟨j,a,dx,rfl,W,J,q⟩:=h;rwa[⟨_,(ac (ag (gW rfl PySem.F.plainAttrs_str PySem.F.slot_str_join PySem.F.type_str_join (zO rfl) bH (aq (bG rfl (ax (N':=["place","rule"]) (pk:=[none,some 0]) @m) @er @k @u (λC s H ex=>(Ex (P:=P) (w:=w) (K:=K) (mg:=mg) (base:=base) (n:=2) rfl rfl rfl rfl rfl hV hr @b (wv 1) @I))) am)))),?_⟩];left;rwa[⟨rfl,?_⟩];rwa[⟨⟨by decide,by decide⟩,?_⟩];rwa[kA (λi ys H'=>ak H H'/\ys=((List.range i).map λ(k:Nat)=>j.at k).map V.str) @gk (λi ys H' p=>by rw [p.2];simp) ⟨.refl _,rfl⟩ (λi ys H' hi p=> ?_) (λys H' p l n=> ?_)]
 ·obtain ⟨G,rfl⟩:=p;rwa[⟨bZ,?_⟩];rwa[lH (G.get J) (Ch j) (R.m j) ?_];erw[qe.mk _ rfl λz H1 O n1 U=> ?_]
  have ah:(0+(i:Int))<36:=by lia
  rwa[dJ.mk _ _ _ _ _ _ _ _ _ _ rfl rfl W ((G.trans O).get J) (R.c j) (aE.of U) (ms @c ah) ?_];rwa[⟨G.trans O,?_⟩];rw [range_succ,map_append,map_append];show _++[V.str (j.at (0+(i:Int)))]=_;rw [Int.zero_add];rfl
 ·obtain ⟨G,rfl⟩:=p
  obtain ⟨g1,Y⟩:=uL (z:=Str.ofString "") @h (ts:=(List.range 36).map λ(k:Nat)=>j.at k) (λt S=>by
   obtain ⟨k,Z,rfl⟩:=mem_map.mp S;have:=mem_range.mp Z
   exact (Rk.isL W (ms @c @c)).1)
  simp only [length_map,length_range] at g1 Y;exact wE (ts:=(List.range 36).map λ(k:Nat)=>j.at k) @cV @bs @bs (q _ (G.trans (.upd n)))
theorem yJ {z:Str}(F:z.cps.toList=[])(ts:List Str):(Builtin.Str.glued z ts).cps.toList=(ts.map λt=>t.cps.toList).flatten:=by
 have G:∀(l:List Str) (j:Array Nat),(l.foldl (λj p=>j++z.cps++p.cps) j).toList=j.toList++(l.map λt=>t.cps.toList).flatten:=by
  intro l
  induction l with
  |nil=>intro j;simp
  |cons p l ih=>intro j;rw [foldl_cons,ih];simp [F]
 unfold Builtin.Str.glued;show ((ts.drop 1).foldl (λj p=>j++z.cps++p.cps) (ts.headD Str.empty).cps).toList=_;rw [G]
 cases ts with
 |nil=>rfl
 |cons t ts=>rfl
def RY (ts:List Str):Prop:=ts.length=36/\∀x∈ts,isL x
theorem uN:∀(ts:List Str),(∀x∈ts,isL x)->((ts.map λt=>t.cps.toList).flatten).length=ts.length
 |[],_=>rfl
 |t::ts,h=>by
  have h1:=(h t (.head _)).1;have h2:=uN ts λx F=>h x (.tail _ F);rw [map_cons,flatten_cons,length_append,h2,aF,h1,length_cons];lia
theorem B5 {ts:List Str}(h:RY ts):tV (Builtin.Str.glued "" ts):=by
 have J:=yJ (z:=Str.ofString "") @h ts;rwa[⟨?_,λc F=> ?_⟩]
 ·rw [<-aF,J,uN ts h.2,h.1]
 ·rw [J] at F;obtain ⟨l,R,F⟩:=mem_flatten.mp F;obtain ⟨x,al,rfl⟩:=mem_map.mp R;exact (h.2 x al).2 c F
theorem Hf {i:Int}(I:0<=i)(h1:i<5):∃c,lY (Str.ofString "oxuds").cps.toList i=some c/\isL ⟨#[c]⟩:=by
 rcases (show i=0\/i=1\/i=2\/i=3\/i=4 by lia) with rfl|rfl|rfl|rfl|rfl<;>exact ⟨_,rfl,rfl,by decide⟩
theorem EQ {j:Rk}(h:j.ok):RY ((List.range 36).map λ(k:Nat)=>j.at k):=⟨by simp,λx F=>by
 obtain ⟨k,Y,rfl⟩:=mem_map.mp F;have:=mem_range.mp Y
 exact Rk.isL h (ms @c @c)⟩
theorem MY {j:Rk}(h:j.ok):tV j.tbl:=B5 (EQ h)
theorem Tt {x:Str}(h:isL x):x∈cO:=by
 obtain ⟨h1,h2⟩:=h
 have R:x.cps.toList.length=1:=by rw [aF];exact h1
 obtain ⟨⟨l⟩⟩:=x
 match l,R with
 |[c],_=>
  have J:c∈pc:=h2 c @e;unfold pc at J;simp only [mem_cons,not_mem_nil,or_false] at J
  rcases J with rfl|rfl|rfl|rfl|rfl
  ·exact (show (⟨#[111]⟩:Str)=Str.ofString "o" by decide+kernel)▸ .head _
  ·exact (show (⟨#[120]⟩:Str)=Str.ofString "x" by decide+kernel)▸ .tail _ (.head _)
  ·exact (show (⟨#[117]⟩:Str)=Str.ofString "u" by decide+kernel)▸ .tail _ (.tail _ (.head _))
  ·exact (show (⟨#[100]⟩:Str)=Str.ofString "d" by decide+kernel)▸ .tail _ (.tail _ (.tail _ (.head _)))
  ·exact (show (⟨#[115]⟩:Str)=Str.ofString "s" by decide+kernel)▸ .tail _ (.tail _ (.tail _ (.tail _ (.head _))))
theorem NG {k:Ks}(R:Sf K P w mg base k){H:Hp}{a dx:Addr}{j:Rk}(W:j.ok)(e:H a=some (.ins (j.cl k) dx j.fs)):Ej P w K mg base H a j.word:=
 ⟨j.cl k,dx,j.fs,dJ K j.ix,e,Ch j,R.m j,λfl li U G F s=>Tt (Rk.isL W s),λH' I fl li U G F Q E h1 h2 S z=>dJ.mk _ _ _ _ _ _ _ _ _ _ rfl rfl W h1 (R.c j) h2 S z⟩
def zy (x:Str):Prop:=x.length<=1000/\CI x
instance (x:Str):Decidable (zy x):=by unfold zy CI;infer_instance
def gQ.d (l:gQ):D:= .tup [.int l.start,.int l.room,.int l.turns,.str l.kind]
def Cf (fl:Int)(ls:List gQ)(lo:Int)(so:Str):List D:=[.int fl,.tup @gl,.int lo,.str so]
def xj (K:Fg)(H:Hp)(t:V)(fl:Int)(ls:List gQ)(lo:Int)(so:Str):Prop:=∃p xs,t= .ref p/\H p=some (.tup xs)/\az K H xs (Cf fl ls lo so)
def Iv (K:Fg)(H:Hp)(a:Addr)(ds:List D):Prop:=bL K H (.ref a) (.lst ds)\/bL K H (.ref a) (.tup ds)
def mF (K:Fg)(c:Addr):Sp:=λvs H Q E=>∃fl a lo so ls,vs=[.int fl,.ref a,.int lo,.str so]/\Iv K H a @gl/\ls.length<=700/\zy so/\
 (IL fl ls lo so=true->∀t H',ak H H'->xj K H' t fl ls lo so->Q t H')/\(IL fl ls lo so=false->∀H',ak H H'->E (.ref c) none H')
theorem Rp {c:Addr}{H:Hp}{fl:Int}{a:Addr}{lo:Int}{so:Str}{j:List gQ}{Q:VK}{E:XK}(h1:Iv K H a (j.map gQ.d))(S:j.length<=700)(z:zy so)
(g:IL fl j lo so=true->∀t H',ak H H'->xj K H' t fl j lo so->Q t H')(b:IL fl j lo so=false->∀H',ak H H'->E (.ref c) none H'):mF K c [.int fl,.ref a,.int lo,.str so] H Q E:=
 ⟨fl,a,lo,so,j,rfl,h1,S,z,g,b⟩
seal mF
inductive Aa (K:Fg)(vs:List V)(H:Hp)(Q:VK)(_e:XK):Prop
 |mk (fl:_) (l:gQ) (_:vs=[.int fl,.int l.start,.int l.room,.int l.turns,.str l.kind]) (_:Q (.bl (l.ok fl)) H)
theorem Io {a x:Str}:(a==x)=decide (x=a):=by
 by_cases h:x=a
 ·rw [decide_eq_true h,h,beq_self_eq_true]
 ·rw [decide_eq_false h,beq_eq_false_iff_ne.mpr (Ne.symm h)]
theorem Tu {x a b c:Str}:sO (.str x) [.str a,.str b,.str c]=decide (x=a\/x=b\/x=c):=by
 show ((a==x)||((b==x)||((c==x)||false)))=_;rw [Io,Io,Io,Bool.or_false,<-Bool.decide_or,<-Bool.decide_or]
theorem Ul {x a b:Str}:sO (.str x) [.str a,.str b]=decide (x=a\/x=b):=by
 show ((a==x)||((b==x)||false))=_;rw [Io,Io,Bool.or_false,<-Bool.decide_or]
theorem Kv {j:Addr}{S t2:Tok}(F:bo K "fits_lift" "fits_lift" m3 f fd)(rG:mg "MOST_ROOM"=some (.int 6 S))(oE:mg "MOST_TURNS"=some (.int 4 t2))(oH:mg "DOOR_KINDS"=some (.ref j))(i7:∀H:Hp,aE K H j [.str "plain",.str "hasty",.str "slow"]):av P w K mg base bb 1 f fd ["floors","start","room","turns","kind"] (Aa K):=by
 have I:aA (.int 6) (.int 6 S):=⟨_,rfl⟩;have G:aA (.int 4) (.int 4 t2):=⟨_,rfl⟩;rwa[F.ok Ap (by intro _ _ _ _ h;cases h;subst_vars;rfl) @H];obtain ⟨fl,⟨st,O,tu,J⟩,rfl,q⟩:=h;have T:=i7 H
 have R: ¬(0<=st/\st<fl/\1<=O/\O<=6/\1<=tu/\tu<=4/\(J=Str.ofString "plain"\/J=Str.ofString "hasty"\/J=Str.ofString "slow"))->Q (.bl false) H:=λz=>by
  rw [show gQ.ok fl ⟨st,O,tu,J⟩=false from decide_eq_false z] at q;exact q
 rwa[⟨_,(aa @el @g),?_⟩];by_cases h1:0<=st
 ·by_cases h2:st<fl
  ·by_cases W:1<=O
   ·by_cases Z:O<=6
    ·by_cases Y:1<=tu
     ·by_cases U:tu<=4
      ·left;rwa[Ae T rfl rfl ?_];rw [Tu];have e:gQ.ok fl ⟨st,O,tu,J⟩=decide (J=Str.ofString "plain"\/J=Str.ofString "hasty"\/J=Str.ofString "slow"):=decide_eq_decide.mpr ⟨λz=>z.2.2.2.2.2.2,λz=>⟨h1,h2,W,Z,Y,U,z⟩⟩;rw [e] at q;exact q
      ·left;exact R λz=>U z.2.2.2.2.2.1
     ·left;exact R λz=>Y z.2.2.2.2.1
    ·left;exact R λz=>Z z.2.2.2.1
   ·left;exact R λz=>W z.2.2.1
  ·left;exact R λz=>h2 z.2.1
 ·left;exact R λz=>h1 z.1
inductive z8 (K:Fg)(vs:List V)(H:Hp)(Q:VK)(_e:XK):Prop
 |mk (fl a:_) (ls:List gQ) (_:vs=[.int fl,.ref a]) (_:Iv K H a @gl) (_:ls.length<=700) (_:∀H',ak H H'->Q (.bl (decide (1<=ls.length/\ls.length<=3)&&ls.all @cH)) H')
theorem Iv.out {H:Hp}{a:Addr}{ds:List D}(h:Iv K H a ds):∃xs,(aD K H a xs\/aE K H a xs)/\az K H xs ds:=by
 rcases h with h|h
 ·obtain ⟨_,xs,e,h1,h2⟩:=h.outL;cases e;exact ⟨xs,.inl h1,h2⟩
 ·obtain ⟨_,xs,e,h1,h2⟩:=h.outT;cases e;exact ⟨xs,.inr h1,h2⟩
theorem Kt {J:Tok}(F:bo K "fits_lifts" "fits_lifts" ke f fd)(bE:mg "len"=none)(nq:mg "all"=none)(oF:mg "MOST_LIFTS"=some (.int 3 J))(sj:bf P w K mg base 1 "fits_lift" ["floors","start","room","turns","kind"] (Aa K)):av P w K mg base bb 2 f fd ["floors","lifts"] (z8 K):=by
 have j:aA (.int 3) (.int 3 J):=⟨_,rfl⟩;rwa[F.ok ye (by intro _ _ _ _ h;cases h;subst_vars;rfl) (λZ A outer s H vs Q E hr h=> ?_)];obtain ⟨fl,a,G,rfl,Y,hl,q⟩:=h;obtain ⟨xs,R,dx⟩:=Y.out;have hx:=aB dx;rwa[⟨_,(aa @el (ac (ag (aM @gA rfl nq boot_all (aq (bG rfl (ax (N':=["start","room","turns","kind","floors"]) (pk:=[none,none,none,none,some 0]) @m) @a @v @u @k) am))))),?_⟩]
 have W: ¬(1<=G.length/\G.length<=3)->Q (.bl false) H:=λz=>by
  have:=q H (.refl _);rw [decide_eq_false z] at this;exact this
 rwa[BU R ?_];by_cases h1:1<=G.length
 ·by_cases h2:G.length<=3
  ·left
   rcases R with R|R
   all_goals
    first|refine b8 R ?_|refine d5 R ?_
    first
     |refine bK (xs:=xs) (λi ys H'=>H'=H/\ys=((G.map @cH).take i).map V.bl) @bs (λi ys H' p=>by rw [p.2,length_map,length_take];exact Nat.min_le_left _ _) ⟨rfl,rfl⟩ (λi ys H' _ p=>by rw [p.1];exact R) (λi x ys H' I p=> ?_) (λys H' p l2 U=> ?_)
     |refine cK (xs:=xs) (λi ys H'=>H'=H/\ys=((G.map @cH).take i).map V.bl) @bs (λi ys H' p=>by rw [p.2,length_map,length_take];exact Nat.min_le_left _ _) ⟨rfl,rfl⟩ (λi ys H' _ p=>by rw [p.1];exact R) (λi x ys H' I p=> ?_) (λys H' p l2 U=> ?_)
    ·obtain ⟨rfl,rfl⟩:=p;obtain ⟨l,S,dp⟩:=bu dx I;obtain ⟨u,us,rfl,hu,O⟩:=dp.outT
     cases O with|cons q0 t0=>cases t0 with|cons q1 J=>cases J with|cons q2 t2=>cases t2 with|cons q3 t3=>
     cases t3;cases q0.isInt;cases q1.isInt;cases q2.isInt;cases q3.isStr;left;rwa[⟨kO,?_⟩];left;rwa[Aa.mk _ l rfl ?_];rwa[⟨rfl,?_⟩];rw [take_succ,map_append,getElem?_map,S];rfl
    ·obtain ⟨rfl,rfl⟩:=p;rwa[Ir (bs:=G.map @cH) (aD.of (by rw [af,take_of_length_le (by rw [length_map];lia)])) ?_];have:=q _ (ak.upd (o:= .lst (((G.map @cH).take xs.length).map V.bl)) U);rw [decide_eq_true ⟨h1,h2⟩,Bool.true_and] at this;rw [all_map];exact this
  ·left;exact W λz=>h2 z.2
 ·left;exact W λz=>h1 z.1
inductive vA (vs:List V)(H:Hp)(Q:VK)(_e:XK):Prop
 |mk (fl lo:Int) (_:vs=[.int fl,.int lo]) (_:2<=fl) (_:fl<=8) (_:Q (.bl (decide (0<=lo/\lo<2^fl.toNat/\lo% 2=0))) H)
theorem GK (F:bo K "fits_locked" "fits_locked" iJ f fd)(S:bf P w K mg base 1 "bit" ["k"] lq)(O:bf P w K mg base 2 "has" ["mask","k"] fD):av P w K mg base bb 3 f fd ["floors","locked"] vA:=by
 rwa[F.ok vM (by intro _ _ _ _ h;cases h;subst_vars;rfl) @j];obtain ⟨fl,lo,rfl,J,R,q⟩:=h;rwa[⟨_,@g,?_⟩];obtain ⟨n,rfl⟩:=Int.eq_ofNat_of_zero_le (show 0<=fl by lia)
 have G:((2:Int)^((n:Int)).toNat)=((2^n:Nat):Int):=by rw [Int.toNat_natCast,Int.natCast_pow];rfl
 by_cases h1:0<=lo
 ·obtain ⟨M,rfl⟩:=Int.eq_ofNat_of_zero_le h1;left;erw[lq.mk _ rfl @c ?_];rw [G] at q;by_cases h2:(M:Int)<((2^n:Nat):Int)
  ·rwa[eO h2 ?_];rwa[fD.mk _ 0 rfl @b ?_]
   have e:decide (0<=(M:Int)/\(M:Int)<((2^n:Nat):Int)/\(M:Int)% 2=0)= !(M.testBit 0):=by
    rw [Nat.testBit_zero,<-decide_not];exact decide_eq_decide.mpr ⟨λz=>by lia,λz=>⟨h1,h2,by lia⟩⟩
   rw [e] at q;exact q
  ·rwa[dQ h2 ?_];rw [decide_eq_false (λz=>h2 z.2.1)] at q;left;exact q
 ·rw [decide_eq_false @dh] at q;left;exact q
unseal mF in
theorem Km {dP j:Addr}{t1 t2:Tok}(F:bo K "made_house" "made_house" j8 f fd)(b7:mg "tuple"=none)(dR:mg "NoHouse"=some (.ref dP))
(gb:W.excIn K dP [.type "ValueError",.type "Exception",.type "BaseException",.type "object"] "ValueError.__new__"=true)(jI:mg "LEAST_FLOORS"=some (.int 2 t1))(lS:mg "MOST_FLOORS"=some (.int 8 t2))(Bb:mg "SORTS"=some (.ref j))(Bt:∀H:Hp,aE K H j [.str "free",.str "way"])
(oS:bf P w K mg base 2 "fits_lifts" ["floors","lifts"] (z8 K))(lW:bf P w K mg base 3 "fits_locked" ["floors","locked"] vA):
 av P w K mg base @bU 4 f fd ["floors","lifts","locked","sort"] (mF K dP):=by
 have I:aA (.int 2) (.int 2 t1):=⟨_,rfl⟩;have J:aA (.int 8) (.int 8 t2):=⟨_,rfl⟩;rwa[F.okX yb @bi @cf]
 ·obtain ⟨fl,a,lo,U,O,rfl,_⟩:=h;rfl
 obtain ⟨fl,a,lo,U,O,rfl,hD,hl,Z,q,qb⟩:=h;obtain ⟨xs,hq,dx⟩:=hD.out;rwa[⟨_,(aa @R (aa @R (aa @R (aa (au (cq @gj (wv 3) (bR rfl Bb) @K) (ac (eE c7 rfl gb PySem.F.excBase_ValueError rfl dR (aq (fS (qO (wv 3) (qM qP))) am))) ap) (ac (ag (jT (aq (wv 0) (aq (aV @eO rfl b7 boot_tuple @T) (aq (wv 2) (aq (wv 3) am))))))))))),?_⟩]
 have rj:∀H',ak H H'-> ¬((2<=fl/\fl<=8)/\(1<=O.length/\O.length<=3)/\O.all @cH=true/\(0<=lo/\lo<2^fl.toNat/\lo% 2=0)/\(U=Str.ofString "free"\/U=Str.ofString "way"))->E (.ref dP) none H':=λH' sm z=>by
  rwa[qb ?_ H' sm]
  cases e:IL fl O lo U with
  |false=>rfl
  |true=>exact absurd (wj.mp e) z
 by_cases f2:2<=fl
 ·by_cases f8:fl<=8
  ·left;rwa[z8.mk _ _ _ rfl hD hl λH1 R=> ?_];rwa[iR @cb @cb]
   ·ext
    exact ⟨aR @b,rj H1 R λz=>by
     rw [decide_eq_true z.2.1,z.2.2.1] at h1;exact absurd h1 @b⟩
   have aC:(1<=O.length/\O.length<=3)/\O.all @cH=true:=by simpa using h1
   left;rwa[vA.mk _ _ rfl f2 f8 ?_];rwa[iR @bC @bC]
   ·ext
    exact ⟨aR @b,rj H1 R λz=>by
     rw [decide_eq_true z.2.2.2.1] at h2;exact absurd h2 @b⟩
   have ae:0<=lo/\lo<2^fl.toNat/\lo% 2=0:=by simpa using h2
   left;rwa[ux (Bt H1) rfl rfl ?_];rw [Ul];rwa[Sd (λh3=> ?_) (λh3=> ?_)]
   ·ext;have hr:=lB Z.2;have ah:=Z.1
    have ai:(reprText U).length<=4002:=by lia
    rwa[⟨aR @c,aR ?_,aR ?_,aR ?_,aR @e,rj H1 R λz=>h3 z.2.2.2.2⟩]
    ·rw [strLen_append];show 0+(reprText U).length<=1000000;lia
    ·rw [strLen_append,strLen_append,show Str.empty.length=0 from rfl];have e2:(Str.ofString " is no sort of a house").length<=100:=by decide
     lia
    ·rw [strLen_append,strLen_append,show Str.empty.length=0 from rfl];have e2:(Str.ofString " is no sort of a house").length<=100:=by decide
     lia
   have Y:IL fl O lo U=true:=wj.mpr ⟨⟨f2,f8⟩,aC.1,aC.2,ae,h3⟩;have G:=R.any hq;have ad:=az.same dx R
   rcases G with G|G
   ·ext;rwa[jV G λl H2 s2 n2 e2=> ?_];rwa[ce (aR (by show 4<=1000000;decide)) λl3 H3 S n3 e3=> ?_];exact q Y _ _ ((R.trans s2).trans S) ⟨l3,_,rfl,e3,.cons (.int _) (.cons (iV (aE.of (S.get e2)) (az.same (az.same ad s2) S)) (.cons (.int _) (.cons (.str _) .nil)))⟩
   ·ext;rwa[Qq G ?_];rwa[ce (aR (by show 4<=1000000;decide)) λl3 H3 S n3 e3=> ?_];exact q Y _ _ (R.trans S) ⟨l3,_,rfl,e3,.cons (.int _) (.cons (iV (S.seqT G) (az.same ad S)) (.cons (.int _) (.cons (.str _) .nil)))⟩
  ·left;exact ⟨aR @b,rj H (.refl _) λz=>f8 z.1.2⟩
 ·left;exact ⟨aR @b,rj H (.refl _) λz=>f2 z.1.1⟩
inductive Js (K:Fg)(vs:List V)(H:Hp)(Q:VK)(_e:XK):Prop
 |mk (a h ru df C dx:_) (_:vs=[.ref a,.ref h,.ref ru,.ref df]) (_:H a=some (.ins C dx [])) (_:Mo K C) (_:∀H',eJ a H H'->H' a=some (.ins C dx @ee)->Q .non H')
theorem GP (F:bo K "__init__" "Court.__init__" kh f fd):av P w K mg base bb 1 f fd ["self","house","rule","dealer"] (Js K):=by
 rwa[F.ok yf (by intro _ _ _ _ h;cases h;subst_vars;rfl) @Q];obtain ⟨a,h,O,J,C,dx,rfl,G,j,q⟩:=h;rwa[⟨_,(aa @bQ (aa (cN rfl (wv 0) (wv 2)) (ac (cN rfl (wv 0) (wv 3))))),?_⟩];rwa[cQ G j.i.cl j.house @b ?_];rwa[cQ af j.i.cl j.rule (by show 1<1000;decide) ?_];rwa[cQ af j.i.cl j.dealer (by show 2<1000;decide) ?_];rwa[q _ (λb o n e=> ?_) af];rw [aj n,aj n,aj n];exact e
unseal fZ in
theorem Tl {C:Addr}{E:XK}{H:Hp}{h j J:Addr}{Q:VK}(F:Mo K C)(g:∀a dx H',ak H H'->H a=none->H' a=some (.ins C dx (nL h j J))->Q (.ref a) H'):fZ C (Js K) E [.ref h,.ref j,.ref J] H Q:=by
 show ∀a dx,H a=none->H dx=none->dx≠a->Js K (.ref a::([.ref h,.ref j,.ref J]++[])) @r (λv H2=>v= .non/\Q (.ref a) H2) E;intro a dx h1 h2 S;have G:ak H @r:=d4 h1 h2;exact ⟨a,h,j,J,C,dx,rfl,af,F,λH' sp e=>⟨rfl,g a dx H' (λb o e=>sp b o (λz=>by rw [z,h1] at e;cases e) (G b o e)) h1 e⟩⟩
def He (l:gQ):Lf:=⟨l.start,l.room,l.turns,l.kind⟩
def Lx (hs:Hs):Prop:=∀l∈hs.ls,0<=l.st/\l.st<hs.fl
theorem Rs {H:Hp}{x:V}{l:gQ}(h:bL K H x l.d):Pj K H x (He l):=by
 obtain ⟨a,xs,rfl,h1,h2⟩:=h.outT
 cases h2 with|cons q0 t0=>cases t0 with|cons q1 t1=>cases t1 with|cons q2 t2=>cases t2 with|cons q3 t3=>
 cases t3;cases q0.isInt;cases q1.isInt;cases q2.isInt;cases q3.isStr;exact ⟨a,rfl,h1⟩
theorem Ho {H:Hp}{t:V}{fl:Int}{j:List gQ}{lo:Int}{so:Str}(h:xj K H t fl j lo so)(ok:IL fl j lo so=true):∃p,t= .ref p/\gu K H p ⟨fl,j.map He,lo.toNat,so⟩/\Lx ⟨fl,j.map He,lo.toNat,so⟩:=by
 obtain ⟨⟨J,U⟩,⟨l1,l3⟩,Z,⟨W,_,_⟩,hs⟩:=wj.mp ok;obtain ⟨p,xs,rfl,h1,h2⟩:=h;unfold Cf at h2
 cases h2 with|cons q0 t0=>cases t0 with|cons q1 t1=>cases t1 with|cons q2 t2=>cases t2 with|cons q3 t3=>
 cases t3;cases q0.isInt;cases q2.isInt;cases q3.isStr;obtain ⟨b,ys,rfl,h3,I⟩:=q1.outT;have G:∀l∈j,gQ.ok fl l=true:=λl R=>all_eq_true.mp Z l R;rwa[⟨p,rfl,⟨⟨J,U,by show 1<=(j.map He).length;rw [length_map];exact l1,by show (j.map He).length<=3;rw [length_map];exact l3,λl R=> ?_,hs⟩,b,ys,?_,h3,?_⟩,λl R=> ?_⟩]
 ·obtain ⟨m,F,rfl⟩:=mem_map.mp R;have z:=G m F;unfold gQ.ok at z;have z:=of_decide_eq_true z;exact ⟨z.2.2.1,z.2.2.2.1,z.2.2.2.2.1,z.2.2.2.2.2.1,z.2.2.2.2.2.2⟩
 ·have e:((lo.toNat:Nat):Int)=lo:=by lia
  show aE K H p [.int fl,.ref b,.int ((lo.toNat:Nat):Int),.str so];rw [e];exact aE.of h1
 ·rwa[PySem.Paired.of (by rw [length_map];exact aB I) λi x l Y O=> ?_];obtain ⟨m,F,S⟩:=bu I Y;rw [getElem?_map,F] at O;cases O;exact Rs S
 ·obtain ⟨m,F,rfl⟩:=mem_map.mp R;have z:=G m F;unfold gQ.ok at z;have z:=of_decide_eq_true z;exact ⟨z.1,z.2.1⟩
def RM (l:Lf):Cb:=⟨2*l.st,0,0,0,[]⟩
inductive Fq (K:Fg)(vs:List V)(H:Hp)(Q:VK)(_e:XK):Prop
 |mk (x l:_) (_:vs=[x]) (_:Pj K H x l) (_:∀v H',ak H H'->d8 K H' v (RM l)->Q v H')
theorem Os (F:bo K "cabin_of" "cabin_of" qG f fd):av P w K mg base bb 1 f fd ["lift"] (Fq K):=by
 rwa[F.ok C7 (by intro _ _ _ _ h;cases h;subst_vars;rfl) (λj A outer s H J Q E W h=> ?_)];obtain ⟨x,l,rfl,⟨b,rfl,G⟩,q⟩:=h;rwa[⟨_,@g,?_⟩];rwa[ao G rfl ?_];rwa[⟨cy @b @b,?_⟩];rwa[ce (aR (by show 0<=1000000;decide)) λb H1 O U S=> ?_];exact ce (aR (by show 5<=1000000;decide)) λa H2 R I z=>q _ H2 (O.trans R) ⟨a,rfl,b,[],z,R _ _ S,.nil⟩
inductive vC (K:Fg)(vs:List V)(H:Hp)(Q:VK)(_e:XK):Prop
 |mk (a C dx h ru df hs:_) (_:vs=[.ref a]) (_:H a=some (.ins C dx @ee)) (_:Mo K C) (_:gu K H h hs) (_:∀st H',ak H H'->oh K H' st @fQ [] ((hs.ls.length:Int) - 1) false->Q (.ref st) H')
theorem GR (F:bo K "begin" "Court.begin" iK f fd)(bE:mg "len"=none)(b7:mg "tuple"=none)(u3:bf P w K mg base 1 "cabin_of" ["lift"] (Fq K)):av P w K mg base bb 2 f fd ["self"] (vC K):=by
 rwa[F.ok lv (by intro _ _ _ _ h;cases h;subst_vars;rfl) @H];obtain ⟨a,C,dx,h,ru,df,hs,rfl,ea,Z,⟨W,p,xs,h1,h2,h3⟩,q⟩:=h;have l3:=W.l3;have xl:=h3.len;rwa[⟨_,(aa (bq (i:=1) lv.nd rfl @o (aV @eO rfl b7 boot_tuple (aq (bG rfl (ax (N':=["lift"]) (pk:=[none]) @m) @a @k @u @k) am))) @g),?_⟩];rwa[dS ea Z.i.cl Z.house (v:= .ref h) rfl ?_];rwa[ao h1 rfl ?_];rwa[d5 h2 ?_];rwa[cK (xs:=xs) (λi ys H'=>ak H H'/\Paired (d8 K H') ys ((hs.ls.take i).map RM)) @bs (λi ys H' p=> ?_) ⟨.refl _,by rw [take_zero];exact .nil⟩ (λi ys H' _ p=>p.1.seqT h2) (λi x ys H' U p=> ?_) (λys H' p l nl=> ?_)]
 ·rw [p.2.len,length_map,length_take];lia
 ·obtain ⟨J,G⟩:=p;obtain ⟨lf,O,Y⟩:=h3.get1 U;obtain ⟨b,rfl,hb⟩:=Y;rwa[⟨bZ,?_⟩];rwa[Fq.mk _ _ rfl ⟨b,rfl,J.seqT hb⟩ λv H2 R hv=>⟨J.trans R,?_⟩];rw [take_add_one,O,map_append];exact Paired.app (Paired.imp' (λx c z=>d8.keep z R.st) G) (.cons hv .nil)
 ·obtain ⟨J,G⟩:=p;have R:ak H' (upd H' l (.lst ys)):= .upd nl;rw [xl,take_of_length_le @f] at G
  have yl:ys.length=hs.ls.length:=by rw [G.len,length_map]
  rwa[jV @cV λtc H3 s3 n3 e3=> ?_];rwa[ce (aR (by show 0<=1000000;decide)) λtw H4 S n4 e4=> ?_];erw[bQ (aE.of (S _ _ e3)) ?_];rw [yl];have j:=((R.trans s3).trans S);rwa[ce (aR (by show 4<=1000000;decide)) λst H5 I n5 e5=>q st H5 ((J.trans j).trans I) ⟨tc,tw,ys,[],aE.of e5,aE.of (I _ _ (S _ _ e3)),aE.of (I _ _ e4),Paired.imp' (λx c z=>d8.keep z (j.trans I).st) G,.nil⟩]
def iC:Sp:=λ_ _ _ _=>False
theorem Rc (F:bo K "read_lifts" "read_lifts" qx f fd):av P w K mg base @bU 1 f fd ["words","house"] iC:=HF
theorem Kc (F:bo K "zone_of" "zone_of" BX f fd):av P w K mg base bb 1 f fd ["lifts"] iC:=HF
theorem GL (F:bo K "fixed_of" "fixed_of" yg f fd):av P w K mg base bb 1 f fd ["lifts"] iC:=HF
def Dk.tx:Dk->Str
 | .near=>Str.ofString "near"| .least=>Str.ofString "least"| .turns=>Str.ofString "turns"
def Fp (kn kl kT:Addr):Sp:=λvs H Q _=>∃(k:Dk) (h:Addr),vs=[.str k.tx,.ref h]/\Q (.ref (k.ad kn kl kT)) H
theorem Uq {U j z h:Addr}{k:Dk}{H:Hp}{Q:VK}{E:XK}(g:Q (.ref (k.ad U j z)) H):Fp U j z [.str k.tx,.ref h] H Q E:=⟨k,h,rfl,g⟩
theorem Rg {Z I G j:Addr}{U:Tok}(F:bo K "dealer_of" "dealer_of" m7 f fd)(bE:mg "len"=none)(oG:mg "MOST_FIXED"=some (.int 9 U))(jj:mg "NoDeal"=some (.ref Z))(wH:W.excIn K Z [.type "ValueError",.type "Exception",.type "BaseException",.type "object"] "ValueError.__new__"=true)(uM:mg "near"=some (.ref I))(nE:mg "least"=some (.ref G))(ff:mg "by_turns"=some (.ref j))(Y:uk P w K mg base 1 "read_lifts" ["words","house"] iC)(rW:bf P w K mg base 1 "zone_of" ["lifts"] iC)(nR:bf P w K mg base 1 "fixed_of" ["lifts"] iC):av P w K mg base @bU 2 f fd ["text","house"] (Fp I G j):=by
 have J:aA (.int 9) (.int 9 U):=⟨_,rfl⟩;rwa[F.okX As @bi (λad A outer s H vs Q E R h=> ?_)]
 ·obtain ⟨k,h,rfl,_⟩:=h;rfl
 obtain ⟨k,h,rfl,q⟩:=h;rwa[⟨_,(aa (au @a (ac (ag (bR rfl uM))) ap) (aa (au @a (ac (ag (bR rfl nE))) ap) (aa (au @a (ac (ag (bR rfl ff))) ap) (aa @a (aa @a (aa (au @a (ac (ag (c8 rW R @b rfl (aq (Gf c7 Y R @b rfl (aq (wv 3) @T)) am)))) ap) (aa (au @a (ac (ag (c8 nR R @b rfl (aq (Gf c7 Y R @b rfl (aq (wv 3) @T)) am)))) ap) (ac (eE c7 rfl wH PySem.F.excBase_ValueError rfl jj @cw))))))))),?_⟩];obtain ⟨x,O⟩:∃x,x=k.tx:=⟨_,rfl⟩;rw [<-O];rwa[fe @B @dX]
 ·obtain rfl:k= .near:=by
   cases k with
   |near=>rfl
   |least=>rw [O] at z;exact absurd z @h
   |turns=>rw [O] at z;exact absurd z @h
  exact q
 rwa[fe @B (λz2=> ?_)]
 ·obtain rfl:k= .least:=by
   cases k with
   |near=>exact absurd O S
   |least=>rfl
   |turns=>rw [O] at z;exact absurd z @h
  exact q
 ext
 obtain rfl:k= .turns:=by
  cases k with
  |near=>exact absurd O S
  |least=>exact absurd O z2
  |turns=>rfl
 rwa[eO O ?_];exact q
seal Fp iC
structure T4 (hs:Hs)(n:Nat)(cs:List Cb)(ws:List bj)(last:Int):Prop where
 len:cs.length=hs.ls.length
 ck:∀c∈cs,mh hs.fl c
 rk:∀r∈ws,i9 hs.fl r
 w:ws.length<=n
 l0:0<=last
theorem Jp {so:Str}{room pl fl:Int}{s:D9}{r:bj}(J:room<=64)(R: -1<=s.light/\s.light<=1)(j:s.kept.length<=64)(Y:∀p∈s.kept,0<=p.2/\p.2<fl)(W:i9 fl r):(-1<=(dA so room pl s r).light/\(dA so room pl s r).light<=1)/\(dA so room pl s r).kept.length<=64/\∀p∈(dA so room pl s r).kept,0<=p.2/\p.2<fl:=by
 unfold dA;split
 ·rename_i e;unfold gK at e
  have O:(s.kept.length:Int)<room:=by
   rw [Bool.and_eq_true,Bool.and_eq_true] at e;exact of_decide_eq_true e.1.2
  rwa[⟨?_,by show (s.kept++_).length<=64;rw [length_append];simp;lia,λp G=> ?_⟩]
  ·show -1<=(if so=Str.ofString "way" then xD r else s.light)/\(if so=Str.ofString "way" then xD r else s.light)<=1;split
   ·unfold xD;split<;>lia
   ·exact R
  ·rcases mem_append.mp G with z|z
   ·exact Y p z
   ·rw [mem_singleton.mp z];exact ⟨W.g0,W.g1⟩
 ·exact ⟨R,j,Y⟩
theorem xT {so:Str}{room pl fl:Int}(J:room<=64):∀(rs:List bj) (s:D9),(-1<=s.light/\s.light<=1)->s.kept.length<=64->(∀p∈s.kept,0<=p.2/\p.2<fl)->(∀r∈rs,i9 fl r)->(-1<=(bP so room pl s rs).light/\(bP so room pl s rs).light<=1)/\(bP so room pl s rs).kept.length<=64/\∀p∈(bP so room pl s rs).kept,0<=p.2/\p.2<fl
 |[],s,hl,hk,hg,_=>⟨hl,hk,hg⟩
 |r::rs,s,hl,hk,hg,hr=>by
  have h:=Jp (so:=so) (room:=room) (pl:=pl) (fl:=fl) J hl hk hg (hr r (.head _));exact xT J rs @cq h.1 h.2.1 h.2.2 λq R=>hr q (.tail _ R)
theorem Fv {α:Type}{xs:List α}{i:Nat}{x:α}(h:xs[i]? =some x):xs.set i x=xs:=by
 obtain ⟨h1,h2⟩:=List.getElem?_eq_some_iff.mp h;rw [<-h2];exact set_getElem_self h1
theorem E8 {hs:Hs}{l:Lf}{c:Cb}{F:Str}{f0:Nat}(W:mh hs.fl c)(e:c.pl=2*(f0:Int))(G: ¬0<c.dr)(J:F∈cO):mh hs.fl (qa hs l c F):=by
 have Y:=O4 (iu (so:=hs.so) (pl:=c.pl) (li:=c.li) (ps:=c.ps) J);have R:=W.p0;have S:=W.p1;have l0:=W.l0;have l1:=W.l1
 have j: -1<=(if c.ps=[] then (0:Int) else c.li)/\(if c.ps=[] then (0:Int) else c.li)<=1:=by split<;>lia
 unfold qa;generalize bY hs.so c.pl c.li c.ps F=x at Y
 rcases Y with rfl|rfl|rfl|rfl|rfl
 ·rw [HQ];exact ⟨R,S,l0,l1,W.m0,λ_=>by show c.pl% 2=0;lia,W.len,W.gs⟩
 ·rw [HN];exact ⟨R,S,by show (-1:Int)<=0;decide,by show (0:Int)<=1;decide,W.m0,λ_=>by show c.pl% 2=0;lia,W.len,W.gs⟩
 ·by_cases z:c.pl / 2<hs.fl - 1
  ·rw [Bh z];exact ⟨by show 0<=c.pl+1;lia,by show c.pl+1<=_;lia,by show (-1:Int)<=1;decide,by show (1:Int)<=1;decide,W.m0,λy=>absurd y G,W.len,W.gs⟩
  ·rw [Bi z];exact ⟨R,S,j.1,j.2,W.m0,λy=>absurd y G,W.len,W.gs⟩
 ·by_cases z:0<c.pl
  ·rw [Bj z];exact ⟨by show 0<=c.pl - 1;lia,by show c.pl - 1<=_;lia,by show (-1:Int)<= -1;decide,by show (-1:Int)<=1;decide,W.m0,λy=>absurd y G,W.len,W.gs⟩
  ·rw [Bk z];exact ⟨R,S,j.1,j.2,W.m0,λy=>absurd y G,W.len,W.gs⟩
 ·rw [HP];exact ⟨R,S,j.1,j.2,W.m0,λy=>absurd y G,W.len,W.gs⟩
theorem wJ {so:Str}{li:Int}{a b c:Bool}:0<=ia so li a b c/\ia so li a b c<=2:=by
 unfold ia;split
 ·lia
 ·split
  ·lia
  ·split<;>lia
theorem Pp.ok {hs:Hs}{wf:Wf}{M M':MS}{i:Int}{c:Cb}{l:Lf}(h:Pp hs wf M i c l M')(W:mh hs.fl c)(J:atC M i c)(l6:l.rm<=6)(G:M.fire=false)(U:∀fl li he up dn,i8 li he up dn->wf fl li he up dn∈cO)(Y:∀r∈M.ws,i9 hs.fl r):M'.fire=false/\M'.last=M.last/\∃c',mh hs.fl c'/\M'.cs=M.cs.set i.toNat c':=by
 rcases h with ⟨_,rfl⟩|⟨_,h2,_⟩|⟨_,_,S⟩
 ·exact ⟨G,rfl,c,W,(Fv J.2).symm⟩
 ·rw [G] at h2;cases h2
 ·unfold IG at S;split at S
  ·rename_i z;subst S;rwa[⟨G,rfl,_,?_,rfl⟩];have aH:∀r∈c9 i M,i9 hs.fl r:=λr F=>Y r (by unfold c9 at F;exact (mem_filter.mp F).1);have j:∀p∈eU c.pl c.ps,0<=p.2/\p.2<hs.fl:=λp I=>W.gs p (mem_filter.mp I).1;have st:=xT (so:=hs.so) (pl:=c.pl) (fl:=hs.fl) (show l.rm<=64 by lia) @eP ⟨c.li,eU c.pl c.ps,[]⟩ ⟨W.l0,W.l1⟩ (Nat.le_trans @bT W.len) j aH;exact ⟨W.p0,W.p1,st.1.1,st.1.2,W.m0,λ_=>W.ev z,st.2.1,st.2.2⟩
  ·rename_i z;split at S
   ·rename_i y;subst S;have Z:=W.p0;have p1:=W.p1;have l0:=W.l0;have l1:=W.l1;exact ⟨G,rfl,⟨c.pl+c.li,c.li,0,c.mr,c.ps⟩,⟨by show 0<=c.pl+c.li;lia,by show c.pl+c.li<=_;lia,l0,l1,W.m0,λy=>absurd y (by show ¬(0:Int)<0;decide),W.len,W.gs⟩,rfl⟩
   ·obtain ⟨f0,u,d,e,O,R,rfl⟩:=S;rwa[⟨G,rfl,_,E8 W e z (U _ _ _ _ _ ?_),rfl⟩];exact ⟨W.l0,W.l1,wJ.1,wJ.2,by rcases O with ⟨h,_⟩|⟨h,_⟩<;>lia,by rcases R with ⟨h,_⟩|⟨h,_⟩<;>lia⟩
theorem IN.ok {hs:Hs}{wf:Wf}{M:MS}(Y:hs.ok)(R:∀fl li he up dn,i8 li he up dn->wf fl li he up dn∈cO)(U:M.fire=false)(J:∀c∈M.cs,mh hs.fl c)(W:∀r∈M.ws,i9 hs.fl r)(F:M.ws.length<=64):∀ {n:Nat} {M':MS},IN hs wf n M M'->M'.fire=false/\M'.last=M.last/\(∀c∈M'.cs,mh hs.fl c)/\jQ hs M n M'
 |0,M',h=>by
  obtain rfl:M'=M:=h;exact ⟨U,rfl,J,⟨rfl,λ_ _=>rfl,λ_ h=>h,Nat.le_refl _,by lia,rfl⟩⟩
 |n+1,M',⟨M1,c,l,h1,h2,h3,h4⟩=>by
  obtain ⟨f1,l1,O,I⟩:=IN.ok Y R U J W F h1;have j:c∈M1.cs:=mem_of_getElem? h2.2;have w1:M1.ws.length<=64:=Nat.le_trans I.wl F;obtain ⟨g1,g2,c',Z,g4⟩:=h4.ok (O c j) h2 (Y.lf l (mem_of_getElem? h3)).2.1 f1 R λr G=>W r (I.ws r G);rwa[⟨g1,g2.trans l1,λx S=> ?_,I.go (O c j).len w1 h4⟩];rw [g4] at S
  rcases pK S with z|z
  ·exact O x z
  ·rw [z];exact Z
theorem Nt {bs:List Bool}{first:Int}(h:0<=first): -1<=sf bs first:=by
 have j:∀(n k:Nat),-1<=Nu bs first k n:=by
  intro n
  induction n with
  |zero=>intro k;simp [Nu]
  |succ n ih=>
   intro k;unfold Nu;split
   ·by_cases z:(bs.length:Int)=0
    ·rw [z,Int.emod_zero];lia
    ·have:=Int.emod_nonneg (first+(k:Int)) z;lia
   ·exact ih _
 exact j _ _
theorem HS {k:Dk}{cs:List Cb}{ws:List bj}{r:bj}{last:Int}(h:0<=last):0<=(xn k cs ws r last).2:=by
 cases k with
 |near=>exact h
 |least=>exact h
 |turns=>
  show 0<=(if ur cs last= -1 then last else ur cs last);split
  ·exact h
  ·have:=Nt (bs:=bI @di) (first:=last+1) @c;rename_i z;unfold ur at z ⊢;lia
theorem rP {dl:xo}(G:∀cs ws r last,0<=last->0<=(dl cs ws r last).2){W:List bj}{M:MS}(h:0<=M.last):∀i,0<=(bg dl W i M).last/\(bg dl W i M).fire=M.fire
 |0=>⟨h,rfl⟩
 |i+1=>by
  have j:=rP G (W:=W) h i;unfold bg;split
  ·split
   ·unfold ge;split
    ·exact ⟨G _ _ _ _ j.1,j.2⟩
    ·exact ⟨G _ _ _ _ j.1,j.2⟩
   ·exact j
  ·exact j
theorem HG {α:Type}{CX:ml}{k:Nat}{ps:List Str}{sp:α->Sp}(F:∀a,av P w K mg base CX k f fd ps (sp a))(R:∀vs H Q E,(∃a,sp a vs H Q E)->vs.length=ps.length):av P w K mg base CX k f fd ps (λvs H Q E=>∃a,sp a vs H Q E):=
 ⟨λvs H Q E ⟨a,q⟩=>(F a).len vs H Q E q,λA outer s H z G vs Q E W U j Y ⟨a,hs⟩=>(F a).run A outer s H z G vs Q E W U j Y hs⟩
theorem Cs {n:Nat}{x:Str}{ps:List Str}{sp j:Sp}(c:bf P w K mg base n x ps sp)(h:∀vs H Q E,j vs H Q E->sp vs H Q E):bf P w K mg base n x ps j:=by
 obtain ⟨f,fd,F,b⟩:=c.ex;exact ⟨f,fd,F.imp h,b⟩
def pG (P:Program)(w:World)(K:Fg)(mg:Str->Option Value)(base:Heap)(C Pn Pl:Addr):Sp:=λvs H Q E=>∃k:Dk,vB P w K mg base C @cv qK (xn k) vs H Q E
def lj (P:Program)(w:World)(K:Fg)(mg:Str->Option Value)(base:Heap)(C Pn Pl:Addr):Sp:=λvs H Q E=>∃k:Dk,lm P w K mg base C @cv qK (xn k) vs H Q E
def kU (P:Program)(w:World)(K:Fg)(mg:Str->Option Value)(base:Heap)(Pn Pl:Addr):Sp:=λvs H Q E=>∃k:Dk,zU P w K mg base @cv qK (xn k) vs H Q E
theorem GN {C Pn Pl:Addr}{O:Tok}(F:bo K "deal" "deal" BY f fd)(z:zD K C)(G:mg "tuple"=none)(j:mg "NO_LIFT"=some (.int (-1) O))(I:bf P w K mg base 1 "dealt_to" ["rider","lift"] (pF K)):av P w K mg base bb 6 f fd ["moment","dealer","place","rider"] (pG P w K mg base C Pn Pl):=
 HG (λk=>B3 (dl:=xn k) (pre:=qK) F lQ z G j I) λJ H Q E ⟨k,h⟩=>(B3 (P:=P) (w:=w) (base:=base) (dl:=xn k) (pre:=qK) F lQ z G j I).len J H Q E h
theorem Du {C Pn Pl:Addr}{z:Tok}(F:bo K "deal_all" "deal_all" ly f fd)(R:zD K C)(O:mg "list"=none)(J:mg "enumerate"=none)(j:mg "NO_LIFT"=some (.int (-1) z))(S:bf P w K mg base 6 "deal" ["moment","dealer","place","rider"] (pG P w K mg base C Pn Pl)):av P w K mg base bb 7 f fd ["moment","dealer"] (lj P w K mg base C Pn Pl):=by
 have G:∀k,av P w K mg base bb 7 f fd ["moment","dealer"] (lm P w K mg base C @cv qK (xn k)):=λk=>GO F lQ R O J j (Cs S λI H Q E h=>⟨k,h⟩);exact HG G λI H Q E ⟨k,h⟩=>(G k).len I H Q E h
theorem Go {j Pn Pl:Addr}(F:bo K "turn" "Court.turn" gG f fd)(R:zD K j)(W:mg "len"=none)(U:mg "range"=none)(z:bf P w K mg base 7 "need_deeds" ["house","state","deeds"] (BP K))(Y:ja P w K mg base bb 1 "Moment" j (Ff K))(O:bf P w K mg base 5 "do_deed" ["moment","deed"] (Jr K j))(S:bf P w K mg base 7 "deal_all" ["moment","dealer"] (lj P w K mg base j Pn Pl))(bg:bf P w K mg base 8 "go" ["moment","rule","lift"] (Jq P w K mg base j))(J:bf P w K mg base 1 "state_of" ["moment"] (BO K j)):av P w K mg base bb 9 f fd ["self","state","deeds"] (kU P w K mg base Pn Pl):=by
 have G:∀k,av P w K mg base bb 9 f fd ["self","state","deeds"] (zU P w K mg base @cv qK (xn k)):=λk=>Kg lQ F R W U z Y O (Cs S λI H Q E h=>⟨k,h⟩) bg J;exact HG G λI H Q E ⟨k,h⟩=>(G k).len I H Q E h
seal pG lj
def Pk (fl:Int)(k:Int×Int):Prop:=0<=k.1/\k.1<fl/\0<=k.2/\k.2<fl/\k.1≠k.2
structure zz (K:Fg)(H:Hp)(st:Addr)(hs:Hs)(n:Nat)(cs:List Cb)(ws:List bj)(last:Int):Prop where
 a:oh K H st cs ws last false
 o:T4 hs n cs ws last
 h:hs.ok
theorem zz.nt {H H':Hp}(s:aT H H'){st:Addr}{hs:Hs}{n:Nat}{cs:List Cb}{ws:List bj}{last:Int}(h:zz K H st hs n cs ws last):zz K H' st hs n cs ws last:=⟨QH s h.a,h.o,h.h⟩
theorem zz.c64 {H:Hp}{st:Addr}{hs:Hs}{n:Nat}{cs:List Cb}{ws:List bj}{last:Int}(h:zz K H st hs n cs ws last):∀c∈cs,c.ps.length<=64:=λc J=>(h.o.ck c J).len
def Pd (T:Int->Prop)(cs:List Cb):Prop:=∀c∈cs,∀p∈c.ps,T p.1
def Ei (T:Int->Prop)(ws:List bj):Prop:=∀r∈ws,T r.tag
theorem Qs {T:Int->Prop}{cs:List Cb}{ws:List bj}(h:∀t∈fM cs ws,T t):Pd T cs/\Ei T ws:=
 ⟨λc J p G=>h _ (mem_append.mpr (.inr (mem_flatMap.mpr ⟨c,J,mem_map.mpr ⟨p,G,rfl⟩⟩))),λr W=>h _ (mem_append.mpr (.inl (mem_map.mpr ⟨r,W,rfl⟩)))⟩
theorem LO {T:Int->Prop}{cs:List Cb}{ws:List bj}(F:Pd T cs)(W:Ei T ws):∀t∈fM cs ws,T t:=λt J=>by
 rcases mem_append.mp J with z|z
 ·obtain ⟨r,j,rfl⟩:=mem_map.mp z;exact W r j
 ·obtain ⟨c,I,z⟩:=mem_flatMap.mp z;obtain ⟨p,G,rfl⟩:=mem_map.mp z;exact F c I p G
theorem xS {T:Int->Prop}{so:Str}{room pl:Int}:∀(rs:List bj) (s:D9),(∀p∈s.kept,T p.1)->Ei T rs->∀p∈(bP so room pl s rs).kept,T p.1
 |[],s,h,_=>h
 |r::rs,s,h,hr=>by
  rwa[xS rs @cq (λp G=> ?_) λq R=>hr q (.tail _ R)];unfold dA at G;split at G
  ·rcases mem_append.mp G with z|z
   ·exact h p z
   ·rw [mem_singleton.mp z];exact hr r (.head _)
  ·exact h p G
theorem E7 {hs:Hs}{l:Lf}{c:Cb}{j:Str}(J:j∈cO):(qa hs l c j).ps=c.ps:=by
 have Y:=O4 (iu (so:=hs.so) (pl:=c.pl) (li:=c.li) (ps:=c.ps) J);unfold qa;generalize bY hs.so c.pl c.li c.ps j=x at Y
 rcases Y with rfl|rfl|rfl|rfl|rfl
 ·rw [HQ]
 ·rw [HN]
 ·by_cases z:c.pl / 2<hs.fl - 1
  ·rw [Bh z]
  ·rw [Bi z]
 ·by_cases z:0<c.pl
  ·rw [Bj z]
  ·rw [Bk z]
 ·rw [HP]
theorem Pp.tg {T:Int->Prop}{hs:Hs}{wf:Wf}{M M':MS}{i:Int}{c:Cb}{l:Lf}(h:Pp hs wf M i c l M')(W:mh hs.fl c)(Y:atC M i c)(hf:M.fire=false)(R:∀fl li he up dn,i8 li he up dn->wf fl li he up dn∈cO)(J:Pd T M.cs)(U:Ei T M.ws):Pd T M'.cs:=by
 have j:=J c (mem_of_getElem? Y.2)
 have F:∀ {I:Cb},(∀p∈I.ps,T p.1)->Pd T (M.cs.set i.toNat I):=λ{I} h x hx=>by
  rcases pK hx with z|z
  ·exact J x z
  ·rw [z];exact h
 rcases h with ⟨_,rfl⟩|⟨_,h2,_⟩|⟨_,_,S⟩
 ·exact J
 ·rw [hf] at h2;cases h2
 ·unfold IG at S;split at S
  ·subst S;rwa[F ?_];have aH:Ei T @eP:=λr G=>U r (by unfold c9 at G;exact (mem_filter.mp G).1);have O:∀p∈eU c.pl c.ps,T p.1:=λp Z=>j p (mem_filter.mp Z).1;exact xS (so:=hs.so) (room:=l.rm) (pl:=c.pl) @eP ⟨c.li,eU c.pl c.ps,[]⟩ O aH
  ·split at S
   ·subst S;exact F j
   ·obtain ⟨f0,u,d,e,hu,hd,rfl⟩:=S;rwa[F ?_];rw [E7 (R _ _ _ _ _ ?_)]
    ·exact j
    ·exact ⟨W.l0,W.l1,wJ.1,wJ.2,by rcases hu with ⟨h,_⟩|⟨h,_⟩<;>lia,by rcases hd with ⟨h,_⟩|⟨h,_⟩<;>lia⟩
theorem IN.tg {T:Int->Prop}{hs:Hs}{wf:Wf}{M:MS}(Y:hs.ok)(z:∀fl li he up dn,i8 li he up dn->wf fl li he up dn∈cO)(I:M.fire=false)(j:∀c∈M.cs,mh hs.fl c)(O:∀r∈M.ws,i9 hs.fl r)(J:M.ws.length<=64)(G:Pd T M.cs)(W:Ei T M.ws):∀ {n:Nat} {M':MS},IN hs wf n M M'->Pd T M'.cs
 |0,M',h=>by
  obtain rfl:M'=M:=h;exact G
 |n+1,M',⟨M1,c,l,h1,h2,h3,h4⟩=>by
  obtain ⟨U,l1,Z,S⟩:=IN.ok Y z I j O J h1;have R:=IN.tg Y z I j O J G W h1;exact h4.tg (Z c (mem_of_getElem? h2.2)) h2 U z R λr F=>W r (S.ws r F)
theorem yW {T:Int->Prop}{dl:xo}{W:List bj}{M:MS}(j:Ei T W)(F:Ei T M.ws):∀i,Ei T (bg dl W i M).ws
 |0=>F
 |i+1=>by
  have h:=yW (dl:=dl) j F i;unfold bg;split
  ·rename_i r G;split
   ·unfold ge;split
    ·exact h
    ·intro x I
     rcases pK I with z|z
     ·exact h x z
     ·rw [z];exact j r (mem_of_getElem? G)
   ·exact h
  ·exact h
abbrev iy:Str:=Str.ofString "block"
def Ef (fl:Int)(nl n:Nat)(ds:List Dd):Prop:=∃a b,ds=a++b/\(a=[]\/∃t s g,a=[.come t s g false]/\Pk fl (s,g)/\t% 32=(n:Int))/\(b=[]\/∃l,b=[.lf iy l]/\0<=l/\l<(nl:Int))
def Mh (n:Nat)(t:Int):Prop:=t% 32<(n:Int)
theorem Ef.good {fl:Int}{Y n:Nat}{ts:List Int}{ds:List Dd}(h:Ef fl Y n ds)(J:∀t∈ts,Mh n t):yK fl Y ts ds:=by
 obtain ⟨a,b,rfl,F,I⟩:=h
 have j:∀ts,yK fl Y ts b:=λts=>by
  rcases I with rfl|⟨l,rfl,l0,l1⟩
  ·trivial
  ·exact ⟨⟨rfl,l0,l1⟩,(λt J=>by cases J),trivial⟩
 rcases F with rfl|⟨t,s,g,rfl,k,e⟩
 ·exact j ts
 ·rwa[⟨k,λu G z=> ?_,j _⟩];rw [mem_singleton.mp G] at z;have:=J t z;unfold Mh at this;lia
theorem Ef.deeds {fl:Int}{Y n:Nat}{ds:List Dd}{lo:Nat}{cs:List Cb}{ws:List bj}{last:Int}(h:Ef fl Y n ds)(j:∀r∈ws,i9 fl r)(W:Ei (Mh (n+1)) ws):(aH lo ⟨cs,ws,last,false,0,[]⟩ ds).fire=false/\(aH lo ⟨cs,ws,last,false,0,[]⟩ ds).cs=cs/\(aH lo ⟨cs,ws,last,false,0,[]⟩ ds).last=last/\(aH lo ⟨cs,ws,last,false,0,[]⟩ ds).ws.length<=ws.length+1/\(∀r∈(aH lo ⟨cs,ws,last,false,0,[]⟩ ds).ws,i9 fl r)/\Ei (Mh (n+1)) (aH lo ⟨cs,ws,last,false,0,[]⟩ ds).ws:=by
 obtain ⟨a,b,rfl,O,U⟩:=h
 have e:aH lo ⟨cs,ws,last,false,0,[]⟩ (a++b)=aH lo (aH lo ⟨cs,ws,last,false,0,[]⟩ a) b:=by unfold aH;rw [foldl_append]
 rw [e]
 have J:∀M,(aH lo M b).fire=M.fire/\(aH lo M b).cs=M.cs/\(aH lo M b).last=M.last/\(aH lo M b).ws=M.ws:=λM=>by
  rcases U with rfl|⟨l,rfl,_⟩
  ·exact ⟨rfl,rfl,rfl,rfl⟩
  ·show (jK lo M (.lf iy l)).fire=M.fire/\(jK lo M (.lf iy l)).cs=M.cs/\(jK lo M (.lf iy l)).last=M.last/\(jK lo M (.lf iy l)).ws=M.ws;exact ⟨rfl,rfl,rfl,rfl⟩
 obtain ⟨Z,I,S,G⟩:=J (aH lo ⟨cs,ws,last,false,0,[]⟩ a);rw [Z,I,S,G]
 rcases O with rfl|⟨t,s,g,rfl,⟨k1,k2,k3,R,k5⟩,ht⟩
 ·exact ⟨rfl,rfl,rfl,Nat.le_succ _,j,W⟩
 ·show (fH lo ⟨cs,ws,last,false,0,[]⟩ t s g false).fire=false/\(fH lo ⟨cs,ws,last,false,0,[]⟩ t s g false).cs=cs/\(fH lo ⟨cs,ws,last,false,0,[]⟩ t s g false).last=last/\(fH lo ⟨cs,ws,last,false,0,[]⟩ t s g false).ws.length<=ws.length+1/\(∀r∈(fH lo ⟨cs,ws,last,false,0,[]⟩ t s g false).ws,i9 fl r)/\Ei (Mh (n+1)) (fH lo ⟨cs,ws,last,false,0,[]⟩ t s g false).ws;unfold fH;split
  ·exact ⟨rfl,rfl,rfl,Nat.le_succ _,j,W⟩
  ·rw [if_neg (λz=>by have z:false=true:=z;cases z)];rwa[⟨rfl,rfl,rfl,by simp,λr F=> ?_,λr F=> ?_⟩]
   ·rcases mem_append.mp F with z|z
    ·exact j r z
    ·rw [mem_singleton.mp z];exact ⟨k1,k2,k3,R,k5⟩
   ·rcases mem_append.mp F with z|z
    ·exact W r z
    ·rw [mem_singleton.mp z];show t% 32<((n+1:Nat):Int);lia
structure Pf (K:Fg)(H:Hp)(st:Addr)(hs:Hs)(n:Nat)(cs:List Cb)(ws:List bj)(last:Int):Prop where
 s:zz K H st hs n cs ws last
 t:∀t∈fM cs ws,Mh n t
theorem Pf.nt {H H':Hp}(s:aT H H'){st:Addr}{hs:Hs}{n:Nat}{cs:List Cb}{ws:List bj}{last:Int}(h:Pf K H st hs n cs ws last):Pf K H' st hs n cs ws last:=⟨h.s.nt s,h.t⟩
theorem Qp {Pn Pl C:Addr}{H:Hp}{a st dp dx h ru df:Addr}{hs:Hs}{wf:Wf}{cs:List Cb}{ws:List bj}{last:Int}{ds:List Dd}{n:Nat}{k:Dk}{Q:VK}{E:XK}(h1:H a=some (.ins C dx @ee))(cC:Mo K C)(hH:gu K H h hs)(ag:Ej P w K mg base H ru wf)(ae:ip P w K mg base 5 df @ei)(hg:sJ Pn Pl H)(hT:Pf K H st hs n cs ws last)(ah:n<60)(Z:II K H dp ds)(hd:Ef hs.fl hs.ls.length n ds)
(g:∀r st' ll cs' ws' last' H',aT H H'->sJ Pn Pl H'->H' r=some (.tup [.ref st',.ref ll])->Pf K H' st' hs (n+1) cs' ws' last'->Q (.ref r) H'):kU P w K mg base Pn Pl [.ref a,.ref st,.ref dp] H Q E:=by
 have U:=hT.s;have af:=hd.good hT.t
 have O:∀t∈fM cs ws,Mh (n+1) t:=λt ht=>by have:=hT.t t ht;unfold Mh at this ⊢;lia
 obtain ⟨Y,S⟩:=Qs O;have hw:=U.o.w
 have al:ds.length<=2:=by obtain ⟨a,b,rfl,ha,hb⟩:=hd;rcases ha with rfl|⟨t,s,g,rfl,_⟩<;>rcases hb with rfl|⟨l,rfl,_⟩<;>simp
 obtain ⟨f1,c1,l1,w1,r1,J⟩:=hd.deeds (lo:=hs.lo) (cs:=cs) (last:=last) U.o.rk S;have F:∀i,0<=(bg (xn k) (aH hs.lo ⟨cs,ws,last,false,0,[]⟩ ds).ws i @D).last/\(bg (xn k) (aH hs.lo ⟨cs,ws,last,false,0,[]⟩ ds).ws i @D).fire=(aH hs.lo ⟨cs,ws,last,false,0,[]⟩ ds).fire:=rP (λ_ _ _ _ h=>HS h) (by rw [l1];exact U.o.l0)
 have I:∀fl li he O dn,i8 li he O dn->wf fl li he O dn∈cO:=by
  obtain ⟨_,_,_,_,_,_,_,z,_⟩:=ag;exact z
 have ai:=U.h.l1;have ad:=U.h.l3;have cl:=U.o.len;rwa[⟨k,a,st,dp,C,dx,h,ru,df,hs,wf,cs,ws,last,ds,rfl,h1,cC,hH,ag,ae,hg,U.a,Z,⟨U.o.len,U.o.ck,U.o.rk,by simp⟩,by lia,af,λi r _ _=> ?_,λr st' ll M' H' sN aa er ay az=> ?_⟩]
 ·have j:=fu (dl:=xn k) (W:=(aH hs.lo ⟨cs,ws,last,false,0,[]⟩ ds).ws) (M:=aH hs.lo ⟨cs,ws,last,false,0,[]⟩ ds) i;rwa[⟨?_,?_,?_,(F i).1⟩]
  ·rw [j.2.1,c1];lia
  ·rw [j.2.1,c1];lia
  ·rw [j.1];lia
 ·have mo:sQ hs (ws.length+2) @D:=by
   have z:sQ hs ws.length ⟨cs,ws,last,false,0,[]⟩:=⟨U.o.len,U.o.ck,U.o.rk,by simp⟩;have:=z.deeds (ds:=ds) (λd ac=> ?_) ds.length
   ·rw [take_of_length_le @f] at this;exact ⟨this.len,this.cs,this.ws,by have:=this.sum;lia⟩
   ·exact A9 af d ac
  have j:=fu (dl:=xn k) (W:=(aH hs.lo ⟨cs,ws,last,false,0,[]⟩ ds).ws) (M:=aH hs.lo ⟨cs,ws,last,false,0,[]⟩ ds) (aH hs.lo ⟨cs,ws,last,false,0,[]⟩ ds).ws.length;have G:=mo.deals (dl:=xn k) mo.ws (aH hs.lo ⟨cs,ws,last,false,0,[]⟩ ds).ws.length;obtain ⟨g1,g2,g3,R⟩:=az.ok U.h I ((F _).2.trans f1) G.cs G.ws (by rw [j.1];lia);have wT:=yW (dl:=xn k) J J (aH hs.lo ⟨cs,ws,last,false,0,[]⟩ ds).ws.length;have cT:=az.tg U.h I ((F _).2.trans f1) G.cs G.ws (by rw [j.1];lia) (by rw [j.2.1,c1];exact Y) wT;rwa[g r st' ll M'.cs M'.ws M'.last H' sN aa er ⟨⟨?_,⟨?_,g3,λr hr=>G.ws r (R.ws r hr),?_,?_⟩,U.h⟩,LO cT λr hr=>wT r (R.ws r hr)⟩]
  ·rw [g1] at ay;exact ay
  ·rw [R.len];exact G.len
  ·have:=R.wl;rw [j.1] at this;lia
  ·rw [g2];exact (F _).1
seal kU
structure R5 (P:Program)(w:World)(K:Fg)(mg:Str->Option Value)(base:Heap)(C Pn Pl:Addr)(H:Hp)(a:Addr)(hs:Hs)(wf:Wf)(k:Dk):Prop where
 ex:∃dx h ru df,H a=some (.ins C dx @ee)/\gu K H h hs/\Ej P w K mg base H ru wf/\ip P w K mg base 5 df @ei
 gg:sJ Pn Pl H
theorem R5.nt {C Pn Pl:Addr}{H H':Hp}{a:Addr}{hs:Hs}{wf:Wf}{k:Dk}(c:R5 P w K mg base C Pn Pl H a hs wf k)(s:aT H H')(g:sJ Pn Pl H'):R5 P w K mg base C Pn Pl H' a hs wf k:=by
 obtain ⟨dx,h,F,J,h1,h2,S,j⟩:=c.ex;exact ⟨⟨dx,h,F,J,s _ _ (λ_ z=>by cases z) h1,oB s h2,LS s S,j⟩,g⟩
theorem aY {H H':Hp}{a:Addr}{S:List Int}(h:CH K H a S)(s:ak H H'):CH K H' a S:=⟨s.seq h.1,h.2⟩
theorem Af {H H':Hp}{a:Addr}{S:List Int}(h:CH K H a S)(s:aT H H'):CH K H' a S:=⟨s.sqL h.1,h.2⟩
theorem OM (j:List gQ):noLs (j.map gQ.d)=true:=by
 induction j with
 |nil=>rfl
 |cons l j ih=>rw [map_cons,noLs,ih];rfl
theorem Rr {fl i:Int}(z:2<=fl)(I:0<=i)(h1:i<fl - 1):0<=(1:Int)*2^(1+i).toNat/\(1:Int)*2^(1+i).toNat<2^fl.toNat/\(1:Int)*2^(1+i).toNat% 2=0:=by
 obtain ⟨f,rfl⟩:=Int.eq_ofNat_of_zero_le (show 0<=fl by lia);obtain ⟨j,rfl⟩:=Int.eq_ofNat_of_zero_le I
 have S:(1+(j:Int)).toNat=j+1:=by lia
 have O:((f:Int)).toNat=f:=by lia
 rw [S,O,Int.one_mul];have p:(0:Int)<2^(j+1):=Int.pow_pos @b;have F:(2:Nat)^(j+1)<2^f:=Nat.pow_lt_pow_right @b @c
 have W:∀n:Nat,(2:Int)^n=((2^n:Nat):Int):=λn=>by rw [Int.natCast_pow];rfl
 rwa[⟨by lia,?_,?_⟩]
 ·rw [W,W];lia
 ·rw [Int.pow_succ];lia
theorem OR {i:Int}(I:0<=i)(h1:i<3):∃s,lY [V.str "plain",.str "hasty",.str "slow"] i=some (.str s)/\(s=Str.ofString "plain"\/s=Str.ofString "hasty"\/s=Str.ofString "slow"):=by
 rcases (show i=0\/i=1\/i=2 by lia) with rfl|rfl|rfl
 ·exact ⟨_,rfl,.inl rfl⟩
 ·exact ⟨_,rfl,.inr (.inl rfl)⟩
 ·exact ⟨_,rfl,.inr (.inr rfl)⟩
theorem No {i:Int}(I:0<=i)(h1:i<2):∃s,lY [V.str "free",.str "way"] i=some (.str s)/\(s=Str.ofString "free"\/s=Str.ofString "way")/\zy s:=by
 rcases (show i=0\/i=1 by lia) with rfl|rfl
 ·exact ⟨_,rfl,.inl rfl,by decide+kernel⟩
 ·exact ⟨_,rfl,.inr rfl,by decide+kernel⟩
inductive z6 (K:Fg)(vs:List V)(H:Hp)(Q:VK)(_e:XK):Prop
 |mk (a ns:_) (_:vs=[.ref a]) (_:CH K H a ns) (_:∀p hs H',ak H H'->gu K H' p hs->Lx hs->Q (.ref p) H')
theorem Kq {ai:Addr}(F:bo K "_law_house" "_law_house" vX f fd)(aZ:mg "range"=none)(bC:bf P w K mg base 1 "_law_draw" ["_law_script","_law_k","_law_many"] (gt K))(iZ:bf P w K mg base 4 "made_house" ["floors","lifts","locked","sort"] (λvs H Q _=>mF K ai vs H Q E0)):av P w K mg base bb 5 f fd ["_law_script"] (z6 K):=by
 rwa[F.ok FH (by intro _ _ _ _ h;cases h;subst_vars;rfl) (λaC A outer s H vs Q E hr h=> ?_)];obtain ⟨a,ns,rfl,hS,q⟩:=h;rwa[⟨_,(aa @a (aa @a (aa (cE PassesOwn.never rfl @er @a (aa @a (aa @a @N))) (aa @a (eD @ew (ac (ag (c8 iZ hr @b rfl (aq (wv 1) (aq (wv 2) (aq (wv 6) @I))))))))))),?_⟩];rwa[gt.mk _ _ _ _ rfl hS @b @b @b λaw f0 f1=> ?_];obtain ⟨fl,ay⟩:∃fl:Int,2+aw=fl:=⟨_,rfl⟩
 have f2:2<=fl:=by lia
 have f8:fl<=8:=by lia
 rwa[fq @bz λl H1 s1 n1 e1=> ?_];rwa[gt.mk _ _ _ _ rfl (aY hS s1) @b @b @b λm m0 m1=> ?_];rwa[⟨⟨by lia,by lia⟩,?_⟩];rwa[dh (λj σ O=>ak H O/\∃(ys:List V) (I:List gQ) (S U W o6:Option V),σ=[some (.ref a),some (.int fl),some (.ref l),S,U,W,o6]/\O l=some (.lst ys)/\az K O ys (I.map gQ.d)/\I.length=j/\∀x∈I,gQ.ok fl x=true) ⟨s1,[],[],_,_,_,_,by rw [<-ay];rfl,e1,.nil,rfl,λx hx=>nomatch hx⟩ (λj σ O hj pv=> ?_) (λσ O pv=> ?_)]
 ·obtain ⟨sX,ys,I,S,U,W,o6,rfl,Y,dX,rfl,hx⟩:=pv
  have aH:(I.length:Int)<3:=by lia
  have yl:ys.length=I.length:=aB dX;have G:=aY hS sX;rwa[fq @bz λlk H2 R n2 e2=> ?_];rwa[gt.mk _ _ _ _ rfl @gm @c @c @b λi i0 Z=> ?_];obtain ⟨kd,ek,hk⟩:=OR i0 Z;rwa[aW @cY ek ?_];rwa[gt.mk _ _ _ _ rfl @gm @c @c @b λr r0 r1=> ?_];rwa[⟨.inl ⟨rfl,_,aD.of (R _ _ Y)⟩,?_⟩];rwa[gt.mk _ _ _ _ rfl @gm @c @c @c λst ao as=> ?_];rwa[gt.mk _ _ _ _ rfl @gm @c @c @b λtn aF aG=> ?_];rwa[ce (aR (by show 4<=1000000;decide)) λt H3 s3 n3 e3=> ?_];have J:=R.trans s3;rwa[fK (J _ _ Y) @ed ?_];have ad:=J _ _ Y;rwa[⟨ak.updF (sX.trans J) n1,ys++[.ref t],I++[⟨st,1+r,1+tn,kd⟩],_,_,_,_,rfl,af,?_,by simp,λx ax=> ?_⟩]
  ·rw [map_append];exact Paired.app (rN (az.same dX J) (OM I) ad) (.cons (bL.noL (d:=gQ.d ⟨st,1+r,1+tn,kd⟩) (iV (aE.of e3) (.cons (.int _) (.cons (.int _) (.cons (.int _) (.cons (.str _) .nil))))) rfl ad) .nil)
  ·rcases mem_append.mp ax with z|z
   ·exact hx x z
   ·rw [mem_singleton.mp z];unfold gQ.ok;exact decide_eq_true ⟨ao,as,by show 1<=1+r;lia,by show 1+r<=6;lia,by show 1<=1+tn;lia,by show 1+tn<=4;lia,hk⟩
 obtain ⟨sX,ys,I,S,U,W,o6,rfl,Y,dX,hl,hx⟩:=pv;have G:=aY hS sX;rwa[ue (λσ HY=>HY=O/\∃(lo:Int) (S U W:Option V),σ=[some (.ref a),some (.int fl),some (.ref l),S,U,W,some (.int lo)]/\0<=lo/\lo<2^fl.toNat/\lo% 2=0) ?_ ?_]
 ·ext;rwa[gt.mk _ _ _ _ rfl G @b @b @b λz z0 z1=> ?_];rwa[fe @bI @bI]
  ·ext;rwa[gt.mk _ _ _ _ rfl G @b @b @c λi i0 Z=> ?_];rwa[⟨Co @c @c @b,?_⟩];obtain ⟨l1,l2,l3⟩:=Rr f2 i0 Z;exact ⟨rfl,_,_,_,_,rfl,l1,l2,l3⟩
  ·exact ⟨rfl,0,_,_,_,rfl,by decide,Int.pow_pos @b,by decide⟩
 rintro σ' H' ⟨rfl,lo,S,U,W,rfl,al,aA,aj⟩;rwa[fq @bz λl2 H2 R n2 e2=> ?_];rwa[gt.mk _ _ _ _ rfl @gm @b @b @b λi i0 Z=> ?_];obtain ⟨so,es,ah,ar⟩:=No i0 Z;erw[aW @cY es ?_];have ae:IL fl I lo so=true:=wj.mpr ⟨⟨f2,f8⟩,⟨by lia,by lia⟩,all_eq_true.mpr hx,⟨al,aA,aj⟩,ah⟩;rwa[Rp (.inl (yV (aD.of (R _ _ Y)) (az.same dX R))) @c ar (λ_ t H3 s3 hh=> ?_) (λno=>by rw [ae] at no;cases no)];obtain ⟨p,rfl,hC,an⟩:=Ho hh ae;exact q p _ H3 ((sX.trans R).trans s3) hC an
theorem ER {s:Str}{fl:Int}(h:tV s):fk (tJ++s) fl=some (.ta s)/\sD (tJ++s):=by
 have I:s.cps.toList.length=36:=by rw [aF];exact h.1
 have G:tJ.cps.toList.length=6:=by decide
 have j:(tJ++s).cps.toList=tJ.cps.toList++s.cps.toList:=jv ..
 have S:Txt.slice (tJ++s) none @fr=tJ:=by
  apply vo;rw [iF @b,j];show (tJ.cps.toList++s.cps.toList).take 6=_;rw [take_append_of_le_length @c,take_of_length_le @c]
 have O:Txt.slice (tJ++s) @fr none=s:=by
  apply vo;rw [fi @b,j];show (tJ.cps.toList++s.cps.toList).drop 6=_;rw [drop_append_of_le_length @c,drop_of_length_le @c,nil_append]
 have R:∀t:Str,t.cps.toList.length<40->tJ++s≠t:=λt F z=>by
  have:=congrArg (λx:Str=>x.cps.toList.length) z;simp only [j,length_append] at this;lia
 rwa[⟨?_,?_,?_⟩]
 ·unfold fk;rw [if_neg (R _ @b),if_neg (R _ @b),if_neg (R _ @b),if_neg (R _ @b),S,O,if_pos ⟨rfl,h⟩]
 ·rw [<-aF,j,length_append];lia
 ·intro c J;rw [j] at J
  rcases mem_append.mp J with z|z
  ·exact (show ∀c∈tJ.cps.toList,c<128 by decide) c z
  ·exact Ky h c z
theorem NN {s:Str}{k:Int}{c:Nat}(h:tV s)(k0:0<=k)(k1:k<36)(J:isL ⟨#[c]⟩):tV (Txt.slice s none (some k)++⟨#[c]⟩++Txt.slice s (some (k+1)) none):=by
 have R:s.cps.toList.length=36:=by rw [aF];exact h.1
 have j:(Txt.slice s none (some k)++⟨#[c]⟩++Txt.slice s (some (k+1)) none).cps.toList=s.cps.toList.take k.toNat++[c]++s.cps.toList.drop (k+1).toNat:=by
  rw [jv,jv,iF k0,fi @c]
 rwa[⟨?_,λx F=> ?_⟩]
 ·rw [<-aF,j];simp only [length_append,length_take,length_drop,length_cons,length_nil];lia
 ·rw [j] at F
  rcases mem_append.mp F with z|z
  ·rcases mem_append.mp z with z|z
   ·exact h.2 x (mem_of_mem_take z)
   ·rw [mem_singleton.mp z];exact J.2 c @e
  ·exact h.2 x (mem_of_mem_drop z)
theorem DP {i fl:Int}(I:0<=i)(h1:i<4):∃s rk,lY [V.str M9,.str QE,.str QB,.str Qw] i=some (.str s)/\fk s fl=some rk/\sD s:=by
 rcases (show i=0\/i=1\/i=2\/i=3 by lia) with rfl|rfl|rfl|rfl
 ·exact ⟨M9,.sw,rfl,by unfold fk;rw [if_pos rfl],by decide,show ∀c∈M9.cps.toList,c<128 by decide⟩
 ·exact ⟨QE,.ho,rfl,by unfold fk;rw [if_neg @b,if_pos rfl],by decide,show ∀c∈QE.cps.toList,c<128 by decide⟩
 ·exact ⟨QB,.ne,rfl,by unfold fk;rw [if_neg @b,if_neg @b,if_pos rfl],by decide,show ∀c∈QB.cps.toList,c<128 by decide⟩
 ·exact ⟨Qw,.ba (fl - 1),rfl,by unfold fk;rw [if_neg @b,if_neg @b,if_neg @b,if_pos rfl],by decide,show ∀c∈Qw.cps.toList,c<128 by decide⟩
inductive Fc (K:Fg)(k:Ks)(vs:List V)(H:Hp)(Q:VK)(_e:XK):Prop
 |mk (a ns fl:_) (_:vs=[.ref a,.int fl]) (_:CH K H a ns) (_:2<=fl) (_:∀ra dx (rk:Rk) H',rk.ok->ak H H'->H' ra=some (.ins @fG dx rk.fs)->Q (.ref ra) H')
theorem Ob {k:Ks}{ai:Addr}(F:bo K "_law_rule" "_law_rule" Aw f fd)(aZ:mg "range"=none)(bC:bf P w K mg base 1 "_law_draw" ["_law_script","_law_k","_law_many"] (gt K))(iY:bf P w K mg base 3 "rule_of" ["text","floors"] (λvs H Q _=>iA K k ai vs H Q E0))(nV:bf P w K mg base 3 "as_table" ["rule"] (Fu K k)):av P w K mg base bb 4 f fd ["_law_script","_law_floors"] (Fc K k):=by
 rwa[F.ok vK (by intro _ _ _ _ h;cases h;subst_vars;rfl) @bq];obtain ⟨a,ns,fl,rfl,hS,I,q⟩:=h;rwa[⟨_,(aa @a (aa (au @a (ac (ag (c8 iY hr @b rfl @fY))) ap) (aa (bq (i:=3) vK.nd rfl @o (c8 nV hr @b rfl (aq (c8 iY hr @b rfl (aq bH @T)) am))) (eD (au @a (aa @a (ac @a)) (ac (bq (i:=3) vK.nd rfl @o (gW rfl PySem.F.plainAttrs_str PySem.F.slot_str_join PySem.F.type_str_join (zO rfl) bH (aq (bG rfl (ax (N':=["_law_k","_law_script"]) (pk:=[none,some 0]) @m) (cg rfl aZ @ga) @k @u @k) am))))) (ac (ag (c8 iY hr @b rfl @fY))))))),?_⟩];rwa[gt.mk _ _ _ _ rfl hS @b @b @b λae w0 w1=> ?_];rwa[fe @B @B]
 ·ext;rwa[fq @bz λl1 H1 s1 n1 e1=> ?_];obtain ⟨s,rk,es,er,ht⟩:=DP (fl:=fl) w0 z;rwa[aW @dF es ?_];exact v8 ht I (λJ U ra dx H2 s2 n2 e2=>q ra dx J H2 (lz I U) (s1.trans s2) e2) (λR=>by rw [er] at R;cases R)
 rwa[v8 (s:=M9) ⟨by decide,show ∀c∈M9.cps.toList,c<128 by decide⟩ I (λrk er ra dx H1 s1 n1 e1=> ?_) (λR=>by unfold fk at R;rw [if_pos rfl] at R;cases R)];rwa[Fu.mk _ _ _ rfl (lz I er) e1 λH2 s2=> ?_];have O:=MY (lz I er);generalize rk.tbl=L at O;have W:=s1.trans s2;have S:=aY hS W;rwa[ue (λσ HX=>ak H HX/\∃(t:Str) (o3:Option V),σ=[some (.ref a),some (.int fl),some (.int ae),some (.str t),o3]/\tV t) ?_ ?_]
 ·ext;rwa[fe @bI @bI]
  ·ext;erw[gt.mk _ _ _ _ rfl S @b @b @b λad a0 a1=> ?_];have lL:L.length=36:=O.1;rwa[⟨aR @c,?_⟩];rwa[gt.mk _ _ _ _ rfl S @b @b @b λj j0 j1=> ?_];obtain ⟨c,ec,hL⟩:=Hf j0 j1;rwa[jf @gk ec ?_]
   have la:(Txt.slice L none (some ad)).length<=36:=by rw [<-aF,iF a0,length_take,aF];lia
   have lb:(Txt.slice L (some (ad+1)) none).length<=36:=by rw [<-aF,fi @c,length_drop,aF];lia
   have lc:(⟨#[c]⟩:Str).length=1:=rfl;rwa[⟨aR @c,?_⟩];rwa[⟨aR @c,?_⟩];rwa[⟨aR (by rw [strLen_append];lia),?_⟩];exact ⟨W,_,_,rfl,NN O a0 a1 hL⟩
  ·ext;rwa[⟨rfl,?_⟩];rwa[⟨⟨by decide,by decide⟩,?_⟩];rwa[kA (λi ys HX=>HX=H2/\∃G:List Str,ys=G.map V.str/\G.length=i/\∀x∈G,isL x) @gk (λi ys HX p=>by obtain ⟨_,G,rfl,l,_⟩:=p;rw [length_map,l];exact Nat.le_refl _) ⟨rfl,[],rfl,rfl,λx Y=>nomatch Y⟩ (λi ys HX hi p=> ?_) (λys HX p l n=> ?_)]
   ·obtain ⟨rfl,G,rfl,Z,ht⟩:=p;have al:i<36:=hi;rwa[⟨bZ,?_⟩];rwa[gt.mk _ _ _ _ rfl S @c @c @b λj j0 j1=> ?_];obtain ⟨c,ec,hL⟩:=Hf j0 j1;rwa[jf @gk ec ?_];rwa[⟨rfl,G++[⟨#[c]⟩],by rw [map_append];rfl,by rw [length_append,Z];rfl,λx Y=> ?_⟩]
    rcases mem_append.mp Y with Y|Y
    ·exact ht x Y
    ·rw [mem_singleton.mp Y];exact hL
   ·obtain ⟨rfl,G,rfl,Z,ht⟩:=p;have Z:G.length=36:=Z;obtain ⟨g1,g2⟩:=uL (z:=Str.ofString "") @h (ts:=G) λt h=>(ht t h).1;rwa[wE (ts:=G) @cV @bs @bs ?_];exact ⟨W.trans (.upd n),_,_,rfl,B5 ⟨Z,ht⟩⟩
 rintro σ' H' ⟨sX,t,o3,rfl,ot⟩;obtain ⟨ah,aj⟩:=ER (fl:=fl) ot;ext;have Z:t.length=36:=ot.1
 have l6:(Str.ofString "table ").length=6:=by decide
 rwa[⟨aR @c,?_⟩];exact v8 aj I (λJ U ra dx H3 s3 n3 e3=>q ra dx J H3 (lz I U) (sX.trans s3) e3) (λR=>by rw [ah] at R;cases R)
theorem Ru {s i fl:Int}(Y:0<=s)(O:s<fl)(U:0<=i)(j:i<fl - 1):Pk fl (s,(s+1+i)% fl):=by
 rwa[⟨Y,O,Int.emod_nonneg _ @c,Int.emod_lt_of_pos _ @c,λz=> ?_⟩];have z:s=(s+1+i)% fl:=z;by_cases w:s+1+i<fl
 ·rw [Int.emod_eq_of_lt @c w] at z;lia
 ·have e:(s+1+i)% fl=s+1+i - fl:=by
   rw [show s+1+i=(s+1+i - fl)+fl by lia,Int.add_emod_right,Int.emod_eq_of_lt @c @c];lia
  lia
theorem HJ {hs:Hs}(h:hs.ok)(J:Lx hs):T4 hs 0 @fQ [] ((hs.ls.length:Int) - 1):=by
 rwa[⟨by rw [length_map],λc j=> ?_,(λr W=>nomatch W),Nat.le_refl _,by have:=h.l1;lia⟩];obtain ⟨l,R,rfl⟩:=mem_map.mp j;obtain ⟨F,I⟩:=J l R;exact ⟨by show 0<=2*l.st;lia,by show 2*l.st<=_;lia,by show (-1:Int)<=0;decide,by show (0:Int)<=1;decide,by show (0:Int)<=0;decide,λz=>absurd z (by show ¬(0:Int)<0;decide),by show 0<=64;decide,λp G=>nomatch G⟩
inductive Nk (K:Fg)(vs:List V)(H:Hp)(Q:VK)(_e:XK):Prop
 |mk (a ns k:_) (_:vs=[.ref a,.int k]) (_:CH K H a ns) (_:0<=k) (_:k<32) (_:∀t:Int,t% 32=k->Q (.int t) H)
theorem Q9 (F:bo K "_law_tag" "_law_tag" FS f fd)(O:mg "range"=none)(Y:bf P w K mg base 1 "_law_draw" ["_law_script","_law_k","_law_many"] (gt K)):av P w K mg base bb 2 f fd ["_law_script","_law_k"] (Nk K):=by
 rwa[F.ok Nz (by intro _ _ _ _ h;cases h;subst_vars;rfl) (λJ A outer s H W Q E hr h=> ?_)];obtain ⟨a,R,k,rfl,U,k0,k1,q⟩:=h;rwa[⟨_,(aa @a (aa (cE PassesOwn.never rfl (cg rfl O @I) @a (ac @a)) @g)),?_⟩];rwa[gt.mk _ _ _ _ rfl U @b @b @b λm m0 Z=> ?_];rwa[⟨⟨by lia,by lia⟩,?_⟩];rwa[dh (λj σ I=>I=H/\∃(n:Int) (S:Option V),σ=[some (.ref a),some (.int k),some (.int n),S]) ⟨rfl,1,_,rfl⟩ (λj σ I hj z=> ?_) (λσ I z=> ?_)]
 ·obtain ⟨rfl,n,S,rfl⟩:=z
  have aH:(j:Int)<6:=by lia
  rwa[⟨cy @b @b,?_⟩];rwa[⟨Co @b @b @b,?_⟩];rwa[gt.mk _ _ _ _ rfl U @c @c @h λi i0 G=> ?_];have G:i<1000000000:=G;exact ⟨Bn @c @c,rfl,_,_,rfl⟩
 obtain ⟨rfl,n,S,rfl⟩:=z;rwa[⟨cy @b @b,?_⟩];exact q _ @c
def Lw (K:Fg)(H:Hp)(hs:Hs)(x:V):Prop:=∃st n cs ws last,x= .ref st/\n<=64/\zz K H st hs n cs ws last
theorem Lw.nt {H H':Hp}(s:aT H H'){hs:Hs}{x:V}(h:Lw K H hs x):Lw K H' hs x:=by
 obtain ⟨st,n,j,J,O,e,h1,h2⟩:=h;exact ⟨st,n,j,J,O,e,h1,h2.nt s⟩
theorem zz.keep {H H':Hp}(s:aN H H'){st:Addr}{hs:Hs}{n:Nat}{cs:List Cb}{ws:List bj}{last:Int}(h:zz K H st hs n cs ws last):zz K H' st hs n cs ws last:=⟨h.a.keep s,h.o,h.h⟩
theorem Lw.keep {H H':Hp}(s:aN H H'){hs:Hs}{x:V}(h:Lw K H hs x):Lw K H' hs x:=by
 obtain ⟨st,n,j,J,O,e,h1,h2⟩:=h;exact ⟨st,n,j,J,O,e,h1,h2.keep s⟩
theorem aT.updF {H H':Hp}(s:aT H H'){l:Addr}{o:HO}(n:H l=none):aT H (upd H' l o):=λb u j e=>by
 rw [aj (λz=>by rw [z,n] at e;cases e)];exact s b u j e
inductive Fa (P:Program)(w:World)(K:Fg)(mg:Str->Option Value)(base:Heap)(C Pn Pl:Addr)(vs:List V)(H:Hp)(Q:VK)(_e:XK):Prop
 |mk (a ns ca hs wf k:_) (_:vs=[.ref a,.ref ca]) (_:CH K H a ns) (_:R5 P w K mg base C Pn Pl H ca hs wf k) (_:Lx hs) (_:∀l xs H',aT H H'->sJ Pn Pl H'->H' l=some (.lst xs)->xs.length<=64->(∀x∈xs,Lw K H' hs x)->Q (.ref l) H')
theorem N9 {kC Pn Pl:Addr}(F:bo K "_law_states" "_law_states" qz f fd)(aZ:mg "range"=none)(OH:mg "max"=none)(wq:mg "min"=none)(bE:mg "len"=none)(cC:Mo K kC)(gP:jc P w K mg base bb 2 "begin" kC (vC K))(jb:jc P w K mg base bb 9 "turn" kC (kU P w K mg base Pn Pl))(bC:bf P w K mg base 1 "_law_draw" ["_law_script","_law_k","_law_many"] (gt K))(zf:bf P w K mg base 2 "_law_tag" ["_law_script","_law_k"] (Nk K)):av P w K mg base bb 10 f fd ["_law_script","_law_court"] (Fa P w K mg base kC Pn Pl):=by
 rwa[F.ok mL (by intro _ _ _ _ h;cases h;subst_vars;rfl) (λaJ A outer s H vs Q E hr h=> ?_)];obtain ⟨a,ns,ca,hs,wf,k,rfl,hS,hC,aA,q⟩:=h;obtain ⟨dx,h,ru,df,e1,e2,e3,e4⟩:=hC.ex;rwa[⟨_,(aa (bq (i:=2) mL.nd rfl @o (Ey (n:=2) hV hr @b (wv 1))) (aa @a (aa @a (aa (cE PassesOwn.never rfl (cg rfl aZ (aq (aM (PR rfl) rfl OH boot_max (aq b9 (aq (aM (PQ rfl) rfl wq boot_min (aq @a @ga)) am))) am)) @a (aa @a (eD (au @a (aa @a (aa @a @N)) ap) (eD (au @a @N ap) (aa (bq (i:=2) mL.nd rfl @o (BZ (IZ rfl) (pC (n:=9) hV hr @b (wv 1) (aq (wv 2) (aq (wv 6) am))) b9 @fR)) @N))))) (ac (ag (wv 3))))))),?_⟩];rwa[lH e1 rfl gP ?_];rwa[vC.mk _ _ _ _ _ _ _ rfl e1 cC e2 λst H1 s1 aB=> ?_];rwa[fq @bz λl H2 s2 n2 az=> ?_];have S:=s1.trans s2;obtain ⟨G,hp,aQ,ax,bp,bt⟩:=id (e2.same S);have f2:=G.f2;have f8:=G.f8;have l1:=G.l1;have l3:=G.l3;rwa[dS (S _ _ e1) cC.i.cl cC.house (v:= .ref h) rfl ?_];rwa[ao ax rfl ?_];rwa[dL (aY hS S).1 ?_];rw [length_map];ext
 obtain ⟨m,em,hm⟩:∃m:Nat,(if (if (23:Int)<(ns.length:Int) then (23:Int) else (ns.length:Int))>8 then (if (23:Int)<(ns.length:Int) then (23:Int) else (ns.length:Int)) else 8)=m/\m<=23:=by
  by_cases y:(23:Int)<(ns.length:Int)
  ·exact ⟨23,by rw [if_pos y];rfl,by decide⟩
  ·rw [if_neg y];by_cases z:(ns.length:Int)>8
   ·exact ⟨ns.length,by rw [if_pos z],by lia⟩
   ·exact ⟨8,by rw [if_neg z];rfl,by decide⟩
 first|rw [em]|skip
 rwa[⟨⟨by lia,by lia⟩,?_⟩];have aC:H l=none:=none_of s1 n2;have ah:Pf K H2 st hs 0 @fQ [] ((hs.ls.length:Int) - 1):=⟨⟨aB.keep s2.st,HJ G aA,G⟩,LO (λc hc p hp=>by obtain ⟨l,_,rfl⟩:=mem_map.mp hc;cases hp) λr hr=>nomatch hr⟩;rwa[dh (λj σ I=>aT H I/\sJ Pn Pl I/\∃(st:Addr) (cs:List Cb) (ws:List bj) (R:Int) (ys:List V) (o5 o6 U Y:Option V),σ=[some (.ref a),some (.ref ca),some (.ref st),some (.ref l),some (.int hs.fl),o5,o6,U,Y]/\I l=some (.lst ys)/\ys.length=j+1/\Pf K I st hs j cs ws R/\∀x∈ys,Lw K I hs x) ⟨S.nt,lQ _ _ S.st hC.gg,st,_,_,_,_,_,_,_,_,rfl,az,rfl,ah,λx hx=> ?_⟩ (λj σ I hj pv=> ?_) @dq]
 ·rw [mem_singleton.mp hx];exact ⟨st,0,_,_,_,rfl,by decide,ah.s⟩
 ·obtain ⟨sX,gX,st,cs,ws,R,ys,o5,o6,U,Y,rfl,eX,yl,tX,aX⟩:=pv
  have aU:(j:Int)<23:=by lia
  have O:=Af hS sX;rwa[fq @bz λld HA sA nA eA=> ?_];rwa[ue (λσ HY=>ak I HY/\∃(xs:List V) (ds:List Dd) (U Y:Option V),σ=[some (.ref a),some (.ref ca),some (.ref st),some (.ref l),some (.int hs.fl),some (.int (0+(j:Int))),some (.ref ld),U,Y]/\HY ld=some (.lst xs)/\Paired (λx d=>∃a,x=V.ref a/\sK HY a d) xs ds/\(ds=[]\/∃t s g,ds=[.come t s g false]/\Pk hs.fl (s,g)/\t% 32=(j:Int))) ?_ ?_]
  ·ext;rwa[gt.mk _ _ _ _ rfl @gB @c @c @b λz z0 z1=> ?_];rwa[fe @bI @bI]
   ·ext;rwa[gt.mk _ _ _ _ rfl @gB @c @c @c λsr ay aw=> ?_];rwa[gt.mk _ _ _ _ rfl @gB @c @c @c λi i0 i1=> ?_];rwa[⟨by lia,?_⟩];rwa[⟨.inl ⟨rfl,_,aD.of eA⟩,?_⟩];rwa[Nk.mk _ _ _ rfl @gB @c @c λt ht=> ?_];rwa[ce (aR (by show 5<=1000000;decide)) λdt HB W nB eB=> ?_];rwa[fK (W _ _ eA) (BK @e) ?_];rwa[⟨ak.updF (sA.trans W) nA,[.ref dt],[.come t sr ((sr+1+i)% hs.fl) false],_,_,rfl,af,.cons ⟨dt,rfl,?_,trivial⟩ .nil,.inr ⟨_,_,_,rfl,Ru ay aw i0 i1,by rw [ht];lia⟩⟩];rw [aj (λz=>by rw [z,W _ _ eA] at eB;cases eB)];exact eB
   ·exact ⟨sA,[],[],_,_,rfl,eA,.nil,.inl rfl⟩
  rintro σ' HY ⟨sY,xs,ds,U,Y,rfl,eY,pY,dY⟩;have al:=aY O sY
  have xl:xs.length<=1:=by rw [pY.len];rcases dY with rfl|⟨t,s,g,rfl,_⟩<;>simp
  have nX:I ld=none:=nA;rwa[ue (λσ HZ=>ak I HZ/\∃(xs:List V) (ds:List Dd) (U Y:Option V),σ=[some (.ref a),some (.ref ca),some (.ref st),some (.ref l),some (.int hs.fl),some (.int (0+(j:Int))),some (.ref ld),U,Y]/\HZ ld=some (.lst xs)/\Paired (λx d=>∃a,x=V.ref a/\sK HZ a d) xs ds/\Ef hs.fl hs.ls.length j ds) ?_ ?_]
  ·ext;rwa[gt.mk _ _ _ _ rfl al @c @c @b λz z0 z1=> ?_];rwa[fe @bI @bI]
   ·ext;rwa[⟨.inl ⟨rfl,_,aD.of eY⟩,?_⟩];have ar:=sX.trans sY.nt;obtain ⟨_,aL,aI,as,aH,aF⟩:=id (oB ar e2);rwa[dS (ar _ _ (λ_ z=>by cases z) e1) cC.i.cl cC.house (v:= .ref h) rfl ?_];rwa[ao as rfl ?_];rwa[bQ aH ?_];rw [aF.len];rwa[gt.mk _ _ _ _ rfl al @c @c @c λi i0 i1=> ?_];rwa[ce (aR (by show 2<=1000000;decide)) λdt HB W nB eB=> ?_];rwa[fK (W _ _ eY) @ed ?_]
    have ne:∀ {b:Addr} {ts:List V},HB b=some (.tup ts)->b≠ld:=λ{b ts} e z=>by rw [z,W _ _ eY] at e;cases e
    rwa[⟨ak.updF (sY.trans W) nX,xs++[.ref dt],ds++[.lf iy i],_,_,rfl,af,Paired.app (Paired.imp' (λx d=> ?_) pY) (.cons ⟨dt,rfl,?_,(show Dd.ok (.lf iy i) from Or.inl rfl)⟩ .nil),ds,[.lf iy i],rfl,dY,.inr ⟨i,rfl,i0,i1⟩⟩]
    ·rintro ⟨b,rfl,hb⟩;exact ⟨b,rfl,by rw [aj (ne (W _ _ hb.1))];exact W _ _ hb.1,hb.2⟩
    ·rw [aj (ne eB)];exact eB
   ·exact ⟨sY,xs,ds,_,_,rfl,eY,pY,ds,[],by simp,dY,.inl rfl⟩
  rintro σ' HZ ⟨sZ,aG,aV,U,Y,rfl,eZ,pZ,dZ⟩;have cZ:=hC.nt (sX.trans sZ.nt) (lQ _ _ sZ.st gX);obtain ⟨aK,h',aO,aP,z1,z2,z3,z4⟩:=cZ.ex;rwa[lH z1 rfl jb ?_];rwa[Qp z1 cC z2 z3 z4 cZ.gg (tX.nt sZ.nt) @c ⟨aG,aD.of eZ,pZ⟩ dZ λr Z ll ai an J H3 sN g3 er t3=> ?_];rwa[ao (aE.of er) rfl ?_];have ad:=sN _ _ (λ_ z=>by cases z) (sZ _ _ eX);have ae:=sZ.nt.trans sN;rwa[⟨.inl ⟨rfl,_,aD.of ad⟩,?_⟩];rwa[fK ad @ed ?_];have sT:aN H3 (upd H3 l (.lst (ys++[.ref Z]))):= .updL ad;rwa[⟨aT.updF (sX.trans ae) aC,lQ _ _ sT g3,Z,ai,an,J,_,_,_,_,_,rfl,af,by rw [length_append,yl];rfl,⟨t3.s.keep sT,t3.t⟩,λx hx=> ?_⟩]
  rcases mem_append.mp hx with z|z
  ·exact ((aX x z).nt ae).keep sT
  ·rw [mem_singleton.mp z];exact ⟨Z,j+1,ai,an,J,rfl,by lia,t3.s.keep sT⟩
 ·obtain ⟨sX,gX,st,cs,ws,R,ys,o5,o6,U,Y,rfl,eX,yl,tX,aX⟩:=pv;exact q l ys I sX gX eX @c aX
theorem Bd:(Str.ofString "0123456789").cps.toList=ua:=by decide+kernel
theorem KJ (c:Nat):c∈ua↔48<=c/\c<=57:=by
 unfold ua;simp only [mem_cons,not_mem_nil,or_false];omega
unseal hG Ci in
theorem ut (c:Nat):hG ⟨#[c]⟩ @fH=decide (c∈ua):=by
 unfold hG;rw [PySem.StrLaws.found_one,Bd]
def Dg:Option Int->V
 |none=> .non
 |some n=> .int n
theorem Kb (c:Nat):((⟨#[c]⟩:Str)=Str.ofString "0")↔c=48:=by
 constructor
 ·intro e;have z:[c]=[48]:=(congrArg (λs:Str=>s.cps.toList) e).trans @h;exact (List.cons.inj z).1
 ·rintro rfl;decide+kernel
inductive Nj (vs:List V)(H:Hp)(Q:VK)(_e:XK):Prop
 |mk (x:Str) (_:vs=[.str x]) (_:x.length<=5000) (_:∀H',ak H H'->Q (.bl (mq x)) H')
theorem Q8 (F:bo K "writes_number" "writes_number" fN f fd)(bE:mg "len"=none)(nq:mg "all"=none){Z t2:Tok}(jH:mg "MOST_FIGURES"=some (.int 9 Z))(yL:mg "FIGURES"=some (.str "0123456789" t2)):
 av P w K mg base bb 1 f fd ["text"] Nj:=by
 have I:aA (.int 9) (.int 9 Z):=⟨_,rfl⟩;have O:aA (.str "0123456789") (.str "0123456789" t2):=⟨_,rfl⟩;rwa[F.ok qk @bi @bp]
 ·obtain ⟨x,rfl,_⟩:=h;rfl
 obtain ⟨x,rfl,hx,q⟩:=h;have S:x.length<=sizeLine:=aR @c;have ae:=aF x;unfold mq at q;rwa[⟨_,(aa @fS (aa @fS (ac (ag (aM @gA rfl nq boot_all (aq (bG rfl (ax (N':=["sign"]) (pk:=[none]) @m) @a @k @u @k) am)))))),?_⟩];rwa[⟨S,fe (λh0=> ?_) (λh0=> ?_)⟩]
 ·rw [if_pos (.inl @c)] at q;exact bz rfl (q H (.refl _))
 rwa[⟨S,fe (λh9=> ?_) (λh9=> ?_)⟩]
 ·rw [if_pos (.inr @c)] at q;exact q H (.refl _)
 rw [if_neg @c] at q;obtain ⟨c,R⟩:∃c,x.cps.toList[0]? =some c:=⟨x.cps.toList[0],by simp [getElem?_eq_getElem (show 0<x.cps.toList.length by lia)]⟩;rw [R] at q;rwa[jf S (aK (j:=0) R) ?_]
 have eN:(∀H',ak H H'->Q (.bl (x.cps.toList.all λc=>decide (c∈ua))) H')->∀H0:Hp,ak H H0->pq (LC x) [none] (jJ 0) Qv (Qy (SN K false) (EG 0) (tC (V.str "0123456789"))) [some (V.str x)] H0 λv H1=>Jl [some (V.str x)] H1 λxs H2=>Ql K (v::xs) H2 Q:=by
  intro hq H0 U;rwa[yX (λi ys HX=>ak H HX/\ys=(x.cps.toList.take i).map λc=>V.bl (decide (c∈ua))) (by show x.length<=sizeLine;exact S) (λi ys H p=>by rw [p.2,length_map,length_take];lia) ⟨U,rfl⟩ ?_ ?_]
  ·intro i c ys H R p;rwa[⟨QG,?_⟩]
   have ad:x.cps.toList[i]? =some c:=by rw [Array.getElem?_toList];exact R
   rwa[⟨p.1,?_⟩];show ys++[V.bl (hG ⟨#[c]⟩ @fH)]=_;rw [ut,p.2,take_add_one,ad,map_append];rfl
  ·intro ys H p q Y;rwa[Ir (bs:=x.cps.toList.map λc=>decide (c∈ua)) ?_ ?_]
   ·rwa[aD.of ?_];rw [af,p.2];have e:x.cps.toList.take x.cps.size=x.cps.toList:=take_of_length_le @e;rw [e,map_map];rfl
   ·rw [all_map];exact hq _ (p.1.trans (.upd Y))
 by_cases G:c=48
 ·rwa[eO ((Kb c).mpr G) (iR @gp @gp)]
  ·have J:x≠Str.ofString "0":=by simpa using W
   rw [if_pos ⟨by rw [G],J⟩] at q;exact q H (.refl _)
  ·have J:x=Str.ofString "0":=by simpa using W
   rw [if_neg (by intro z;exact z.2 J)] at q;exact eN q H (.refl _)
 ·rwa[dQ (λz=>G ((Kb c).mp z)) (aP rfl ?_)];rw [if_neg (by intro z;exact G (Option.some.inj z.1))] at q;exact eN q H (.refl _)
theorem dq {x:Str}(h:mq x=true):PySem.NumText.AllDigits x.cps.toList/\x.cps.toList≠[]/\x.length<=9:=by
 have aa:=aF x;unfold mq at h;by_cases I:x.length=0\/9<x.length
 ·rw [if_pos I] at h;cases h
 rw [if_neg I] at h;by_cases h1:x.cps.toList[0]? =some 48/\x≠Str.ofString "0"
 ·rw [if_pos h1] at h;cases h
 rw [if_neg h1] at h;rwa[⟨λc J=>(KJ c).mp (of_decide_eq_true (all_eq_true.mp h c J)),λz=> ?_,by lia⟩];rw [z] at aa;simp at aa;lia
inductive Fd (vs:List V)(H:Hp)(Q:VK)(_e:XK):Prop
 |mk (x:Str) (_:vs=[.str x]) (_:x.length<=5000) (_:∀H',ak H H'->Q (Dg (bS x)) H')
theorem Oc (F:bo K "number_of" "number_of" mT f fd)(I:mg "int"=none)(S:bf P w K mg base 1 "writes_number" ["text"] Nj):av P w K mg base bb 2 f fd ["text"] Fd:=by
 rwa[F.ok Aj (by intro _ _ _ _ h;cases h;subst_vars;rfl) (λj A outer s H R Q E W h=> ?_)];obtain ⟨x,rfl,O,q⟩:=h;rwa[⟨_,(ac (ag (BD @a (aV LL rfl I boot_int @fF) iN))),?_⟩];rwa[Nj.mk _ rfl O λH' G=> ?_];have z:=q H' G;unfold bS B4 at z;rwa[iR @eZ @eZ]
 ·rw [if_pos J] at z;have U:=(dq J).2.2;exact Hm (PySem.intText_digits (dq J).1 (dq J).2.1 @c) @c z
 ·rw [if_neg (by rw [J];decide)] at z;exact z
def TX (s:Str):Prop:=s.length<=5000/\CI s
theorem TX.part {s y p:Str}(h:TX s)(G:p∈Txt.split s y):TX p:=by
 rwa[⟨Nat.le_trans (PyProof.Rows.part_short G) h.1,λc J=>h.2 c ?_⟩];have e:=PySem.StrLaws.join_split s y;rw [<-e]
 have j:∀ {ps:List Str},p∈ps->c∈(Str.join y ps).cps.toList:=by
  intro ps
  induction ps with
  |nil=>intro z;cases z
  |cons q r ih=>
   intro z
   cases r with
   |nil=>
    rw [mem_singleton.mp z] at J;exact J
   |cons q2 r=>
    show c∈(q++y++Str.join y (q2::r)).cps.toList;rw [Str.cps_append,Str.cps_append,Array.toList_append,Array.toList_append,mem_append,mem_append]
    rcases mem_cons.mp z with rfl|z
    ·exact .inl (.inl J)
    ·exact .inr (ih z)
 exact j G
theorem RC {x c:Str}(h:TX x)(J:c.length<=100):(reprText x).length<=sizeLine/\(Str.empty++reprText x).length<=sizeLine/\(Str.empty++reprText x++c).length<=sizeLine:=by
 have W:=lB h.2;have R:=h.1;rwa[⟨aR @c,aR ?_,aR ?_⟩]
 ·rw [strLen_append];show 0+(reprText x).length<=1000000;lia
 ·rw [strLen_append,strLen_append,show Str.empty.length=0 from rfl];lia
theorem qc {s y:Str}:1<=(Txt.split s y).length:=PyProof.Rows.split_pos s y
theorem kQ {s y:Str}(h:TX s):(Txt.split s y).length<=5002:=by have:=PyProof.Rows.split_le s y;have:=h.1;lia
theorem yt {x:Str}{n:Int}(h:bS x=some n):0<=n:=by
 obtain ⟨k,_,rfl⟩:=Option.map_eq_some_iff.mp h;exact Int.natCast_nonneg k
abbrev pX:Str:=Str.ofString "crowd"
abbrev E1:Str:=Str.ofString "full"
abbrev EZ:Str:=Str.ofString "idle"
abbrev LP:Str:=Str.ofString "away"
abbrev xR:Str:=Str.ofString "open"
abbrev xC (x:Str):List Str:=Txt.split x " "
def uI (nm:Str):Prop:=nm=E1\/nm=EZ\/nm=LP
instance (nm:Str):Decidable (uI nm):=inferInstanceAs (Decidable (_\/_\/_))
noncomputable def bF (fl:Int)(nl:Nat)(nm:Str):List Int->Bool
 |[z]=>decide (nm=pX\/(uI nm/\z<(nl:Int)))
 |[a,b]=>decide (nm=xR/\a<(nl:Int)/\b<fl)
 |_=>false
def gm:List @dx->Option (List Int)
 |[]=>some []
 |none::_=>none
 |some z::r=>(gm r).map (z:: ·)
theorem d7:∀ {ns:List @dx} {zs:List Int},gm ns=some zs->ns=zs.map some
 |[],zs,h=>by cases h;rfl
 |none::r,zs,h=>by cases h
 |some z::r,zs,h=>by
  obtain ⟨t,J,rfl⟩:=Option.map_eq_some_iff.mp h;rw [d7 J];rfl
theorem nW:∀ {ns:List @dx},gm ns=none->none∈ns
 |[],h=>by cases h
 |none::r,h=> .head _
 |some z::r,h=> .tail _ (nW (Option.map_eq_none_iff.mp h))
noncomputable def HI (fl:Int)(nl:Nat)(nm:Str)(ns:List @dx):Bool:=match gm ns with
 |none=>false
 |some zs=>bF fl nl nm zs
theorem Oy {S:List @dx}:sO .non (S.map Dg)=decide (gm S=none):=by
 unfold sO;rw [any_map,Bool.eq_iff_iff,any_eq_true,decide_eq_true_eq];constructor
 ·rintro ⟨x,F,z⟩
  cases x with
  |none=>
   cases h:gm S with
   |none=>rfl
   |some zs=>rw [d7 h] at F;obtain ⟨y,_,e⟩:=mem_map.mp F;cases e
  |some n=>cases z
 ·intro h;exact ⟨none,nW h,rfl⟩
theorem HH (S:List @dx):(S.map Dg).all cY=true:=by
 rw [all_map,all_eq_true];intro x _;cases x<;>rfl
inductive z9 (K:Fg)(vs:List V)(H:Hp)(Q:VK)(_e:XK):Prop
 |mk (h hs l nm ns:_) (_:vs=[.ref h,.str nm,.ref l]) (_:gu K H h hs) (_:aD K H l (List.map Dg ns)) (_:ns.length<=6000) (_:Q (.bl (HI hs.fl hs.ls.length nm ns)) H)
theorem Ku {G:Addr}(F:bo K "fits_part" "fits_part" mZ f fd)(bE:mg "len"=none)(ib:mg "ILLS_OF_A_LIFT"=some (.ref G))(eQ:∀H:Hp,aE K H G [.str "full",.str "idle",.str "away"]):av P w K mg base bb 1 f fd ["house","name","numbers"] (z9 K):=by
 rwa[F.ok Ao (by intro _ _ _ _ h;cases h;subst_vars;rfl) @H];obtain ⟨h,hs,l,nm,ns,rfl,hH,I,hn,q⟩:=h;obtain ⟨_,p,xs,h1,h2,h3⟩:=hH;have xl:=h3.len;have T:=eQ H;unfold HI at q;rwa[⟨_,(aa @fS (aa @M (aa @M @g))),?_⟩];rwa[mK I rfl (HH _) ?_];rw [Oy]
 cases W:gm ns with
 |none=>
  rw [W] at q;rwa[bz @gD ?_];exact q
 |some zs=>
 rw [W] at q;have q:Q (.bl (bF hs.fl hs.ls.length nm zs)) H:=q;have U:=d7 W;subst U;rw [map_map] at I;rw [length_map] at hn;rwa[aP (decide_eq_false (λz=>by cases z)) ?_];have J:∀ {Y:VK},Y (.int zs.length) H->gy K l H Y:=λ{Y} g=>dL I (by rw [length_map];exact g);rwa[fe @fc @fc]
 ·ext;erw[J ?_]
  have e:bF hs.fl hs.ls.length nm zs=decide ((zs.length:Int)=1):=by
   match zs with
   |[]=>rfl
   |[z]=>exact (decide_eq_true (.inl O)).trans (decide_eq_true rfl).symm
   |[a,b]=>exact (decide_eq_false (λz=>by rw [O] at z;exact absurd z.1 @h)).trans (decide_eq_false (by show ¬(2:Int)=1;decide)).symm
   |_::_::_::r=>exact (decide_eq_false (by show ¬((r.length+1+1+1:Nat):Int)=1;lia)).symm
  rw [e] at q;exact q
 rwa[Ae T rfl rfl ?_];rw [Tu];rwa[fe @eU @eU]
 ·ext;erw[J ?_]
  match zs,q,I with
  |[z],q,I=>
   rwa[eO rfl ?_];rwa[aW I @P ?_];rwa[ao h1 rfl ?_];rwa[bQ h2 ?_];rw [xl];have e:bF hs.fl hs.ls.length nm [z]=decide (z<(hs.ls.length:Int)):=decide_eq_decide.mpr ⟨λy=>by rcases y with y|y;exact absurd y O;exact y.2,λy=> .inr ⟨R,y⟩⟩;rw [e] at q;exact q
  |[],q,I=>
   rwa[dQ (by show ¬(0:Int)=1;decide) ?_];exact q
  |[a,b],q,I=>
   rwa[dQ (by show ¬(2:Int)=1;decide) ?_]
   have e:bF hs.fl hs.ls.length nm [a,b]=false:=decide_eq_false (λz=>by
    rcases R with y|y|y<;>(rw [y] at z;exact absurd z.1 @h))
   rw [e] at q;exact q
  |_::_::_::r,q,I=>
   rwa[dQ (by show ¬((r.length+1+1+1:Nat):Int)=1;lia) ?_];exact q
 rwa[fe (λZ=> ?_) (λZ=> ?_)]
 ·ext;erw[J ?_]
  match zs,q,I with
  |[a,b],q,I=>
   rwa[eO rfl ?_];rwa[aW I @P ?_];rwa[ao h1 rfl ?_];rwa[bQ h2 ?_];rw [xl];ext;by_cases S:a<(hs.ls.length:Int)
   ·rwa[eO S ?_];rwa[aW I @dj ?_];rwa[ao h1 rfl ?_];have e:bF hs.fl hs.ls.length nm [a,b]=decide (b<hs.fl):=decide_eq_decide.mpr ⟨λy=>y.2.2,λy=>⟨Z,S,y⟩⟩;rw [e] at q;exact q
   ·rwa[dQ S ?_];have e:bF hs.fl hs.ls.length nm [a,b]=false:=decide_eq_false (λy=>S y.2.1);rw [e] at q;exact q
  |[],q,I=>
   rwa[dQ (by show ¬(0:Int)=2;decide) ?_];exact q
  |[z],q,I=>
   rwa[dQ (by show ¬(1:Int)=2;decide) ?_]
   have e:bF hs.fl hs.ls.length nm [z]=false:=decide_eq_false (λz=>by
    rcases z with y|y
    ·exact O y
    ·exact R y.1)
   rw [e] at q;exact q
  |_::_::_::r,q,I=>
   rwa[dQ (by show ¬((r.length+1+1+1:Nat):Int)=2;lia) ?_];exact q
 ·have e:bF hs.fl hs.ls.length nm zs=false:=by
   match zs with
   |[]=>rfl
   |[z]=>exact decide_eq_false (λz=>by
      rcases z with y|y
      ·exact O y
      ·exact R y.1)
   |[a,b]=>exact decide_eq_false (λz=>Z z.1)
   |_::_::_::r=>rfl
  rw [e] at q;exact q
noncomputable def cI (fl:Int)(nl:Nat)(x:Str):Option (Str×List Int):=match xC x with
 |[]=>none
 |nm::r=>(gm @bH).bind λzs=>if bF fl nl nm zs=true then some (nm,zs) else none
def uB (p:Str×List Int):D:= .tup [.str p.1,.lst (p.2.map D.int)]
inductive Nm (K:Fg)(kI:Addr)(vs:List V)(H:Hp)(Q:VK)(E:XK):Prop
 |mk (x h hs:_) (_:vs=[.str x,.ref h]) (_:gu K H h hs) (_:TX x) (_:(∀p,cI hs.fl hs.ls.length x=some p->∀b H',ak H H'->bL K H' (.ref b) (uB p)->Q (.ref b) H')) (_:(cI hs.fl hs.ls.length x=none->∀H',ak H H'->E (.ref kI) none H'))
theorem Rb {aO:Addr}(F:bo K "read_part" "read_part" mR f fd)(nF:mg "NoIll"=some (.ref aO))(wG:W.excIn K aO [.type "ValueError",.type "Exception",.type "BaseException",.type "object"] "ValueError.__new__"=true)(rX:bf P w K mg base 2 "number_of" ["text"] Fd)(si:bf P w K mg base 1 "fits_part" ["house","name","numbers"] (z9 K)):av P w K mg base @bU 3 f fd ["part","house"] (Nm K aO):=by
 rwa[F.okX ql (by intro _ _ _ _ h;cases h;subst_vars;rfl) @Z];obtain ⟨x,h,hs,rfl,hH,hx,q,G⟩:=h;rwa[⟨_,(aa @a (aa (eV (i:=3) rfl ql.nd rfl @o (ax (N':=["word"]) (pk:=[none]) @m) @a @k @u @k) (aa (au @gL (ac (eE c7 rfl wG PySem.F.excBase_ValueError rfl nF @cw)) ap) @g))),?_⟩];rwa[⟨rfl,?_⟩];rwa[⟨⟨rfl,aR (by have:=hx.1;lia)⟩,λl1 n1=> ?_⟩];have hw:∀y∈xC x,TX y:=λy hy=>hx.part hy;have I:1<=(xC x).length:=qc;have Y:(xC x).length<=5002:=kQ hx;generalize O:upd H l1 _=H1
 have s1:ak H H1:=by rw [<-O];exact .upd n1
 have S:H1 l1=some (.lst ((xC x).map V.str)):=by rw [<-O];exact af
 clear O;unfold cI at q G;obtain ⟨z2,z3,z1⟩:=RC hx (c:=Str.ofString " is no ill") @b;revert q G hw I Y S;generalize xC x=ws;intro q G hw I Y S
 match ws,q,G,hw,I,Y,S with
 |[],q,G,hw,I,Y,S=>exact absurd I @b
 |nm::r,q,G,hw,I,Y,S=>
 have S:H1 l1=some (.lst (V.str nm::r.map V.str)):=S;rw [length_cons] at Y;rwa[BS (aD.of S) λl2 H2 s2 n2 e2=> ?_];rw [uS] at e2;rwa[b8 @cY ?_];rwa[bK (xs:=r.map V.str) (λi ys R=>ak H2 R/\ys=((r.take i).map bS).map Dg) (aR (by rw [length_map];lia)) (λi ys R p=>by rw [p.2,length_map,length_map,length_take];exact Nat.min_le_left _ _) ⟨.refl _,rfl⟩ (λi ys R _ p=>p.1.seq @cY) (λi y ys R hy p=> ?_) (λys R p l3 n3=> ?_)]
 ·obtain ⟨sx,rfl⟩:=p;rw [getElem?_map] at hy;obtain ⟨u,hu,rfl⟩:=Option.map_eq_some_iff.mp hy;rwa[⟨bZ,?_⟩];rwa[Fd.mk _ rfl (hw u (.tail _ (mem_of_getElem? hu))).1 λH3 s3=> ?_];rwa[⟨sx.trans s3,?_⟩];rw [take_add_one,hu,map_append,map_append];rfl
 obtain ⟨sx,rfl⟩:=p;rw [length_map,take_length];generalize U:upd R l3 _=H3
 have s3:ak R H3:=by rw [<-U];exact .upd n3
 have e3:H3 l3=some (.lst ((r.map bS).map Dg)):=by rw [<-U];exact af
 clear U;have Z:=(s2.trans sx).trans s3;have J:=s1.trans Z;rwa[aW (aD.of (Z _ _ S)) (v:= .str nm) @P ?_];rwa[z9.mk _ _ _ _ _ rfl (hH.same J) (aD.of e3) (by rw [length_map];lia) ?_];have q:∀p,((gm @bH).bind λzs=>if bF hs.fl hs.ls.length nm zs=true then some (nm,zs) else none)=some p->∀b H',ak H H'->bL K H' (.ref b) (uB p)->Q (.ref b) H':=q;have G:((gm @bH).bind λzs=>if bF hs.fl hs.ls.length nm zs=true then some (nm,zs) else none)=none->∀H',ak H H'->E (.ref aO) none H':=G;unfold HI;have ad:((gm @bH).bind λzs=>if bF hs.fl hs.ls.length nm zs=true then some (nm,zs) else none)=none->∀H',ak H H'->E (.ref aO) none H':=G
 cases ha:gm @bH with
 |none=>
  rw [ha] at G;rwa[bz rfl ?_];exact ⟨z2,z3,z1,z1,aR (by show 1<=1000000;decide),G rfl H3 J⟩
 |some zs=>
  rw [ha] at q G;ext
  cases hf:bF hs.fl hs.ls.length nm zs with
  |false=>
   rwa[bz (by show (!bF hs.fl hs.ls.length nm zs)=true;rw [hf];rfl) ?_];exact ⟨z2,z3,z1,z1,aR (by show 1<=1000000;decide),G (by show (if bF hs.fl hs.ls.length nm zs=true then some (nm,zs) else none)=none;rw [hf];rfl) H3 J⟩
  |true=>
   rwa[aP (by show (!bF hs.fl hs.ls.length nm zs)=false;rw [hf];rfl) ?_];rwa[aW (aD.of (Z _ _ S)) (v:= .str nm) @P ?_];rwa[ce (aR (by show 2<=1000000;decide)) λt H4 s4 n4 e4=> ?_];rwa[q (nm,zs) (by show (if bF hs.fl hs.ls.length nm zs=true then some (nm,zs) else none)=_;rw [if_pos hf]) t H4 (J.trans s4) ?_];rwa[iV (aE.of e4) (.cons (.str _) (.cons (yV (aD.of @fI) ?_) .nil))];rw [d7 ha]
   exact PySem.Paired.of @e λi x d h1 h2=>by
    simp only [getElem?_map] at h1 h2
    cases hz:zs[i]? with
    |none=>rw [hz] at h1;cases h1
    |some z=>rw [hz] at h1 h2;cases h1;cases h2;exact .int _
def uK (c:Cb):Bool:=decide (c.pl% 2=0/\c.dr=0/\c.li=0)
def ig (c:Cb)(g:Int):Bool:=decide (2*g - c.pl≠0/\(2*g - c.pl)*c.li<=0)
noncomputable def ky (rm:Int)(c:Cb)(ws:List bj)(nm:Str)(i j:Int):Bool:=
 if nm=E1 then decide ((c.ps.length:Int)=rm) else if nm=xR then decide (c.dr>0/\c.pl=2*j) else if nm=EZ then uK c&&decide (i∈ws.map (·.lift)) else c.ps.any λp=>ig c p.2
noncomputable def dg (hs:Hs)(cs:List Cb)(ws:List bj)(nm:Str)(zs:List Int):Bool:=
 if nm=pX then decide ((ws.length:Int)≥zs.getD 0 0) else match cs[(zs.getD 0 0).toNat]?,hs.ls[(zs.getD 0 0).toNat]? with
 |some c,some l=>ky l.rm c ws nm (zs.getD 0 0) (zs.getD 1 0)
 |_,_=>false
theorem gJ {fl:Int}{Y:Nat}{nm:Str}{zs:List Int}(h:bF fl Y nm zs=true):(∃z,zs=[z]/\(nm=pX\/(uI nm/\z<(Y:Int))))\/∃a b,zs=[a,b]/\nm=xR/\a<(Y:Int)/\b<fl:=by
 match zs,h with
 |[],h=>cases h
 |[z],h=>exact .inl ⟨z,rfl,of_decide_eq_true h⟩
 |[a,b],h=>exact .inr ⟨a,b,rfl,of_decide_eq_true h⟩
 |_::_::_::_,h=>cases h
theorem JV {fl:Int}{Y:Nat}{x:Str}{p:Str×List Int}(h:cI fl Y x=some p):bF fl Y p.1 p.2=true/\∀z∈p.2,0<=z:=by
 unfold cI at h
 cases J:xC x with
 |nil=>rw [J] at h;cases h
 |cons nm r=>
  rw [J] at h;have h:((gm @bH).bind λzs=>if bF fl Y nm zs=true then some (nm,zs) else none)=some p:=h
  cases j:gm @bH with
  |none=>rw [j] at h;cases h
  |some zs=>
   rw [j] at h;have h:(if bF fl Y nm zs=true then some (nm,zs) else none)=some p:=h;by_cases z:bF fl Y nm zs=true
   ·rw [if_pos z] at h;cases h;rwa[⟨z,λy S=> ?_⟩];have e:=d7 j
    have S:some y∈r.map bS:=by rw [e];exact mem_map.mpr ⟨y,S,rfl⟩
    obtain ⟨u,_,F⟩:=mem_map.mp S;exact yt F
   ·rw [if_neg z] at h;cases h
inductive Fm (K:Fg)(vs:List V)(H:Hp)(Q:VK)(_e:XK):Prop
 |mk (x c:_) (_:vs=[x]) (_:d8 K H x c) (_:Q (.bl (uK c)) H)
theorem On (F:bo K "is_idle" "is_idle" vZ f fd):av P w K mg base bb 1 f fd ["cabin"] (Fm K):=by
 rwa[F.ok FJ (by intro _ _ _ _ h;cases h;subst_vars;rfl) @j];obtain ⟨x,c,rfl,⟨t,rfl,b,xs,O,J,G⟩,q⟩:=h
 have R: ¬(c.pl% 2=0/\c.dr=0/\c.li=0)->Q (.bl false) H:=λz=>by rw [show uK c=false from decide_eq_false z] at q;exact q
 rwa[⟨_,@g,?_⟩];by_cases h1:c.pl% 2=0
 ·by_cases h2:c.dr=0
  ·left;refine ⟨by decide,?_⟩;left;rw [show uK c=decide (c.li=0) from decide_eq_decide.mpr ⟨λz=>z.2.2,λz=>⟨h1,h2,z⟩⟩] at q;exact q
  ·left;refine ⟨by decide,?_⟩;left;exact R λz=>h2 z.2.1
 ·left;refine ⟨by decide,?_⟩;left;exact R λz=>h1 z.1
inductive Ft (K:Fg)(vs:List V)(H:Hp)(Q:VK)(_e:XK):Prop
 |mk (x c g:_) (_:vs=[x,.int g]) (_:d8 K H x c) (_:0<=g) (_:g<=8) (_:0<=c.pl) (_:c.pl<=16) (_:Q (.bl (ig c g)) H)
theorem Ov (F:bo K "is_away" "is_away" v3 f fd):av P w K mg base bb 1 f fd ["cabin","goal"] (Ft K):=by
 rwa[F.ok FK (by intro _ _ _ _ h;cases h;subst_vars;rfl) @j];obtain ⟨x,c,g,rfl,⟨t,rfl,b,xs,U,O,G⟩,S,J,R,Y,q⟩:=h;rwa[⟨_,@eV,?_⟩];by_cases h1:2*g - c.pl=0
 ·left;rw [show ig c g=false from decide_eq_false λz=>z.1 h1] at q;exact q
 ·left;rw [show ig c g=decide ((2*g - c.pl)*c.li<=0) from decide_eq_decide.mpr ⟨λz=>z.2,λz=>⟨h1,z⟩⟩] at q;exact q
inductive lh (K:Fg)(vs:List V)(H:Hp)(Q:VK)(_e:XK):Prop
 |mk (h st l hs n cs ws last nm zs:_) (_:vs=[.ref h,.ref st,.str nm,.ref l]) (_:gu K H h hs) (_:zz K H st hs n cs ws last) (_:n<=64) (_:aD K H l (List.map V.int zs)) (_:bF hs.fl hs.ls.length nm zs=true) (_:(∀z∈zs,0<=z)) (_:∀H',ak H H'->Q (.bl (dg hs cs ws nm zs)) H')
theorem GH (F:bo K "holds" "holds" Az f fd)(bE:mg "len"=none)(DD:mg "any"=none)(gf:bf P w K mg base 1 "room_of" ["house","lift"] @co)(zh:bf P w K mg base 1 "is_idle" ["cabin"] (Fm K))(zi:bf P w K mg base 1 "is_away" ["cabin","goal"] (Ft K)):av P w K mg base bb 2 f fd ["house","state","name","numbers"] (lh K):=by
 rwa[F.ok JB (by intro _ _ _ _ h;cases h;subst_vars;rfl) (λar A outer s H vs Q E hr h=> ?_)];obtain ⟨h,st,l,hs,n,cs,Z,an,nm,zs,rfl,hH,U,aj,hL,hf,hz,q⟩:=h;have ae:=U.c64;have wl:Z.length<=64:=Nat.le_trans U.o.w aj;obtain ⟨tc,tw,xs,ys,h1,h2,h3,h4,h5⟩:=U.a;have yl:ys.length=Z.length:=aB h5;have xl:xs.length=cs.length:=h4.len;unfold dg at q;rwa[⟨_,(aa @M (aa @a (aa @a (aa @M (aa @M (aa (au @a (ac (ag (EA @a (Gc (c5 (MG rfl) (wv 4) (bG rfl (ax (N':=["rider"]) (pk:=[none]) @m) @a @k @u @k) @K))))) ap) (ac (ag (aM (LM rfl rfl) rfl DD boot_any (aq (bG rfl (ax (N':=["tag","goal","cabin"]) (pk:=[none,none,some 5]) @m) @a @p @u @k) am)))))))))),?_⟩];rwa[fe @fc @fc]
 ·rw [if_pos O] at q
  obtain ⟨z,rfl⟩:∃z,zs=[z]:=by
   rcases gJ hf with ⟨z,e,_⟩|⟨a,b,_,e,_⟩
   ·exact ⟨z,e⟩
   ·rw [O] at e;exact absurd e @h
  rwa[ao h1 rfl ?_];rwa[bQ h3 ?_];rw [yl];rwa[aW hL (v:= .int z) @P ?_];exact q H (.refl _)
 rw [if_neg O] at q
 obtain ⟨i,r,rfl,i1⟩:∃i r,zs=i::r/\i<(hs.ls.length:Int):=by
  rcases gJ hf with ⟨z,e,y|y⟩|⟨a,b,e,_,y,_⟩
  ·exact absurd y O
  ·exact ⟨z,[],e,y.2⟩
  ·exact ⟨a,[b],e,y⟩
 have i0:0<=i:=hz i (.head _);have q:∀H',ak H H'->Q (.bl (match cs[i.toNat]?,hs.ls[i.toNat]? with|some c,some l=>ky l.rm c Z nm i ((i::r).getD 1 0)|_,_=>false)) H':=q;obtain ⟨j,rfl⟩:=Int.eq_ofNat_of_zero_le i0
 have ej:((j:Int)).toNat=j:=by lia
 have cl:=U.o.len;obtain ⟨c,hc⟩:∃c,cs[j]? =some c:=⟨cs[j]'(by lia),getElem?_eq_getElem _⟩;obtain ⟨lf,S⟩:∃lf,hs.ls[j]? =some lf:=⟨hs.ls[j]'(by lia),getElem?_eq_getElem _⟩;rw [ej,hc,S] at q;have q:∀H',ak H H'->Q (.bl (ky lf.rm c Z nm j (((j:Int)::r).getD 1 0))) H':=q;obtain ⟨x,hx⟩:∃x,xs[j]? =some x:=⟨xs[j]'(by lia),getElem?_eq_getElem _⟩;obtain ⟨c',ad,R⟩:=h4.get1 hx;rw [hc] at ad;cases ad;have ok:=U.o.ck c (mem_of_getElem? hc);have hk:=U.h;have p0:=ok.p0;have p1:=ok.p1;have f8:=hk.f8;obtain ⟨t,rfl,b,bs,et,eb,db⟩:=id R;have bl:bs.length=c.ps.length:=aB db;have al:=ae c (mem_of_getElem? hc);unfold ky at q;rwa[aW hL (v:= .int j) @P ?_];rwa[ao h1 rfl ?_];rwa[ao h2 (v:= .ref t) (aK hx) ?_];rwa[fe @eB @eB]
 ·rw [if_pos c2] at q;rwa[ao @dE rfl ?_];rwa[bQ @cX ?_];rw [bl];rwa[jX.mk _ _ _ _ rfl hH @c (by rw [ej];exact S) ?_];exact q H (.refl _)
 rw [if_neg c2] at q;rwa[fe @fb @fb]
 ·rw [if_pos Y] at q
  obtain ⟨y,rfl⟩:∃y,r=[y]:=by
   rcases gJ hf with ⟨z,_,e|e⟩|⟨a,b,e,_⟩
   ·exact absurd e O
   ·rcases e.1 with z|z|z<;>(rw [z] at Y;exact absurd Y @h)
   ·exact ⟨b,(List.cons.inj e).2⟩
  erw[ao @dE rfl ?_];have q:∀H',ak H H'->Q (.bl (decide (c.dr>0/\c.pl=2*y))) H':=q;by_cases z:c.dr>0
  ·rwa[eO z ?_];rwa[ao @dE rfl ?_];rwa[aW hL (v:= .int y) @dj ?_];rwa[⟨cy @b @b,?_⟩];rw [show decide (c.dr>0/\c.pl=2*y)=decide (c.pl=2*y) from decide_eq_decide.mpr ⟨λu=>u.2,λu=>⟨z,u⟩⟩] at q;exact q H (.refl _)
  ·rwa[dQ z ?_];rw [show decide (c.dr>0/\c.pl=2*y)=false from decide_eq_false λu=>z u.1] at q;exact q H (.refl _)
 rw [if_neg Y] at q;rwa[fe @eC @eC]
 ·rw [if_pos c4] at q;erw[Fm.mk _ _ rfl R ?_]
  cases hi:uK c with
  |false=>
   rw [hi] at q;exact aP rfl (q H (.refl _))
  |true=>
   rw [hi] at q;rwa[bz rfl ?_];rwa[ao h1 rfl ?_];rwa[d5 h3 ?_];rwa[cK (xs:=ys) (λk G I=>ak H I/\G=((Z.take k).map (·.lift)).map V.int) @bs (λk G I h=>by rw [h.2,length_map,length_map,length_take];exact Nat.min_le_left _ _) ⟨.refl _,rfl⟩ (λk G I _ h=>h.1.seqT h3) (λk y G I hy J=> ?_) (λG I J l3 n3=> ?_)]
   ·obtain ⟨W,rfl⟩:=J;obtain ⟨rd,ah,dr⟩:=bu (f:=bj.d) h5 hy;obtain ⟨ra,rfl,hT⟩:=eW (bL.same dr W);rwa[⟨bZ,?_⟩];rwa[ao hT rfl ?_];rwa[⟨W,?_⟩];rw [take_add_one,ah,map_append,map_append];rfl
   obtain ⟨W,rfl⟩:=J;rw [yl,take_of_length_le @f];rwa[mK @cV rfl (nG _) ?_];rw [wF];exact q _ @es
 rw [if_neg c4] at q;rwa[ao @dE rfl ?_];rwa[d5 @cX ?_];rwa[cK (xs:=bs) (λk G I=>ak H I/\G=((c.ps.take k).map λp=>ig c p.2).map V.bl) @bs (λk G I h=>by rw [h.2,length_map,length_map,length_take];exact Nat.min_le_left _ _) ⟨.refl _,rfl⟩ (λk G I _ h=>h.1.seqT @cX) (λk y G I hy J=> ?_) (λG I J l3 n3=> ?_)]
 ·obtain ⟨W,rfl⟩:=J;obtain ⟨p,pt,hp,rfl,ai⟩:=qR db hy;have pT:=W.seqT ai;have gs:=ok.gs p (mem_of_getElem? hp);left;rwa[⟨fU,?_⟩];rwa[Ft.mk _ _ _ rfl (R.keep W.st) gs.1 @c p0 @c ?_];rwa[⟨W,?_⟩];rw [take_add_one,hp,map_append,map_append];rfl
 obtain ⟨W,rfl⟩:=J;rw [bl,take_of_length_le @f];rwa[Mf (bs:=c.ps.map λp=>ig c p.2) @cV ?_];rw [any_map];exact q _ @es
def OL (s:Stmt):Expr:=match be s with
 |[_,.Return (some e) _]=>e
 |_=> .Constant .none 0 ⟨0,0,0,0⟩
def Hd (s:Stmt):Arguments:=match OL s with
 | .Lambda a _ _ _=>a
 |_=>bB s
def Ha (s:Stmt):Expr:=match OL s with
 | .Lambda _ b _ _=>b
 |e=>e
def wA (s:Stmt):Scope:=match OL s with
 | .Lambda _ _ sc _=>sc
 |_=>ae s
abbrev O9 (L:Addr):List (Str×Addr):=[("parts",L+1+1),("house",L+1+0)]
abbrev T1 (mg:Str->Option Value)(L c':Addr)(ctv:Value):Obj:=W.kla_obj "<lambda>" QV (Hd cu) (Ha cu) (wA cu) (O9 L) ((mg "__name__").getD .none) c' ctv
theorem Uk:oj "state" ["house","parts"] (wA cu):=⟨rfl,rfl,rfl,by decide+kernel,⟨_,rfl,by decide+kernel⟩,by decide+kernel,by decide+kernel⟩
theorem Bo {L:Addr}{x:Str}{c:Addr}(h:(O9 L).lookup x=some c):(x="parts"/\c=L+1+1)\/(x="house"/\c=L+1+0):=by
 rw [lookup_cons] at h
 cases z:x==("parts":Str) with
 |true=>rw [z] at h;cases h;exact .inl ⟨eq_of_beq z,rfl⟩
 |false=>
  rw [z] at h;have h:[(("house":Str),L+1+0)].lookup x=some c:=h;rw [lookup_cons] at h
  cases y:x==("house":Str) with
  |true=>rw [y] at h;cases h;exact .inr ⟨eq_of_beq y,rfl⟩
  |false=>rw [y] at h;cases h
theorem Lg {L:Addr}:∀x c,(O9 L).lookup x=some c->x∈(["house","parts"]:List Str):=λx c h=>by
 rcases Bo h with ⟨rfl,_⟩|⟨rfl,_⟩
 ·exact .tail _ (.head _)
 ·exact .head _
theorem Le {L:Addr}:∀x y c,(O9 L).lookup x=some c->(O9 L).lookup y=some c->x=y:=λx y c h1 h2=>by
 rcases Bo h1 with ⟨rfl,S⟩|⟨rfl,S⟩<;>rcases Bo h2 with ⟨rfl,O⟩|⟨rfl,O⟩
 ·rfl
 ·rw [S] at O;exact absurd O @e
 ·rw [S] at O;exact absurd O @e
 ·rfl
theorem aD.hidI {H:Hp}{cs:List Addr}(J:∀c∈cs,∃φ,H c=some (.ext φ)){a:Addr}{xs:List V}(h:aD K H a xs):aD K @cT a xs:=by
 rcases h with (h|⟨o,h⟩)|h
 ·exact .inl (.inl (nv J (λφ z=>by cases z) h))
 ·exact .inl (.inr ⟨o,nv J (λφ z=>by cases z) h⟩)
 ·exact .inr h
theorem aE.hidI {H:Hp}{cs:List Addr}(J:∀c∈cs,∃φ,H c=some (.ext φ)){a:Addr}{xs:List V}(h:aE K H a xs):aE K @cT a xs:=by
 rcases h with (h|⟨o,h⟩)|h
 ·exact .inl (.inl (nv J (λφ z=>by cases z) h))
 ·exact .inl (.inr ⟨o,nv J (λφ z=>by cases z) h⟩)
 ·exact .inr h
theorem bL.hidI {H:Hp}{cs:List Addr}(J:∀c∈cs,∃φ,H c=some (.ext φ)){x:V}{d:D}(h:bL K H x d):bL K @cT x d:=by
 induction h with
 |non=>exact .non
 |bl a=>exact .bl a
 |int a=>exact .int a
 |str a=>exact .str a
 |lst h hl hi ih=>exact .lst (aD.hidI J h) hl λi x d S O=>ih i x d S O
 |tup h hl hi ih=>exact .tup (aE.hidI J h) hl λi x d S O=>ih i x d S O
theorem az.hidI {H:Hp}{cs:List Addr}(J:∀c∈cs,∃φ,H c=some (.ext φ)){xs:List V}{ds:List D}(h:az K H xs ds):az K @cT xs ds:=Paired.imp' (λ_ _ z=>bL.hidI J z) h
theorem gu.hidI {H:Hp}{cs:List Addr}(J:∀c∈cs,∃φ,H c=some (.ext φ)){a:Addr}{h:Hs}(c:gu K H a h):gu K @cT a h:=by
 obtain ⟨o,p,xs,h1,h2,S⟩:=c;exact ⟨o,p,xs,aE.hidI J h1,aE.hidI J h2,Paired.imp' (λx l ⟨b,e,z⟩=>⟨b,e,aE.hidI J z⟩) S⟩
theorem zz.hidI {H:Hp}{j:List Addr}(J:∀c∈j,∃φ,H c=some (.ext φ)){st:Addr}{hs:Hs}{n:Nat}{cs:List Cb}{ws:List bj}{last:Int}(h:zz K H st hs n cs ws last):zz K (L2.hid j H) st hs n cs ws last:=by
 obtain ⟨tc,R,xs,ys,h1,h2,S,F,Y⟩:=h.a;rwa[⟨⟨tc,R,xs,ys,aE.hidI J h1,aE.hidI J h2,aE.hidI J S,Paired.imp' (λx c z=> ?_) F,az.hidI J Y⟩,h.o,h.h⟩];obtain ⟨t,e,b,bs,G,O,I⟩:=z;exact ⟨t,e,b,bs,nv J (λφ z=>by cases z) G,nv J (λφ z=>by cases z) O,az.hidI J I⟩
def Ly (hs:Hs)(ps:List (Str×List Int)):Prop:=∀p∈ps,bF hs.fl hs.ls.length p.1 p.2=true/\∀z∈p.2,0<=z
def Nn (K:Fg)(h:Addr)(hs:Hs)(pl:Addr)(ps:List (Str×List Int)):List V->Hp->VK->Prop:=λvs H Q=>∃st n cs ws last xs,vs=[.ref st]/\gu K H h hs/\aD K H pl xs/\az K H xs @fJ/\zz K H st hs n cs ws last/\n<=64/\Ly hs ps/\ps.length<=5002/\∀H',ak H H'->Q (.bl (ps.all λp=>dg hs cs ws p.1 p.2)) H'
theorem K0 {h pl:Addr}{hs:Hs}{ps:List (Str×List Int)}(cs:List Addr)(vs:List V)(H:Hp)(Q:VK)(J:∀c∈cs,∃φ,H c=some (.ext φ))(I:Nn K h hs pl ps vs H Q):Nn K h hs pl ps vs @cT (λv H2=>(∀c∈cs,H2 c=none)->Q v @df):=by
 obtain ⟨st,n,z,j,O,xs,e,h1,h2,S,F,bA,Y,R,q⟩:=I;exact ⟨st,n,z,j,O,xs,e,h1.hidI J,aD.hidI J h2,az.hidI J S,F.hidI J,bA,Y,R,λH' G U=>q _ (zP G)⟩
theorem nK {H:Hp}:∀ {zs:List V} {is:List Int},az K H zs (is.map D.int)->zs=is.map V.int
 |_,[],h=>by cases h;rfl
 |_,i::is,h=>by
  cases h with|cons a b=>
  cases a.isInt;rw [nK b];rfl
theorem JW {H:Hp}{xs:List V}{ps:List (Str×List Int)}(h:az K H xs @fJ){i:Nat}{x:V}(e:xs[i]? =some x):∃p t l,ps[i]? =some p/\x= .ref t/\aE K H t [.str p.1,.ref l]/\aD K H l (p.2.map V.int):=by
 obtain ⟨p,G,O⟩:=bu h e;obtain ⟨u,I,rfl,F,z⟩:=O.outT
 cases z with|cons q0 t0=>cases t0 with|cons q1 t1=>
 cases t1;cases q0.isStr;obtain ⟨l,zs,rfl,R,j⟩:=q1.outL;rw [nK j] at R;exact ⟨p,u,l,G,rfl,F,R⟩
theorem KZ {g c' h pl L:Addr}{ctv:Value}{hs:Hs}{ps:List (Str×List Int)}(nq:mg "all"=none)(nQ:bf P w K mg base 2 "holds" ["house","state","name","numbers"] (lh K)):ip P w K mg base 3 g (LQ P w g c' (T1 mg L c' ctv) QV (O9 L) ["house","parts"] [.ref h,.ref pl] 1 (Nn K h hs pl ps)):=by
 rwa[Hj (k:=2) Uk (λu=>rfl) rfl Lg Le K0 (λA outer s H v Q hr hh=> ?_)];obtain ⟨st,n,cs,J,U,xs,e,hH,O,R,hS,G,ag,Y,q⟩:=hh;cases e;have xl:xs.length=ps.length:=aB R;rwa[⟨_,(aM @gA rfl nq boot_all (aq (bG rfl (ax (N':=["name","numbers","house","state"]) (pk:=[none,none,some 1,some 0]) @m) @a @p @u @k) am)),?_⟩];rwa[b8 O ?_];rwa[bK (xs:=xs) (λk j I=>ak H I/\j=((ps.take k).map λp=>dg hs cs J p.1 p.2).map V.bl) @bs (λk j I h=>by rw [h.2,length_map,length_map,length_take];exact Nat.min_le_left _ _) ⟨.refl _,rfl⟩ (λk j I _ h=>h.1.seq O) (λk y j I hy z=> ?_) (λj I z l3 n3=> ?_)]
 ·obtain ⟨W,rfl⟩:=z;obtain ⟨p,t,l,hp,rfl,S,F⟩:=JW R hy;have S:=W.seqT S;have F:=W.seq F;have Z:=ag p (mem_of_getElem? hp);left;rwa[⟨fU,?_⟩];rwa[lh.mk _ _ _ _ _ _ _ _ _ _ rfl (hH.same W) (hS.nt W.nt) G F Z.1 Z.2 λH2 s2=> ?_];rwa[⟨W.trans s2,?_⟩];rw [take_add_one,hp,map_append,map_append];rfl
 obtain ⟨W,rfl⟩:=z;rw [xl,take_of_length_le @f];rwa[Ir (bs:=ps.map λp=>dg hs cs J p.1 p.2) @cV ?_];rw [all_map];exact q _ @es
noncomputable def nZ {α:Type}:List @fK->Option (List α)
 |[]=>some []
 |none::_=>none
 |some z::r=>(nZ r).map (z:: ·)
theorem nY {α:Type}:∀ {ns:List @fK} {zs:List α},nZ ns=some zs->ns=zs.map some
 |[],zs,h=>by cases h;rfl
 |none::r,zs,h=>by cases h
 |some z::r,zs,h=>by
  obtain ⟨t,J,rfl⟩:=Option.map_eq_some_iff.mp h;rw [nY J];rfl
theorem zw {α:Type}:∀(zs:List α),nZ (zs.map some)=some zs
 |[]=>rfl
 |z::zs=>by show (nZ (zs.map some)).map (z:: ·)=_;rw [zw zs];rfl
theorem CC {α:Type}{S:List @fK}(h:none∈S):nZ S=none:=by
 cases e:nZ S with
 |none=>rfl
 |some zs=>rw [nY e] at h;obtain ⟨y,_,z⟩:=mem_map.mp h;cases z
theorem u8 {α:Type}:∀ {ns:List @fK},nZ ns=none->none∈ns
 |[],h=>by cases h
 |none::r,h=> .head _
 |some z::r,h=> .tail _ (u8 (Option.map_eq_none_iff.mp h))
abbrev o0:Str:=Str.ofString " and "
noncomputable def pJ (fl:Int)(nl:Nat)(x:Str):Option (List (Str×List Int)):=nZ ((Txt.split x o0).map (cI fl nl))
def oX (K:Fg)(mg:Str->Option Value)(H:Hp)(g h:Addr)(hs:Hs)(ps:List (Str×List Int)):Prop:=∃c' ctv L pl xs,H g=some (sG g (T1 mg L c' ctv))/\H c'=some (sL c' QV)/\H (L+1+0)=some (kF (L+1+0) (.ref h))/\H (L+1+1)=some (kF (L+1+1) (.ref pl))/\aD K H pl xs/\az K H xs @fJ/\Ly hs ps/\ps.length<=5002
theorem oX.same {H H':Hp}{g h:Addr}{hs:Hs}{ps:List (Str×List Int)}(i:oX K mg H g h hs ps)(s:ak H H'):oX K mg H' g h hs ps:=by
 obtain ⟨z,ar,L,pl,xs,h1,h2,S,j,Y,J,W,O⟩:=i;exact ⟨z,ar,L,pl,xs,s _ _ h1,s _ _ h2,s _ _ S,s _ _ j,s.seq Y,az.same J s,W,O⟩
theorem oX.call {H:Hp}{g h st:Addr}{hs:Hs}{ps:List (Str×List Int)}{n:Nat}{cs:List Cb}{ws:List bj}{last:Int}{Q:VK}{E:XK}(i:oX K mg H g h hs ps)(R:mg "all"=none)(z:bf P w K mg base 2 "holds" ["house","state","name","numbers"] (lh K))(Z:gu K H h hs)(U:zz K H st hs n cs ws last)(bA:n<=64)(q:∀H',ak H H'->Q (.bl (ps.all λp=>dg hs cs ws p.1 p.2)) H'):∃sp:Sp,ip P w K mg base 3 g sp/\sp [.ref st] H Q E:=by
 obtain ⟨G,ar,L,pl,xs,h1,h2,I,j,Y,J,W,F⟩:=i;rwa[⟨_,KZ (h:=h) (pl:=pl) (L:=L) (c':=G) (ctv:=ar) (hs:=hs) (ps:=ps) R z,h1,h2,λi x v S O=> ?_,rfl,st,n,cs,ws,last,xs,rfl,Z,Y,J,U,bA,W,F,q⟩]
 match i,S,O with
 |0,S,O=>cases S;cases O;exact ⟨_,rfl,I⟩
 |1,S,O=>cases S;cases O;exact ⟨_,rfl,j⟩
 |i+2,S,O=>cases S
inductive vz (K:Fg)(mg:Str->Option Value)(kI Pn Pl:Addr)(vs:List V)(H:Hp)(Q:VK)(E:XK):Prop
 |mk (x h hs:_) (_:vs=[.str x,.ref h]) (_:gu K H h hs) (_:TX x) (_:sJ Pn Pl H) (_:(∀ps,pJ hs.fl hs.ls.length x=some ps->∀g H',aT H H'->sJ Pn Pl H'->oX K mg H' g h hs ps->Q (.ref g) H')) (_:(pJ hs.fl hs.ls.length x=none->∀H',ak H H'->E (.ref kI) none H'))
theorem Om {c aO Pn Pl:Addr}{kV S pm ct oc:Value}{an od:Option Addr}{ad:Array @E}(ai:Pn≠Lv)(aj:Pl≠Lv)(lk:K.lookup f=some ⟨oc,od,.func (W.fnOf "ill_of" "ill_of" (bB cu) (be cu) (ae cu) .none kV S pm an (.ref c) ct),ad⟩)(aa:W.codeIn K (.ref c) "ill_of"=true)
(F:PySem.W.CodeHd base c Lv)(O:ij base mg)(jS:uk P w K mg base 3 "read_part" ["part","house"] (Nm K aO)):
 av P w K mg base @bU 4 f (W.fnOf "ill_of" "ill_of" (bB cu) (be cu) (ae cu) .none kV S pm an (.ref c) ct) ["text","house"] (vz K mg aO Pn Pl):=by
 rwa[O3 (k:=3) (N:=["text","house","parts"]) (lp:=Hd cu) (lb:=Ha cu) (lsc:=wA cu) (x0:="house") (x1:="parts") (j0:=1) (j1:=2) (d0:=0) (d1:=1) (cl:=O9) lk aa BW F O @fh @fh rfl rfl rfl rfl @fh @fh @b @bi @cu]
 ·obtain ⟨x,h,hs,rfl,_⟩:=h;rfl
 obtain ⟨x,h,hs,rfl,hH,hx,hg,q,qb⟩:=h;rwa[⟨_,(bq (i:=2) BW.nd rfl @dv (Gg c7 rfl rfl rfl (ax (N':=["part","house"]) (pk:=[none,some 1]) @m) @a @k @u (λC s H ex=>(LV rfl jS hr @b rfl @fL)))),?_⟩];rwa[⟨rfl,?_⟩];rwa[⟨⟨rfl,aR (by have:=hx.1;lia)⟩,λl1 n1=> ?_⟩];have hw:∀y∈Txt.split x o0,TX y:=λy hy=>hx.part hy;have Y:(Txt.split x o0).length<=5002:=kQ hx;generalize j:upd H l1 _=H1
 have s1:ak H H1:=by rw [<-j];exact .upd n1
 have e1:H1 l1=some (.lst ((Txt.split x o0).map V.str)):=by rw [<-j];exact af
 clear j;unfold pJ at q qb;revert q qb hw Y e1;generalize Txt.split x o0=us;intro q qb hw Y e1;rwa[b8 @dF ?_];rwa[Bm (xs:=us.map V.str) (λi ys I=>ak H1 I/\∃ps:List (Str×List Int),(us.take i).map @bM=ps.map some/\az K I ys @fJ) (aR (by rw [length_map];lia)) (λi ys I p=> ?_) ⟨.refl _,[],rfl,.nil⟩ (λi ys I _ p=>p.1.seq @dF) (λi y ys I hy p=> ?_) (λys I p l3 n3=> ?_)]
 ·obtain ⟨_,ps,e,d⟩:=p;rw [aB d];have:=congrArg List.length e;rw [length_map,length_map,length_take] at this;lia
 ·obtain ⟨R,ps,e,d⟩:=p;rw [getElem?_map] at hy;obtain ⟨u,hu,rfl⟩:=Option.map_eq_some_iff.mp hy;have hm:=mem_of_getElem? hu;rwa[⟨bZ,?_⟩];rwa[Nm.mk _ _ _ rfl (hH.same (s1.trans R)) (hw u hm) (λp J b H2 s2 d2=> ?_) (λJ H2 s2=> ?_)]
  ·rwa[⟨R.trans s2,ps++[p],?_,?_⟩]
   ·rw [take_add_one,hu,map_append,e,map_append];show _++[cI hs.fl hs.ls.length u]=_;rw [J];rfl
   ·rw [map_append];exact Paired.app @fT (.cons d2 .nil)
  ·intro p zs np;exact qb (CC (mem_map.mpr ⟨u,hm,J⟩)) _ (((s1.trans R).trans s2).trans (.upd np))
 obtain ⟨R,ps,e,d⟩:=p;rw [length_map,take_length] at e;rw [e,zw] at q;generalize ag:upd I l3 _=H3
 have s3:ak I H3:=by rw [<-ag];exact .upd n3
 have e3:H3 l3=some (.lst ys):=by rw [<-ag];exact af
 clear ag;have U:=(s1.trans R).trans s3;have Z:=lQ _ _ U.st hg
 have ac:Ly hs ps:=λp J=>by
  have:some p∈us.map @bM:=by rw [e];exact mem_map.mpr ⟨p,J,rfl⟩
  obtain ⟨u,_,hu⟩:=mem_map.mp this;exact JV hu
 have JP:ps.length<=5002:=by have:=congrArg List.length e;rw [length_map,length_map] at this;lia
 rwa[⟨.ref h,.ref l3,rfl,rfl,Z.2.2,λg' c' ar L H' sP n5 al ah h0 h1 hT=> ?_⟩];obtain ⟨tb,G,_⟩:=id Z.2.2;have sN:=sP.nt G;rwa[q ps rfl g' H' (U.nt.trans sN) ⟨Z.1.sameP sP G ai,Z.2.1.sameP sP G aj,hT⟩ ⟨c',ar,L,l3,ys,al,ah,h0,h1,aD.of (sN _ _ (λ_ z=>by cases z) e3),sN.dens (az.same d s3),ac,JP⟩]
noncomputable def lM (x:Str):Int:=match bS x with
 |none=> -1
 |some n=>n
theorem KO {x:Str}(h:mq x=false):lM x= -1:=by
 unfold lM bS B4;rw [h];rfl
theorem wr {x:Str}:(lM x= -1/\bS x=none)\/(0<=lM x/\bS x=some (lM x)):=by
 unfold lM
 cases h:bS x with
 |none=>exact .inl ⟨rfl,rfl⟩
 |some n=>exact .inr ⟨yt h,rfl⟩
inductive zZ (vs:List V)(H:Hp)(Q:VK)(_e:XK):Prop
 |mk (x:Str) (_:vs=[.str x]) (_:TX x) (_:Q (.int (lM x)) H)
theorem Ko (F:bo K "_law_number" "_law_number" qC f fd)(bE:mg "len"=none)(DC:mg "int"=none):av P w K mg base bb 1 f fd ["_law_word"] zZ:=by
 rwa[F.ok C2 (by intro _ _ _ _ h;cases h;subst_vars;rfl) @bp];obtain ⟨x,rfl,hx,q⟩:=h;have hz:x.length<=sizeLine:=aR (by have:=hx.1;lia);have af:=aF x
 have no:mq x=false->Q (.int (-1)) H:=λz=>by rw [KO z] at q;exact q
 rwa[⟨_,(aa (au @a @eg ap) (aa (cE PassesOwn.never rfl @a @a (ac (au (cq @gj (wv 1) bH @K) @eg ap))) (aa (au @a @eg ap) (ac (ag (aV LL rfl DC boot_int @fF)))))),?_⟩];rwa[⟨hz,?_⟩];rwa[fe @dX @dX]
 ·have S:(x.length:Int)<1:=S;rwa[bz rfl ?_];exact no (by unfold mq;rw [if_pos (.inl @c)])
 have S: ¬(x.length:Int)<1:=S;rwa[⟨hz,?_⟩];rwa[fe @fa @fa]
 ·have U:(x.length:Int)>9:=U;exact no (by unfold mq;rw [if_pos (.inr @c)])
 have U: ¬(x.length:Int)>9:=U;obtain ⟨c,G⟩:∃c,x.cps.toList[0]? =some c:=⟨x.cps.toList[0],by simp [getElem?_eq_getElem (show 0<x.cps.toList.length by lia)]⟩;rwa[Hz (λi σ Z=>Z=H/\(∀c∈x.cps.toList.take i,c∈ua)/\∃o,σ=[some (.str x),o]) ⟨rfl,(λc G=>nomatch G),_,rfl⟩ (λi c σ Z ae pv=> ?_) (λσ Z pv=> ?_)]
 ·obtain ⟨rfl,W,o,rfl⟩:=pv
  have ad:x.cps.toList[i]? =some c:=by rw [Array.getElem?_toList];exact ae
  ext;rw [ut];by_cases Y:c∈ua
  ·rwa[aP (by rw [decide_eq_true Y];rfl) ?_];rwa[⟨rfl,λd O=> ?_,_,rfl⟩];rw [take_add_one,ad] at O
   rcases mem_append.mp O with O|O
   ·exact W d O
   ·rw [mem_singleton.mp O];exact Y
  ·rwa[bz (by rw [decide_eq_false Y];rfl) ?_];rwa[no ?_];unfold mq;rw [if_neg @c];split
   ·rfl
   ·exact all_eq_false.mpr ⟨c,mem_of_getElem? ad,by simpa using Y⟩
 obtain ⟨rfl,W,o,rfl⟩:=pv;rw [show x.cps.size=x.cps.toList.length by simp,take_length] at W
 have R: ¬(x.cps.toList[0]? =some 48/\x≠Str.ofString "0")->yF x Z Q:=λz=>by
  have hw:mq x=true:=by unfold mq;rw [if_neg @c,if_neg z];exact all_eq_true.mpr λc G=>decide_eq_true (W c G)
  have e:lM x=((PySem.NumText.digitsVal x.cps.toList:Nat):Int):=by unfold lM bS B4;rw [if_pos hw];rfl
  rw [e] at q;have ai:=(dq hw).2.2;exact Hm (PySem.intText_digits (dq hw).1 (dq hw).2.1 @c) @c q
 rwa[jf hz (aK (j:=0) G) ?_];rwa[fe @eX @eX]
 ·ext;rwa[iR (λhn=> ?_) (λhn=> ?_)]
  ·have J:x≠Str.ofString "0":=by simpa using hn
   exact no (by unfold mq;rw [if_neg @c,if_pos ⟨by rw [G,(Kb c).mp I],J⟩])
  ·have J:x=Str.ofString "0":=by simpa using hn
   exact R λz=>z.2 J
 ·ext;rwa[aP rfl ?_];exact R λz=>I ((Kb c).mpr (by rw [G] at z;exact Option.some.inj z.1))
inductive vy (K:Fg)(vs:List V)(H:Hp)(Q:VK)(_e:XK):Prop
 |mk (x h hs:_) (_:vs=[.str x,.ref h]) (_:gu K H h hs) (_:TX x) (_:(cI hs.fl hs.ls.length x=none->∀H',ak H H'->Q .non H')) (_:(∀p,cI hs.fl hs.ls.length x=some p->∀t H',ak H H'->H' t=some (.tup (.str p.1::p.2.map V.int))->Q (.ref t) H'))
theorem OA (r:List Str):sO (.int (-1)) ((r.map lM).map V.int)=decide (gm @bH=none):=by
 rw [wF,decide_eq_decide];constructor
 ·intro h;obtain ⟨u,j,e⟩:=mem_map.mp h
  cases G:gm @bH with
  |none=>rfl
  |some zs=>
   have O:=d7 G;have:bS u∈r.map bS:=mem_map.mpr ⟨u,j,rfl⟩;rw [O] at this;obtain ⟨z,_,F⟩:=mem_map.mp this
   rcases wr (x:=u) with ⟨_,y⟩|⟨y,_⟩
   ·rw [y] at F;cases F
   ·lia
 ·intro h;obtain ⟨u,j,e⟩:=mem_map.mp (nW h);rwa[mem_map.mpr ⟨u,j,?_⟩]
  rcases wr (x:=u) with ⟨y,_⟩|⟨_,y⟩
  ·exact y
  ·rw [y] at e;cases e
theorem G9 {r:List Str}{zs:List Int}(h:gm @bH=some zs):r.map lM=zs:=by
 have e:=d7 h
 have:(r.map lM).map some=zs.map some:=by
  rw [<-e,map_map];rwa[map_congr_left λu j=> ?_];have:bS u∈r.map bS:=mem_map.mpr ⟨u,j,rfl⟩;rw [e] at this;obtain ⟨z,_,F⟩:=mem_map.mp this
  rcases wr (x:=u) with ⟨_,y⟩|⟨_,y⟩
  ·rw [y] at F;cases F
  ·exact y.symm
 exact List.map_inj_right (λ_ _ h=>Option.some.inj h) |>.mp this
theorem MX {zs:List Int}(d:(zs.length:Int)=2):∃a b,zs=[a,b]:=by
 match zs,d with
 |[a,b],_=>exact ⟨a,b,rfl⟩
 |[],d=>exact absurd d @b
 |[_],d=>exact absurd d (by show ¬(1:Int)=2;decide)
 |_::_::_::r,d=>exact absurd d (by show ¬((r.length+1+1+1:Nat):Int)=2;lia)
theorem Gy (F:bo K "_law_part" "_law_part" Ax f fd)(bE:mg "len"=none)(oP:bf P w K mg base 1 "_law_number" ["_law_word"] zZ):av P w K mg base bb 2 f fd ["_law_text_here","_law_house_here"] (vy K):=by
 rwa[F.ok BV (by intro _ _ _ _ h;cases h;subst_vars;rfl) (λal A outer s H vs Q E hr h=> ?_)];obtain ⟨x,h,hs,rfl,hH,hx,I,q⟩:=h;rwa[⟨_,(aa @a (aa (eV (i:=3) rfl BV.nd rfl @o (ax (N':=["_law_word"]) (pk:=[none]) @m) @a @k @u @k) (aa (au @a (ac (ag iN)) ap) (eD @M (eD @M (aa @M (ac (ag iN)))))))),?_⟩];rwa[⟨rfl,?_⟩];rwa[⟨⟨rfl,aR (by have:=hx.1;lia)⟩,λl1 n1=> ?_⟩];have hw:∀y∈xC x,TX y:=λy hy=>hx.part hy;have J:1<=(xC x).length:=qc;have Y:(xC x).length<=5002:=kQ hx;generalize ad:upd H l1 _=H1
 have s1:ak H H1:=by rw [<-ad];exact .upd n1
 have S:H1 l1=some (.lst ((xC x).map V.str)):=by rw [<-ad];exact af
 clear ad;unfold cI at q I;revert q I hw J Y S;generalize xC x=ws;intro I q hw J Y S
 match ws,q,I,hw,J,Y,S with
 |[],q,I,hw,J,Y,S=>exact absurd J @b
 |nm::r,q,I,hw,J,Y,S=>
 have S:H1 l1=some (.lst (V.str nm::r.map V.str)):=S;rw [length_cons] at Y;rwa[BS (aD.of S) λl2 H2 s2 n2 e2=> ?_];rw [uS] at e2;rwa[b8 @cY ?_];rwa[bK (xs:=r.map V.str) (λi ys HX=>HX=H2/\ys=((r.take i).map lM).map V.int) (aR (by rw [length_map];lia)) (λi ys HX p=>by rw [p.2,length_map,length_map,length_take];exact Nat.min_le_left _ _) ⟨rfl,rfl⟩ (λi ys HX _ p=>by rw [p.1];exact aD.of e2) (λi y ys HX hy p=> ?_) (λys HX p l3 n3=> ?_)]
 ·obtain ⟨rfl,rfl⟩:=p;rw [getElem?_map] at hy;obtain ⟨u,hu,rfl⟩:=Option.map_eq_some_iff.mp hy;rwa[⟨bZ,?_⟩];rwa[zZ.mk _ rfl (hw u (.tail _ (mem_of_getElem? hu))) ?_];rwa[⟨rfl,?_⟩];rw [take_add_one,hu,map_append,map_append];rfl
 obtain ⟨rfl,rfl⟩:=p;rw [length_map,take_length];generalize ah:upd HX l3 _=H3
 have s3:ak HX H3:=by rw [<-ah];exact .upd n3
 have e3:H3 l3=some (.lst ((r.map lM).map V.int)):=by rw [<-ah];exact af
 clear ah;have ai:=s2.trans s3;have R:=s1.trans ai;have ew:=ai _ _ S;obtain ⟨_,p,xs,h1,h2,h3⟩:=hH.same R;have xl:=h3.len;rwa[mK (aD.of e3) rfl (nG _) ?_];rw [OA];have q:∀p,((gm @bH).bind λzs=>if bF hs.fl hs.ls.length nm zs=true then some (nm,zs) else none)=some p->∀t H',ak H H'->H' t=some (.tup (.str p.1::p.2.map V.int))->Q (.ref t) H':=q;have I:((gm @bH).bind λzs=>if bF hs.fl hs.ls.length nm zs=true then some (nm,zs) else none)=none->∀H',ak H H'->Q .non H':=I
 cases ha:gm @bH with
 |none=>
  rw [ha] at I;rwa[bz @gD ?_];exact I rfl H3 R
 |some zs=>
 rw [ha] at q I;rw [G9 ha] at e3;rwa[aP (decide_eq_false (λz=>by cases z)) ?_];have no:bF hs.fl hs.ls.length nm zs=false->∀ {H'},ak H3 H'->Q .non H':=λz H' O=>I (by show (if bF hs.fl hs.ls.length nm zs=true then some (nm,zs) else none)=none;rw [z];rfl) H' (R.trans O);have ar:bF hs.fl hs.ls.length nm zs=true->∀t H',ak H3 H'->H' t=some (.tup (.str nm::zs.map V.int))->Q (.ref t) H':=λz t H' O e4=>q (nm,zs) (by show (if bF hs.fl hs.ls.length nm zs=true then some (nm,zs) else none)=_;rw [if_pos z]) t H' (R.trans O) e4;clear q I;have T0:=aD.of (K:=K) ew;have T3:=aD.of (K:=K) e3;have aj:∀ {tp:Addr} {H':Hp} {Q':VK},H' tp=some (.tup [.str E1,.str EZ,.str LP])->Q' (.bl (decide (uI nm))) H'->on K false (.str nm) tp H' Q':=λ{tp H' Q'} et g=>Ae @dE rfl rfl (by rw [Tu];exact g);have ae:∀ {z:Int} {H':Hp} {Q':VK},zs=[z]->ak H3 H'->Q' (.int z) H'->jF K l3 0 H' Q':=λ{z H' Q'} e s g=>aW (s.seq T3) (v:= .int z) (by rw [e];exact aK (j:=0) rfl) g;rwa[ue (λσ H'=>H'=H3/\σ=[some (.str x),some (.ref h),some (.ref l1),some (.ref l3)]/\ ¬(nm=pX/\(zs.length:Int)=1)) ?_ ?_]
 ·by_cases c1:nm=pX
  ·by_cases Z:(zs.length:Int)=1
   ·obtain ⟨z,W⟩:∃z,zs=[z]:=length_eq_one_iff.mp @c;rwa[aW T0 (v:= .str nm) @P ?_];rwa[eO c1 ?_];rwa[dL T3 ?_];rw [length_map];rwa[eO Z ?_];rwa[ae W (.refl _) ?_];rwa[ce (aR (by show 2<=1000000;decide)) λt H4 O n4 e4=> ?_];subst W;exact ar (decide_eq_true (.inl c1)) t H4 O (by rw [e4,c1];rfl)
   ·ext;rwa[aW T0 (v:= .str nm) @P ?_];rwa[eO c1 ?_];rwa[dL T3 ?_];rw [length_map];rwa[dQ Z ?_]
    try refine aP rfl ?_
    try refine aP rfl ?_
    exact ⟨rfl,rfl,λz=>Z z.2⟩
  ·ext;rwa[aW T0 (v:= .str nm) @P ?_];rwa[dQ c1 ?_]
   try refine aP rfl ?_
   try refine aP rfl ?_
   exact ⟨rfl,rfl,λz=>c1 z.1⟩
 rintro σ' H' ⟨rfl,rfl,k1⟩;rwa[ue (λσ H4=>ak H' H4/\σ=[some (.str x),some (.ref h),some (.ref l1),some (.ref l3)]/\ ¬(uI nm/\∃z,zs=[z]/\z<(hs.ls.length:Int))) ?_ ?_]
 ·ext;rwa[aW T0 (v:= .str nm) @P ?_];rwa[ce (aR (by show 3<=1000000;decide)) λtp H4 O n4 e4=> ?_];erw[aj e4 ?_];by_cases c2:uI nm
  ·rwa[eO c2 ?_];rwa[dL (O.seq T3) ?_];rw [length_map];ext;by_cases Z:(zs.length:Int)=1
   ·obtain ⟨z,W⟩:∃z,zs=[z]:=length_eq_one_iff.mp @c;rwa[eO Z ?_];rwa[ae W O ?_];rwa[ao @gQ rfl ?_];rwa[bQ (O.seqT h2) ?_];rw [xl];ext;by_cases U:z<(hs.ls.length:Int)
    ·rwa[eO U ?_];rwa[aW (O.seq T0) (v:= .str nm) @P ?_];rwa[ae W O ?_];rwa[ce (aR (by show 2<=1000000;decide)) λt H5 s5 n5 e5=> ?_];subst W;exact ar (decide_eq_true (.inr ⟨c2,U⟩)) t H5 @hg e5
    ·rwa[dQ U ?_]
     try refine aP rfl ?_
     try refine aP rfl ?_
     exact ⟨O,rfl,λ⟨_,y,ey,dy⟩=>U (by rw [W] at ey;cases ey;exact dy)⟩
   ·rwa[dQ Z ?_]
    try refine aP rfl ?_
    try refine aP rfl ?_
    exact ⟨O,rfl,λ⟨_,y,ey,_⟩=>Z (by rw [ey];rfl)⟩
  ·rwa[dQ c2 ?_]
   try refine aP rfl ?_
   try refine aP rfl ?_
   exact ⟨O,rfl,λy=>c2 y.1⟩
 rintro σ' H4 ⟨O,rfl,k2⟩
 have G: ¬(nm=xR/\∃a b,zs=[a,b]/\a<(hs.ls.length:Int)/\b<hs.fl)->Q .non H4:=λz=>no (by
  cases y:bF hs.fl hs.ls.length nm zs with
  |false=>rfl
  |true=>
   rcases gJ y with ⟨u,eu,w|w⟩|⟨a,b,e,w⟩
   ·exact absurd ⟨w,by rw [eu];rfl⟩ k1
   ·exact absurd ⟨w.1,u,eu,w.2⟩ k2
   ·exact absurd ⟨w.1,a,b,e,w.2⟩ z) O
 have T04:=O.seq T0;have T34:=O.seq T3;erw[aW T04 (v:= .str nm) @P ?_];by_cases c3:nm=xR
 ·rwa[eO c3 ?_];rwa[dL T34 ?_];rw [length_map];ext;by_cases Z:(zs.length:Int)=2
  ·obtain ⟨a,b,W⟩:=MX Z;subst W;rwa[eO Z ?_];rwa[aW T34 (v:= .int a) @P ?_];rwa[ao @gQ rfl ?_];rwa[bQ (O.seqT h2) ?_];rw [xl];ext;by_cases U:a<(hs.ls.length:Int)
   ·rwa[eO U ?_];rwa[aW T34 (v:= .int b) @dj ?_];erw[ao @gQ rfl ?_];by_cases d3:b<hs.fl
    ·rwa[eO d3 ?_];rwa[aW T34 (v:= .int a) @P ?_];rwa[aW T34 (v:= .int b) @dj ?_];rwa[ce (aR (by show 3<=1000000;decide)) λt H5 s5 n5 e5=> ?_];exact ar (decide_eq_true ⟨c3,U,d3⟩) t H5 @hg (by rw [e5,c3];rfl)
    ·rwa[dQ d3 ?_]
     try refine aP rfl ?_
     try refine aP rfl ?_
     exact G λ⟨_,_,_,e,_,w⟩=>d3 (by cases e;exact w)
   ·rwa[dQ U ?_]
    try refine aP rfl ?_
    try refine aP rfl ?_
    exact G λ⟨_,_,_,e,w,_⟩=>U (by cases e;exact w)
  ·rwa[dQ Z ?_]
   try refine aP rfl ?_
   try refine aP rfl ?_
   exact G λ⟨_,_,_,e,_⟩=>Z (by rw [e];rfl)
 ·rwa[dQ c3 ?_]
  try refine aP rfl ?_
  try refine aP rfl ?_
  exact G λy=>c3 y.1
theorem Ll {c:Cb}{g:Int}(l0: -1<=c.li)(l1:c.li<=1):ig c g=(decide (2*g≠c.pl)&&(decide (c.li=0)||(decide (2*g>c.pl) != decide (c.li=1)))):=by
 unfold ig;generalize c.li=l at l0 l1 ⊢;generalize F:2*g - c.pl=x;have j:decide (2*g≠c.pl)=decide (x≠0):=decide_eq_decide.mpr @c;have O:decide (2*g>c.pl)=decide (x>0):=decide_eq_decide.mpr @c;rw [j,O]
 have S:l= -1\/l=0\/l=1:=by lia
 rcases S with rfl|rfl|rfl
 ·by_cases z:x=0
  ·rw [decide_eq_false @fU,decide_eq_false (λy:x≠0=>y z)];rfl
  ·by_cases y:x>0
   ·rw [decide_eq_true (⟨z,by lia⟩:x≠0/\x* -1<=0),decide_eq_true (show x≠0 from z),decide_eq_true y];rfl
   ·rw [decide_eq_false (λu:x≠0/\x* -1<=0=>by lia),decide_eq_true (show x≠0 from z),decide_eq_false y];rfl
 ·by_cases z:x=0
  ·rw [decide_eq_false @fU,decide_eq_false (λy:x≠0=>y z)];rfl
  ·rw [decide_eq_true (⟨z,by lia⟩:x≠0/\x*0<=0),decide_eq_true (show x≠0 from z)];rfl
 ·by_cases z:x=0
  ·rw [decide_eq_false @fU,decide_eq_false (λy:x≠0=>y z)];rfl
  ·by_cases y:x>0
   ·rw [decide_eq_false (λu:x≠0/\x*1<=0=>by lia),decide_eq_true (show x≠0 from z),decide_eq_true y];rfl
   ·rw [decide_eq_true (⟨z,by lia⟩:x≠0/\x*1<=0),decide_eq_true (show x≠0 from z),decide_eq_false y];rfl
theorem uR {H:Hp}(j:List Int):az K H (j.map V.int) (j.map D.int):=by
 induction j with
 |nil=>exact .nil
 |cons i j ih=>exact .cons (.int i) ih
theorem Jt {ws:List bj}{j:Int}:decide (j∈ws.map (·.lift))= !rM (.lst (((ws.filter λr=>decide (r.lift=j)).map (·.tag)).map D.int)) (.lst []):=by
 cases h:ws.filter λr=>decide (r.lift=j) with
 |nil=>
  rwa[decide_eq_false λz=> ?_];obtain ⟨r,W,e⟩:=mem_map.mp z;have:r∈ws.filter λr=>decide (r.lift=j):=mem_filter.mpr ⟨W,decide_eq_true e⟩;rw [h] at this;cases this
 |cons r rs=>
  rwa[decide_eq_true ?_]
  have:r∈ws.filter λr=>decide (r.lift=j):=by rw [h];exact .head _
  have:=mem_filter.mp this;exact mem_map.mpr ⟨r,this.1,of_decide_eq_true this.2⟩
inductive Fk (K:Fg)(vs:List V)(H:Hp)(Q:VK)(_e:XK):Prop
 |mk (t st h hs n cs ws last nm zs:_) (_:vs=[.ref t,.ref st,.ref h]) (_:gu K H h hs) (_:zz K H st hs n cs ws last) (_:n<=64) (_:aE K H t (V.str nm::List.map V.int zs)) (_:bF hs.fl hs.ls.length nm zs=true) (_:(∀z∈zs,0<=z)) (_:∀H',ak H H'->Q (.bl (dg hs cs ws nm zs)) H')
theorem Of (F:bo K "_law_is" "_law_is" NB f fd)(bE:mg "len"=none):av P w K mg base bb 1 f fd ["_law_part_here","_law_state","_law_house_here"] (Fk K):=by
 rwa[F.ok LR (by intro _ _ _ _ h;cases h;subst_vars;rfl) (λay A outer s H vs Q E hr h=> ?_)];obtain ⟨tp,st,h,hs,n,cs,R,as,nm,zs,rfl,hH,hS,bA,W,hf,hz,q⟩:=h;have al:=hS.c64;have wl:R.length<=64:=Nat.le_trans hS.o.w bA;obtain ⟨tc,tw,xs,ys,h1,h2,h3,h4,h5⟩:=hS.a;have yl:ys.length=R.length:=aB h5;have xl:xs.length=cs.length:=h4.len;unfold dg at q;have P0:lY (V.str nm::zs.map V.int) 0=some (.str nm):=aK (j:=0) rfl;rwa[⟨_,(aa @M (aa (m8 @a @a) (aa @M (aa @M (aa (au @a (aa (eV (i:=8) rfl LR.nd rfl @o (ax (N':=["_law_rider","_law_part_here"]) (pk:=[none,some 0]) @m) @a @k @be @k) @g) ap) (aa (cE PassesOwn.never rfl @a @a (ac (au (PW.pt (ve (cq @gR (dO ED b9 @gN) (wv 3) (bV _)) (wb (PW.pt (By @a (v9 (cq @gR (c5 MH (dO ED b9 @gN) (wv 3) (bV _)) @a (bV _)))))))) @bu ap))) @bu)))))),?_⟩];rwa[ao W P0 ?_];rwa[fe (λc1=> ?_) (λc1=> ?_)]
 ·rw [if_pos c1] at q
  obtain ⟨z,rfl⟩:∃z,zs=[z]:=by
   rcases gJ hf with ⟨z,e,_⟩|⟨a,b,_,e,_⟩
   ·exact ⟨z,e⟩
   ·rw [c1] at e;exact absurd e @h
  rwa[ao h1 rfl ?_];rwa[bQ h3 ?_];rw [yl];rwa[ao W (v:= .int z) @dj ?_];exact q H (.refl _)
 rw [if_neg c1] at q
 obtain ⟨i,r,rfl,i1⟩:∃i r,zs=i::r/\i<(hs.ls.length:Int):=by
  rcases gJ hf with ⟨z,e,y|y⟩|⟨a,b,e,_,y,_⟩
  ·exact absurd y c1
  ·exact ⟨z,[],e,y.2⟩
  ·exact ⟨a,[b],e,y⟩
 have i0:0<=i:=hz i (.head _);have q:∀H',ak H H'->Q (.bl (match cs[i.toNat]?,hs.ls[i.toNat]? with|some c,some l=>ky l.rm c R nm i ((i::r).getD 1 0)|_,_=>false)) H':=q;obtain ⟨j,rfl⟩:=Int.eq_ofNat_of_zero_le i0
 have ej:((j:Int)).toNat=j:=by lia
 have cl:=hS.o.len;obtain ⟨c,hc⟩:∃c,cs[j]? =some c:=⟨cs[j]'(by lia),getElem?_eq_getElem _⟩;obtain ⟨lf,ah⟩:∃lf,hs.ls[j]? =some lf:=⟨hs.ls[j]'(by lia),getElem?_eq_getElem _⟩;rw [ej,hc,ah] at q;have q:∀H',ak H H'->Q (.bl (ky lf.rm c R nm j (((j:Int)::r).getD 1 0))) H':=q;obtain ⟨x,hx⟩:∃x,xs[j]? =some x:=⟨xs[j]'(by lia),getElem?_eq_getElem _⟩;obtain ⟨c',ad,am⟩:=h4.get1 hx;rw [hc] at ad;cases ad;have ok:=hS.o.ck c (mem_of_getElem? hc);have hk:=hS.h;have p0:=ok.p0;have p1:=ok.p1;have f8:=hk.f8;obtain ⟨t,rfl,b,bs,et,eb,db⟩:=id am;have bl:bs.length=c.ps.length:=aB db;have aq:=al c (mem_of_getElem? hc);unfold ky at q;have P1:lY (V.str nm::((j:Int)::r).map V.int) 1=some (.int j):=aK (j:=1) rfl;rwa[ao h1 rfl ?_];rwa[ao W P1 ?_];rwa[ao h2 (v:= .ref t) (aK hx) ?_];have eT:=aE.of (K:=K) et;left;rwa[ao W P0 ?_];rwa[fe @eB @eB]
 ·rw [if_pos c2] at q;rwa[bQ @cX ?_];rw [bl];ext;obtain ⟨p,ls,lb,z1,O,J,z4,z5⟩:=hH.at (i:=(j:Int)) @c (by rw [ej];exact ah);rwa[ao z1 rfl ?_];rwa[ao W P1 ?_];rwa[ao O (v:= .ref lb) z4 ?_];rwa[ao z5 rfl ?_];exact q H (.refl _)
 rw [if_neg c2] at q;rwa[ao W P0 ?_];rwa[fe (λc3=> ?_) (λc3=> ?_)]
 ·rw [if_pos c3] at q
  obtain ⟨y,rfl⟩:∃y,r=[y]:=by
   rcases gJ hf with ⟨z,_,e|e⟩|⟨a,b,e,_⟩
   ·exact absurd e c1
   ·rcases e.1 with z|z|z<;>(rw [z] at c3;exact absurd c3 @h)
   ·exact ⟨b,(List.cons.inj e).2⟩
  ext;have q:∀H',ak H H'->Q (.bl (decide (c.dr>0/\c.pl=2*y))) H':=q;by_cases z:c.dr>0
  ·rwa[eO z ?_];rwa[ao W (v:= .int y) (aK (j:=2) rfl) ?_];rwa[⟨cy @b @b,?_⟩];rw [show decide (c.dr>0/\c.pl=2*y)=decide (c.pl=2*y) from decide_eq_decide.mpr ⟨λu=>u.2,λu=>⟨z,u⟩⟩] at q;exact q H (.refl _)
  ·rwa[dQ z ?_];rw [show decide (c.dr>0/\c.pl=2*y)=false from decide_eq_false λu=>z u.1] at q;exact q H (.refl _)
 rw [if_neg c3] at q;rwa[ao W P0 ?_];rwa[fe @eC @eC]
 ·rw [if_pos c4] at q;rwa[ao h1 rfl ?_];rwa[d5 h3 ?_];rwa[cK (xs:=ys) (λk us I=>ak H I/\us=(((R.take k).filter λr=>decide (r.lift=(j:Int))).map (·.tag)).map V.int) @bs (λk us I h=>by rw [h.2,length_map,length_map];have:=length_filter_le (λr:bj=>decide (r.lift=(j:Int))) (R.take k);rw [length_take] at this;lia) ⟨.refl _,rfl⟩ (λk us I _ h=>h.1.seqT h3) (λk y us I hy ae=> ?_) (λus I ae l3 n3=> ?_)]
  ·obtain ⟨sx,rfl⟩:=ae;obtain ⟨rd,an,dr⟩:=bu (f:=bj.d) h5 hy;obtain ⟨ra,rfl,hT⟩:=eW (bL.same dr sx);rwa[⟨bZ,?_⟩];rwa[ao hT rfl ?_];rwa[ao (sx.seqT W) P1 ?_];show if decide (rd.lift=(j:Int))=true then _ else _;rw [take_add_one,an];by_cases z:rd.lift=(j:Int)
   ·rw [if_pos @cD];rwa[ao hT rfl ?_];rwa[⟨sx,?_⟩];rw [filter_append,map_append,map_append];simp [z]
   ·rw [if_neg (by rw [decide_eq_false z];decide)];rwa[⟨sx,?_⟩];rw [filter_append];simp [z]
  obtain ⟨sx,rfl⟩:=ae;rw [yl,take_of_length_le @f];generalize Y:upd I l3 _=H4
  have s4:ak I H4:=by rw [<-Y];exact .upd n3
  have e4:H4 l3=some (.lst (((R.filter λr=>decide (r.lift=(j:Int))).map (·.tag)).map V.int)):=by rw [<-Y];exact af
  clear Y;have aj:=sx.trans s4;unfold uK at q
  have G: ¬(c.pl% 2=0/\c.dr=0/\c.li=0)->Q (.bl false) H4:=λz=>by
   have:=q H4 aj;rw [decide_eq_false z] at this;exact this
  by_cases y1:c.pl% 2=0
  ·by_cases y2:c.li=0
   ·by_cases y3:c.dr=0
    ·left;refine ⟨by decide,?_⟩;left;rwa[fq @bz λl5 H5 s5 n5 e5=> ?_];rwa[RH (ds:=(((R.filter λr=>decide (r.lift=(j:Int))).map (·.tag)).map D.int)) (es:=[]) (yV (aD.of (s5 _ _ e4)) (uR _)) (yV @gb .nil) (λ_ _ _ h=>by cases h) ?_];have g5:=q H5 (aj.trans s5);rw [decide_eq_true (⟨y1,y3,y2⟩:c.pl% 2=0/\c.dr=0/\c.li=0),Bool.true_and] at g5;rw [Jt] at g5;exact g5
    ·left;refine ⟨by decide,?_⟩;left;exact G λz=>y3 z.2.1
   ·left;refine ⟨by decide,?_⟩;left;exact G λz=>y2 z.2.2
  ·left;refine ⟨by decide,?_⟩;left;exact G λz=>y1 z.1
 rw [if_neg c4] at q;rwa[d5 @cX ?_];rwa[yM (xs:=bs) (λi σ I=>I=H/\(∀p∈c.ps.take i,ig c p.2=false)/\∃(o8 o9 U:Option V),σ=[some (.ref tp),some (.ref st),some (.ref h),some (.int c.pl),some (.int c.li),some (.int c.dr),some (.int c.mr),some (.ref b),o8,o9,U]) ⟨rfl,(λp hp=>nomatch hp),_,_,_,rfl⟩ (λi σ I _ pv=>by rw [pv.1];exact aE.of eb) (λi y σ I hy pv=> ?_) @dq]
 ·obtain ⟨rfl,pa,o8,o9,U,rfl⟩:=pv;obtain ⟨p,pt,hp,rfl,az⟩:=qR db hy;have gs:=ok.gs p (mem_of_getElem? hp);have S:=Ll (g:=p.2) ok.l0 ok.l1
  have ar:ig c p.2=true->Q (.bl true) I:=λz=>by
   have:=q I (.refl _);rw [any_eq_true.mpr ⟨p,mem_of_getElem? hp,z⟩] at this;exact this
  have Z:ig c p.2=false->∀p'∈c.ps.take (i+1),ig c p'.2=false:=λz p' ai=>by
   rw [take_add_one,hp] at ai
   rcases mem_append.mp ai with z'|z'
   ·exact pa p' z'
   ·rw [mem_singleton.mp z'];exact z
  left;by_cases z0:2*p.2=c.pl
  ·rwa[aP (by rw [decide_eq_true z0];rfl) ?_];rwa[aP rfl ?_];exact ⟨rfl,Z (by rw [S,decide_eq_false (λu:2*p.2≠c.pl=>u z0)];rfl),_,_,_,rfl⟩
  rwa[bz (by rw [decide_eq_false z0];rfl) ?_];rw [decide_eq_true (show 2*p.2≠c.pl from z0),Bool.true_and] at S;ext;by_cases z1:c.li=0
  ·rwa[eO z1 ?_];rwa[bz rfl ?_];exact ar (by rw [S,decide_eq_true z1];rfl)
  rwa[dQ z1 ?_];rw [decide_eq_false z1,Bool.false_or] at S;erw[⟨cy @b @b,?_⟩];by_cases O:2*p.2>c.pl
  ·by_cases J:c.li=1
   ·rwa[aP (by rw [decide_eq_true (show c.pl<2*p.2 from O),decide_eq_true J];rfl) ?_];exact ⟨rfl,Z (by rw [S,decide_eq_true O,decide_eq_true J];rfl),_,_,_,rfl⟩
   ·rwa[bz (by rw [decide_eq_true (show c.pl<2*p.2 from O),decide_eq_false J];rfl) ?_];exact ar (by rw [S,decide_eq_true O,decide_eq_false J];rfl)
  ·by_cases J:c.li=1
   ·rwa[bz (by rw [decide_eq_false (show ¬c.pl<2*p.2 from O),decide_eq_true J];rfl) ?_];exact ar (by rw [S,decide_eq_false O,decide_eq_true J];rfl)
   ·rwa[aP (by rw [decide_eq_false (show ¬c.pl<2*p.2 from O),decide_eq_false J];rfl) ?_];exact ⟨rfl,Z (by rw [S,decide_eq_false O,decide_eq_false J];rfl),_,_,_,rfl⟩
 obtain ⟨rfl,pa,o8,o9,U,rfl⟩:=pv;ext;have:=q I (.refl _);rw [any_eq_false.mpr (λp hp=>by rw [pa p (by rw [bl,take_of_length_le @f];exact hp)];decide)] at this;exact this
theorem KQ {y p:Str}{ps:List Str}:p.length<=(Str.join y (p::ps)).length:=by
 cases ps with
 |nil=>exact Nat.le_refl _
 |cons q r=>
  show p.length<=(p++y++Str.join y (q::r)).length;rw [strLen_append,strLen_append];lia
theorem pS {n:Nat}(s:Str)(h:(decide (s.length<=n)&&decide (∀c∈s.cps.toList,c<128))=true):TL n s:=by
 rw [Bool.and_eq_true] at h;exact ⟨of_decide_eq_true h.1,show ∀c∈s.cps.toList,c<128 from of_decide_eq_true h.2⟩
theorem yy {i:Int}(I:0<=i)(h1:i<10^10):i.natAbs.log2<1920:=by
 obtain ⟨m,rfl⟩:=Int.eq_ofNat_of_zero_le I;by_cases z:m=0
 ·subst z;decide
 ·have:(m:Int).natAbs=m:=rfl;rw [this,Nat.log2_lt z]
  exact Nat.lt_of_lt_of_le (show m<2^40 by have:(10:Int)^10=10000000000:=by decide
                                           lia) (Nat.pow_le_pow_right @b @b)
theorem BM {n:Nat}:∀ {ts:List Str},(∀t∈ts,t.length<=n)->(ts.map (·.length)).sum<=ts.length*n
 |[],_=>by simp
 |t::ts,h=>by
  have:=BM λx F=>h x (.tail _ F);have:=h t (.head _);rw [map_cons,sum_cons,length_cons,Nat.add_mul];lia
theorem L5 {a b c d e:Str}{i:Int}{Pr:Str->Prop}(I:0<=i)(h1:i<5)(j:Pr a)(z:Pr b)(J:Pr c)(G:Pr d)(U:Pr e):∃x,lY [V.str a,.str b,.str c,.str d,.str e] i=some (.str x)/\Pr x:=by
 have:i=0\/i=1\/i=2\/i=3\/i=4:=by lia
 rcases this with rfl|rfl|rfl|rfl|rfl
 ·exact ⟨a,rfl,j⟩
 ·exact ⟨b,rfl,z⟩
 ·exact ⟨c,rfl,J⟩
 ·exact ⟨d,rfl,G⟩
 ·exact ⟨e,rfl,U⟩
theorem RD {a b c d e j g h k:Str}{i:Int}{Pr:Str->Prop}(S:0<=i)(h1:i<9)(z:Pr a)(O:Pr b)(J:Pr c)(G:Pr d)(U:Pr e)(I:Pr j)(Y:Pr g)(F:Pr h)(R:Pr k):∃x,lY [V.str a,.str b,.str c,.str d,.str e,.str j,.str g,.str h,.str k] i=some (.str x)/\Pr x:=by
 have:i=0\/i=1\/i=2\/i=3\/i=4\/i=5\/i=6\/i=7\/i=8:=by lia
 rcases this with rfl|rfl|rfl|rfl|rfl|rfl|rfl|rfl|rfl
 ·exact ⟨a,rfl,z⟩
 ·exact ⟨b,rfl,O⟩
 ·exact ⟨c,rfl,J⟩
 ·exact ⟨d,rfl,G⟩
 ·exact ⟨e,rfl,U⟩
 ·exact ⟨j,rfl,I⟩
 ·exact ⟨g,rfl,Y⟩
 ·exact ⟨h,rfl,F⟩
 ·exact ⟨k,rfl,R⟩
def TP (x:Str):Prop:=TL 60 x/\1<=x.length
theorem TP.mk {n:Nat}{p y:Str}(G:TL 10 p)(j:1<=p.length)(S:TL n y)(F:n<=50):TP (p++y):=⟨⟨by have:=(G.app S).1;lia,(G.app S).2⟩,by rw [strLen_append];lia⟩
inductive Fh (K:Fg)(vs:List V)(H:Hp)(Q:VK)(_e:XK):Prop
 |mk (a ns k h hs:_) (_:vs=[.ref a,.int k,.ref h]) (_:CH K H a ns) (_:0<=k) (_:k<=600) (_:gu K H h hs) (_:∀x H',ak H H'->TL 200 x->1<=x.length->Q (.str x) H')
theorem Oh (F:bo K "_law_text" "_law_text" Av f fd)(bE:mg "len"=none)(aZ:mg "range"=none)(wn:mg "str"=none)(bC:bf P w K mg base 1 "_law_draw" ["_law_script","_law_k","_law_many"] (gt K)):av P w K mg base bb 2 f fd ["_law_script","_law_at","_law_house_here"] (Fh K):=by
 rwa[F.ok pH (by intro _ _ _ _ h;cases h;subst_vars;rfl) @bq];obtain ⟨a,ns,k,h,hs,rfl,hS,k0,k6,hH,q⟩:=h;have O:=hH.1;have f2:=O.f2;have f8:=O.f8;have l1:=O.l1;have l3:=O.l3
 have aj:(10:Int)^10=10000000000:=by decide
 rwa[⟨_,(aa @a (aa (cE PassesOwn.never rfl @er @a (aa @a (aa (bq (i:=6) pH.nd rfl @o @ch) (aa @a (eD @ew (aa (bq (i:=8) pH.nd rfl @o @ch) (aa (bq (i:=9) pH.nd rfl @o (eL (aq (dO @eM bH (aV pQ rfl wn boot_str @fB)) (aq @a (aq @a (aq @a @I)))))) @N))))))) @g)),?_⟩];rwa[fq @bz λl H1 s1 n1 e1=> ?_];rwa[gt.mk _ _ _ _ rfl (aY hS s1) k0 @c @b λm m0 m1=> ?_];rwa[⟨⟨by lia,by lia⟩,?_⟩];rwa[dh (λj σ R=>ak H R/\∃(I:List Str) (o4 o5 o6 o7 Y S:Option V),σ=[some (.ref a),some (.int k),some (.ref h),some (.ref l),o4,o5,o6,o7,Y,S]/\R l=some (.lst (I.map V.str))/\I.length=j/\∀t∈I,TP t) ⟨s1,[],_,_,_,_,_,_,rfl,e1,rfl,(λt J=>nomatch J)⟩ (λj σ R hj pv=> ?_) (λσ R pv=> ?_)]
 ·obtain ⟨sX,I,o4,o5,o6,o7,Y,S,rfl,eX,tl,J⟩:=pv
  have aH:(j:Int)<3:=by lia
  have G:=aY hS sX;obtain ⟨_,p,xs,h1,h2,h3⟩:=hH.same sX;have xl:=h3.len;rwa[⟨cy @b @b,?_⟩];rwa[gt.mk _ _ _ _ rfl G @c @c @b λwy w0 w1=> ?_];rwa[⟨cy @b @b,?_⟩];rwa[ao h1 rfl ?_];rwa[bQ h2 ?_];rw [xl];rwa[gt.mk _ _ _ _ rfl G @c @c @c λlf Z al=> ?_];rwa[⟨yy Z @c,?_⟩];rwa[⟨cy @b @b,?_⟩];rwa[gt.mk _ _ _ _ rfl G @c @c @b λcr ae ah=> ?_];rwa[ue (λσ HY=>HY=R/\∃(c:Int) (Y S:Option V),0<=c/\c<10^10/\σ=[some (.ref a),some (.int k),some (.ref h),some (.ref l),some (.int (0+(j:Int))),some (.int wy),some (.str (Se lf)),some (.int c),Y,S]) ?_ ?_]
  ·ext;rwa[⟨cy @b @b,?_⟩];rwa[gt.mk _ _ _ _ rfl G @c @c @b λz z0 z1=> ?_];rwa[fe @bI @bI]
   ·ext;rwa[⟨cy @b @b,?_⟩];rwa[⟨Co @b @b @b,?_⟩];rwa[gt.mk _ _ _ _ rfl G @c @c @h λi i0 i1=> ?_];have i1:i<1000000000:=i1;exact ⟨rfl,i,_,_,i0,by lia,rfl⟩
   ·exact ⟨rfl,cr,_,_,ae,by lia,rfl⟩
  rintro σ' HY ⟨rfl,c,Y,S,c0,c1,rfl⟩;rwa[⟨cy @b @b,?_⟩];rwa[ao h1 rfl ?_];rwa[gt.mk _ _ _ _ rfl G @c @c @c λfo W ai=> ?_];rwa[⟨yy W @c,?_⟩];have U:=lE Z @c;have tC:=lE c0 c1;have tF:=lE W @c;have a0:=TP.mk (p:=Str.ofString "crowd ") @gC @h tC @b;have a1:=TP.mk (p:=Str.ofString "full ") @gC @h U @b;have a3:=TP.mk (p:=Str.ofString "idle ") @gC @h U @b;have a4:=TP.mk (p:=Str.ofString "away ") @gC @h U @b;have b2:TL 10 (Str.ofString "open "):=pS _ @h;have b3:TL 1 (Str.ofString " "):=pS _ @h
  have a2:TP (Str.ofString "open "++Se lf++Str.ofString " "++Se fo):=by
   have:=(((b2.app U).app b3).app tF);rwa[⟨⟨Nat.le_trans this.1 @b,this.2⟩,?_⟩];rw [strLen_append,strLen_append,strLen_append]
   have:(Str.ofString "open ").length=5:=by decide+kernel
   lia
  rwa[⟨yy c0 c1,?_⟩];rwa[⟨aR (by have:=a0.1.1;rw [strLen_append] at this;exact Nat.le_trans this @b),?_⟩];rwa[⟨aR (by have:=a1.1.1;rw [strLen_append] at this;exact Nat.le_trans this @b),?_⟩];rwa[⟨aR (by have:=(b2.app U).1;rw [strLen_append] at this;exact Nat.le_trans this @b),?_⟩];rwa[⟨aR (by have:=((b2.app U).app b3).1;rw [strLen_append] at this;exact Nat.le_trans this @b),?_⟩];rwa[⟨aR (by have:=a2.1.1;rw [strLen_append] at this;exact Nat.le_trans this @b),?_⟩];rwa[⟨aR (by have:=a3.1.1;rw [strLen_append] at this;exact Nat.le_trans this @b),?_⟩];rwa[⟨aR (by have:=a4.1.1;rw [strLen_append] at this;exact Nat.le_trans this @b),?_⟩];rwa[fq @bz λl2 H2 s2 n2 e2=> ?_];have ad:=s2 _ _ eX;rwa[⟨.inl ⟨rfl,_,aD.of ad⟩,?_⟩];obtain ⟨x,hx,tx⟩:=L5 (Pr:=TP) w0 w1 a0 a1 a2 a3 a4;rwa[aW @cY (v:= .str x) hx ?_];rwa[fK ad (BK (by rw [length_map];lia)) ?_];rwa[⟨ak.updF (sX.trans s2) n1,I++[x],_,_,_,_,_,_,rfl,by rw [af,map_append];rfl,by rw [length_append,tl];rfl,λt h=> ?_⟩]
  rcases mem_append.mp h with z|z
  ·exact J t z
  ·rw [mem_singleton.mp z];exact tx
 obtain ⟨sX,I,o4,o5,o6,o7,Y,S,rfl,eX,tl,J⟩:=pv
 have t3:I.length<=3:=by lia
 have t1:1<=I.length:=by lia
 have sm:=BM (n:=60) λt h=>(J t h).1.1
 have z5:(Str.ofString " and ").length=5:=by decide+kernel
 rwa[⟨rfl,?_⟩];rwa[wE (aD.of eX) (aR ?_) (aR ?_) ?_]
 ·rw [PySem.StrLaws.joinTotal,z5];lia
 ·rw [PySem.StrLaws.glued_eq_join];have:=PySem.StrLaws.join_length_le " and " I;rw [z5] at this;lia
 rw [PySem.StrLaws.glued_eq_join];rwa[q _ R sX ⟨?_,ss (show ∀c∈(Str.ofString " and ").cps.toList,c<128 by decide+kernel) λt h=>(J t h).1.2⟩ ?_]
 ·have:=PySem.StrLaws.join_length_le " and " I;rw [z5] at this;lia
 ·match I,J,t1 with
  |x::r,J,_=>exact Nat.le_trans (J x (.head _)).2 KQ
theorem QI {i:Int}(I:0<=i)(h1:i<8):∃c,lY (Str.ofString " 0a-+_9\n").cps.toList i=some c/\c<128:=by
 obtain ⟨j,rfl⟩:=Int.eq_ofNat_of_zero_le I
 have R:(Str.ofString " 0a-+_9\n").cps.toList.length=8:=by decide+kernel
 have z:∀c∈(Str.ofString " 0a-+_9\n").cps.toList,c<128:=by decide+kernel
 have Z:j<(Str.ofString " 0a-+_9\n").cps.toList.length:=by lia
 exact ⟨_,aK (getElem?_eq_getElem Z),z _ (getElem_mem Z)⟩
theorem TL.tx {n:Nat}{s:Str}(h:TL n s)(F:n<=5000):TX s:=⟨Nat.le_trans h.1 F,h.2⟩
theorem TL.szX {n:Nat}{s:Str}(h:TL n s)(F:n<=5000):s.length<=sizeLine:=aR (by have:=h.1;lia)
theorem TL.sz2 {n m:Nat}{a b:Str}(h:TL n a)(h':TL m b)(F:n+m<=5000):a.length+b.length<=sizeLine:=aR (by have:=h.1;have:=h'.1;lia)
inductive Fi (K:Fg)(vs:List V)(H:Hp)(Q:VK)(_e:XK):Prop
 |mk (a ns k x h hs:_) (_:vs=[.ref a,.int k,.str x,.ref h]) (_:CH K H a ns) (_:0<=k) (_:k<=700) (_:TL 200 x) (_:1<=x.length) (_:gu K H h hs) (_:∀y H',ak H H'->TX y->Q (.str y) H')
theorem Oi (F:bo K "_law_spoilt" "_law_spoilt" qA f fd)(bE:mg "len"=none)(wn:mg "str"=none)(bC:bf P w K mg base 1 "_law_draw" ["_law_script","_law_k","_law_many"] (gt K)):av P w K mg base bb 2 f fd ["_law_script","_law_at","_law_text_here","_law_house_here"] (Fi K):=by
 rwa[F.ok uy (by intro _ _ _ _ h;cases h;subst_vars;rfl) @bq];obtain ⟨a,ns,k,x,h,hs,rfl,hS,k0,k7,G,x1,hH,q⟩:=h;have O:=hH.1;have f2:=O.f2;have f8:=O.f8;have l1:=O.l1;have l3:=O.l3;have J:=G.szX @b
 have al:(10:Int)^10=10000000000:=by decide
 rwa[⟨_,(aa @a (aa @a (aa @a (aa @a (aa (m8 (BZ (IZ rfl) (eL (aq @ch (aq @ch (aq @a (aq bH (aq bH am)))))) @a @fR) (qQ (wv 7) (yj xF b9) xE)) (aa @a (aa (bq (i:=8) uy.nd rfl @o (dO @eM (wv 8) (eL (aq @a (aq @a (aq @a (aq (zM rfl PySem.F.plainAttrs_str PySem.F.slot_str_upper PySem.F.type_str_upper IY (wv 2)) (aq bH am)))))))) (aa @eY @g)))))))),?_⟩];rwa[gt.mk _ _ _ _ rfl hS k0 @c @b λwy w0 w1=> ?_];rwa[⟨J,?_⟩];rwa[gt.mk _ _ _ _ rfl hS @c @c (by show (0:Int)<(x.length:Int);lia) λsp ae ap=> ?_];erw[gt.mk _ _ _ _ rfl hS @c @c @b λg g0 g1=> ?_];obtain ⟨c,ec,hc⟩:=QI g0 g1;have R:TL 1 ⟨#[c]⟩:=⟨Nat.le_refl _,λy hy=>by rw [mem_singleton.mp (show y∈[c] from hy)];exact hc⟩;rwa[jf @gk ec ?_];rwa[⟨rfl,?_⟩];rwa[⟨⟨rfl,aR (by have:=G.1;lia)⟩,λlw n1=> ?_⟩];generalize W:upd H lw _=H1
 have s1:ak H H1:=by rw [<-W];exact .upd n1
 have e1:H1 lw=some (.lst ((xC x).map V.str)):=by rw [<-W];exact af
 clear W;have ah:1<=(xC x).length:=qc;have wa:∀t∈xC x,CI t:=λt ht=>((G.tx @b).part ht).2;have ww:wt (xC x)<=402:=Nat.le_trans (Ev _ _ @h) (by have:=G.1;lia);generalize xC x=I at e1 ah wa ww;obtain ⟨_,p,xs,h1,h2,h3⟩:=hH.same s1;have xl:=h3.len;rwa[ao h1 rfl ?_];rwa[bQ h2 ?_];rw [xl];rwa[⟨yy @c @c,?_⟩];rwa[ao h1 rfl ?_];rwa[⟨yy @c @c,?_⟩];rwa[⟨⟨by decide,by decide,by decide+kernel,by decide+kernel⟩,?_⟩];rwa[fq @bz λl2 H2 s2 n2 e2=> ?_];have ad:=s1.trans s2;rwa[gt.mk _ _ _ _ rfl (aY hS ad) @c @c @b λd d0 d1=> ?_];obtain ⟨U,ai,tw⟩:=L5 (Pr:=TL 20) (i:=d) d0 d1 (lE (i:=(hs.ls.length:Int)) @c @c) (lE (i:=hs.fl) @c @c) (pS (n:=20) ⟨(List.replicate (5:Int).toNat (Str.ofString "10").cps).foldl (· ++ ·) #[]⟩ @h) (pS "-1" @h) (pS "01" @h);erw[aW @cY (v:= .str U) ai ?_];have aj:=s2 _ _ e1;rwa[xX (j:=I.length - 1) aj (by unfold Cd;rw [length_map];simp;lia) ?_];generalize S:upd H2 lw _=H3
 have s3:ak H H3:=by rw [<-S];exact ak.updF ad n1
 have e3:H3 lw=some (.lst ((I.set (I.length - 1) U).map V.str)):=by rw [<-S,af,map_set]
 clear S;have Y:=G.to (n:=sp) ae;have Z:=G.to (n:=sp+1) @c;have a2:=G.from (n:=sp) ae;have a3:=G.from (n:=sp+1) @c;have b1:=TL.app Y R;have tA:TL 5 (Str.ofString " and "):=pS _ @h;rwa[⟨J,?_⟩];rwa[⟨J,?_⟩];rwa[⟨TL.sz2 Y a3 @b,?_⟩];rwa[⟨J,?_⟩];rwa[⟨TL.sz2 Y R @b,?_⟩];rwa[⟨J,?_⟩];rwa[⟨TL.sz2 b1 a2 @b,?_⟩];rwa[⟨J,?_⟩];rwa[⟨TL.sz2 Y R @b,?_⟩];rwa[⟨J,?_⟩];rwa[⟨TL.sz2 b1 a3 @b,?_⟩];rwa[fq @bz λl5 H5 s5 n5 e5=> ?_];rwa[⟨J,?_⟩];rwa[⟨J,?_⟩];rwa[⟨TL.sz2 Z a2 @b,?_⟩];have jw:=Ew I (I.length - 1) U;have jt:=tw.1;have jz:=PH (z:=Str.ofString " ") @h (ts:=I.set (I.length - 1) U) @c;rwa[⟨rfl,?_⟩];rwa[wE (aD.of (s5 _ _ e3)) jz.1 jz.2 ?_];rw [PySem.StrLaws.glued_eq_join];rwa[⟨TL.sz2 G tA @b,?_⟩];rwa[⟨rfl,?_⟩];rwa[⟨by have:=G.1;lia,?_⟩];rwa[fq @bz λl6 H6 s6 n6 e6=> ?_];rwa[y7 (s6 _ _ e5) e6 @bz λl7 H7 s7 n7 e7=> ?_];rwa[⟨.inl ⟨rfl,_,aD.of e7⟩,?_⟩];rwa[⟨TL.sz2 G tA @b,?_⟩];rwa[⟨TL.sz2 (G.app tA) G @b,?_⟩];rwa[fK e7 (BK @e) ?_];generalize bx:upd H7 l7 _=H8
 have s8:ak H H8:=by rw [<-bx];exact ak.updF (s3.trans (s5.trans (s6.trans s7))) (none_of (s3.trans (s5.trans s6)) n7)
 have e8:H8 l7=some (.lst [.str (Txt.slice x none @fM++Txt.slice x (some (sp+1)) none),.str (Txt.slice x none @fM++⟨#[c]⟩++Txt.slice x @fM none),.str (Txt.slice x none @fM++⟨#[c]⟩++Txt.slice x (some (sp+1)) none),.str (Txt.slice x none (some (sp+1))++Txt.slice x @fM none),.str (Str.join " " (I.set (I.length - 1) U)),.str (x++Str.ofString " and "),.str (Txt.upper x),.str "",.str (x++Str.ofString " and "++x)]):=by rw [<-bx,af];rfl
 clear bx
 have tj:TX (Str.join " " (I.set (I.length - 1) U)):=by
  rwa[⟨?_,ss (show ∀c∈(Str.ofString " ").cps.toList,c<128 by decide+kernel) λt ht=> ?_⟩]
  ·have:=Bz (z:=Str.ofString " ") @h (I.set (I.length - 1) U);lia
  ·rcases mem_or_eq_of_mem_set ht with z|z
   ·exact wa t z
   ·rw [z];exact tw.2
 have tu:TX (Txt.upper x):=by
  have:=MV G.2;exact ⟨by rw [this.1];have:=G.1;lia,this.2⟩
 obtain ⟨y,hy,ty⟩:=RD (Pr:=TX) w0 w1 ((TL.app Y a3).tx @b) ((TL.app b1 a2).tx @b) ((TL.app b1 a3).tx @b) ((TL.app Z a2).tx @b) tj ((G.app tA).tx @b) tu ((pS (n:=1) (Str.ofString "") @h).tx @b) (((G.app tA).app G).tx @b);rwa[aW (aD.of e8) (v:= .str y) hy ?_];exact q y H8 s8 ty
def iB (c:Addr)(a:Addr):Sp:=λvs H Q _=>vs=[.ref a]/\H a=some (ub a (.ref c) none)/\∀p H',ak H H'->H p=none->H' p=some (.lst [.int 5,.bl true])->Q (.ref p) H'
theorem JY {c a:Addr}{H:Hp}{Q:VK}{E:XK}(h:H a=some (ub a (.ref c) none))(g:∀p H',ak H H'->H p=none->H' p=some (.lst [.int 5,.bl true])->Q (.ref p) H'):iB c a [.ref a] H Q E:=⟨rfl,h,g⟩
theorem Dn {dP cR gI rq rg j rh yD lO rp yC lN:Addr}(F:bo K "_law_others" "_law_others" qB f fd)(z:IH K j)(G:mg "isinstance"=none)(aZ:mg "range"=none)(iQ:mg "ValueError"=none)
(dR:mg "NoHouse"=some (.ref dP))(fb:mg "NoRule"=some (.ref cR))(jj:mg "NoDeal"=some (.ref gI))(wN:mg "NoDeed"=some (.ref rq))(wK:mg "NoRide"=some (.ref rg))(nF:mg "NoIll"=some (.ref j))(wL:mg "NoLine"=some (.ref rh))(Bc:mg "Empty"=some (.ref yD))(rE:mg "NoFloor"=some (.ref lO))(wM:mg "NoLift"=some (.ref rp))(Ba:mg "Twice"=some (.ref yC))(rD:mg "TooMany"=some (.ref lN))
(ET:W.kitOne K (.ref j) (.ref dP)=some false)(Je:W.kitOne K (.ref j) (.ref cR)=some false)(Jj:W.kitOne K (.ref j) (.ref gI)=some false)(Ji:W.kitOne K (.ref j) (.ref rq)=some false)(Jf:W.kitOne K (.ref j) (.ref rg)=some false)(M5:W.kitOne K (.ref j) (.ref j)=some true)(Jg:W.kitOne K (.ref j) (.ref rh)=some false)(M6:W.kitOne K (.ref j) (.ref yD)=some false)(EU:W.kitOne K (.ref j) (.ref lO)=some false)(Jh:W.kitOne K (.ref j) (.ref rp)=some false)(M3:W.kitOne K (.ref j) (.ref yC)=some false)(ES:W.kitOne K (.ref j) (.ref lN)=some false)(R:W.kitOne K (.ref j) (.type "ValueError")=some true):
 zC P w K mg base 1 f fd ["_law_e"] (iB j):=by
 rwa[O2 F jg (λa vs H Q E h=> ?_) (λad a A outer s H vs Q E hr h=> ?_)]
 ·obtain ⟨rfl,_⟩:=h;rfl
 obtain ⟨rfl,I,q⟩:=h;rwa[⟨_,(aa (bq (i:=1) jg.nd rfl @dv (eL (aq (aM @cp rfl G boot_isinstance (aq (wv 0) (aq (bR rfl dR) am))) (aq (aM @cp rfl G boot_isinstance (aq (wv 0) (aq (bR rfl fb) am))) (aq (aM @cp rfl G boot_isinstance (aq (wv 0) (aq (bR rfl jj) am))) (aq (aM @cp rfl G boot_isinstance (aq (wv 0) (aq (bR rfl wN) am))) am)))))) (aa (bq (i:=1) jg.nd rfl @dv (dO @eM (wv 1) (eL (aq (aM @cp rfl G boot_isinstance (aq (wv 0) (aq (bR rfl wK) am))) (aq (aM @cp rfl G boot_isinstance (aq (wv 0) (aq (bR rfl nF) am))) (aq (aM @cp rfl G boot_isinstance (aq (wv 0) (aq (bR rfl wL) am))) (aq (aM @cp rfl G boot_isinstance (aq (wv 0) (aq (bR rfl Bc) am))) am))))))) (aa (bq (i:=1) jg.nd rfl @dv (dO @eM (wv 1) (eL (aq (aM @cp rfl G boot_isinstance (aq (wv 0) (aq (bR rfl rE) am))) (aq (aM @cp rfl G boot_isinstance (aq (wv 0) (aq (bR rfl wM) am))) (aq (aM @cp rfl G boot_isinstance (aq (wv 0) (aq (bR rfl Ba) am))) (aq (aM @cp rfl G boot_isinstance (aq (wv 0) (aq (bR rfl rD) am))) am))))))) (ac (ag (dO @eM (Ez (ax (N':=["_law_k","_law_some"]) (pk:=[none,some 1]) @m) (zK hr.hd rfl aZ @ga) (λC s H ex=>(pI (i:=0) (show List.Nodup (["_law_k","_law_some"]:List Str) by decide+kernel) rfl @o)) (λC s H ex=>(eh (pP rfl (BZ (IZ rfl) (wv 1) (wv 0) @fR)))) @S) (eL (aq (aM @cp rfl G boot_isinstance (aq (wv 0) (aq (B2 (v:= .ty "ValueError") rfl iQ PyProof.Rows.Boot.«ValueError» rfl) am))) am)))))))),?_⟩];rwa[cL I z rfl ET ?_];rwa[cL I z rfl Je ?_];rwa[cL I z rfl Jj ?_];rwa[cL I z rfl Ji ?_];rwa[fq @bz λl1 H1 s1 n1 e1=> ?_];have U:=s1.get I;rwa[cL U z rfl Jf ?_];rwa[cL U z rfl M5 ?_];rwa[cL U z rfl Jg ?_];rwa[cL U z rfl M6 ?_];rwa[fq @bz λl2 H2 s2 n2 e2=> ?_];rwa[y7 @gO e2 @bz λl3 H3 s3 n3 e3=> ?_];have J:=s3.get (s2.get U);rwa[cL J z rfl EU ?_];rwa[cL J z rfl Jh ?_];rwa[cL J z rfl M3 ?_];rwa[cL J z rfl ES ?_];rwa[fq @bz λl4 H4 S n4 e4=> ?_];rwa[y7 (S.get e3) e4 @bz λl5 H5 s5 n5 e5=> ?_];have x5:=s5.get (S.get J);have O:=(((s1.trans s2).trans s3).trans S).trans s5;rwa[⟨⟨by decide,by decide⟩,yY (λi ys H'=>H'=H5/\ys=if i<6 then [] else [.int 5]) @gk (λi ys H' p=> ?_) ⟨rfl,rfl⟩ (λys H' p=>⟨.ref j,none,p.1▸x5⟩) (λi ys H' hi p=> ?_) (λys H' p Z n6=> ?_)⟩]
 ·rw [p.2];split
  ·exact Nat.zero_le _
  ·show 1<=i;lia
 ·obtain ⟨rfl,rfl⟩:=p;rwa[⟨bZ,?_⟩]
  have ah:i=0\/i=1\/i=2\/i=3\/i=4\/i=5\/i=6\/i=7\/i=8\/i=9\/i=10\/i=11:=by have:i<12:=hi;lia
  ext
  rcases ah with rfl|rfl|rfl|rfl|rfl|rfl|rfl|rfl|rfl|rfl|rfl|rfl
  all_goals first
   |exact aW @gb rfl ⟨rfl,rfl⟩
   |exact aW @gb rfl ⟨rfl,rfl⟩
 ·obtain ⟨rfl,rfl⟩:=p;have e6:upd H' Z (.lst [V.int 5]) Z=some (.lst [V.int 5]):=af;have s6:ak H' (upd H' Z (.lst [V.int 5])):= .upd n6;rwa[cL (s6.get x5) z rfl R ?_];rwa[fq @bz λl7 H7 Y n7 e7=> ?_];rwa[y7 (Y.get e6) e7 @bz λl8 H8 s8 n8 e8=> ?_];exact q l8 H8 (((O.trans s6).trans Y).trans s8) (O.free (s6.free (Y.free n8))) e8
seal iB
def lC (p:Str×List Int):D:= .tup (.str p.1::p.2.map D.int)
def N7:Option (Str×List Int)->D
 |none=> .non
 |some p=>lC p
theorem Gj {H:Hp}{t:Addr}{p:Str×List Int}(h:H t=some (.tup (.str p.1::p.2.map V.int))):bL K H (.ref t) (lC p):=iV (aE.of h) (.cons (.str _) (uR _))
theorem Gi {H:Hp}{x:V}{p:Str×List Int}(h:bL K H x (lC p)):∃t,x= .ref t/\aE K H t (.str p.1::p.2.map V.int):=by
 obtain ⟨u,F,rfl,j,z⟩:=h.outT
 cases z with|cons q0 t0=>
 cases q0.isStr;rw [nK t0] at j;exact ⟨u,rfl,j⟩
theorem y4 {os:List (Option (Str×List Int))}:∀d∈os.map N7,uU d .non:=λd G=>by
 obtain ⟨o,_,rfl⟩:=mem_map.mp G
 cases o with
 |none=>exact .inl ⟨rfl,rfl⟩
 |some p=>exact .inr ⟨⟨_,rfl⟩,rfl⟩
theorem CB (os:List (Option (Str×List Int))):((os.map N7).any λd=>rM d .non)=decide (nZ os=none):=by
 rw [any_map,Bool.eq_iff_iff,any_eq_true,decide_eq_true_eq];constructor
 ·rintro ⟨o,U,z⟩
  cases o with
  |none=>exact CC U
  |some p=>cases z
 ·intro h;exact ⟨none,u8 h,rfl⟩
theorem Lq {ps:List (Str×List Int)}{b:Str×List Int->Bool}:rM (.lst ((ps.filter λp=> !b p).map lC)) (.lst [])=ps.all b:=by
 cases h:ps.filter λp=> !b p with
 |nil=>
  show true=_;symm;rw [all_eq_true];intro p G
  cases z:b p with
  |true=>rfl
  |false=>
   have:p∈ps.filter λp=> !b p:=mem_filter.mpr ⟨G,by rw [z];rfl⟩;rw [h] at this;cases this
 |cons p r=>
  show false=_;symm;rw [all_eq_false]
  have:p∈ps.filter λp=> !b p:=by rw [h];exact .head _
  have:=mem_filter.mp this;exact ⟨p,this.1,by have z:=this.2;cases y:b p with|true=>rw [y] at z;cases z|false=>decide⟩
inductive Fj (K:Fg)(Pn Pl:Addr)(vs:List V)(H:Hp)(Q:VK)(_e:XK):Prop
 |mk (x h sl hs xs:_) (_:vs=[.str x,.ref h,.ref sl]) (_:TX x) (_:gu K H h hs) (_:sJ Pn Pl H) (_:aD K H sl xs) (_:xs.length<=64) (_:(∀v∈xs,Lw K H hs v)) (_:∀H',aT H H'->sJ Pn Pl H'->Q (.bl true) H')
theorem Oj {aO ae Pn Pl:Addr}(F:bo K "_law_right" "_law_right" vW f fd)(nq:mg "all"=none)(aL:mg "isinstance"=none)(G6:mg "bool"=none)(iT:mg "CourtError"=some (.ref ae))(iU:Ee K ae)(aA:pO K (.ref aO) ae true)(nQ:bf P w K mg base 2 "holds" ["house","state","name","numbers"] (lh K))(vd:uk P w K mg base 4 "ill_of" ["text","house"] (vz K mg aO Pn Pl))(G:LG P w K mg base 1 "_law_others" ["_law_e"] (iB aO))(nO:bf P w K mg base 2 "_law_part" ["_law_text_here","_law_house_here"] (vy K))(wZ:bf P w K mg base 1 "_law_is" ["_law_part_here","_law_state","_law_house_here"] (Fk K)):av P w K mg base bb 5 f fd ["_law_text_here","_law_house_here","_law_states_here"] (Fj K Pn Pl):=by
 rwa[F.ok dM (by intro _ _ _ _ h;cases h;subst_vars;rfl) (λaH A outer s H vs Q E hr h=> ?_)];obtain ⟨x,h,sl,hs,xs,rfl,hx,hH,hg,hL,xl,hX,q⟩:=h;rwa[⟨_,(aa (eV (i:=3) rfl dM.nd rfl @o (ax (N':=["_law_part_here","_law_house_here"]) (pk:=[none,some 1]) @m) (vf rfl (gW rfl PySem.F.plainAttrs_str PySem.F.slot_str_split PySem.F.type_str_split BE (wv 0) (aq bH am))) @k @u (λC s H ex=>(c8 nO hr @b rfl @fL))) (aa (bq (i:=4) dM.nd rfl @o (eL am)) (aa (bq (i:=5) dM.nd rfl @o iN) (eD (F4 (j:=6) rfl rfl iU rfl iT dM.nd rfl rfl (JJ (i:=5) dM.nd rfl @o (LV rfl vd hr @b rfl @fL)) (λa=>(ac (bq (i:=4) dM.nd rfl @o (NV G (hr.mark a) @b rfl (aq (wv 6) am)))))) (aa (au (cq (PY rfl hr) iN (wv 3) @K) (ac (ag (c5 @gM (wv 4) (eL (aq b9 (aq fm am))) (bV _)))) ap) (aa (au (cq LK (wv 5) iN (bV _)) @bu ap) (aa (cE PassesOwn.never rfl (vf rfl (wv 2)) @a (aa (bq (i:=8) dM.nd rfl @o (ym 5 hr rfl @o @fB)) (aa (bq (i:=9) dM.nd rfl @o (c5 @gM (bG rfl (ax (N':=["_law_part_here","_law_state","_law_house_here"]) (pk:=[none,some 7,some 1]) @m) (vf rfl (wv 3)) @k (λC s H ex=>(eh (dN (pP rfl (c8 wZ hr @b rfl (aq (wv 0) (aq (wv 1) @fE))))))) @S) (eL am) (bV _))) (ac (au (PW.pt (By (dN (pP rfl (aM @cp rfl aL boot_isinstance (aq (wv 8) (aq (B2 (v:= .ty "bool") rfl G6 boot_bool rfl) am))))) (v9 (cq @gR (wv 8) (wv 9) (bV _))))) @bu ap))))) @bu))))))),?_⟩];rwa[⟨rfl,?_⟩];rwa[⟨⟨rfl,aR (by have:=hx.1;lia)⟩,λl1 n1=> ?_⟩];have hw:∀y∈Txt.split x o0,TX y:=λy hy=>hx.part hy;have ar:(Txt.split x o0).length<=5002:=kQ hx;generalize ad:upd H l1 _=H1
 have s1:ak H H1:=by rw [<-ad];exact .upd n1
 have e1:H1 l1=some (.lst ((Txt.split x o0).map V.str)):=by rw [<-ad];exact af
 clear ad;have pd:pJ hs.fl hs.ls.length x=nZ ((Txt.split x o0).map @bM):=rfl;generalize Txt.split x o0=R at hw ar e1 pd;rwa[b8 @dF ?_];rwa[bK (xs:=R.map V.str) (λi ys I=>ak H1 I/\az K I ys (((R.take i).map @bM).map N7)) (aR (by rw [length_map];lia)) (λi ys I p=>by rw [aB p.2,length_map,length_take];exact Nat.min_le_left _ _) ⟨.refl _,.nil⟩ (λi ys I _ p=>p.1.seq @dF) (λi y ys I hy p=> ?_) (λys I p l3 n3=> ?_)]
 ·obtain ⟨sx,d⟩:=p;rw [getElem?_map] at hy;obtain ⟨u,hu,rfl⟩:=Option.map_eq_some_iff.mp hy;rwa[⟨bZ,?_⟩];rwa[vy.mk _ _ _ rfl (hH.same (s1.trans sx)) (hw u (mem_of_getElem? hu)) (λhp H2 s2=> ?_) (λp hp t H2 s2 et=> ?_)]
  ·rwa[⟨sx.trans s2,?_⟩];rw [take_add_one,hu,map_append,map_append];rwa[Paired.app @fT (.cons ?_ .nil)];show bL K H2 .non (N7 (cI hs.fl hs.ls.length u));rw [hp];exact .non
  ·rwa[⟨sx.trans s2,?_⟩];rw [take_add_one,hu,map_append,map_append];rwa[Paired.app @fT (.cons ?_ .nil)];show bL K H2 (.ref t) (N7 (cI hs.fl hs.ls.length u));rw [hp];exact Gj et
 obtain ⟨sx,dp⟩:=p;rw [length_map,take_length] at dp;generalize ah:upd I l3 _=H3
 have s3:ak I H3:=by rw [<-ah];exact .upd n3
 have e3:H3 l3=some (.lst ys):=by rw [<-ah];exact af
 clear ah;have dp:=az.same dp s3;have aE:=(s1.trans sx).trans s3;generalize as:R.map @bM=os at dp pd
 have yl:ys.length<=5002:=by rw [aB dp,<-as,length_map];exact ar
 rwa[fq @bz λl4 H4 s4 n4 e4=> ?_];have aj:=aE.trans s4
 refine ue (λσ HY=>(nZ os=none/\ak H4 HY/\∃o,σ=[some (.str x),some (.ref h),some (.ref sl),some (.ref l3),some (.ref o),some .non,none,none,none,none]/\HY o=some (.lst [.int 5,.bl true]))\/
  (∃ps g,nZ os=some ps/\aT H4 HY/\sJ Pn Pl HY/\oX K mg HY g h hs ps/\σ=[some (.str x),some (.ref h),some (.ref sl),some (.ref l3),some (.ref l4),some (.ref g),none,none,none,none])) ?_ ?_
 ·rwa[⟨λan dd O=>an= .ref aO/\dd=none/\ak H4 O/\nZ os=none,?_,?_⟩]
  ·ext;rwa[vz.mk _ _ _ rfl (hH.same aj) hx (lQ _ _ aj.st hg) (λps Z g O sN gZ hI=> ?_) (λhn O sZ=> ?_)]
   ·exact .inr ⟨ps,g,by rw [<-pd];exact Z,sN,gZ,hI,rfl⟩
   ·exact ⟨rfl,rfl,sZ,by rw [<-pd];exact hn⟩
  ·rintro an dd O ⟨rfl,rfl,sZ,hn⟩;rwa[⟨aA,λe ne=> ?_⟩];rwa[JY af λo H' sm no eo=> ?_];exact .inl ⟨hn,(sZ.trans (ak.upd ne)).trans sm,o,rfl,eo⟩
 rintro σ' HY (⟨hn,sY,o,rfl,eo⟩|⟨ps,g,Z,sN,gY,hI,rfl⟩)
 ·ext;rwa[Rv (aD.of (sY _ _ @fI)) (az.same dp (s4.trans sY)) y4 ?_];rw [CB,decide_eq_true hn];rwa[bz rfl ?_];rwa[fq @bz λl5 H5 s5 n5 e5=> ?_];rwa[Tz (yV (aD.of (s5 _ _ eo)) (.cons (.int _) (.cons (.bl _) .nil))) (yV @gb (.cons (.int _) (.cons (.bl _) .nil))) (λd hd e he=>by simp only [mem_cons,not_mem_nil,or_false] at hd he;rcases hd with rfl|rfl<;>rcases he with rfl|rfl<;>exact .inl ⟨rfl,rfl⟩) ?_];have al:=(aj.trans sY).trans s5;exact q H5 al.nt (lQ _ _ al.st hg)
 have J:=aj.nt.trans sN;have ai:=sN _ _ (λ_ z=>by cases z) @fI;have W:=sN.dens (az.same dp s4);have aw:=nY Z;subst aw;rw [map_map] at W
 have aG:ps.length<=5002:=by have:=aB dp;rw [length_map] at this;lia
 rwa[Rv (ds:=(ps.map some).map N7) (aD.of ai) (by rw [map_map];exact W) y4 ?_];rw [CB,Z,decide_eq_false (λz=>by cases z)];rwa[aP rfl ?_];rwa[aP rfl ?_];rwa[b8 (J.sqL hL) ?_];rwa[fg (xs:=xs) (λi σ I=>ak HY I/\∃(o7 o8 o9:Option V),σ=[some (.str x),some (.ref h),some (.ref sl),some (.ref l3),some (.ref l4),some (.ref g),none,o7,o8,o9]) ⟨.refl _,_,_,_,rfl⟩ (λi σ I _ pv=>pv.1.seq (J.sqL hL)) (λi y σ I hy pv=> ?_) @dq]
 ·obtain ⟨sX,o7,o8,o9,rfl⟩:=pv;obtain ⟨st,n,cs,ws,aF,rfl,ao,hS⟩:=(hX y (mem_of_getElem? hy)).nt J;have aC:=hS.nt sX.nt;have ay:=(oB J hH).same sX;rwa[Exists.elim (oX.call (hI.same sX) nq nQ ay aC ao ?_) λsp z=>⟨g,3,sp,rfl,by decide,z.1,z.2⟩];intro H5 s5;have S:=sX.trans s5;rwa[b8 (aD.of (S _ _ ai)) ?_];rwa[bK (xs:=ys) (λk R O=>ak H5 O/\az K O R (((ps.take k).filter λp=> !dg hs cs ws p.1 p.2).map lC)) @bs (λk R O p=>by rw [aB p.2];have:=length_filter_le (λp:Str×List Int=> !dg hs cs ws p.1 p.2) (ps.take k);rw [length_take] at this;lia) ⟨.refl _,.nil⟩ (λk R O _ p=>p.1.seq (aD.of (S _ _ ai))) (λk y R O hy p=> ?_) (λR O p l6 n6=> ?_)]
  ·obtain ⟨sz,du⟩:=p;obtain ⟨p,hp,Y⟩:=bu (f:=N7∘some) W hy;have U:=S.trans sz;have Y:bL K HY y (lC p):=Y;obtain ⟨t,rfl,hT⟩:=Gi (bL.same Y U)
   have po:Ly hs ps:=by obtain ⟨_,_,_,_,_,_,_,_,_,_,_,z,_⟩:=hI;exact z
   have po:=po p (mem_of_getElem? hp);rwa[⟨bZ,?_⟩];rwa[Fk.mk _ _ _ _ _ _ _ _ _ _ rfl ((oB J hH).same U) (hS.nt U.nt) ao hT po.1 po.2 λH7 s7=> ?_];have pT:bL K H7 (.ref t) (lC p):=bL.same (bL.same Y U) s7;rw [take_add_one,hp,filter_append]
   cases hb:dg hs cs ws p.1 p.2 with
   |true=>
    rwa[⟨sz.trans s7,?_⟩]
    have:([p].filter λp=> !dg hs cs ws p.1 p.2)=[]:=by rw [filter_cons_of_neg (by rw [hb];decide)];rfl
    show az K H7 R ((_++[p].filter λp=> !dg hs cs ws p.1 p.2).map lC);rw [this,append_nil];exact az.same du s7
   |false=>
    rwa[⟨sz.trans s7,?_⟩]
    have:([p].filter λp=> !dg hs cs ws p.1 p.2)=[p]:=by rw [filter_cons_of_pos (by rw [hb];rfl)];rfl
    show az K H7 (R++[.ref t]) ((_++[p].filter λp=> !dg hs cs ws p.1 p.2).map lC);rw [this,map_append];exact Paired.app (az.same du s7) (.cons pT .nil)
  obtain ⟨sz,du⟩:=p
  have el:ys.length=ps.length:=by rw [aB W]
  rw [el,take_of_length_le @f] at du;generalize bx:upd O l6 _=H8
  have s8:ak O H8:=by rw [<-bx];exact .upd n6
  have e8:H8 l6=some (.lst R):=by rw [<-bx];exact af
  clear bx;erw[fq @bz λl9 H9 s9 n9 e9=> ?_];have d9:=yV (aD.of (s9 _ _ e8)) (az.same du (s8.trans s9));rwa[RH d9 (yV (aD.of e9) .nil) (λ_ _ _ h=>by cases h) ?_];rw [Lq];rwa[⟨rfl,?_⟩];rwa[aP rfl ?_];rwa[aP (by rw [decide_eq_true rfl];rfl) ?_];exact ⟨(((S.trans sz).trans s8).trans s9),_,_,_,rfl⟩
 obtain ⟨sX,o7,o8,o9,rfl⟩:=pv;exact q I (J.trans sX.nt) (lQ _ _ sX.st gY)
theorem RK {i:Int}(I:0<=i)(h1:i<3):∃k:Dk,lY [V.str "near",.str "turns",.str "least"] i=some (.str k.tx):=by
 rcases (show i=0\/i=1\/i=2 by lia) with rfl|rfl|rfl
 ·exact ⟨.near,rfl⟩
 ·exact ⟨.turns,rfl⟩
 ·exact ⟨.least,rfl⟩
theorem mv {H:Hp}{P:Addr}{q:Str}(h:H P=some (.tbl #[])):cf H P q:=⟨#[],h,trivial,λpos F e=>by cases e⟩
inductive xV (K:Fg)(Pn Pl Pi:Addr)(vs:List V)(H:Hp)(Q:VK)(_e:XK):Prop
 |mk (a:Addr) (ns:List Int) (_:vs=[.ref a]) (_:CH K H a ns) (_:cf H Pn qN) (_:cf H Pl qL) (_:cf H Pi QV) (_:∀H',Q (.bl true) H')
theorem Og {hZ Pn Pl kn kl kT:Addr}{k:Ks}(as:Pn≠Pl)(ak:Pn≠Lv)(aw:Pl≠Lv)(F:bo K "law" "law" NA f fd)(R:Sf K P w mg base k)(aZ:mg "range"=none)(cC:Mo K hZ)(A2:ja P w K mg base bb 1 "Court" hZ (Js K))(uM:mg "near"=some (.ref kn))(nE:mg "least"=some (.ref kl))(ff:mg "by_turns"=some (.ref kT))
(Ii:bf P w K mg base 5 "near" ["cabins","waiting","rider","last"] (vv K Pn))(Br:bf P w K mg base 5 "least" ["cabins","waiting","rider","last"] (BQ K Pl))(nU:bf P w K mg base 3 "by_turns" ["cabins","waiting","rider","last"] (pE K))(kB:bf P w K mg base 2 "dealer_of" ["text","house"] (λvs H Q _=>Fp kn kl kT vs H Q E0))(bC:bf P w K mg base 1 "_law_draw" ["_law_script","_law_k","_law_many"] (gt K))(sh:bf P w K mg base 5 "_law_house" ["_law_script"] (z6 K))(uY:bf P w K mg base 4 "_law_rule" ["_law_script","_law_floors"] (Fc K k))(i6:bf P w K mg base 10 "_law_states" ["_law_script","_law_court"] (Fa P w K mg base hZ Pn Pl))(uX:bf P w K mg base 2 "_law_text" ["_law_script","_law_at","_law_house_here"] (Fh K))(oO:bf P w K mg base 2 "_law_spoilt" ["_law_script","_law_at","_law_text_here","_law_house_here"] (Fi K))(se:bf P w K mg base 5 "_law_right" ["_law_text_here","_law_house_here","_law_states_here"] (Fj K Pn Pl)):av P w K mg base bb 11 f fd ["_law_script"] (xV K Pn Pl Lv):=by
 rwa[F.ok FG (by intro _ _ _ _ h;cases h;subst_vars;rfl) (λay A outer s H vs Q E hr h=> ?_)];obtain ⟨a,ns,rfl,hS,tN,tL,tI,q⟩:=h
 have cv:∀d:Dk,ip P w K mg base 5 (d.ad kn kl kT) (qh K @cv qK (xn d)):=by
  obtain ⟨f1,x1,F1⟩:=Ii.fnv;rw [uM] at x1;cases x1;obtain ⟨f2,U,F2⟩:=Br.fnv;rw [nE] at U;cases U;obtain ⟨f3,x3,F3⟩:=nU.fnv;rw [ff] at x3;cases x3;exact O8 as ak aw F1.cal F2.cal F3.cal
 rwa[⟨_,(aa @a (aa (bq (i:=2) FG.nd rfl @o (c8 kB hr @b rfl @fY)) (aa (bq (i:=3) FG.nd rfl @o (c8 i6 hr @b rfl (aq (wv 0) (aq (gv A2 hV hr @b rfl (aq (wv 1) (aq @a @fE))) am)))) (aa (cE PassesOwn.never rfl (cg rfl aZ @ga) @a (aa @a (ac (cE PassesOwn.never rfl @a @a (ac @el))))) @bu)))),?_⟩];rwa[z6.mk _ _ rfl hS λh hs H1 s1 hH an=> ?_];have aL:=aY hS s1;rwa[fq @bz λl2 H2 s2 n2 e2=> ?_];rwa[gt.mk _ _ _ _ rfl (aY aL s2) @b @b @b λi i0 i1=> ?_];obtain ⟨d,ed⟩:=RK i0 i1;rwa[aW @cY ed ?_];rwa[Uq ?_];have Z:=hH.same s2;obtain ⟨ar,hp,az,ai,_,_⟩:=id Z;rwa[ao ai rfl ?_];rwa[Fc.mk _ _ _ rfl (aY aL s2) ar.f2 λra aA rk H3 af s3 e3=> ?_];rwa[Tl cC λca aj H4 s4 n4 e4=> ?_];have ae:=(s1.trans s2).trans (s3.trans s4);have J:=Z.same (s3.trans s4);have al:R5 P w K mg base hZ Pn Pl H4 ca hs rk.word d:=⟨⟨aj,h,ra,d.ad kn kl kT,e4,J,NG R af @fI,cv d⟩,lQ _ _ ae.st ⟨tN,tL,tI⟩⟩;have W:=aY hS ae;rwa[Fa.mk _ _ _ _ _ _ rfl W al an λsl xs H5 sN g5 e5 xl hX=> ?_];rwa[⟨⟨by decide,by decide⟩,?_⟩];rwa[dh (λj σ HX=>aT H5 HX/\sJ Pn Pl HX/\∃(U:V) (o4 o5 O:Option V),σ=[some (.ref a),some (.ref h),some U,some (.ref sl),o4,o5,O]) ⟨λb o _ z=>z,g5,_,_,_,_,rfl⟩ (λj σ HX hj S=> ?_) (λσ HX S=> ?_)]
 ·obtain ⟨sX,gX,U,o4,o5,O,rfl⟩:=S
  have aH:(j:Int)<4:=by have:j<4:=hj;lia
  have G:=sN.trans sX;rwa[⟨cy @b @b,?_⟩];rwa[Fh.mk _ _ _ _ _ rfl (Af W G) @c @c (oB G J) λx HA sA tx x1=> ?_];rwa[⟨cy @b @b,?_⟩];rwa[Fi.mk _ _ _ _ _ _ rfl (aY (Af W G) sA) @c @c tx x1 ((oB G J).same sA) λy HB sB ty=> ?_];rwa[fq @bz λlt HC sC nC eC=> ?_];have I:=(sA.trans sB).trans sC;have gC:=lQ _ _ I.st gX
  have ah:∀v∈[V.str x,.str y,.str x],∃z:Str,v= .str z/\TX z:=λv hv=>by
   simp only [mem_cons,not_mem_nil,or_false] at hv
   rcases hv with rfl|rfl|rfl
   ·exact ⟨x,rfl,tx.tx @b⟩
   ·exact ⟨y,rfl,ty⟩
   ·exact ⟨x,rfl,tx.tx @b⟩
  rwa[b8 (aD.of eC) ?_];rwa[fg (xs:=[V.str x,.str y,.str x]) (λi σ HY=>aT HC HY/\sJ Pn Pl HY/\∃(O:Option V),σ=[some (.ref a),some (.ref h),some U,some (.ref sl),some (.int (0+(j:Int))),some (.str x),O]) ⟨λb o _ z=>z,gC,_,rfl⟩ (λi σ HY _ S=>aD.of (S.1 _ _ (λ_ z=>by cases z) eC)) (λi v σ HY hv S=> ?_) (λσ HY S=> ?_)]
  ·obtain ⟨sY,gY,O,rfl⟩:=S;obtain ⟨z,rfl,tz⟩:=ah v (mem_of_getElem? hv);have ax:=(G.trans I.nt).trans sY;have Y:=(sX.trans I.nt).trans sY;rwa[Fj.mk _ _ _ _ _ rfl tz (oB ax J) gY (aD.of (Y _ _ (λ_ z=>by cases z) e5)) xl (λu hu=>(hX u hu).nt Y) λHZ sZ gZ=> ?_];rwa[aP rfl ?_];exact ⟨sY.trans sZ,gZ,_,rfl⟩
  obtain ⟨sY,gY,O,rfl⟩:=S;exact ⟨(sX.trans I.nt).trans sY,gY,_,_,_,_,rfl⟩
 ·obtain ⟨sX,gX,U,o4,o5,O,rfl⟩:=S;exact q _
end
end My
namespace My
open PySem L2 PyProof.Rows
seal PE PT PS sE PA PI PG Eb Ea PW PO cX Ps bc Ek xg Pg Iw
seal uJ gy jF vG Li on yF kt qj uw B9 Ln Ls yz CM yE setL CK yN pq sM Eg Bx hG Ci Jm
seal Ie rA A6 L2.yP L2.putAt L2.wm fZ K5 ub OF Sc Lj Lo EY
seal nJ vH Cp iA mF Fp iC pG lj kU iB
theorem Hg {K:Fg}{H:Hp}{a:Addr}{S:List Int}{E:XK}(U:aD K H a @gf)(R:S.length<=63)(z:∀i∈S,Builtin.Int.intBits i<=2^20)(O:∀t∈([(394,390),(399,397),(802,800)]:List (Addr×Addr)),H t.2=some (.tbl #[])):xV K 390 397 800 [.ref a] H (λv _=>v= .bl true) E:=⟨a,S,rfl,⟨U,R⟩,mv (O (394,390) @e),mv (O (399,397) @e),mv (O (802,800) @e),λ_=>rfl⟩
theorem HR {P:Program}{w:World}{K:Fg}{mg:Str->Option Value}{base:Heap}{j z F:Addr}(O:gp K j)(I:aQ K j "turns")(S:gp K z)(G:aQ K z "turns")(W:gp K F)(Z:aQ K F "turns")(J:jc P w K mg base bb 1 "left" j (iE K JP))(U:jc P w K mg base bb 1 "left" z (iE K hst))(R:jc P w K mg base bb 1 "left" F (iE K Ju)):Mn P w K mg base j z F:=by
 rwa[⟨λk Y=> ?_,λk Y=> ?_⟩]
 ·rcases Y with rfl|rfl|rfl
  ·rw [OT];exact ⟨O,I⟩
  ·rw [OU];exact ⟨S,G⟩
  ·rw [OS];exact ⟨W,Z⟩
 ·rcases Y with rfl|rfl|rfl
  ·rw [OT];exact J
  ·rw [OU];exact U
  ·rw [OS];exact R
theorem Pb {l:PySem.W.OpenLaw}{w:World}{K:Fg}{h:Heap}{mg:Str->Option Value}{fa:Addr}(X:K.In h)(G:h.Ns mainGlobals mg)(dv:mg "law"=some (.ref fa))
{tZ lP wB jy cU b0 bU eG gI aA au al wD cR dP aO hZ rq rg rh yD lO rp yC lN ft f1 f2 f3 f4 f5 f6 f7 f8 f9 eA b8 eL cV dD dU dg cW cS c6 du dN cT ay b5 da eP ek di dj bQ d0 cD ch cB eZ cp aB aC ez cz dK dp cK ew en b1 dF de eY bX bx co eh eI eJ bR dW dy bZ dA cs eM d1 eV ck ca db dE ey a4 bA eC eE dS dT eF dV bO cw dz dl eu eB eX cx bW eH aF d4 dX cr dO c5 ej eo eD cO ev cL a8 bD z ak j:Addr}{a5 aY:Option Addr}{aP:Array @E}{bq bL aK bF bM:Value}{a7 a9:Option Addr}{bn:Array @E}{bi bI aT bv bk:Value}{aN aS:Option Addr}{aM:Array @E}{a1 aU aX aG bj:Value}{EV:Tok}{xQ:Tok}{M4:Tok}{xN:Tok}{MZ:Tok}{vi:Tok}{zS:Tok}{xO:Tok}{af:Option Addr}{aj:Nat}{ah:Array @E}{aa ad ag:Tok}{xP:Tok}{tH:Tok}{vn:Tok}{ao:Option Addr}{aw:Nat}{aq:Array @E}{ar ap:Tok}{tG:Tok}{EW:Tok}{S:Option Addr}{Z:Nat}{O:Array @E}{R U Y:Tok}
(PF:W.nsIn K mainGlobals "Door"=some (some (.ref tZ)))
(MA:W.nsIn K mainGlobals "Hasty"=some (some (.ref lP)))
(PB:W.nsIn K mainGlobals "Slow"=some (some (.ref wB)))
(PD:W.nsIn K mainGlobals "Rule"=some (some (.ref jy)))
(IW:W.nsIn K mainGlobals "Homing"=some (some (.ref cU)))
(Er:W.nsIn K mainGlobals "Nearest"=some (some (.ref b0)))
(En:W.nsIn K mainGlobals "Shuttle"=some (some (.ref bU)))
(Mv:W.nsIn K mainGlobals "Table"=some (some (.ref eG)))
(IU:W.nsIn K mainGlobals "NoDeal"=some (some (.ref gI)))
(Pw:W.nsIn K mainGlobals "near"=some (some (.ref aA)))
(Ms:W.nsIn K mainGlobals "least"=some (some (.ref au)))
(CJ:W.nsIn K mainGlobals "by_turns"=some (some (.ref al)))
(IV:W.nsIn K mainGlobals "Moment"=some (some (.ref wD)))
(IP:W.nsIn K mainGlobals "NoRule"=some (some (.ref cR)))
(Eo:W.nsIn K mainGlobals "NoHouse"=some (some (.ref dP)))
(Mz:W.nsIn K mainGlobals "NoIll"=some (some (.ref aO)))
(MC:W.nsIn K mainGlobals "Court"=some (some (.ref hZ)))
(IT:W.nsIn K mainGlobals "NoDeed"=some (some (.ref rq)))
(IQ:W.nsIn K mainGlobals "NoRide"=some (some (.ref rg)))
(IR:W.nsIn K mainGlobals "NoLine"=some (some (.ref rh)))
(MB:W.nsIn K mainGlobals "Empty"=some (some (.ref yD)))
(Ep:W.nsIn K mainGlobals "NoFloor"=some (some (.ref lO)))
(IS:W.nsIn K mainGlobals "NoLift"=some (some (.ref rp)))
(Mu:W.nsIn K mainGlobals "Twice"=some (some (.ref yC)))
(Em:W.nsIn K mainGlobals "TooMany"=some (some (.ref lN)))
(xy:W.nsIn K mainGlobals "CourtError"=some (some (.ref ft)))
(ax:Mp K tZ)
(as:Mp K lP)
(az:Mp K wB)
(cM:zD K wD)
(cC:Mo K hZ)
(h1:L2.NF K "bit" NE f1)
(h2:L2.NF K "has" ND f2)
(h3:L2.NF K "with_bit" qq f3)
(h4:L2.NF K "below" AA f4)
(h5:L2.NF K "above" AB f5)
(h6:L2.NF K "mask_of" vT f6)
(h7:L2.NF K "listed" vV f7)
(h8:L2.NF K "lowest" vU f8)
(h9:L2.NF K "highest" qD f9)
(c1:L2.NF K "floor_of" qE eA)
(dk:L2.NF K "goals_aboard" gF b8)
(dn:L2.NF K "way_of" At eL)
(d9:L2.NF K "tasks_of" qt cV)
(cE:L2.NF K "goes_along" kb dD)
(eT:L2.NF K "here_of" v4 dU)
(dQ:L2.NF K "view" FR dg)
(b9:L2.NF K "turned" vO cW)
(cH:L2.NF K "bounded" qI cS)
(eW:L2.NF K "with_changes" gz c6)
(dq:L2.NF K "steered" qu du)
(b4:L2.NF K "may_step_in" j6 dN)
(ci:L2.NF K "exchanged" kg cT)
(eb:L2.MF K tZ "__init__" "Door.__init__" m6 ay)
(aQ:L2.MF K tZ "left" "Door.left" m5 b5)
(br:L2.MF K lP "left" "Hasty.left" ka da)
(bp:L2.MF K wB "left" "Slow.left" mM eP)
(cX:L2.NF K "door_of" v5 ek)
(ct:L2.NF K "room_of" vS di)
(cI:L2.NF K "turns_of" qr dj)
(b2:L2.NF K "kind_of" vY bQ)
(cZ:L2.NF K "do_come" v7 d0)
(c7:L2.NF K "dealt_to" qF cD)
(dh:L2.NF K "do_deed" v6 ch)
(cf:L2.NF K "is_serving" j9 cB)
(eO:L2.NF K "serving" qw eZ)
(eq:L2.NF K "serving_from" gD cp)
(ed:W.nsIn K mainGlobals "near"=some (some (.ref aB)))(bu:K.lookup aB=some ⟨bq,a5,.func (W.fnOf "near" "near" (bB eS) (be eS) @gY .none bL aK bF aY (.ref 394) bM),aP⟩)(a3:W.codeIn K (.ref 394) "near"=true)(a6:W.keepIn K (.ref aB)=true)
(a0:W.codeHdIn K 394 390=true)
(em:W.nsIn K mainGlobals "least"=some (some (.ref aC)))(bl:K.lookup aC=some ⟨bi,a7,.func (W.fnOf "least" "least" (bB cP) (be cP) @gZ .none bI aT bv a9 (.ref 399) bk),bn⟩)(aV:W.codeIn K (.ref 399) "least"=true)(bo:W.keepIn K (.ref aC)=true)
(ba:W.codeHdIn K 399 397=true)
(cQ:L2.NF K "by_turns" qH ez)
(dY:L2.NF K "zone_of" BX cz)
(d6:L2.NF K "fixed_of" yg dK)
(ei:L2.NF K "read_lifts" qx dp)
(cb:L2.NF K "dealer_of" m7 cK)
(cA:L2.NF K "deal" BY ew)
(cg:L2.NF K "deal_all" ly en)
(cn:L2.NF K "log_steps" mX b1)
(c0:L2.NF K "exchange" m4 dF)
(d8:L2.NF K "go_by_rule" mY de)
(c8:L2.NF K "go_without_fire" fj eY)
(er:L2.NF K "go" Tb bX)
(bT:L2.MF K wD "__init__" "Moment.__init__" iG bx)
(ef:L2.NF K "state_of" qv co)
(dB:L2.NF K "need_floor" j4 eh)
(cv:L2.NF K "need_lift" mV eI)
(d2:L2.NF K "need_ride" mU eJ)
(dC:L2.NF K "need_deed" mW bR)
(d5:L2.NF K "tags_in" vP dW)
(ec:L2.NF K "need_deeds" j5 dy)
(bJ:L2.MF K hZ "turn" "Court.turn" gG bZ)
(ea:L2.NF K "swept" Au dA)
(ee:L2.NF K "nearest" qy cs)
(df:L2.NF K "shuttled" mP eM)
(cG:L2.NF K "place_in_table" fO d1)
(cY:L2.NF K "seen_at" vQ eV)
(aI:L2.MF K jy "word" "Rule.word" mQ ck)
(bK:L2.MF K cU "word" "Homing.word" iI ca)
(bG:L2.MF K b0 "word" "Nearest.word" gE db)
(bw:L2.MF K bU "word" "Shuttle.word" gA dE)
(a2:L2.MF K eG "word" "Table.word" jZ ey)
(b6:L2.MF K bU "__init__" "Shuttle.__init__" gB a4)
(bV:L2.MF K eG "__init__" "Table.__init__" j3 bA)
(bP:L2.NF K "as_table" qJ eC)
(dc:L2.NF K "rule_of" vR eE)
(et:L2.NF K "fits_lift" m3 dS)
(eU:L2.NF K "fits_lifts" ke dT)
(cq:L2.NF K "fits_locked" iJ eF)
(bY:L2.NF K "made_house" j8 dV)
(dm:L2.MF K hZ "__init__" "Court.__init__" kh bO)
(c9:L2.NF K "cabin_of" qG cw)
(aH:L2.MF K hZ "begin" "Court.begin" iK dz)
(eK:L2.NF K "writes_number" fN dl)
(ce:L2.NF K "number_of" mT eu)
(c2:L2.NF K "fits_part" mZ eB)
(b3:L2.NF K "read_part" mR eX)
(cy:L2.NF K "is_idle" vZ cx)
(c4:L2.NF K "is_away" v3 bW)
(dJ:L2.NF K "holds" Az eH)
(cN:W.nsIn K mainGlobals "ill_of"=some (some (.ref aF)))(bc:K.lookup aF=some ⟨a1,aN,.func (W.fnOf "ill_of" "ill_of" (bB cu) (be cu) (ae cu) .none aU aX aG aS (.ref 802) bj),aM⟩)(bd:W.codeIn K (.ref 802) "ill_of"=true)(bh:W.keepIn K (.ref aF)=true)
(bz:W.codeHdIn K 802 800=true)
(dM:L2.NF K "_law_draw" Ay d4)
(d7:L2.NF K "_law_house" vX dX)
(ep:L2.NF K "_law_rule" Aw cr)
(c3:L2.NF K "_law_tag" FS dO)
(cc:L2.NF K "_law_states" qz c5)
(dL:L2.NF K "_law_others" qB ej)
(el:L2.NF K "_law_number" qC eo)
(eR:L2.NF K "_law_part" Ax eD)
(dw:L2.NF K "_law_is" NB cO)
(bS:L2.NF K "_law_text" Av ev)
(cF:L2.NF K "_law_spoilt" qA cL)
(bH:L2.NF K "_law_right" vW a8)
(aW:L2.NF K "law" NA bD)
(Mm:L2.gp K tZ)
(zF:W.findIn K (.ref tZ) "turns"=some none)
(IF:L2.gp K lP)
(xm:W.findIn K (.ref lP) "turns"=some none)
(Ml:L2.gp K wB)
(zE:W.findIn K (.ref wB) "turns"=some none)
(IE:L2.gp K jy)
(u9:W.findIn K (.ref jy) "top"=some none)
(jR:W.findIn K (.ref jy) "letters"=some none)
(xi:L2.gp K cU)
(oY:W.findIn K (.ref cU) "top"=some none)
(ik:W.findIn K (.ref cU) "letters"=some none)
(sI:L2.gp K b0)
(mm:W.findIn K (.ref b0) "top"=some none)
(gq:W.findIn K (.ref b0) "letters"=some none)
(mf:L2.gp K bU)
(gU:W.findIn K (.ref bU) "top"=some none)
(eg:W.findIn K (.ref bU) "letters"=some none)
(xh:L2.gp K eG)
(kG:W.findIn K (.ref eG) "top"=some none)
(fz:W.findIn K (.ref eG) "letters"=some none)
(Mr:W.nsIn K mainGlobals "range"=some none)
(Sm:W.nsIn K mainGlobals "len"=some none)
(Mq:W.nsIn K mainGlobals "tuple"=some none)
(OE:L2.Mk K tZ ay)
(KG:L2.Mk K lP ay)
(OD:L2.Mk K wB ay)
(Es:W.nsIn K mainGlobals "NO_LIFT"=some (some (.int (-1) EV)))
(zH:W.nsIn K mainGlobals "enumerate"=some none)
(Sk:W.nsIn K mainGlobals "min"=some none)
(Sr:W.nsIn K mainGlobals "abs"=some none)
(xw:W.nsIn K mainGlobals "MOST_FIXED"=some (some (.int 9 xQ)))
(wH:W.excIn K gI [.type "ValueError",.type "Exception",.type "BaseException",.type "object"] "ValueError.__new__"=true)
(Px:W.nsIn K mainGlobals "list"=some none)
(Mw:W.nsIn K mainGlobals "STUCK"=some (some (.int 0 M4)))
(Py:W.nsIn K mainGlobals "dict"=some none)
(G2:L2.Mk K wD bx)
(So:W.nsIn K mainGlobals "any"=some none)
(xt:W.nsIn K mainGlobals "TABLE_SIZE"=some (some (.int 36 xN)))
(Mt:W.nsIn K mainGlobals "WORDS"=some (some (.str "oxuds" MZ)))
(ji:W.excIn K cR [.type "ValueError",.type "Exception",.type "BaseException",.type "object"] "ValueError.__new__"=true)
(GY:L2.Mj K jy)
(wk:L2.Mj K cU)
(qZ:L2.Mj K b0)
(Dz:L2.Mk K bU a4)
(KD:L2.Mk K eG bA)
(va:W.nsIn K mainGlobals "TABLE_START"=some (some (.str "table " vi)))
(zI:W.nsIn K mainGlobals "MOST_ROOM"=some (some (.int 6 zS)))
(xu:W.nsIn K mainGlobals "MOST_TURNS"=some (some (.int 4 xO)))
(xx:W.nsIn K mainGlobals "DOOR_KINDS"=some (some (.ref z)))
(ac:K.lookup z=some ⟨.type "tuple",af,.seq #[.str "plain" aa,.str "hasty" ad,.str "slow" ag] aj,ah⟩)
(Sq:W.nsIn K mainGlobals "all"=some none)
(xv:W.nsIn K mainGlobals "MOST_LIFTS"=some (some (.int 3 xP)))
(gb:W.excIn K dP [.type "ValueError",.type "Exception",.type "BaseException",.type "object"] "ValueError.__new__"=true)
(sS:W.nsIn K mainGlobals "LEAST_FLOORS"=some (some (.int 2 tH)))
(vc:W.nsIn K mainGlobals "MOST_FLOORS"=some (some (.int 8 vn)))
(Mx:W.nsIn K mainGlobals "SORTS"=some (some (.ref ak)))
(am:K.lookup ak=some ⟨.type "tuple",ao,.seq #[.str "free" ar,.str "way" ap] aw,aq⟩)
(sR:W.nsIn K mainGlobals "MOST_FIGURES"=some (some (.int 9 tG)))
(Et:W.nsIn K mainGlobals "FIGURES"=some (some (.str "0123456789" EW)))
(Sn:W.nsIn K mainGlobals "int"=some none)
(oZ:W.nsIn K mainGlobals "ILLS_OF_A_LIFT"=some (some (.ref j)))
(J:K.lookup j=some ⟨.type "tuple",S,.seq #[.str "full" R,.str "idle" U,.str "away" Y] Z,O⟩)
(wG:W.excIn K aO [.type "ValueError",.type "Exception",.type "BaseException",.type "object"] "ValueError.__new__"=true)
(Sl:W.nsIn K mainGlobals "max"=some none)
(IB:L2.uj K hZ)
(an:L2.IH K aO)
(xp:W.nsIn K mainGlobals "isinstance"=some none)
(xq:W.nsIn K mainGlobals "ValueError"=some none)
(pV:W.kitOne K (.ref aO) (.ref dP)=some false)
(sU:W.kitOne K (.ref aO) (.ref cR)=some false)
(tE:W.kitOne K (.ref aO) (.ref gI)=some false)
(tD:W.kitOne K (.ref aO) (.ref rq)=some false)
(sV:W.kitOne K (.ref aO) (.ref rg)=some false)
(vk:W.kitOne K (.ref aO) (.ref aO)=some true)
(sW:W.kitOne K (.ref aO) (.ref rh)=some false)
(vm:W.kitOne K (.ref aO) (.ref yD)=some false)
(pW:W.kitOne K (.ref aO) (.ref lO)=some false)
(tm:W.kitOne K (.ref aO) (.ref rp)=some false)
(vj:W.kitOne K (.ref aO) (.ref yC)=some false)
(pU:W.kitOne K (.ref aO) (.ref lN)=some false)
(kN:W.kitOne K (.ref aO) (.type "ValueError")=some true)
(Sj:W.nsIn K mainGlobals "str"=some none)
(Pz:W.nsIn K mainGlobals "bool"=some none)
(yG:W.excIn K ft [.type "ValueError",.type "Exception",.type "BaseException",.type "object"] "ValueError.__new__"=true)
(km:W.mroIn K aO (.ref ft)=some true)
(KH:L2.Mk K hZ bO):
 ∃fd:FuncData,(∀(s:Shared) (v:Value),BindsTo s fd ⟨[v],[]⟩ [("_law_script",v)])/\∀base:Heap,K.In base->base.Ns mainGlobals mg->L2.ij base mg->av l.prog w K mg base bb 11 fa fd ["_law_script"] (xV K 390 397 800):=by
 obtain ⟨aJ,_,F101⟩:=aW;cases dv.symm.trans (W.mg_of X G aJ);rwa[⟨_,F101.law,λbase KB _ BB=> ?_⟩];have T:L2.pz l.prog w K mg base h:=⟨X,G⟩;have Rz:=T.gl PF;have O0:=T.gl MA;have Ry:=T.gl PB;have Hx:=T.gl PD;have wO:=T.gl IW;have rF:=T.gl Er;have Hv:=T.gl En;have OZ:=T.gl Mv;have jj:=T.gl IU;have uM:=T.gl Pw;have nE:=T.gl Ms;have ff:=T.gl CJ;have K2:=T.gl IV;have fb:=T.gl IP;have dR:=T.gl Eo;have nF:=T.gl Mz;have O1:=T.gl MC;have wN:=T.gl IT;have wK:=T.gl IQ;have wL:=T.gl IR;have Bc:=T.gl MB;have rE:=T.gl Ep;have wM:=T.gl IS;have Ba:=T.gl Mu;have rD:=T.gl Em;have iT:=T.gl xy;have F37:=rH (x:="near") (qual:="near") (st:=eS) bu a3 a6
 have dH:=F37.binds (ps:=["cabins","waiting","rider","last"]) λ_ _ _ _ _ _ us hl=>match us,hl with|[_,_,_,_],_=>rfl
 have F38:=rH (x:="least") (qual:="least") (st:=cP) bl aV bo
 have d3:=F38.binds (ps:=["cabins","waiting","rider","last"]) λ_ _ _ _ _ _ us hl=>match us,hl with|[_,_,_,_],_=>rfl
 have F88:=rH (x:="ill_of") (qual:="ill_of") (st:=cu) bc bd bh
 have dG:=F88.binds (ps:=["text","house"]) λ_ _ _ _ _ _ us hl=>match us,hl with|[_,_],_=>rfl
 have R4:=Mm.cl;have Po:=IF.cl;have R1:=Ml.cl;have R3:=IE.cl;have LB:=xi.cl;have IA:=sI.cl;have Iz:=mf.cl;have Pm:=xh.cl;have aZ:=T.no Mr;have bE:=T.no Sm;have b7:=T.no Mq;have bt:=T.gl Es;have cJ:=T.no zH;have wq:=T.no Sk;have OI:=T.no Sr;have oG:=T.gl xw;have lJ:=T.no Px;have Hw:=T.gl Mw;have G5:=T.no Py;have DD:=T.no So;have fG:=T.gl xt;have Hu:=T.gl Mt;have lR:=T.gl va;have rG:=T.gl zI;have oE:=T.gl xu;have oH:=T.gl xx;have i7:∀H:L2.Hp,L2.aE K H z [.str "plain",.str "hasty",.str "slow"]:=λH=> .inr ⟨_,_,_,ac,rfl,rfl,L2.aR (by show 3<=1000000;decide),(.cons ⟨_,rfl⟩ (.cons ⟨_,rfl⟩ (.cons ⟨_,rfl⟩ .nil)))⟩;have nq:=T.no Sq;have oF:=T.gl xv;have jI:=T.gl sS;have lS:=T.gl vc;have Bb:=T.gl Mx;have Bt:∀H:L2.Hp,L2.aE K H ak [.str "free",.str "way"]:=λH=> .inr ⟨_,_,_,am,rfl,rfl,L2.aR (by show 2<=1000000;decide),(.cons ⟨_,rfl⟩ (.cons ⟨_,rfl⟩ .nil))⟩;have jH:=T.gl sR;have yL:=T.gl Et;have DC:=T.no Sn;have ib:=T.gl oZ;have eQ:∀H:L2.Hp,L2.aE K H j [.str "full",.str "idle",.str "away"]:=λH=> .inr ⟨_,_,_,J,rfl,rfl,L2.aR (by show 3<=1000000;decide),(.cons ⟨_,rfl⟩ (.cons ⟨_,rfl⟩ (.cons ⟨_,rfl⟩ .nil)))⟩;have OH:=T.no Sl;have aL:=T.no xp;have iQ:=T.no xq;have wn:=T.no Sj;have G6:=T.no Pz;have iU:L2.Ee K ft:=⟨_,_,yG,by decide+kernel⟩;have O6:L2.Ee K aO:=⟨_,_,wG,by decide+kernel⟩;have I:L2.pO K (.ref aO) ft true:=⟨aO,rfl,O6,km⟩;have zq:=T.cal' h1 λF=>Ou F;have py:=T.cal' h2 λF=>Oo F zq;have jp:=T.cal' h3 λF=>Gk F zq;have w4:=T.cal' h4 λF=>GQ F zq;have Ij:=T.cal' h5 λF=>GU F w4;have r9:=T.cal' h6 λF=>Dp F jp;have Cw:=T.cal' h7 λF=>Dr F aZ py;have Cv:=T.cal' h8 λF=>Dq F Cw;have zj:=T.cal' h9 λF=>AS F;have bN:=T.cal' c1 λF=>GJ F;have cm:=T.cal' dk λF=>GI F;have gN:=T.cal' dn λF=>N8 F;have uV:=T.cal' d9 λF=>Gp F bE cm r9;have oQ:=T.cal' cE λF=>GS F gN;have zm:=T.cal' eT λF=>Kr F bN py cm oQ;have Md:=T.cal' dQ λF=>Kf F bN uV Ij Cv w4 zj zm;have Cu:=T.cal' b9 λF=>AQ F bE bN cm;have zp:=T.cal' cH λF=>AT F bN;have cj:=T.cal' eW λF=>Ke F;have zc:=T.cal' dq λF=>AO F bE Cu zp cj;have gO:=T.cal' b4 λF=>Oe F gN;have sk:=T.cal' ci λF=>Kw F bE b7 bN gN gO;obtain ⟨e0,_,F23⟩:=eb;have aD:=T.ok (Kp F23);have G8:=T.mkc F23 OE Rz aD;have A1:=T.mkc F23 KG O0 aD;have G7:=T.mkc F23 OD Ry aD;have Bw:=T.mcal' aQ R4 aQ.1 λF=>GE F;have zA:=T.mcal' br Po br.1 λF=>GD F;have Bv:=T.mcal' bp R1 bp.1 λF=>Gz F;have zn:=T.cal' cX λF=>Dt F ax as az G8 A1 G7;have gf:=T.cal' ct λF=>Kj F;have jq:=T.cal' cI λF=>AN F;have zg:=T.cal' b2 λF=>Ds F;have zo:=T.cal' cZ λF=>Kx F cM bt py;have gk:=T.cal' c7 λF=>GM F;have lX:=T.cal' dh λF=>Rf F cM zo jp;have fJ:=T.cal' cf λF=>Ol F;have lV:=T.cal' eO λF=>Ki F cJ fJ;have jL:=T.cal' eq λF=>Ra F bE aZ bt fJ;have dI:=T.ok (Kl bu a3 (W.codeHd_of_K KB a0) BB wq OI bt lV);have Ii:L2.bf l.prog w K mg base _ "near" ["cabins","waiting","rider","last"] _:=⟨_,_,dI,dH,a6,T.gl ed⟩;have dt:=T.ok (GF bl aV (W.codeHd_of_K KB ba) BB wq bE bt lV);have Br:L2.bf l.prog w K mg base _ "least" ["cabins","waiting","rider","last"] _:=⟨_,_,dt,d3,bo,T.gl em⟩;have nU:=T.cal' cQ λF=>Gn F bt jL;have rW:=T.cal' dY λF=>Kc F;have nR:=T.cal' d6 λF=>GL F;have fB:=T.calX' ei λF=>Rc F;have zJ:=T.calX' cb λF=>Rg F bE oG jj wH uM nE ff fB rW nR;have kB:=zJ.calm;have Cy:=T.cal' cA λF=>GN (Pn:=390) (Pl:=397) F cM b7 bt gk;have ju:=T.cal' cg λF=>Du (Pn:=390) (Pl:=397) F cM lJ cJ bt Cy;have sd:=T.cal' cn λF=>Kn F cM bN;have uZ:=T.cal' c0 λF=>Oq F cM (HR Mm zF IF xm Ml zE Bw zA Bv) bE gf jq zg sk sd zn py cj;have oR:=T.cal' d8 λF=>Ot F cM gf jq Md zc;have gh:=T.cal' c8 λF=>Op F cM uZ cj oR;have bg:=T.cal' er λF=>Re F cM Hw py gh;have lK:=T.mkc' bT G2 K2 λF=>Gx F lJ;have jr:=T.cal' ef λF=>Oa F cM b7;have oN:=T.cal' dB λF=>Do F;have rZ:=T.cal' cv λF=>Gw F bE;have rY:=T.cal' d2 λF=>Gv F oN;have r6:=T.cal' dC λF=>Kk F rY rZ;have za:=T.cal' d5 λF=>Kh F;have fI:=T.cal' ec λF=>Od F G5 za r6;have jb:=T.mcal' bJ IB bJ.1 λF=>Go (Pn:=390) (Pl:=397) F cM bE aZ fI lK lX ju bg jr;have wY:=T.cal' ea λF=>Gr F;have ze:=T.cal' ee λF=>AR F;have uW:=T.cal' df λF=>yr F;have ie:=T.cal' cG λF=>Gu F;have zd:=T.cal' cY λF=>Dl F;have sF:=T.mcal' aI R3 aI.1 λF=>Gm F wY;have me:=T.mcal' bK LB bK.1 λF=>AM F wY;have jP:=T.mcal' bG IA bG.1 λF=>yq F ze;have jO:=T.mcal' bw Iz bw.1 λF=>yp F uW;have oV:=T.mcal' a2 Pm a2.1 λF=>Dj F ie;have rb:=T.mkc' b6 Dz Hv λF=>Gs F;have A0:=T.mkc' bV KD OZ λF=>Gq F bE DD fG Hu fb ji;have nV:=T.cal' bP λF=>Ow (k:=⟨jy,cU,b0,bU,eG⟩) F aZ (FU sF me jP jO oV IE u9 jR xi oY ik sI mm gq mf gU eg xh kG fz) fG zd;have Eu:=T.calX' dc λF=>Dm (k:=⟨jy,cU,b0,bU,eG⟩) F bE (.mk mf gU eg) (.mk xh kG fz) Hx wO rF GY wk qZ rb A0 lR fb ji;have iY:=Eu.calm;have sj:=T.cal' et λF=>Kv F rG oE oH i7;have oS:=T.cal' eU λF=>Kt F bE nq oF sj;have lW:=T.cal' cq λF=>GK F zq py;have xz:=T.calX' bY λF=>Km F b7 dR gb jI lS Bb Bt oS lW;have iZ:=xz.calm;have A2:=T.mkc' dm KH O1 λF=>GP F;have u3:=T.cal' c9 λF=>Os F;have gP:=T.mcal' aH IB aH.1 λF=>GR F bE b7 u3;have iX:=T.cal' eK λF=>Q8 F bE nq jH yL;have rX:=T.cal' ce λF=>Oc F DC iX;have si:=T.cal' c2 λF=>Ku F bE ib eQ;have jS:=T.calX' b3 λF=>Rb F nF wG rX si;have zh:=T.cal' cy λF=>On F;have zi:=T.cal' c4 λF=>Ov F;have nQ:=T.cal' dJ λF=>GH F bE DD gf zh zi;have dZ:=T.ok (Om (Pn:=390) (Pl:=397) @b @b bc bd (W.codeHd_of_K KB bz) BB jS);have vd:L2.uk l.prog w K mg base _ "ill_of" ["text","house"] _:=⟨_,_,dZ,dG,bh,T.gl cN⟩;have bC:=T.cal' dM λF=>Tj F bE;have sh:=T.cal' d7 λF=>Kq F aZ bC iZ;have uY:=T.cal' ep λF=>Ob (k:=⟨jy,cU,b0,bU,eG⟩) F aZ bC iY nV;have zf:=T.cal' c3 λF=>Q9 F aZ bC;have i6:=T.cal' cc λF=>N9 F aZ OH wq bE cC gP jb bC zf;have ai:=T.calH' dL λF=>Dn F an aL aZ iQ dR fb jj wN wK nF wL Bc rE wM Ba rD pV sU tE tD sV vk sW vm pW tm vj pU kN;have oP:=T.cal' el λF=>Ko F bE DC;have nO:=T.cal' eR λF=>Gy F bE oP;have wZ:=T.cal' dw λF=>Of F bE;have uX:=T.cal' bS λF=>Oh F bE aZ wn bC;have oO:=T.cal' cF λF=>Oi F bE wn bC;have se:=T.cal' bH λF=>Oj F nq aL G6 iT iU I nQ vd ai nO wZ;exact Og (Pn:=390) (Pl:=397) (k:=⟨jy,cU,b0,bU,eG⟩) @b @b @b F101 (FU sF me jP jO oV IE u9 jR xi oY ik sI mm gq mf gU eg xh kG fz) aZ cC A2 uM nE ff Ii Br nU kB bC sh uY i6 uX oO se
theorem Su {l:PySem.W.OpenLaw}{q:Program}{j:List Str}{J:(Str->Option Value)->Heap->Prop}{I:World->Heap->Prop}{d:DefRec}{K:Params->Fg}(O:l.most=some 63)(Z:d.params.defaults=[])
(S:∀(w:World) (h:Heap),I w h->(K w.params).In h/\∀t∈([(394,390),(399,397),(802,800)]:List (Addr×Addr)),h.get? t.2=some (W.tabObj #[]))(am:∀w:World,W.noTabs @ca=true)(G:∀w:World,∀t∈([(394,390),(399,397),(802,800)]:List (Addr×Addr)),W.codeHdIn @ca t.1 t.2=true)
(F:∀(w:World) (mg:Str->Option Value) (fa:Addr) (h:Heap),(K w.params).In h->h.Ns mainGlobals mg->mg d.name=some (.ref fa)->
   ∃fd:FuncData,(∀(s:Shared) (u:Value),BindsTo s fd ⟨[u],[]⟩ [("_law_script",u)])/\∀base:Heap,(K w.params).In base->base.Ns mainGlobals mg->L2.ij base mg->av l.prog w @ca mg base bb 11 fa fd ["_law_script"] (xV @ca 390 397 800)):
 PySem.W.WalkO q j J I l.row.toRowW d [] @de:=
 L2.EB (tabs:=λ_=>[(394,390),(399,397),(802,800)]) (n:=63) (k:=11) (x:="_law_script") (CX:=λ_=>bb) (sp:=λw=>xV @ca 390 397 800) O @b Z ⟨rfl,by decide,by decide⟩ S am G F (λ_ _ a ns R Y hT U=>Hg U R Y hT) λ_ _ _ _ _ z=>z
end My
open PySem PySem.W PyProof.Rows
local macro_rules | `(tactic| walk_at "l3t") => `(tactic| first | (refine' L2.Rj ?_ ?_ ?_ ?_; all_goals try k_is) | (refine' L2.Ro ?_ ?_ ?_ ?_ ?_; all_goals try k_is) | k_is | kernel_rfl | (refine L2.Uj ?_; constructor <;> walk_at "l3t"))
set_option maxRecDepth 100000 in
set_option maxHeartbeats 0 in
theorem PySem.Challenge.cw_liftcourt_k63_ills_holds : PySem.Challenge.rw_liftcourt_k63_ills.Holds := by
 w_on;o_law;k_head;(case hw=>w_witness2)
 k_fill
 rwa[My.Su (l:=PySem.Challenge.rw_liftcourt_k63_ills) rfl rfl (λw h Y=>⟨PySem.W.km_in_of Y,λt J=>PySem.W.km_tabs_of Y _ (by simp only [mem_cons,not_mem_nil,or_false] at J;rcases J with rfl|rfl|rfl<;>decide)⟩) ?lnt ?lhc ?F]
 (case lnt=>intro w;kernel_rfl)
 (case lhc=>intro w t J;simp only [mem_cons,not_mem_nil,or_false] at J;rcases J with rfl|rfl|rfl<;>kernel_rfl)
 case F=>
  intro w mg z h j G U;refine' My.Pb j G U ?_ ?_ ?_ ?_ ?_ ?_ ?_ ?_ ?_ ?_ ?_ ?_ ?_ ?_ ?_ ?_ ?_ ?_ ?_ ?_ ?_ ?_ ?_ ?_ ?_ ?_ ?_ ?_ ?_ ?_ ?_ ?_ ?_ ?_ ?_ ?_ ?_ ?_ ?_ ?_ ?_ ?_ ?_ ?_ ?_ ?_ ?_ ?_ ?_ ?_ ?_ ?_ ?_ ?_ ?_ ?_ ?_ ?_ ?_ ?_ ?_ ?_ ?_ ?_ ?_ ?_ ?_ ?_ ?_ ?_ ?_ ?_ ?_ ?_ ?_ ?_ ?_ ?_ ?_ ?_ ?_ ?_ ?_ ?_ ?_ ?_ ?_ ?_ ?_ ?_ ?_ ?_ ?_ ?_ ?_ ?_ ?_ ?_ ?_ ?_ ?_ ?_ ?_ ?_ ?_ ?_ ?_ ?_ ?_ ?_ ?_ ?_ ?_ ?_ ?_ ?_ ?_ ?_ ?_ ?_ ?_ ?_ ?_ ?_ ?_ ?_ ?_ ?_ ?_ ?_ ?_ ?_ ?_ ?_ ?_ ?_ ?_ ?_ ?_ ?_ ?_ ?_ ?_ ?_ ?_ ?_ ?_ ?_ ?_ ?_ ?_ ?_ ?_ ?_ ?_ ?_ ?_ ?_ ?_ ?_ ?_ ?_ ?_ ?_ ?_ ?_ ?_ ?_ ?_ ?_ ?_ ?_ ?_ ?_ ?_ ?_ ?_ ?_ ?_ ?_ ?_ ?_ ?_ ?_ ?_ ?_ ?_ ?_ ?_ ?_ ?_ ?_ ?_ ?_ ?_ ?_ ?_ ?_ ?_ ?_ ?_ ?_ ?_ ?_ ?_ ?_ ?_ ?_ ?_ ?_ ?_ ?_ ?_ ?_ ?_ ?_ ?_ ?_ ?_ ?_ ?_ ?_ ?_ ?_ ?_ ?_ ?_ ?_ ?_ ?_ ?_
  all_goals try walk_at "l3t"
