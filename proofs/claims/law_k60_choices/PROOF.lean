import PyProof.Rows.All
import Wide.All
import OpenK.AllK
import Wide.FinOn
import Lean
import PyProof.EqAt
import PyProof.EqKinds
import PyProof.TupleCall
import KE.LcSums
import KE.KIntText
import KE.IntTextLaws
import KE.KRevIter
import PyProof.NeKinds
import PyProof.Rows.Range3
import KE.KMinKey
import PyProof.Draws
import PyProof.EnumMake
import PyProof.Rows.EnumRows
import KE.KCount
import PyProof.IsiH_list
import PySem.Challenge.RW_liftcourt_k60_choices
set_option Elab.async false
set_option linter.all false
set_option maxRecDepth 100000
set_option maxHeartbeats 4000000
namespace PySem.W.Fast
def tw16426627432830650707:=()
def tw12181247876442097353:=()
def tw17023525046943878100:=()
def tw16894175424690136754:=()
def tw10624414481927501054:=()
def tw3092135363162285727:=()
def tw11761042641903682817:=()
def tw8302248412945581371:=()
def tw1698625257497410067:=()
def tw3428525189067354260:=()
def tw10427066117647359403:=()
def tw18161639562088803319:=()
def tw16314562617406565701:=()
def tw11506204649970691110:=()
def tw1857203724554193226:=()
def tw14002691622326518508:=()
def tw11860432761447411660:=()
def tw10237262148207381135:=()
def tw12342265292743986051:=()
def tw6888815130178183141:=()
def tw10456132514924526142:=()
def tw5190133908491664614:=()
def tw8081978669857274371:=()
def tw17621742901510437681:=()
def tw11824067261977281850:=()
def tw3065747223327508737:=()
def tw18286044650409682710:=()
def tw4415228544941240210:=()
def tw3675512363527348250:=()
def tw3573770737821329960:=()
def tw8469207395252793647:=()
def tw8382063494246816104:=()
def tw5566673299856413316:=()
def tw9075223394318418823:=()
def tw2558834556483277521:=()
def tw15533593120861371059:=()
def tw17317729637036495460:=()
def tw160662942449797070:=()
def tw10109991137967248635:=()
def tw14167123997915907306:=()
def tw11533519402703187897:=()
def tw12871164861784218386:=()
def tw1372566616158790039:=()
def tw9925641359792337651:=()
def tw11673795520473825432:=()
def tw13675893976538675055:=()
def tw14037358047850283796:=()
def tw507092442736258727:=()
def tw8391466202531005685:=()
def tw14291114465298918491:=()
def tw12996361441679875964:=()
def tw3323979762119688688:=()
def tw13754514668788069668:=()
def tw15711684875448600208:=()
def tw9249782938762953158:=()
def tw8981767878955297639:=()
def tw3137775882891436782:=()
def tw17674439598344625563:=()
def tw13654383060874507889:=()
def tw5147534538291036271:=()
def tw1177944900486712172:=()
def tw14356385862088869823:=()
def tw3687941516223450561:=()
def tw13730359631130824024:=()
def tw11200325747280300649:=()
def tw3773524863123282204:=()
def tw18403612724000188103:=()
def tw4971342975753107474:=()
def tw13538449548506671052:=()
def tw267074120124903696:=()
def tw4821534508884102203:=()
def tw3826056386951784562:=()
def tw4287051743421740834:=()
def tw8604015301569873585:=()
def tw17874137356893406876:=()
def tw3268668566823065936:=()
def tw17398058578781557772:=()
def tw8026600916941519897:=()
def tw14136607727870285627:=()
def tw14088614290591102756:=()
def tw2625598878896932785:=()
def tw7062534474656797393:=()
def tw1711487302439498455:=()
def tw3064577296266553265:=()
def tw17204952660449370000:=()
def tw11278008372604057464:=()
def tw16260042833818181972:=()
def tw11548517777969598275:=()
def tw7744706654028496442:=()
def tw1395544385385324942:=()
def tw12223462831622541418:=()
def tw6331417360353313823:=()
def tw1013093686707074761:=()
def tw671290369951177370:=()
def tw12589077570523519317:=()
def tw15262876734928161472:=()
def tw5320478052813805036:=()
def tw11069986792154394966:=()
def tw1233466134820601566:=()
def tw5207874158345803234:=()
def tw645379128794115024:=()
def tw7185517148912148438:=()
def tw17308759768874949156:=()
def tw12600179125881158232:=()
def tw11646132189256998023:=()
def tw17536522038214412279:=()
def tw479140215669715815:=()
def tw6001326285589437826:=()
def tw5612113082780334177:=()
def tw3550966091287500090:=()
def tw15326235005999751398:=()
def tw7983639340896105675:=()
def tw11548253285878292844:=()
def tw7544653349384302910:=()
def tw17380759385954872797:=()
def tw18230856603345781653:=()
def tw15971674981454527555:=()
def tw7995749727132922778:=()
def tw12751942212123043441:=()
def tw16495137268387009151:=()
def tw1537825243953594828:=()
def tw6358714974041921484:=()
def tw7041981179164082287:=()
def tw16499880943919885470:=()
def tw15983025771293806624:=()
def tw3337162634373619524:=()
def tw6193002920429351503:=()
def tw16247985395580454539:=()
def tw14567178197823466223:=()
def tw12086917133174677326:=()
def tw9550146432369877090:=()
def tw11681558356790644466:=()
def tw2012387823884418200:=()
def tw427331371231049969:=()
def tw12144915465872809035:=()
def tw11771962914496743072:=()
def tw2771971594702586616:=()
def tw13184576034863279397:=()
def tw15370142922538137165:=()
def tw15389001870907486631:=()
def tw3404260898137980237:=()
def tw2816034766480701267:=()
def tw11531772859673711581:=()
def tw4058268703106288755:=()
def tw5497299127813177607:=()
def tw10999781293173027200:=()
def tw273762248108393276:=()
def tw3303144712444282761:=()
def tw18158186758377726670:=()
def tw12985573178723582020:=()
def tw15212793249550216193:=()
def tw10036504754850261962:=()
def tw7544110854425206240:=()
def tw7254650670483047557:=()
def tw9811553491733407108:=()
def tw9883820193921224238:=()
def tw15892821971683817661:=()
def tw17374543809038877167:=()
def tw2367535744189820580:=()
def tw1814688532122017764:=()
def tw3110622982121969905:=()
def tw9942088563008584279:=()
def tw4255550300173745308:=()
def tw5098870434111230160:=()
def tw12135609255899812694:=()
def tw793034038107369243:=()
def tw11958832331622695036:=()
def tw13459117695774341885:=()
def tw7511653194199819709:=()
def tw2239865813327923058:=()
def tw8893081858814385460:=()
def tw15115292547450944808:=()
def tw12099611046625376309:=()
def tw4102354450834138155:=()
def tw7683352093393113810:=()
def tw6007079118796001269:=()
def tw1496195013008110029:=()
def tw16343670912543016140:=()
def tw5721885462483626267:=()
def tw2540447085446145264:=()
def tw14584001002515000277:=()
def tw6829140245542503116:=()
def tw16397075730571182736:=()
def tw9300550837541124998:=()
def tw11088020488045102844:=()
def tw4701640904279319638:=()
def tw16371125869647937671:=()
def tw13238931123257991923:=()
def tw7049130759975843636:=()
def tw13622710701564148270:=()
def tw1927855064357486986:=()
def tw10579694104401327409:=()
def tw14232574891878182832:=()
def tw13005590860062906430:=()
def tw9764264361533253311:=()
def tw4215431808621600398:=()
def tw10738410038134060625:=()
def tw10501737659433403888:=()
def tw6433111136168891856:=()
def tw10291869869910916157:=()
def tw8435698681274836630:=()
def tw1228160868904739783:=()
def tw6944408256704410416:=()
def tw3201377316432746220:=()
def tw14201426831341800348:=()
def tw15665897467315478684:=()
def tw4646569889032385366:=()
def tw12192066332866916230:=()
def tw1446349688694731830:=()
def tw17651864115532363539:=()
def tw1201379092896186158:=()
def tw3826698192394308827:=()
def tw7719236028099866873:=()
def tw2912938264864294636:=()
def tw2289853637550269974:=()
def tw11569182352569166034:=()
def tw1023061297184022673:=()
def tw14118618312745016098:=()
def tw730112666282129202:=()
def tw8785026660275264931:=()
def tw2034879662260199467:=()
def tw4946325256622467872:=()
def tw17759551290530580627:=()
def tw8349469054777164814:=()
def tw1599550195130404690:=()
def tw10359500672815105940:=()
def tw11518234559754758786:=()
def tw1088836542427380750:=()
def tw14369196903659276386:=()
def tw389624909974645936:=()
end PySem.W.Fast
abbrev Fg:=PySem.W.Frag
local macro_rules|`(tactic|ext)=>`(tactic|conv=>whnf)
local macro_rules|`(tactic|rwa[$x:term])=>`(tactic|refine $x)
local macro_rules|`(tactic|erw[$x:term])=>`(tactic|(refine $x;conv=>whnf))
local macro_rules|`(tactic|left)=>`(tactic|walk_at "l3go")
set_option hygiene false in
local macro_rules
|`(↑0)=>`(⟨rfl,rfl,rfl,by decide+kernel,rfl,by decide+kernel,by decide+kernel⟩)
|`(↑1)=>`((λcdv A outer s H vs Q E hr h=> ?_))
|`(↑2)=>`((by decide))
|`(↑3)=>`((aB (K:=K) rfl))
|`(↑4)=>`((λvs H Q E h=> ?_))
|`(↑5)=>`((λ_ _=>rfl))
|`(↑6)=>`((by omega))
|`(↑7)=>`((Or.inl rfl))
|`(↑8)=>`((model X.prog X.w))
|`(↑9)=>`((show List.Nodup (["tag","start","goal","lift"]:List Str) by decide+kernel))
|`(↑10)=>`((aM (K:=K) rfl hr))
|`(↑11)=>`((aJ (K:=K) rfl (wv 0)))
|`(↑12)=>`((ao ↑3 (wv 1) aa ↑5))
|`(↑13)=>`((Nat.le_refl _))
|`(↑14)=>`((Addr×Obj))
|`(↑15)=>`((by rw [hx];decide+kernel))
|`(↑16)=>`((ao ↑3 (wv 0) aa ↑5))
|`(↑17)=>`((by simp))
|`(↑18)=>`((λC s H ex=>(dE (K:=K) (n:=4) rfl rfl (aE (az (i:=0) ↑9 rfl ↑7) (aE (az (i:=1) ↑9 rfl ↑7) (aE (az (i:=2) ↑9 rfl ↑7) (aE (az (i:=3) ↑9 rfl ↑7) cA)))))))
|`(↑19)=>`((ae (wv 1) ac))
|`(↑20)=>`((ao ↑3 (wv 2) aa ↑5))
|`(↑21)=>`(⟨⟨xs,xs[i],hx i ys H hi p,by simp [hlt]⟩,by omega,Pv (i+1),λzs H' p'=>⟨xs.length - (i+1),by omega,rfl,hlt,p'⟩,λx H' y=> ?_⟩)
|`(↑22)=>`((λj us HX h=>by rw [h.2,List.length_map,List.length_map,List.length_take];exact Nat.min_le_left _ _))
|`(↑23)=>`((bx (by show 2<=1000000;decide)))
|`(↑24)=>`((s.heap.objs.size+1))
|`(↑25)=>`((bd (K:=K) rfl))
|`(↑26)=>`((aj aT hr ↑2 rfl (ae (wv 0) (ae aa (ae aa ac)))))
|`(↑27)=>`((x==("__debug__":Str)))
|`(↑28)=>`((λ_ z=>by cases z))
|`(↑29)=>`((some (.builtin "object.__setattr__")))
namespace L2
open PySem PySem.Spec PyProof.Rows
abbrev dQ:=Sum Int Str
def uL:dQ->Value->Bool
 | .inl k,v=>Value.isInt k v
 | .inr x,v=>Value.isStrOf x v
def Qs (w:World):dQ->Int
 | .inl k=>hashInt k
 | .inr x=>hashStr w x
theorem b7:∀ {k:dQ} {v:Value},uL k v=true->(∃i t,k=Sum.inl i/\v=Value.int i t)\/(∃x t,k=Sum.inr x/\v=Value.str x t)
 | .inl i,v,h=>by
   obtain ⟨t,e⟩:=Value.isInt_shape (k:=i) (v:=v) h;exact .inl ⟨i,t,rfl,e⟩
 | .inr x,v,h=>by
   obtain ⟨t,e⟩:=Value.isStrOf_shape (x:=x) (v:=v) h;exact .inr ⟨x,t,rfl,e⟩
theorem Cn (i:Int)(t:Tok):uL (.inl i) (.int i t)=true:=by simp [uL,Value.isInt]
theorem Cm (x:Str)(t:Tok):uL (.inr x) (.str x t)=true:=by simp [uL,Value.isStrOf]
theorem Ma (a b:Int):decide ((Sum.inl a:dQ)=Sum.inl b)=(a==b):=by
 by_cases e:a=b
 ·subst e;simp
 ·have h: ¬(Sum.inl a:dQ)=Sum.inl b:=λq=>e (Sum.inl.inj q);rw [decide_eq_false h];exact (beq_eq_false_iff_ne.mpr e).symm
theorem L7 (a b:Str):decide ((Sum.inr a:dQ)=Sum.inr b)=decide (a=b):=by
 by_cases e:a=b
 ·subst e;simp
 ·have h: ¬(Sum.inr a:dQ)=Sum.inr b:=λq=>e (Sum.inr.inj q);rw [decide_eq_false h,decide_eq_false e]
theorem L9 (a:Int)(b:Str):decide ((Sum.inl a:dQ)=Sum.inr b)=false:=decide_eq_false (λq=>nomatch q)
theorem L8 (a:Str)(b:Int):decide ((Sum.inr a:dQ)=Sum.inl b)=false:=decide_eq_false (λq=>nomatch q)
def cG (prog:Program)(w:World):PySem.KeyKind prog w dQ where
 is:=uL
 hash:=Qs w
 inj:=λv a b ha hb=>by
  rcases b7 ha with ⟨i,t,rfl,rfl⟩|⟨x,t,rfl,rfl⟩
  ·rcases b7 hb with ⟨j,u,rfl,e⟩|⟨y,u,rfl,e⟩
   ·injection e with e1 _;rw [e1]
   ·exact nomatch e
  ·rcases b7 hb with ⟨j,u,rfl,e⟩|⟨y,u,rfl,e⟩
   ·exact nomatch e
   ·injection e with e1 _;rw [e1]
 byValue:=λk v h=>by
  rcases b7 h with ⟨i,t,rfl,rfl⟩|⟨x,t,rfl,rfl⟩<;>rfl
 pyHash:=λhv h=>by
  rcases b7 hv with ⟨i,t,rfl,rfl⟩|⟨x,t,rfl,rfl⟩
  ·exact wpAny_pyHash_int h
  ·exact wpAny_pyHash_str h
 eqBool:=λhu hv h=>by
  rcases b7 hu with ⟨i,t,rfl,rfl⟩|⟨x,t,rfl,rfl⟩
  ·rcases b7 hv with ⟨j,u,rfl,rfl⟩|⟨y,u,rfl,rfl⟩
   ·rw [Ma] at h;exact wpAny_eqBool_int h
   ·rw [L9] at h;exact SeqAt.EqAt.int_str i t y u _ _ _ _ h
  ·rcases b7 hv with ⟨j,u,rfl,rfl⟩|⟨y,u,rfl,rfl⟩
   ·rw [L8] at h;exact SeqAt.EqAt.str_int x t j u _ _ _ _ h
   ·rw [L7] at h;exact wpAny_eqBool_str h
 «strs»:=λk x t v h=>by
  rcases b7 h with ⟨i,u,rfl,e⟩|⟨y,u,rfl,e⟩
  ·exact nomatch e
  ·injection e with e1 _
   subst e1
   cases v<;>rfl
theorem yq (prog:Program)(w:World)(i:Int)(t:Tok):(cG prog w).is (.inl i) (.int i t)=true:=Cn i t
theorem yp (prog:Program)(w:World)(x:Str)(t:Tok):(cG prog w).is (.inr x) (.str x t)=true:=Cm x t
inductive V where
 |non|bl (b:Bool)|int (i:Int)|str (x:Str)|byt (b:Array UInt8)|flt (b:UInt64)|ref (a:Addr)|ty (n:String)
 deriving DecidableEq
def aQ:V->Value->Prop
 | .non,u=>u=Value.none
 | .bl b,u=>u=Value.bool b
 | .int i,u=>∃t,u=Value.int i t
 | .str x,u=>∃t,u=Value.str x t
 | .byt b,u=>∃t,u=Value.bytes b t
 | .flt b,u=>∃t,u=Value.float b t
 | .ref a,u=>u=Value.ref a
 | .ty n,u=>u=Value.type n
abbrev aY:List V->List Value->Prop:=Paired aQ
theorem aY.length {xs:List V}{us:List Value}(r:aY xs us):xs.length=us.length:=Paired.length r
theorem aY.get:∀ {xs:List V} {us:List Value} {i:Nat} {x:V},aY xs us->xs[i]? =some x->∃u,us[i]? =some u/\aQ x u
 |_,_,_,_,.nil,e=>by simp at e
 |_,_,0,_,.cons r _,e=>by simp at e;subst e;exact ⟨_,rfl,r⟩
 |_,_,i+1,x,.cons _ t,e=>by
  obtain ⟨u,h1,h2⟩:=aY.get (i:=i) (x:=x) t (by simpa using e);exact ⟨u,by simpa using h1,h2⟩
theorem aY.set {x:V}{u:Value}(r:aQ x u):∀ {xs:List V} {us:List Value} (i:Nat),aY xs us->aY (xs.set i x) (us.set i u)
 |_,_,_,.nil=> .nil
 |_,_,0,.cons _ t=> .cons r t
 |_,_,i+1,.cons q t=> .cons q (aY.set r i t)
theorem aY.append:∀ {xs ys:List V} {us ws:List Value},aY xs us->aY ys ws->aY (xs++ys) (us++ws)
 |_,_,_,_,.nil,s=>s
 |_,_,_,_,.cons r t,s=> .cons r (aY.append t s)
theorem aY.take:∀ {xs:List V} {us:List Value} (n:Nat),aY xs us->aY (xs.take n) (us.take n)
 |_,_,0,_=> .nil
 |_,_,_+1,.nil=> .nil
 |_,_,n+1,.cons r t=> .cons r (aY.take n t)
theorem aY.drop:∀ {xs:List V} {us:List Value} (n:Nat),aY xs us->aY (xs.drop n) (us.drop n)
 |_,_,0,r=>r
 |_,_,_+1,.nil=> .nil
 |_,_,n+1,.cons _ t=>aY.drop n t
def lQ:Option V->Option Value->Prop
 |some v,some u=>aQ v u
 |none,none=>True
 |_,_=>False
def KV {κ:Type}:List (κ×V)->List (κ×Value)->Prop:=Paired λ(p:κ×V) (q:κ×Value)=>p.1=q.1/\aQ p.2 q.2
def kV:dQ->V
 | .inl i=> .int i
 | .inr x=> .str x
inductive HO where
 |lst (xs:List V)
 |tup (xs:List V)
 |dK (kvs:List (dQ×V))|dT (kvs:List (List dQ×V))
 |set (S:Int->Bool) (n:Nat)
 |ins (C dx:Addr) (fs:List (Str×V))
 |own (x:Addr)
 |xd (fs:List (Str×V))
 |met (f x:Addr)
 |rng (lo hi:Int)
 |frz (o:Obj) (u:HO)
 |tbl (ps:Array Value)
 |ext (φ:Heap->Prop)
abbrev Hp:=Addr->Option HO
def upd (H:Hp)(a:Addr)(o:HO):Hp:=λb=>if b=a then some o else H b
theorem ak {H:Hp}{a:Addr}{o:HO}:upd H a o a=some o:=by unfold upd;rw [if_pos rfl]
theorem ap {H:Hp}{a b:Addr}{o:HO}(h:b≠a):upd H a o b=H b:=by unfold upd;rw [if_neg h]
theorem AF {H:Hp}{a:Addr}{o u:HO}:upd (upd H a o) a u=upd H a u:=by
 funext b;unfold upd;split<;>rfl
theorem Ol {H:Hp}{a b:Addr}{o u:HO}(h:H a=some o)(h':H b=some u)(d:o≠u):a≠b:=by
 intro e;subst e;rw [h] at h';exact d (Option.some.inj h')
theorem bC {H:Hp}{a b:Addr}{o:HO}(h:H a=some o)(h':H b=none):a≠b:=by
 intro e;subst e;rw [h] at h';cases h'
section
variable (P:Program)(w:World)
def bE (H:Hp)(h:Heap)(a:Addr):HO->Prop
 | .lst xs=>xs.length<=sizeLine/\∃(its:List Value) (n:Nat),aY xs its/\h.get? a=some {cls:= .type "list",data:= .seq its.toArray n}
 | .tup xs=>xs.length<=sizeLine/\∃its:List Value,aY xs its/\IsTup h a its.toArray
 | .dK kvs=>kvs.length<=sizeLine/\(a==sysModules)=false/\∃vs,KV kvs vs/\h.DictOf (cG P w) a vs
 | .dT kvs=>kvs.length<=sizeLine/\(a==sysModules)=false/\∃xs:List (List dQ×Addr×Value),
    Paired (λ(p:List dQ×V) (q:List dQ×Addr×Value)=>p.1=q.1/\H q.2.1=some (.tup (p.1.map kV))/\aQ p.2 q.2.2) kvs xs/\
    ∃o es ep,h.get? a=some o/\o.ExactDict/\o.data= .dict es ep/\es.toList=xs.map (entryOfKey (tupleKind (cG P w)))/\(xs.map (·.1)).Nodup
 | .set S n=>h.SetOf (intKind P w) a S n
 | .ins C dx fs=>H dx=some (.own a)/\fs.length<=1000/\dx≠a/\h.get? a=some (W.instObj C dx)/\
    ∃mA,h.Ns1 dx mA/\(∀f,lQ (fs.lookup f) (mA f))/\PySem.Within mA (fs.map (·.1))
 | .own _=>∃o,h.get? a=some o
 | .xd fs=>∃mA,h.Ns1 a mA/\∀f,lQ (fs.lookup f) (mA f)
 | .rng lo hi=>∃t u v,h.get? a=some {cls:= .type "range",data:= .fields #[.int lo t,.int hi u,.int 1 v]}
 | .frz o u=>h.get? a=some o/\bE H h a u
 | .tbl ps=>h.get? a=some {cls:= .none,data:= .fields ps}
 | .met f x=>h.get? a=some (W.methodObj (.ref f) (.ref x))
 | .ext φ=>φ h/\(∃o,h.get? a=some o)/\∀h1 h2:Heap,φ h1->(∀o,h1.get? a=some o->h2.get? a=some o)->φ h2
def gd (H:Hp)(h:Heap):Prop:=∀a o,H a=some o->bE P w H h a o
end
section
variable {P:Program}{w:World}{H H':Hp}{h h':Heap}{a:Addr}{o:HO}
theorem bE.lt (x:bE P w H h a o):a<h.objs.size:=by
 cases o with
 |lst xs=>obtain ⟨_,_,_,_,e⟩:=x;exact Heap.lt_size e
 |tup xs=>obtain ⟨_,_,_,p⟩:=x;exact p.lt
 |dK kvs=>obtain ⟨_,_,_,_,o,_,_,e,_⟩:=x;exact Heap.lt_size e
 |dT kvs=>obtain ⟨_,_,_,_,o,_,_,e,_⟩:=x;exact Heap.lt_size e
 |set S n=>obtain ⟨o,_,_,_,e,_⟩:=x;exact Heap.lt_size e
 |ins C dx fs=>obtain ⟨_,_,_,e,_⟩:=x;exact Heap.lt_size e
 |own y=>obtain ⟨_,e⟩:=x;exact Heap.lt_size e
 |xd fs=>obtain ⟨_,⟨_,_,_,e,_⟩,_⟩:=x;exact Heap.lt_size e
 |rng lo hi=>obtain ⟨_,_,_,e⟩:=x;exact Heap.lt_size e
 |frz ob u=>obtain ⟨e,_⟩:=x;exact Heap.lt_size e
 |tbl ps=>exact Heap.lt_size (show h.get? a=some _ from x)
 |met f y=>exact Heap.lt_size (show h.get? a=some _ from x)
 |ext φ=>obtain ⟨_,⟨_,e⟩,_⟩:=x;exact Heap.lt_size e
theorem Paired.mapP {α β:Type}{F G:α->β->Prop}:∀ {l₁:List α} {l₂:List β},Paired F l₁ l₂->(∀a b,F a b->G a b)->Paired G l₁ l₂
 |_,_,.nil,_=> .nil
 |_,_,.cons r t,f=> .cons (f _ _ r) (Paired.mapP t f)
theorem Paired.imp' {α β:Type}{F G:α->β->Prop}(f:∀a b,F a b->G a b){l₁:List α}{l₂:List β}(r:Paired F l₁ l₂):Paired G l₁ l₂:=Paired.mapP r f
theorem bE.stay (x:bE P w H h a o)(k:∀b u,(b=a\/H b=some (.own a))->h.get? b=some u->h'.get? b=some u)
(ho:∀b,H b=some (.own a)->H' b=some (.own a))(ht:∀b xs,H b=some (.tup xs)->H' b=some (.tup xs)):bE P w H' h' a o:=by
 induction o with
 |lst xs=>obtain ⟨z,its,n,r,e⟩:=x;exact ⟨z,its,n,r,k _ _ (.inl rfl) e⟩
 |tup xs=>obtain ⟨z,its,r,ob,e,c⟩:=x;exact ⟨z,its,r,ob,k _ _ (.inl rfl) e,c⟩
 |dK kvs=>obtain ⟨z,y,vs,r,ob,es,ep,e,c⟩:=x;exact ⟨z,y,vs,r,ob,es,ep,k _ _ (.inl rfl) e,c⟩
 |dT kvs=>
  obtain ⟨z,y,xs,r,ob,es,ep,e,c⟩:=x;exact ⟨z,y,xs,Paired.mapP r λp q z=>⟨z.1,ht _ _ z.2.1,z.2.2⟩,ob,es,ep,k _ _ (.inl rfl) e,c⟩
 |set S n=>obtain ⟨ob,es,ep,t,e,c⟩:=x;exact ⟨ob,es,ep,t,k _ _ (.inl rfl) e,c⟩
 |ins C dx fs=>
  obtain ⟨d,z,ne,e,mA,⟨od,es,ep,e2,c⟩,r⟩:=x;exact ⟨ho _ d,z,ne,k _ _ (.inl rfl) e,mA,⟨od,es,ep,k _ _ (.inr d) e2,c⟩,r⟩
 |own y=>obtain ⟨ob,e⟩:=x;exact ⟨ob,k _ _ (.inl rfl) e⟩
 |xd fs=>obtain ⟨mA,⟨od,es,ep,e,c⟩,r⟩:=x;exact ⟨mA,⟨od,es,ep,k _ _ (.inl rfl) e,c⟩,r⟩
 |rng lo hi=>obtain ⟨t,u,v,e⟩:=x;exact ⟨t,u,v,k _ _ (.inl rfl) e⟩
 |frz ob u ih=>obtain ⟨e,q⟩:=x;exact ⟨k _ _ (.inl rfl) e,ih q⟩
 |tbl ps=>
  have e:h.get? a=some {cls:= .none,data:= .fields ps}:=x;show h'.get? a=some {cls:= .none,data:= .fields ps};exact k a _ (.inl rfl) e
 |met f y=>
  have e:h.get? a=some (W.methodObj (.ref f) (.ref y)):=x;show h'.get? a=some (W.methodObj (.ref f) (.ref y));exact k a _ (.inl rfl) e
 |ext φ=>obtain ⟨p,⟨o,e⟩,st⟩:=x;exact ⟨st _ _ p λo q=>k _ _ (.inl rfl) q,⟨o,k _ _ (.inl rfl) e⟩,st⟩
theorem gd.lt (x:gd P w H h)(e:H a=some o):a<h.objs.size:=(x a o e).lt
theorem gd.fresh (x:gd P w H h)(e:h.objs.size<=a):H a=none:=by
 cases q:H a with
 |none=>rfl
 |some u=>exact absurd (Nat.lt_of_lt_of_le (x.lt q) e) (Nat.lt_irrefl _)
theorem gd.kept (x:gd P w H h)(k:∀b u,h.get? b=some u->h'.get? b=some u):gd P w H h':=λa o e=>
 (x a o e).stay (λb u _ q=>k b u q) (λ_ q=>q) λ_ _ q=>q
theorem gd.laid (x:gd P w H h)(k:∀b u,h.get? b=some u->h'.get? b=some u)(hp:h.objs.size<=a)(new:bE P w (upd H a o) h' a o):gd P w (upd H a o) h':=λb u e=>by
 have hn:=x.fresh hp;by_cases hb:b=a
 ·subst hb;rw [ak] at e;cases e;exact new
 ·rw [ap hb] at e
  exact (x b u e).stay (λc v _ q=>k c v q) (λc q=>by rw [ap (bC q hn)];exact q) λc xs q=>by rw [ap (bC q hn)];exact q
end
def Rd (H:Hp)(a:Addr)(u:HO):Prop:=H a=some u\/∃o,H a=some (.frz o u)
theorem Rd.ok {P:Program}{w:World}{H:Hp}{h:Heap}{a:Addr}{u:HO}(r:Rd H a u)(x:gd P w H h):bE P w H h a u:=by
 rcases r with r|⟨o,r⟩
 ·exact x a u r
 ·obtain ⟨_,q⟩:=x a _ r;exact q
def OU:Option HO->Prop
 |some (.lst _)=>True
 |some (.dK _)=>True
 |some (.dT _)=>True
 |some (.set _ _)=>True
 |some (.ins _ _ _)=>True
 |some (.ext _)=>True
 |_=>False
section
variable {P:Program}{w:World}{H:Hp}{h h':Heap}{x e:Addr}{o':HO}
theorem gd.write (ok:gd P w H h)(mu:OU (H x))(he:e=x\/H e=some (.own x))(k:∀b u,b≠e->h.get? b=some u->h'.get? b=some u)(heo:∃u,h'.get? e=some u)
(new:bE P w (upd H x o') h' x o'):gd P w (upd H x o') h':=λb u q=>by
 have nown:∀c y,H c=some (.own y)->c≠x:=λc y r z=>by subst z;rw [r] at mu;exact mu
 have ntup:∀c xs,H c=some (.tup xs)->c≠x:=λc xs r z=>by subst z;rw [r] at mu;exact mu
 by_cases hb:b=x
 ·subst hb;rw [ak] at q;cases q;exact new
 ·rw [ap hb] at q;by_cases hbe:b=e
  ·have q':H b=some (.own x):=by
    rcases he with z|z
    ·exact absurd (hbe.trans z) hb
    ·rw [hbe];exact z
   rw [q] at q';cases q';obtain ⟨v,hv⟩:=heo;exact ⟨v,by rw [hbe];exact hv⟩
  ·refine (ok b u q).stay (λc v hc r=>k c v ?_ r) (λc r=>by rw [ap (nown c b r)];exact r) λc xs r=>by rw [ap (ntup c xs r)];exact r
   rcases hc with rfl|hc
   ·exact hbe
   ·rintro rfl
    rcases he with z|z
    ·exact nown c b hc z
    ·rw [hc] at z;cases z;exact hb rfl
end
structure Un (fs ex:List Addr)(H H':Hp)(h h':Heap):Prop where
 keep:∀b o,h.get? b=some o->H b=none->b∉fs->b∉ex->h'.get? b=some o
 slot:∀b o,h.get? b=some o->H b=none->b∈fs->b∉ex->∃sl,h'.get? b=some {o with slots:=sl}
 free:∀b o,h.get? b=some o->H b=none->b∉ex->H' b=none
 there:∀b o,h.get? b=some o->b∉ex->∃o',h'.get? b=some o'
 tups:∀b xs,H b=some (.tup xs)->H' b=some (.tup xs)
 frzs:∀b o u,H b=some (.frz o u)->H' b=some (.frz o u)
 tbls:∀b ps,H b=some (.tbl ps)->∃more,H' b=some (.tbl (ps++more))
section
variable {fs fs' ex ex':List Addr}{H H1 H2:Hp}{h h1 h2 h':Heap}{a x e:Addr}{o:HO}
theorem Un.any (u:Un fs ex H H1 h h1){b:Addr}{ob:Obj}(q:h.get? b=some ob)(n:H b=none)(hx:b∉ex):∃sl,h1.get? b=some {ob with slots:=sl}:=by
 by_cases hb:b∈fs
 ·exact u.slot b ob q n hb hx
 ·exact ⟨ob.slots,u.keep b ob q n hb hx⟩
theorem Un.kept (k:∀b u,h.get? b=some u->h'.get? b=some u):Un fs ex H H h h':=
 ⟨λb ob q _ _ _=>k b ob q,λb ob q _ _ _=>⟨ob.slots,k b ob q⟩,λ_ _ _ n _=>n,λb ob q _=>⟨ob,k b ob q⟩,λ_ _ q=>q,λ_ _ _ q=>q,λ_ ps q=>⟨#[],by rw [q];simp⟩⟩
theorem Un.refl:Un fs ex H H h h:=Un.kept λ_ _ q=>q
theorem Un.laid (k:∀b u,h.get? b=some u->h'.get? b=some u)(hp:h.objs.size<=a)(hn:H a=none):Un fs ex H (upd H a o) h h' where
 keep:=λb u q _ _ _=>k b u q
 slot:=λb u q _ _ _=>⟨u.slots,k b u q⟩
 free:=λb u q n _=>by rw [ap (Nat.ne_of_lt (Nat.lt_of_lt_of_le (Heap.lt_size q) hp))];exact n
 there:=λb u q _=>⟨u,k b u q⟩
 tups:=λb xs q=>by rw [ap (bC q hn)];exact q
 frzs:=λb u xs q=>by rw [ap (bC q hn)];exact q
 tbls:=λb ps q=>⟨#[],by rw [ap (bC q hn),q];simp⟩
theorem Un.write (mu:OU (H x))(he:e=x\/H e=some (.own x))(k:∀b u,b≠e->h.get? b=some u->h'.get? b=some u)(heo:∃u,h'.get? e=some u):Un fs ex H (upd H x o) h h':=by
 have hx:∀b,H b=none->b≠x:=λb n z=>by subst z;rw [n] at mu;exact mu
 have hb:∀b,H b=none->b≠e:=λb n z=>by
  subst z
  rcases he with r|r
  ·exact hx b n r
  ·rw [n] at r;cases r
 have hm:∀b u,H b=some u-> ¬OU (some u)->b≠x:=λb u q nm z=>by subst z;rw [q] at mu;exact nm mu
 refine ⟨λb u q n _ _=>k b u (hb b n) q,λb u q n _ _=>⟨u.slots,k b u (hb b n) q⟩,λb u q n _=>by rw [ap (hx b n)];exact n,λb u q _=> ?_,
  λb xs q=>by rw [ap (hm b _ q λz=>z)];exact q,λb u xs q=>by rw [ap (hm b _ q λz=>z)];exact q,λb ps q=>⟨#[],by rw [ap (hm b _ q λz=>z),q];simp⟩⟩
 by_cases hbe:b=e
 ·subst hbe;exact heo
 ·exact ⟨u,k b u hbe q⟩
end
def O5 (h:Heap)(H:Hp):List Addr:=(List.range h.objs.size).filter λa=>(H a).isSome
def uh (h:Heap)(H:Hp):Heap:=W.hideAll h (O5 h H)
theorem Cs (h:Heap)(H:Hp):(uh h H).objs.size=h.objs.size:=W.hideAll_size _ _
theorem Fs {h:Heap}{H:Hp}{b:Addr}{o:Obj}(e:h.get? b=some o)(n:H b=none):(uh h H).get? b=some o:=
 W.hideAll_get _ e λhm=>by
  have q:(H b).isSome=true:=(List.mem_filter.mp hm).2;rw [n] at q;simp at q
theorem IB {h:Heap}{H:Hp}{b:Addr}{o:Obj}(e:(uh h H).get? b=some o):h.get? b=some o/\H b=none:=by
 have e':h.get? b=some o:=W.of_hideAll (O5 h H) e;rwa[⟨e',?_⟩]
 cases q:H b with
 |none=>rfl
 |some x=>
  have hm:b∈O5 h H:=List.mem_filter.mpr ⟨List.mem_range.mpr (Heap.lt_size e'),by simp [q]⟩;have z:(uh h H).get? b=none:=W.hideAll_none (O5 h H) hm;rw [z] at e;cases e
def Jj (g h:Heap)(L:Addr):List ↑14:=(List.range h.objs.size).filterMap λa=>if a=L\/(g.get? a).isSome=true then none else (h.get? a).map λo=>(a,o)
def cK (g h:Heap)(L d:Addr):List ↑14:=(Jj g h L).filter λp=>decide (p.1≠d)
structure Mod (K:Fg)(mg:Str->Option Value)(base:Heap):Prop where
 kin:K.In base
 glob:base.Ns mainGlobals mg
 blt:∃mb,base.Ns builtinsNs mb/\∀x:Str,x≠"__name__"->mb x=bootBuiltins x
 nolimit:base.NoLimit
structure Cx where
 prog:Program
 w:World
 K:Fg
 mg:Str->Option Value
 base:Heap
 A:Around
 N:List Str
 s₀:Shared
 H₀:Hp
 env:Env
 outer:List Env
 stack:List Env
 ex:List Addr
 fn:Str->Bool
 calm:Bool
 pn:List ↑14
 xe:Value->Shared->Prop
def xt (l:List Env):List Addr:=l.filterMap (·.frame)
abbrev Cx.fs (X:Cx):List Addr:=xt X.outer
def OR (sc:Scope)(x:Str):Prop:=sc.names.lookup x=some .local\/sc.names.lookup x=some .cell\/sc.names.lookup x=some .free
def MN (sc:Scope)(x:Str):Prop:=sc.names.lookup x=some .local\/sc.names.lookup x=some .cell
def QN (env:Env)(h:Heap)(m:Str->Option Value)(x:Str)(u:Value):Prop:=
 (env.kindOf x=some .local/\m x=some u)\/((env.kindOf x=some .cell\/env.kindOf x=some .free)/\∃c,env.cells.lookup x=some c/\h.IsCell c (some u))
structure Cx.Ok (X:Cx):Prop where
 mod:Mod X.K X.mg X.base
 kind:X.env.scope.kind= .function
 glob:X.env.globals=mainGlobals
 blt:X.env.builtins=builtinsNs
 above:X.s₀.heap.objs.size<=X.env.locals
 inj:∀x y c,X.env.cells.lookup x=some c->X.env.cells.lookup y=some c->x=y
 has:∀x,(X.env.kindOf x=some .cell\/X.env.kindOf x=some .free)->∃c,X.env.cells.lookup x=some c
 cab:∀x c,X.fn x=true->X.env.cells.lookup x=some c->X.s₀.heap.objs.size<=c
 hd:X.calm=true->X.A.handled=none
 frames:X.A.frames=some X.stack
 stk:X.stack=X.outer\/(X.stack=X.env::X.outer/\X.env.frame=some X.env.locals)
 exf:∀b∈X.ex,b≠X.env.locals/\∀x c,X.env.cells.lookup x=some c->c≠b
 bs:∀b o,X.base.get? b=some o->X.s₀.heap.get? b=some o/\X.H₀ b=none
 bsz:X.base.objs.size<=X.s₀.heap.objs.size
 noex:∀b o,X.base.get? b=some o->b∉X.ex
 exfs:∀b∈X.ex,b∉X.fs
 funs:X.s₀.heap.FunFrames X.base X.outer
 frf:∀b∈X.fs,X.H₀ b=none
structure aF (X:Cx)(pins:List ↑14)(σ:List (Option V))(H:Hp)(s:Shared):Prop where
 ok:X.Ok
 os:s.os=X.s₀.os
 bare:AllBare s.gens
 base:Un X.fs X.ex X.H₀ H X.s₀.heap s.heap
 loc:∃m,s.heap.Ns X.env.locals m/\∀(i:Nat) (x:Str) (v:V),X.N[i]? =some x->σ[i]? =some (some v)->OR X.env.scope x->∃u,aQ v u/\QN X.env s.heap m x u
 cell:∀x c,X.env.cells.lookup x=some c->∃v,s.heap.IsCell c v
 free:H X.env.locals=none
 freeC:∀x c,X.env.cells.lookup x=some c->H c=none
 pin:∀p∈X.pn++pins,s.heap.get? p.1=some p.2/\H p.1=none/\p.1≠X.env.locals/\p.1∉X.fs/\∀v,p.2.data≠ .cell v
 hok:gd X.prog X.w H s.heap
 len:σ.length=X.N.length
section
variable {X:Cx}{pins:List ↑14}{σ:List (Option V)}{H H':Hp}{s:Shared}{h':Heap}
theorem Cx.Ok.nofr (ok:X.Ok){b:Addr}{o:Obj}(e:X.base.get? b=some o):b∉X.fs:=λhb=>by
 have:=(ok.funs.mem hb).1;rw [e] at this;cases this
theorem aF.bs (I:aF X pins σ H s):∀b o,X.base.get? b=some o->s.heap.get? b=some o/\H b=none:=λb o e=>
 ⟨I.base.keep b o (I.ok.bs b o e).1 (I.ok.bs b o e).2 (I.ok.nofr e) (I.ok.noex b o e),I.base.free b o (I.ok.bs b o e).1 (I.ok.bs b o e).2 (I.ok.noex b o e)⟩
theorem aF.bk (I:aF X pins σ H s):∀b o,X.base.get? b=some o->s.heap.get? b=some o:=λb o e=>(I.bs b o e).1
theorem aF.mod (I:aF X pins σ H s):Mod X.K X.mg X.base:=I.ok.mod
theorem aF.kIn (I:aF X pins σ H s):X.K.In s.heap:=I.ok.mod.kin.keeps I.bk
theorem aF.lt (I:aF X pins σ H s):X.env.locals<s.heap.objs.size:=let ⟨_,hn,_⟩:=I.loc;hn.lt
theorem aF.sz (I:aF X pins σ H s):X.s₀.heap.objs.size<=s.heap.objs.size:=Nat.le_trans I.ok.above (Nat.le_of_lt I.lt)
theorem aF.nofs (I:aF X pins σ H s){a:Addr}(h:s.heap.objs.size<=a):a∉X.fs:=λhb=>by
 obtain ⟨_,o,ho,_⟩:=I.ok.funs.mem hb;exact absurd (Nat.lt_of_lt_of_le (Heap.lt_size ho) (Nat.le_trans I.sz h)) (Nat.lt_irrefl _)
theorem aF.cne (I:aF X pins σ H s):∀x c,X.env.cells.lookup x=some c->c≠X.env.locals:=λx c e z=>by
 obtain ⟨v,o,ho,hd⟩:=I.cell x c e;obtain ⟨m,⟨o',es,ep,ho',hd',_⟩,_⟩:=I.loc;rw [z,ho'] at ho;cases ho;rw [hd'] at hd;cases hd
theorem aF.funs (I:aF X pins σ H s):s.heap.FunFrames X.base X.outer:=by
 have all:∀(l:List Env),(∀b∈xt l,b∈X.fs)->X.s₀.heap.FunFrames X.base l->s.heap.FunFrames X.base l:=by
  intro l
  induction l with
  |nil=>intro _ _;trivial
  |cons env r ih=>
   intro hs hl;obtain ⟨hk,⟨L,o,hf,hn,ho,hd⟩,hr⟩:=hl;have hL:L∈X.fs:=hs L (by unfold xt;rw [List.filterMap_cons,hf];exact List.mem_cons_self);obtain ⟨sl,e⟩:=I.base.slot L o ho (I.ok.frf L hL) hL λz=>I.ok.exfs L z hL;exact ⟨hk,⟨L,_,hf,hn,e,hd⟩,ih (λb hb=>hs b (by unfold xt;rw [List.filterMap_cons,hf];exact List.mem_cons_of_mem _ hb)) hr⟩
 exact all X.outer (λ_ hb=>hb) I.ok.funs
theorem aF.stack (I:aF X pins σ H s):s.heap.FunFrames X.base X.stack:=by
 rcases I.ok.stk with e|⟨e,hf⟩
 ·rw [e];exact I.funs
 ·rw [e];obtain ⟨m,hn,_⟩:=I.loc;rwa[.cons (by rw [I.ok.kind];decide) hf hn ?_ I.funs];exact Heap.get?_none_of_le (Nat.le_trans I.ok.bsz I.ok.above)
theorem aF.stkSub (I:aF X pins σ H s):∀b∈xt X.stack,b∈X.env.locals::X.fs:=λb hb=>by
 rcases I.ok.stk with e|⟨e,hf⟩
 ·rw [e] at hb;exact List.mem_cons_of_mem _ hb
 ·rw [e] at hb;unfold xt at hb;rw [List.filterMap_cons,hf] at hb;exact hb
theorem aF.stkFree (I:aF X pins σ H s):∀b∈xt X.stack,H b=none:=λb hb=>by
 rcases List.mem_cons.mp (I.stkSub b hb) with e|hb
 ·rw [e];exact I.free
 ·obtain ⟨_,o,ho,_⟩:=I.ok.funs.mem hb;exact I.base.free b o ho (I.ok.frf b hb) λz=>I.ok.exfs b z hb
theorem aF.step {g':Array GenState}{t':Nat}{d':Drawn}{ch:List Addr}(I:aF X pins σ H s)
(hch:∀b∈ch,(b∈X.ex\/X.s₀.heap.objs.size<=b)/\b≠X.env.locals/\(∀x c,X.env.cells.lookup x=some c->c≠b)/\∀p∈X.pn++pins,p.1≠b)
(keep:∀b o,b≠X.env.locals->b∉X.fs->b∉ch->s.heap.get? b=some o->H b=none->h'.get? b=some o)
(slot:∀b o,b≠X.env.locals->b∈X.fs->b∉ch->s.heap.get? b=some o->H b=none->∃sl,h'.get? b=some {o with slots:=sl})(free:∀b o,b∉ch->s.heap.get? b=some o->H b=none->H' b=none)
(there:∀b o,b∉ch->s.heap.get? b=some o->∃o',h'.get? b=some o')
(tups:∀b xs,H b=some (.tup xs)->H' b=some (.tup xs))(frzs:∀b o u,H b=some (.frz o u)->H' b=some (.frz o u))(tbls:∀b ps,H b=some (.tbl ps)->∃more,H' b=some (.tbl (ps++more)))
(ns:∀m,s.heap.Ns X.env.locals m->h'.Ns X.env.locals m)(hok:gd X.prog X.w H' h')(hg:AllBare g'):
 aF X pins σ H' {s with heap:=h',gens:=g',drawn:=d',toks:=t'}:=by
 have neL:∀b o,X.s₀.heap.get? b=some o->b≠X.env.locals:=λb o e=>Nat.ne_of_lt (Nat.lt_of_lt_of_le (Heap.lt_size e) I.ok.above)
 have neC:∀b o,X.s₀.heap.get? b=some o->b∉X.ex->b∉ch:=λb o e hx hb=>by
  rcases (hch b hb).1 with z|z
  ·exact hx z
  ·exact absurd (Nat.lt_of_lt_of_le (Heap.lt_size e) z) (Nat.lt_irrefl _)
 have cellK:∀x c,X.env.cells.lookup x=some c->∀v,s.heap.IsCell c v->h'.IsCell c v:=λx c e v ⟨o,ho,hd⟩=>by
  have nch:c∉ch:=λz=>(hch c z).2.2.1 x c e rfl;by_cases hc:c∈X.fs
  ·obtain ⟨sl,q⟩:=slot c o (I.cne x c e) hc nch ho (I.freeC x c e);exact ⟨_,q,hd⟩
  ·exact ⟨o,keep c o (I.cne x c e) hc nch ho (I.freeC x c e),hd⟩
 rwa[⟨I.ok,I.os,hg,⟨λb o e n hb hx=> ?_,λb o e n hb hx=> ?_,λb o e n hx=> ?_,λb o e hx=> ?_,λb xs e=>tups b xs (I.base.tups b xs e),λb o xs e=>frzs b o xs (I.base.frzs b o xs e),λb ps e=> ?_⟩,?_,λx c e=> ?_,?_,λx c e=> ?_,λp hp=> ?_,hok,I.len⟩]
 ·exact keep b o (neL b o e) hb (neC b o e hx) (I.base.keep b o e n hb hx) (I.base.free b o e n hx)
 ·obtain ⟨sl,e1⟩:=I.base.slot b o e n hb hx;obtain ⟨sl',e2⟩:=slot b _ (neL b o e) hb (neC b o e hx) e1 (I.base.free b o e n hx);exact ⟨sl',e2⟩
 ·obtain ⟨o',e1⟩:=I.base.there b o e hx;exact free b o' (neC b o e hx) e1 (I.base.free b o e n hx)
 ·obtain ⟨o',e1⟩:=I.base.there b o e hx;exact there b o' (neC b o e hx) e1
 ·obtain ⟨m1,e1⟩:=I.base.tbls b ps e;obtain ⟨m2,e2⟩:=tbls b _ e1;exact ⟨m1++m2,by rw [e2,Array.append_assoc]⟩
 ·obtain ⟨m,hn,hl⟩:=I.loc;rwa[⟨m,ns m hn,λi x v e1 e2 e3=> ?_⟩];obtain ⟨u,r,l⟩:=hl i x v e1 e2 e3;rwa[⟨u,r,?_⟩]
  rcases l with l|⟨k,c,e,z⟩
  ·exact .inl l
  ·exact .inr ⟨k,c,e,cellK x c e _ z⟩
 ·obtain ⟨v,z⟩:=I.cell x c e;exact ⟨v,cellK x c e v z⟩
 ·obtain ⟨m,⟨o,_,_,ho,_⟩,_⟩:=I.loc;exact free _ o (λz=>(hch _ z).2.1 rfl) ho I.free
 ·obtain ⟨v,o,ho,hd⟩:=I.cell x c e;exact free c o (λz=>(hch c z).2.2.1 x c e rfl) ho (I.freeC x c e)
 ·obtain ⟨e,n,ne,nf,d⟩:=I.pin p hp;have nch:p.1∉ch:=λz=>(hch p.1 z).2.2.2 p hp rfl;exact ⟨keep p.1 p.2 ne nf nch e n,free p.1 p.2 nch e n,ne,nf,d⟩
theorem aF.un {t':Nat}(I:aF X pins σ H s)(u:Un X.fs [] H H' s.heap h')(hok:gd X.prog X.w H' h'):aF X pins σ H' {s with heap:=h',toks:=t'}:=by
 obtain ⟨m,⟨o,es,ep,ho,r⟩,_⟩:=id I.loc;obtain ⟨sl,hL⟩:=u.any ho I.free ↑17
 exact I.step (g':=s.gens) (d':=s.drawn) (ch:=[]) (λ_ z=>nomatch z) (λb o _ hb _ e n=>u.keep b o e n hb ↑17) (λb o _ hb _ e n=>u.slot b o e n hb ↑17) (λb o _ e n=>u.free b o e n ↑17) (λb o _ e=>u.there b o e ↑17) u.tups u.frzs u.tbls (λm' hm=>by
  obtain ⟨o',es',ep',ho',r'⟩:=hm;rw [ho] at ho';cases ho'
  exact ⟨_,es',ep',hL,r'⟩) hok I.bare
theorem aF.call {g':Array GenState}{t':Nat}{d':Drawn}{ch:List Addr}(I:aF X pins σ H s)(u:Un (xt X.stack) ch H H' s.heap h')(hok:gd X.prog X.w H' h')(hg:AllBare g')
(hch:∀b∈ch,(b∈X.ex\/X.s₀.heap.objs.size<=b)/\b≠X.env.locals/\(∀x c,X.env.cells.lookup x=some c->c≠b)/\∀p∈X.pn++pins,p.1≠b):
 aF X pins σ H' {s with heap:=h',gens:=g',drawn:=d',toks:=t'}:=by
 obtain ⟨m,⟨o,es,ep,ho,r⟩,_⟩:=id I.loc;obtain ⟨sl,hL⟩:=u.any ho I.free λz=>(hch _ z).2.1 rfl
 exact I.step (ch:=ch) hch (λb o hL hb hc e n=>u.keep b o e n (λz=>(List.mem_cons.mp (I.stkSub b z)).elim hL hb) hc) (λb o _ _ hc e n=>u.any e n hc) (λb o hc e n=>u.free b o e n hc) (λb o hc e=>u.there b o e hc) u.tups u.frzs u.tbls (λm' hm=>by
  obtain ⟨o',es',ep',ho',r'⟩:=hm;rw [ho] at ho';cases ho'
  exact ⟨_,es',ep',hL,r'⟩) hok hg
theorem aF.turned {t':Nat}{it:Addr}(I:aF X pins σ H s)(k:∀b o,b≠it->s.heap.get? b=some o->h'.get? b=some o)(hn:H it=none)(hL:it≠X.env.locals)
(h1:it∈X.ex\/X.s₀.heap.objs.size<=it)(h2:∀x c,X.env.cells.lookup x=some c->c≠it)(h3:∀p∈X.pn++pins,p.1≠it):aF X pins σ H {s with heap:=h',toks:=t'}:=by
 have nit:∀b u,H b=some u->b≠it:=λb u e z=>by rw [z,hn] at e;cases e
 refine I.step (g':=s.gens) (d':=s.drawn) (ch:=[it]) (λb hb=> ?_) (λb o _ _ hc e _=>k b o (λz=>hc (by simp [z])) e) (λb o _ _ hc e _=>⟨o.slots,k b o (λz=>hc (by simp [z])) e⟩) (λ_ _ _ _ n=>n)
  (λb o hc e=>⟨o,k b o (λz=>hc (by simp [z])) e⟩) (λ_ _ e=>e) (λ_ _ _ e=>e) (λb ps e=>⟨#[],by rw [e];simp⟩) (λm hm=> ?_) (λb u e=> ?_) I.bare
 ·have e:b=it:=by simpa using hb
  subst e;exact ⟨h1,hL,h2,h3⟩
 ·obtain ⟨o,es,ep,ho,r⟩:=hm;exact ⟨o,es,ep,k _ o (Ne.symm hL) ho,r⟩
 ·rwa[(I.hok b u e).stay (λc v hc q=>k c v ?_ q) (λ_ q=>q) λ_ _ q=>q]
  rcases hc with z|z
  ·rw [z];exact nit b u e
  ·exact nit c _ z
theorem aF.tok (I:aF X pins σ H s)(t:Nat):aF X pins σ H {s with toks:=t}:=I.un (h':=s.heap) (t':=t) Un.refl I.hok
theorem aF.kept {t':Nat}(I:aF X pins σ H s)(k:∀b u,s.heap.get? b=some u->h'.get? b=some u):aF X pins σ H {s with heap:=h',toks:=t'}:=I.un (Un.kept k) (I.hok.kept k)
theorem aF.laid {a:Addr}{o:HO}{t':Nat}(I:aF X pins σ H s)(k:∀b u,s.heap.get? b=some u->h'.get? b=some u)(hp:s.heap.objs.size<=a)(new:bE X.prog X.w (upd H a o) h' a o):
 aF X pins σ (upd H a o) {s with heap:=h',toks:=t'}:=I.un (Un.laid k hp (I.hok.fresh hp)) (I.hok.laid k hp new)
theorem aF.write {x e:Addr}{o:HO}{t':Nat}(I:aF X pins σ H s)(mu:OU (H x))(he:e=x\/H e=some (.own x))(k:∀b u,b≠e->s.heap.get? b=some u->h'.get? b=some u)(heo:∃u,h'.get? e=some u)
(new:bE X.prog X.w (upd H x o) h' x o):aF X pins σ (upd H x o) {s with heap:=h',toks:=t'}:=I.un (Un.write mu he k heo) (I.hok.write mu he k heo new)
theorem aF.weak {σ':List (Option V)}(I:aF X pins σ H s)(hl:σ'.length=σ.length)(w:∀(i:Nat) v,σ'[i]? =some (some v)->σ[i]? =some (some v)):aF X pins σ' H s:=
 ⟨I.ok,I.os,I.bare,I.base,let ⟨m,hn,hl'⟩:=I.loc;⟨m,hn,λi x v e1 e2 e3=>hl' i x v e1 (w i v e2) e3⟩,I.cell,I.free,I.freeC,I.pin,I.hok,hl.trans I.len⟩
theorem aF.pins_of {pins':List ↑14}(I:aF X pins σ H s)(h:∀p∈pins',s.heap.get? p.1=some p.2/\H p.1=none/\p.1≠X.env.locals/\p.1∉X.fs/\∀v,p.2.data≠ .cell v):aF X pins' σ H s:=
 ⟨I.ok,I.os,I.bare,I.base,I.loc,I.cell,I.free,I.freeC,λp hp=>(List.mem_append.mp hp).elim (λz=>I.pin p (List.mem_append_left _ z)) (h p),I.hok,I.len⟩
theorem rK {N:List Str}(hN:N.Nodup){i j:Nat}{x:Str}(a:N[i]? =some x)(b:N[j]? =some x):i=j:=by
 obtain ⟨h1,e1⟩:=List.getElem?_eq_some_iff.mp a;obtain ⟨h2,e2⟩:=List.getElem?_eq_some_iff.mp b;exact (List.getElem_inj hN).mp (e1.trans e2.symm)
theorem uz {M:Model}{A:Around}{E:Value->Shared->Prop}{i:Nat}{x:Str}{v:V}{u:Value}{Q:Unit->Shared->Prop}(I:aF X pins σ H s)(hN:X.N.Nodup)(hi:X.N[i]? =some x)(hx:MN X.env.scope x)(r:aQ v u)
(h:∀s',aF X pins (σ.set i (some v)) H s'->(∃a,Heap.SameBut a s.heap s'.heap/\(a=X.env.locals\/X.env.cells.lookup x=some a))->Q () s')(hf:X.fn x=true\/X.env.scope.names.lookup x=some .local:=by first|exact .inl rfl|exact .inr rfl|assumption):wpAny M A (storeName X.env x u) Q E s:=by
 obtain ⟨m,hn,hl⟩:=id I.loc
 have hcls:(X.env.scope.kind== .class||(X.env.scope.kind== .module&&X.env.locals != X.env.globals))=false:=by rw [I.ok.kind];rfl
 have hiσ:i<σ.length:=by rw [I.len];exact (List.getElem?_eq_some_iff.mp hi).1
 have cne:=I.cne
 have tracked:∀ {a:Addr} {h':Heap},(∃o,s.heap.get? a=some o/\H a=none)->Heap.SameBut a s.heap h'->gd X.prog X.w H h':=λ{a h'} ha hs b ob e=>by
  obtain ⟨_,_,hfree⟩:=ha;rwa[(I.hok b ob e).stay (λc w' hc q=>(hs.2 c ?_).trans q) (λ_ q=>q) λ_ _ q=>q];rintro rfl
  rcases hc with rfl|hc
  ·rw [hfree] at e;cases e
  ·rw [hfree] at hc;cases hc
 rcases hx with hk|hk
 ·rwa[wpAny_storeName_local hk hn (λh' hn' hs=> ?_) hcls];obtain ⟨oL,_,_,hoL,_⟩:=id hn;rwa[h _ ⟨I.ok,I.os,I.bare,⟨λb o e n hb hx=> ?_,λb o e n hb hx=> ?_,I.base.free,λb o e hx=> ?_,I.base.tups,I.base.frzs,I.base.tbls⟩,⟨_,hn',λj y v' e1 e2 e3=> ?_⟩,λy c e=> ?_,I.free,I.freeC,λp hp=> ?_,tracked ⟨oL,hoL,I.free⟩ hs,by simpa using I.len⟩ ⟨_,hs,.inl rfl⟩]
  ·exact (hs.2 b (Nat.ne_of_lt (Nat.lt_of_lt_of_le (Heap.lt_size e) I.ok.above))).trans (I.base.keep b o e n hb hx)
  ·obtain ⟨sl,e1⟩:=I.base.slot b o e n hb hx;exact ⟨sl,(hs.2 b (Nat.ne_of_lt (Nat.lt_of_lt_of_le (Heap.lt_size e) I.ok.above))).trans e1⟩
  ·obtain ⟨o',e1⟩:=I.base.there b o e hx;exact ⟨o',(hs.2 b (Nat.ne_of_lt (Nat.lt_of_lt_of_le (Heap.lt_size e) I.ok.above))).trans e1⟩
  ·by_cases hj:j=i
   ·subst hj;rw [hi] at e1;cases e1;rw [List.getElem?_set_self hiσ] at e2;cases e2;exact ⟨u,r,.inl ⟨hk,by simp⟩⟩
   ·rw [List.getElem?_set_ne (Ne.symm hj)] at e2;obtain ⟨u',r',q⟩:=hl j y v' e1 e2 e3;rwa[⟨u',r',?_⟩]
    rcases q with ⟨k,e⟩|⟨k,c,e,z⟩
    ·rwa[.inl ⟨k,?_⟩];have:y≠x:=λe=>hj (rK hN e1 (e▸hi));simp [this,e]
    ·exact .inr ⟨k,c,e,z.sameBut hs (cne y c e)⟩
  ·obtain ⟨w',z⟩:=I.cell y c e;exact ⟨w',z.sameBut hs (cne y c e)⟩
  ·obtain ⟨e,n,ne,nf,d⟩:=I.pin p hp;exact ⟨(hs.2 p.1 ne).trans e,n,ne,nf,d⟩
 ·have hfn:X.fn x=true:=by
   rcases hf with z|z
   ·exact z
   ·rw [z] at hk;cases hk
  obtain ⟨c,hc⟩:=I.ok.has x (.inl hk);obtain ⟨w',z⟩:=I.cell x c hc;rwa[wpAny_storeName_cell I.ok.kind hk hc z (λh' hc' hs=> ?_)];obtain ⟨oc,hoc,hocd⟩:=id z;rwa[h {s with heap:=h'} ⟨I.ok,I.os,I.bare,⟨λb o e n hb hx=> ?_,λb o e n hb hx=> ?_,I.base.free,λb o e hx=> ?_,I.base.tups,I.base.frzs,I.base.tbls⟩,⟨m,hn.sameBut hs (Ne.symm (cne x c hc)),λj y v' e1 e2 e3=> ?_⟩,λy c' e=> ?_,I.free,I.freeC,λp hp=> ?_,tracked ⟨oc,hoc,I.freeC x c hc⟩ hs,by simpa using I.len⟩ ⟨c,hs,.inr hc⟩]
  ·exact (hs.2 b (Nat.ne_of_lt (Nat.lt_of_lt_of_le (Heap.lt_size e) (I.ok.cab x c hfn hc)))).trans (I.base.keep b o e n hb hx)
  ·obtain ⟨sl,e1⟩:=I.base.slot b o e n hb hx;exact ⟨sl,(hs.2 b (Nat.ne_of_lt (Nat.lt_of_lt_of_le (Heap.lt_size e) (I.ok.cab x c hfn hc)))).trans e1⟩
  ·obtain ⟨o',e1⟩:=I.base.there b o e hx;exact ⟨o',(hs.2 b (Nat.ne_of_lt (Nat.lt_of_lt_of_le (Heap.lt_size e) (I.ok.cab x c hfn hc)))).trans e1⟩
  ·by_cases hj:j=i
   ·subst hj;rw [hi] at e1;cases e1;rw [List.getElem?_set_self hiσ] at e2;cases e2;exact ⟨u,r,.inr ⟨.inl hk,c,hc,hc'⟩⟩
   ·rw [List.getElem?_set_ne (Ne.symm hj)] at e2;obtain ⟨u',r',q⟩:=hl j y v' e1 e2 e3;rwa[⟨u',r',?_⟩]
    rcases q with q|⟨k,c',e,z'⟩
    ·exact .inl q
    ·rwa[.inr ⟨k,c',e,z'.sameBut hs ?_⟩];rintro rfl;exact hj (rK hN e1 (I.ok.inj _ _ _ e hc▸hi))
  ·by_cases hcc:c'=c
   ·subst hcc;exact ⟨_,hc'⟩
   ·obtain ⟨w2,z2⟩:=I.cell y c' e;exact ⟨w2,z2.sameBut hs hcc⟩
  ·obtain ⟨e,n,ne,nf,d⟩:=I.pin p hp;rwa[⟨(hs.2 p.1 ?_).trans e,n,ne,nf,d⟩];intro q;rw [q,hoc] at e;have q':oc=p.2:=Option.some.inj e;exact d w' (by rw [<-q'];exact hocd)
theorem xN {M:Model}{A:Around}{E:Value->Shared->Prop}{i:Nat}{x:Str}{v:V}{u:Value}{Q:Unit->Shared->Prop}(I:aF X pins σ H s)(hN:X.N.Nodup)(hi:X.N[i]? =some x)(hx:MN X.env.scope x)(r:aQ v u)
(h:∀s',aF X pins (σ.set i (some v)) H s'->Q () s')(hf:X.fn x=true\/X.env.scope.names.lookup x=some .local:=by first|exact .inl rfl|exact .inr rfl|assumption):wpAny M A (storeName X.env x u) Q E s:=
 uz I hN hi hx r (λs' I' _=>h s' I') hf
theorem aF.call' {s':Shared}{ch:List Addr}(I:aF X pins σ H s)(ho:s'.os=s.os)(u:Un (xt X.stack) ch H H' s.heap s'.heap)(hok:gd X.prog X.w H' s'.heap)(hg:AllBare s'.gens)
(hch:∀b∈ch,(b∈X.ex\/X.s₀.heap.objs.size<=b)/\b≠X.env.locals/\(∀x c,X.env.cells.lookup x=some c->c≠b)/\∀p∈X.pn++pins,p.1≠b):aF X pins σ H' s':=by
 obtain ⟨h',g',d',t',o'⟩:=s';have e:o'=s.os:=ho;subst e;exact I.call (g':=g') (t':=t') (d':=d') u hok hg hch
end
abbrev XK:=Value->Option Addr->Hp->Prop
abbrev St:=List (Option V)
abbrev VK:=V->Hp->Prop
abbrev TE:=St->Hp->VK->Prop
abbrev TT:=St->Hp->(Bool->Hp->Prop)->Prop
abbrev TA:=St->Hp->(List V->Hp->Prop)->Prop
structure pZ where
 nx:St->Hp->Prop
 rt:VK
 bk:St->Hp->Prop:=λ_ _=>False
 ct:St->Hp->Prop:=λ_ _=>False
abbrev TS:=pZ->St->Hp->Prop
def EP (X:Cx)(pins:List ↑14)(σ:St)(Q:VK)(u:Value)(s':Shared):Prop:=∃v H',aF X pins σ H' s'/\aQ v u/\Q v H'
def TP (X:Cx)(pins:List ↑14)(σ:St)(Q:Bool->Hp->Prop)(b:Bool)(s':Shared):Prop:=∃H',aF X pins σ H' s'/\Q b H'
def AP (X:Cx)(pins:List ↑14)(σ:St)(Q:List V->Hp->Prop)(us:List Value)(s':Shared):Prop:=∃vs H',aF X pins σ H' s'/\aY vs us/\Q vs H'
def SP (X:Cx)(pins:List ↑14)(D:pZ)(f:Flow)(s':Shared):Prop:=
 match f with
 | .next=>∃σ' H',aF X pins σ' H' s'/\D.nx σ' H'
 | .brk=>∃σ' H',aF X pins σ' H' s'/\D.bk σ' H'
 | .cont=>∃σ' H',aF X pins σ' H' s'/\D.ct σ' H'
 | .ret u=>∃v σ' H',aF X pins σ' H' s'/\aQ v u/\D.rt v H'
def PE (X:Cx)(e:Expr)(t:TE):Prop:=
 ∀(pins:List ↑14) (s:Shared) (σ:St) (H:Hp) (Q:VK),aF X pins σ H s->t σ H Q->wpAny ↑8 X.A (eval e X.env) (EP X pins σ Q) X.xe s
def PT (X:Cx)(e:Expr)(t:TT):Prop:=
 ∀(pins:List ↑14) (s:Shared) (σ:St) (H:Hp) (Q:Bool->Hp->Prop),aF X pins σ H s->t σ H Q->wpAny ↑8 X.A (isTrue e X.env (eval e X.env)) (TP X pins σ Q) X.xe s
def PW (X:Cx)(e:Expr)(t:TT):Prop:=
 ∀(whole:Sem Value) (pins:List ↑14) (s:Shared) (σ:St) (H:Hp) (Q:Bool->Hp->Prop),aF X pins σ H s->t σ H Q->wpAny ↑8 X.A (isTrue e X.env whole) (TP X pins σ Q) X.xe s
theorem PW.pt {X:Cx}{e:Expr}{t:TT}(h:PW X e t):PT X e t:=h _
def PA (X:Cx)(es:List Expr)(t:TA):Prop:=
 ∀(pos:Pos) (pins:List ↑14) (s:Shared) (σ:St) (H:Hp) (Q:List V->Hp->Prop),aF X pins σ H s->t σ H Q->wpAny ↑8 X.A (spliced (backTo pos (starEach es X.env))) (AP X pins σ Q) X.xe s
def PS (X:Cx)(st:Stmt)(t:TS):Prop:=
 ∀(pins:List ↑14) (s:Shared) (σ:St) (H:Hp) (D:pZ),aF X pins σ H s->t D σ H->wpAny ↑8 X.A (exec st X.env) (SP X pins D) X.xe s
def uq (X:Cx)(st:List Stmt)(t:TS):Prop:=
 ∀(pins:List ↑14) (s:Shared) (σ:St) (H:Hp) (D:pZ),aF X pins σ H s->t D σ H->wpAny ↑8 X.A (execs st X.env) (SP X pins D) X.xe s
theorem bT {α:Type}{t:Sem α}{Q Q':α->Shared->Prop}{M:Model}{A:Around}{E:Value->Shared->Prop}{s:Shared}(h:wpAny M A t Q E s)(hQ:∀a s,Q a s->Q' a s):wpAny M A t Q' E s:=wpAny_mono h hQ λ_ _ x=>x
section
variable {X:Cx}
def P2 (i:Nat):TE:=λσ H Q=>∃v,σ[i]? =some (some v)/\Q v H
def tC (v:V):TE:=λ_ H Q=>Q v H
theorem Ep {i:Nat}{x:Str}{pos:Pos}(hN:X.N[i]? =some x)(hv:OR X.env.scope x)(hd:↑27=false:=by decide)(hcd:(x==("__classdict__":Str))=false:=by decide):PE X (.Name x pos) (P2 i):=by
 intro pins s σ H Q I h;obtain ⟨v,e,h⟩:=h;obtain ⟨m,hn,hl⟩:=I.loc;obtain ⟨u,r,l⟩:=hl i x v hN e hv;have fin:EP X pins σ Q u s:=⟨v,H,I,r,h⟩
 rcases l with ⟨hk,hm⟩|⟨hk,c,hc,hcell⟩
 ·exact wpAny_Name (wpAny_loadName_local I.ok.kind hk hn hm fin) hd
 ·rcases hk with hk|hk
  ·exact wpAny_Name (wpAny_loadName_cell I.ok.kind hk hc hcell fin) hd
  ·exact wpAny_Name (wpAny_loadName_free I.ok.kind hk hc hcell fin hcd) hd
theorem aa {i j pos}:PE X (.Constant (.int i) j pos) (tC (.int i)):=λ_ _ _ H _ I h=>wpAny_Constant_int ⟨.int i,H,I.tok _,⟨_,rfl⟩,h⟩
theorem fD {b j pos}:PE X (.Constant (.bool b) j pos) (tC (.bl b)):=λ_ _ _ H _ I h=>Constant_bool ⟨.bl b,H,I,rfl,h⟩
theorem wt {j pos}:PE X (.Constant .none j pos) (tC .non):=λ_ _ _ H _ I h=>Constant_none ⟨.non,H,I,rfl,h⟩
theorem ay {x j pos}:PE X (.Constant (.str x) j pos) (tC (.str x)):=λ_ _ _ H _ I h=>Calls.Constant_str ⟨.str x,H,I.tok _,⟨_,rfl⟩,h⟩
def Gl (X:Cx)(x:Str):Prop:=X.env.kindOf x=some .globalImplicit
theorem im {E:Value->Shared->Prop}{pins:List ↑14}{s:Shared}{σ:St}{H:Hp}{x:Str}{u:Value}{pos:Pos}{Q:Value->Shared->Prop}(I:aF X pins σ H s)(hg:Gl X x)(hm:X.mg x=some u)(h:Q u s)
(hd:↑27=false:=by decide):wpAny ↑8 X.A (eval (.Name x pos) X.env) Q E s:=
 Calls.Name_function_global I.ok.kind hg (Calls.loadGlobal_global (by rw [I.ok.glob];exact I.mod.glob.keeps I.bk) hm h) hd
theorem oO {E:Value->Shared->Prop}{pins:List ↑14}{s:Shared}{σ:St}{H:Hp}{x:Str}{u:Value}{pos:Pos}{Q:Value->Shared->Prop}(I:aF X pins σ H s)(hg:Gl X x)(hm:X.mg x=none)(hv:bootBuiltins x=some u)(h:Q u s)
(hn:x≠"__name__":=by decide)(hd:↑27=false:=by decide):wpAny ↑8 X.A (eval (.Name x pos) X.env) Q E s:=by
 obtain ⟨mb,h1,h2⟩:=I.mod.blt;exact Calls.Name_function_global I.ok.kind hg (Calls.loadGlobal_builtin (by rw [I.ok.glob];exact I.mod.glob.keeps I.bk) hm (by rw [I.ok.blt];exact h1.keeps I.bk) ((h2 x hn).trans hv) h) hd
theorem bh {x:Str}{v:V}{u:Value}{pos:Pos}(hg:Gl X x)(hm:X.mg x=some u)(r:aQ v u)(hd:↑27=false:=by decide):PE X (.Name x pos) (tC v):=
 λ_ _ _ H _ I h=>im I hg hm ⟨v,H,I,r,h⟩ hd
theorem mR {x:Str}{v:V}{u:Value}{pos:Pos}(hg:Gl X x)(hm:X.mg x=none)(hv:bootBuiltins x=some u)(r:aQ v u)(hn:x≠"__name__":=by decide)(hd:↑27=false:=by decide):PE X (.Name x pos) (tC v):=
 λ_ _ _ H _ I h=>oO I hg hm hv ⟨v,H,I,r,h⟩ hn hd
variable {a b:Expr}{ta tb:TE}{pos:Pos}
def PC (X:Cx)(op:CmpOp)(a b:Expr)(t:TE):Prop:=
 ∀(pins:List ↑14) (s:Shared) (σ:St) (H:Hp) (Q:VK),aF X pins σ H s->t σ H Q->
  wpAny ↑8 X.A (eval a X.env) (λv s₁=>wpAny ↑8 X.A (eval b X.env) (λu s₂=>wpAny ↑8 X.A (compareOp op v u) (EP X pins σ Q) X.xe s₂) X.xe s₁) X.xe s
def tB (t:TE):TT:=λσ H Q=>t σ H λx H1=>∃c,x= .bl c/\Q c H1
theorem K8 {op:CmpOp}{t:TE}(h:PC X op a b t)(h1:behindInMarks op b=false:=by first|exact nobehind _ ↑2 ↑2|rfl):PT X (.Compare a [op] [b] pos) (tB t):=by
 intro pins s σ H Q I hw;rwa[wpAny_isTrue_Compare1 (bT (h pins s σ H _ I hw) λv s1 h1=>bT h1 λu s2 h2=>bT h2 λc s3 ⟨x,H1,I1,r1,q1⟩=> ?_) h1];obtain ⟨d,rfl,q⟩:=q1;cases r1;exact wpAny_truthy_bool ⟨H1,I1,q⟩
variable {tA tB':TT}{cK:List Expr}
def Qd (t u:TT):TT:=λσ H Q=>t σ H λc H1=>if c=true then u σ H1 Q else Q false H1
def Q4 (t u:TT):TT:=λσ H Q=>t σ H λc H1=>if c=true then Q true H1 else u σ H1 Q
def P6 (t:TT):TT:=λσ H Q=>t σ H λc H1=>Q (!c) H1
theorem cF (ha:PT X a tA):PW X (.BoolOp .And [a] pos) tA:=by
 intro wh pins s σ H Q I h;rwa[isTrue_and (bT (ha pins s σ H Q I h) λc s1 e=> ?_)]
 cases c with
 |true=>exact isTrue_and_nil e
 |false=>exact e
theorem eU (ha:PT X a tA):PW X (.BoolOp .Or [a] pos) tA:=by
 intro wh pins s σ H Q I h;rwa[isTrue_or (bT (ha pins s σ H Q I h) λc s1 e=> ?_)]
 cases c with
 |false=>exact isTrue_or_nil e
 |true=>exact e
theorem K6 (ha:PT X a tA)(hb:PW X (.BoolOp .And (b::cK) pos) tB'):PW X (.BoolOp .And (a::b::cK) pos) (Qd tA tB'):=by
 intro wh pins s σ H Q I h;rwa[isTrue_and (bT (ha pins s σ H _ I h) λc s1 ⟨H1,I1,q1⟩=> ?_)]
 cases c with
 |true=>exact hb wh pins s1 σ H1 Q I1 q1
 |false=>exact ⟨H1,I1,q1⟩
theorem N0 (ha:PT X a tA)(hb:PW X (.BoolOp .Or (b::cK) pos) tB'):PW X (.BoolOp .Or (a::b::cK) pos) (Q4 tA tB'):=by
 intro wh pins s σ H Q I h;rwa[isTrue_or (bT (ha pins s σ H _ I h) λc s1 ⟨H1,I1,q1⟩=> ?_)]
 cases c with
 |true=>exact ⟨H1,I1,q1⟩
 |false=>exact hb wh pins s1 σ H1 Q I1 q1
theorem cW (ha:PT X a tA):PT X (.UnaryOp .Not a pos) (P6 tA):=by
 intro pins s σ H Q I h;exact isTrue_not (ha pins s σ H (λc H1=>Q (!c) H1) I h)
theorem ii {op}{t:TE}(h:PE X a t):PE X (.BoolOp op [a] pos) t:=λpins s σ H Q I hw=>BoolOp_one (h pins s σ H Q I hw)
def Q5 (t:TT)(ta tb:TE):TE:=λσ H Q=>t σ H λc H1=>if c=true then ta σ H1 Q else tb σ H1 Q
theorem Et {c:Expr}(hc:PT X c tA)(ha:PE X a ta)(hb:PE X b tb):PE X (.IfExp c a b pos) (Q5 tA ta tb):=by
 intro pins s σ H Q I h;rwa[wpAny_IfExp (bT (hc pins s σ H _ I h) λd s1 ⟨H1,I1,q1⟩=> ?_)]
 cases d with
 |true=>exact ha pins s1 σ H1 Q I1 q1
 |false=>exact hb pins s1 σ H1 Q I1 q1
end
def aS (K:Fg)(H:Hp)(a:Addr)(xs:List V):Prop:=
 Rd H a (.lst xs)\/
  ∃(o:Obj) (its:Array Value) (n:Nat),K.lookup a=some o/\o.cls= .type "list"/\o.dict=none/\o.data= .seq its n/\its.size<=sizeLine/\aY xs its.toList
def aP (K:Fg)(H:Hp)(a:Addr)(xs:List V):Prop:=
 Rd H a (.tup xs)\/
  ∃(o:Obj) (its:Array Value) (n:Nat),K.lookup a=some o/\o.cls= .type "tuple"/\o.data= .seq its n/\its.size<=sizeLine/\aY xs its.toList
def QJ:Value->Option V
 | .none=>some .non
 | .bool b=>some (.bl b)
 | .int i _=>some (.int i)
 | .str x _=>some (.str x)
 | .bytes b _=>some (.byt b)
 | .float b _=>some (.flt b)
 | .ref a=>some (.ref a)
 | .type n=>some (.ty n)
 |_=>none
theorem aQ.abs {x:V}{u:Value}(r:aQ x u):QJ u=some x:=by
 cases x with
 |non=>cases r;rfl
 |bl _=>cases r;rfl
 |int _=>obtain ⟨t,rfl⟩:=r;rfl
 |str _=>obtain ⟨t,rfl⟩:=r;rfl
 |byt _=>obtain ⟨t,rfl⟩:=r;rfl
 |flt _=>obtain ⟨t,rfl⟩:=r;rfl
 |ref _=>cases r;rfl
 |ty _=>cases r;rfl
theorem aQ.inj {x y:V}{u:Value}(r:aQ x u)(q:aQ y u):x=y:=Option.some.inj (r.abs.symm.trans q.abs)
theorem aY.inj:∀ {xs ys:List V} {us:List Value},aY xs us->aY ys us->xs=ys
 |_,_,_,.nil,.nil=>rfl
 |_,_,_,.cons r t,.cons r' t'=>by rw [r.inj r',aY.inj t t']
section
variable {X:Cx}{pins:List ↑14}{σ:St}{H:Hp}{s:Shared}{a:Addr}{xs ys:List V}
theorem aS.of {K:Fg}(h:H a=some (.lst xs)):aS K H a xs:= .inl (.inl h)
theorem aP.of {K:Fg}(h:H a=some (.tup xs)):aP K H a xs:= .inl (.inl h)
theorem aF.list (I:aF X pins σ H s)(h:aS X.K H a xs):∃its:List Value,aY xs its/\PlainL s.heap a its.toArray/\xs.length<=sizeLine:=by
 rcases h with h|⟨o,its,n,hk,hc,hd,hs,hz,r⟩
 ·obtain ⟨z,its,n,r,e⟩:=h.ok I.hok;exact ⟨its,r,⟨_,n,e,rfl,rfl,rfl⟩,z⟩
 ·rwa[⟨its.toList,r,⟨o,n,I.kIn a o hk,hc,hd,by simpa using hs⟩,?_⟩];have e:=r.length;simp only [Array.length_toList] at e;omega
theorem aF.tuple (I:aF X pins σ H s)(h:aP X.K H a xs):∃its:List Value,aY xs its/\IsTup s.heap a its.toArray/\xs.length<=sizeLine:=by
 rcases h with h|⟨o,its,n,hk,hc,hs,hz,r⟩
 ·obtain ⟨z,its,r,p⟩:=h.ok I.hok;exact ⟨its,r,p,z⟩
 ·rwa[⟨its.toList,r,⟨o,I.kIn a o hk,hc,n,by simpa using hs⟩,?_⟩];have e:=r.length;simp only [Array.length_toList] at e;omega
theorem aF.list_inj (I:aF X pins σ H s)(h:aS X.K H a xs)(h':aS X.K H a ys):xs=ys:=by
 obtain ⟨its,r,⟨o,n,e,_,_,d⟩,_⟩:=I.list h;obtain ⟨its',r',⟨o',n',e',_,_,d'⟩,_⟩:=I.list h';rw [e] at e';cases e';rw [d] at d';injection d' with d1 _
 have:its=its':=by simpa using congrArg Array.toList d1
 subst this;exact r.inj r'
theorem aF.tuple_inj (I:aF X pins σ H s)(h:aP X.K H a xs)(h':aP X.K H a ys):xs=ys:=by
 obtain ⟨its,r,⟨o,e,_,n,d⟩,_⟩:=I.tuple h;obtain ⟨its',r',⟨o',e',_,n',d'⟩,_⟩:=I.tuple h';rw [e] at e';cases e';rw [d] at d';injection d' with d1 _
 have:its=its':=by simpa using congrArg Array.toList d1
 subst this;exact r.inj r'
end
abbrev Cx.wish (X:Cx)(E:Value->Shared->Prop):Cx:= {X with xe:=E}
abbrev Cx.nox (X:Cx):Cx:=X.wish λ_ _=>False
theorem Cx.Ok.wish {X:Cx}(ok:X.Ok)(E:Value->Shared->Prop):(X.wish E).Ok:=
 ⟨ok.mod,ok.kind,ok.glob,ok.blt,ok.above,ok.inj,ok.has,ok.cab,ok.hd,ok.frames,ok.stk,ok.exf,ok.bs,ok.bsz,ok.noex,ok.exfs,ok.funs,ok.frf⟩
theorem Cx.Ok.unwish {X:Cx}{E:Value->Shared->Prop}(ok:(X.wish E).Ok):X.Ok:=
 ⟨ok.mod,ok.kind,ok.glob,ok.blt,ok.above,ok.inj,ok.has,ok.cab,ok.hd,ok.frames,ok.stk,ok.exf,ok.bs,ok.bsz,ok.noex,ok.exfs,ok.funs,ok.frf⟩
section
variable {X:Cx}{pins:List ↑14}{σ:St}{H:Hp}{s:Shared}{E:Value->Shared->Prop}
theorem aF.wish (I:aF X pins σ H s)(E:Value->Shared->Prop):aF (X.wish E) pins σ H s:=⟨I.ok.wish E,I.os,I.bare,I.base,I.loc,I.cell,I.free,I.freeC,I.pin,I.hok,I.len⟩
theorem aF.unwish (I:aF (X.wish E) pins σ H s):aF X pins σ H s:=⟨I.ok.unwish,I.os,I.bare,I.base,I.loc,I.cell,I.free,I.freeC,I.pin,I.hok,I.len⟩
theorem SP.unwish {D:pZ}{f:Flow}{s':Shared}(h:SP (X.wish E) pins D f s'):SP X pins D f s':=by
 cases f with
 |next=>obtain ⟨σ',H',I,q⟩:=h;exact ⟨σ',H',I.unwish,q⟩
 |brk=>obtain ⟨σ',H',I,q⟩:=h;exact ⟨σ',H',I.unwish,q⟩
 |cont=>obtain ⟨σ',H',I,q⟩:=h;exact ⟨σ',H',I.unwish,q⟩
 |ret u=>obtain ⟨v,σ',H',I,r,q⟩:=h;exact ⟨v,σ',H',I.unwish,r,q⟩
theorem uq.nox {st:List Stmt}{t:TS}(h:uq X.nox st t):uq X st t:=λpins s σ H D I hw=>
 wpAny_mono (h pins s σ H D (I.wish _) hw) (λ_ _ q=>q.unwish) λ_ _ z=>False.elim z
end
section
variable {X:Cx}{st:Stmt}{cK:List Stmt}{t u:TS}{e:Expr}{te:TE}{pos:Pos}
def ND:TS:=λD σ H=>D.nx σ H
def P4 (t u:TS):TS:=λD σ H=>t {D with nx:=u D} σ H
theorem aC:uq X [] ND:=λ_ _ σ H _ I h=>wpAny_execs_nil ⟨σ,H,I,h⟩
theorem ag (h1:PS X st t)(h2:uq X cK u):uq X (st::cK) (P4 t u):=by
 intro pins s σ H D I h;rwa[wpAny_execs_cons (bT (h1 pins s σ H {D with nx:=u D} I h) λf s1 q=> ?_)]
 cases f with
 |next=>
  obtain ⟨σ',H',I',q⟩:=q;exact h2 pins s1 σ' H' D I' q
 |ret v=>exact q
 |brk=>exact q
 |cont=>exact q
theorem af (h1:PS X st t):uq X [st] t:=by
 intro pins s σ H D I h;rwa[wpAny_execs_cons (bT (h1 pins s σ H D I h) λf s1 q=> ?_)]
 cases f with
 |next=>exact wpAny_execs_nil q
 |ret v=>exact q
 |brk=>exact q
 |cont=>exact q
theorem aF.quiet {pins:List ↑14}{σ:St}{H:Hp}{s:Shared}(I:aF X pins σ H s):interactive X.env=false:=by simp [interactive,I.ok.kind]
def NL (te:TE):TS:=λD σ H=>te σ H λ_ H1=>D.nx σ H1
theorem aO (he:PE X e te)(hs:swapsWith e none pos.line X.env=pure false:=by rfl):PS X (.Expr e pos) (NL te):=by
 intro pins s σ H D I h;exact wpAny_Expr_any (bT (he pins s σ H _ I h) λv s1 ⟨x,H1,I1,r1,q1⟩=>⟨σ,H1,I1,q1⟩) I.quiet hs
def P5 (te:TE):TS:=λD σ H=>te σ H D.rt
theorem aq (he:PE X e te):PS X (.Return (some e) pos) (P5 te):=by
 intro pins s σ H D I h;exact wpAny_Return_some (bT (he pins s σ H _ I h) λv s1 ⟨x,H1,I1,r1,q1⟩=>⟨x,σ,H1,I1,r1,q1⟩)
def NC:TS:=λD _ H=>D.rt .non H
theorem HF:PS X (.Return none pos) NC:=λ_ _ σ H _ I h=>wpAny_Return_none ⟨.non,σ,H,I,rfl,h⟩
def Qa (c:TT)(t u:TS):TS:=λD σ H=>c σ H λb H1=>if b=true then t D σ H1 else u D σ H1
theorem N1 {c:Expr}{a b:List Stmt}{tc:TT}(hc:PT X c tc)(ha:uq X a t)(hb:uq X b u):PS X (.If c a b pos) (Qa tc t u):=by
 intro pins s σ H D I h;rwa[wpAny_If (bT (hc pins s σ H _ I h) λd s1 ⟨H1,I1,q1⟩=> ?_)]
 cases d with
 |true=>exact ha pins s1 σ H1 D I1 q1
 |false=>exact hb pins s1 σ H1 D I1 q1
end
abbrev TG:=V->St->Hp->(St->Hp->Prop)->Prop
abbrev Bm:=List V->St->Hp->(St->Hp->Prop)->Prop
def PG (X:Cx)(target:Expr)(t:TG):Prop:=
 ∀(pins:List ↑14) (s:Shared) (σ:St) (H:Hp) (v:V) (u:Value) (Q:St->Hp->Prop),aF X pins σ H s->aQ v u->t v σ H Q->
  wpAny ↑8 X.A (assign target X.env u) (λ_ s'=>∃σ' H',aF X pins σ' H' s'/\Q σ' H') X.xe s
def Gq (X:Cx)(ts:List Expr)(t:Bm):Prop:=
 ∀(pins:List ↑14) (s:Shared) (σ:St) (H:Hp) (vs:List V) (us:List Value) (Q:St->Hp->Prop),aF X pins σ H s->aY vs us->t vs σ H Q->
  wpAny ↑8 X.A (assignInOrder ((assignEach ts X.env).map (·.2)) us) (λ_ s'=>∃σ' H',aF X pins σ' H' s'/\Q σ' H') X.xe s
abbrev MB:=V->V->V->Hp->(Hp->Prop)->Prop
def Gp (X:Cx)(t:MB):Prop:=
 ∀(pins:List ↑14) (s:Shared) (σ:St) (H:Hp) (o i v:V) (ov iv u:Value) (Q:Hp->Prop),aF X pins σ H s->aQ o ov->aQ i iv->aQ v u->t o i v H Q->
  wpAny ↑8 X.A (setItem ov iv u) (λ_ s'=>∃H',aF X pins σ H' s'/\Q H') X.xe s
section
variable {X:Cx}{pos:Pos}
def sd (i:Nat):TG:=λv σ H Q=>Q (σ.set i (some v)) H
theorem az {i:Nat}{x:Str}(hN:X.N.Nodup)(hi:X.N[i]? =some x)(hx:MN X.env.scope x)(hf:X.fn x=true\/X.env.scope.names.lookup x=some .local:=by first|exact .inl rfl|exact .inr rfl|assumption):PG X (.Name x pos) (sd i):=by
 intro pins s σ H v u Q I r h;exact wpAny_assign_Name (xN I hN hi hx r (λs' I'=>⟨_,H,I',h⟩) hf)
def QC:Bm:=λvs σ H Q=>vs=[]/\Q σ H
def Oy (t:TG)(u:Bm):Bm:=λvs σ H Q=>∃v r,vs=v::r/\t v σ H λσ' H'=>u r σ' H' Q
theorem HJ:Gq X [] QC:=by
 intro pins s σ H vs us Q I r h;obtain ⟨e,h⟩:=h;subst e;cases r;exact assignInOrder_nil ⟨σ,H,I,h⟩
theorem Eo {e:Expr}{es:List Expr}{t:TG}{u:Bm}(h1:PG X e t)(h2:Gq X es u)
(hs:(assignEach (e::es) X.env).map (·.2)=assign e X.env::(assignEach es X.env).map (·.2):=by rfl):Gq X (e::es) (Oy t u):=by
 intro pins s σ H vs us Q I r h;obtain ⟨v,vr,e1,h⟩:=h;subst e1
 cases r with
 |cons r rr=>
  rw [hs];rwa[assignInOrder_cons (bT (h1 pins s σ H _ _ _ I r h) λ_ s1 ⟨σ1,H1,I1,q1⟩=> ?_)];exact h2 pins s1 σ1 H1 _ _ Q I1 rr q1
def Ox (K:Fg)(n:Nat)(t:Bm):TG:=λv σ H Q=>∃a xs,v= .ref a/\aP K H a xs/\xs.length=n/\t xs σ H Q
theorem Lc {es:List Expr}{k:Nat}{t:Bm}{n:Nat}(hc:X.calm=true)(h:Gq X es t)
(hn:(assignEach es X.env).length=n:=by rfl)(hst:(assignEach es X.env).findIdx? (·.1)=none:=by rfl):PG X (.Tuple es k pos) (Ox X.K n t):=by
 intro pins s σ H v u Q I r hw;obtain ⟨a,xs,e1,hq,hl,hw⟩:=hw;subst e1;cases r;obtain ⟨its,rv,ht,hz⟩:=I.tuple hq;rwa[assign_Tuple_tuple (I.ok.hd hc) ht (by simp [hn,<-hl,rv.length]) hst λh' hx=> ?_];have I1:aF X pins σ H {s with heap:=h'}:=I.kept (t':=s.toks) λb o e=>hx b o (Nat.ne_of_lt (Heap.lt_size e)) e;exact h pins _ σ H xs _ Q I1 (by simpa using rv) hw
def QB (to ti:TE)(t:MB):TG:=λv σ H Q=>to σ H λo H1=>ti σ H1 λi H2=>t o i v H2 λH3=>Q σ H3
theorem ig {o i:Expr}{to ti:TE}{t:MB}(ho:PE X o to)(hi:PE X i ti)(hs:Gp X t)
(ha:∀v,assign (.Subscript o i pos) X.env v=(do
   let ov<-holding [v] (eval o X.env)
   let iv<-holding [v,ov] (eval i X.env)
   standAt pos
   holding [v,ov,iv] (setItem ov iv v)
   release [v,ov,iv] []):=by intro _;rfl):PG X (.Subscript o i pos) (QB to ti t):=by
 intro pins s σ H v u Q I r h;rw [ha];rwa[wpAny_bind (wpAny_holding (bT (ho pins s σ H _ I h) λov s1 ⟨x,H1,I1,r1,q1⟩=> ?_))];rwa[wpAny_bind (wpAny_holding (bT (hi pins s1 σ H1 _ I1 q1) λiv s2 ⟨y,H2,I2,r2,q2⟩=> ?_))];rwa[wpAny_bind (wpAny_standAt (wpAny_bind (wpAny_holding (bT (hs pins s2 σ H2 x y v ov iv u _ I2 r1 r2 r q2) λ_ s3 ⟨H3,I3,q3⟩=> ?_))))];exact wpAny_release ⟨σ,H3,I3,q3⟩
def Hd (te:TE)(g:TG):TS:=λD σ H=>te σ H λx H1=>g x σ H1 D.nx
theorem ie {tg e:Expr}{te:TE}{g:TG}(he:PE X e te)(hg:PG X tg g)(hs:swapsWithSole [tg] e pos.line X.env=pure false:=by rfl)(hw:swappedStores [tg] e X.env=pure none:=by rfl)
(h1:(assignEach [tg] X.env).map (·.2)=[assign tg X.env]:=by rfl):PS X (.Assign [tg] e pos) (Hd te g):=by
 intro pins s σ H D I h;rwa[wpAny_Assign_stores (bT (he pins s σ H _ I h) λv s1 ⟨x,H1,I1,r1,q1⟩=> ?_) hs hw];rw [h1];exact bT (hg pins s1 σ H1 x v _ I1 r1 q1) λ_ s2 q=>q
theorem aA {i:Nat}{x:Str}{e:Expr}{te:TE}{pos':Pos}(hN:X.N.Nodup)(hi:X.N[i]? =some x)(hx:MN X.env.scope x)(he:PE X e te)(hs:swapsWith e (some (.Name x pos')) pos.line X.env=pure false:=by rfl)(hf:X.fn x=true\/X.env.scope.names.lookup x=some .local:=by first|exact .inl rfl|exact .inr rfl|assumption):
 PS X (.Assign [.Name x pos'] e pos) (Hd te (sd i)):=by
 intro pins s σ H D I h;rwa[wpAny_Assign_Name (bT (he pins s σ H _ I h) λv s1 ⟨y,H1,I1,r1,q1⟩=> ?_) hs];exact xN I1 hN hi hx r1 (λs2 I2=>⟨_,H1,I2,q1⟩) hf
end
structure It where
 go:Nat->Hp->Prop
 yld:Nat->Hp->V->Hp->Prop
 stop:Nat->Hp->Prop
def jL (X:Cx)(pins:List ↑14)(H:Hp)(b:Addr):Prop:=
 H b=none/\b≠X.env.locals/\b∉X.fs/\(b∈X.ex\/X.s₀.heap.objs.size<=b)/\(∀x c,X.env.cells.lookup x=some c->c≠b)/\∀p∈X.pn++pins,p.1≠b
theorem aF.fpOk {X:Cx}{pins:List ↑14}{σ:St}{H H':Hp}{s:Shared}{b:Addr}(I:aF X pins σ H s)(hb:s.heap.objs.size<=b)(hn:H' b=none):jL X pins H' b:=by
 rwa[⟨hn,Nat.ne_of_gt (Nat.lt_of_lt_of_le I.lt hb),I.nofs hb,.inr (Nat.le_trans I.sz hb),λx c e z=> ?_,λp hp z=> ?_⟩]
 ·obtain ⟨v,q⟩:=I.cell x c e;exact absurd (Nat.lt_of_lt_of_le q.lt (by rw [z];exact hb)) (Nat.lt_irrefl _)
 ·exact absurd (Nat.lt_of_lt_of_le (Heap.lt_size (I.pin p hp).1) (by rw [z];exact hb)) (Nat.lt_irrefl _)
structure xk (P:Program)(w:World)(K:Fg)(tg:Expr)(J:It)(fp:List Addr)(it:Addr)(tn:Nat->Heap->Prop):Prop where
 mem:it∈fp
 obj:∀i h,tn i h->∀b∈fp,∃o,h.get? b=some o/\∀v,o.data≠ .cell v
 keep:∀i h h',tn i h->(∀b∈fp,∀o,h.get? b=some o->h'.get? b=some o)->tn i h'
 item:∀(X:Cx),X.prog=P->X.w=w->X.K=K->X.calm=true->∀(i:Nat) (pins:List ↑14) (s:Shared) (σ:St) (H:Hp) (E:Value->Shared->Prop),aF X pins σ H s->(∀b∈fp,jL X pins H b)->tn i s.heap->J.go i H->
  wpAny (model P w) X.A (pyNext (.ref it)) (λr s1=>∃u,r=some u/\
   wpAny (model P w) X.A (letOwnedTupleGo tg (.ref it) u) (λ_ s2=>∃x H',aF X pins σ H' s2/\aQ x u/\J.yld i H x H'/\tn (i+1) s2.heap/\∀b∈fp,H' b=none) E s1) E s
 done:∀(X:Cx),X.prog=P->X.w=w->X.K=K->X.calm=true->∀(i:Nat) (pins:List ↑14) (s:Shared) (σ:St) (H:Hp) (E:Value->Shared->Prop),aF X pins σ H s->(∀b∈fp,jL X pins H b)->tn i s.heap->J.stop i H->
  wpAny (model P w) X.A (pyNext (.ref it)) (λr s1=>r=none/\aF X pins σ H s1) E s
 self:∀(A:Around) (i:Nat) (s:Shared) (Q:Value->Shared->Prop) (E:Value->Shared->Prop),tn i s.heap->Q (.ref it) s->wpAny (model P w) A (pyIter (.ref it)) Q E s
abbrev TI:=St->Hp->(It->Hp->Prop)->Prop
def QL (X:Cx)(pins:List ↑14)(σ:St)(tg:Expr)(R:It->Hp->Prop)(itv:Value)(s2:Shared):Prop:=
 ∃(it:Addr) (fp:List Addr) (tn:Nat->Heap->Prop) (J:It) (H':Hp),itv= .ref it/\aF X pins σ H' s2/\xk X.prog X.w X.K tg J fp it tn/\tn 0 s2.heap/\(∀b∈fp,jL X pins H' b)/\R J H'
def PI (X:Cx)(tg iter:Expr)(wi:TI):Prop:=
 ∀(pins:List ↑14) (s:Shared) (σ:St) (H:Hp) (R:It->Hp->Prop),aF X pins σ H s->wi σ H R->
  wpAny ↑8 X.A (eval iter X.env) (λv s1=>wpAny ↑8 X.A (pyIter v) (QL X pins σ tg R) X.xe s1) X.xe s
theorem A9 {M:Model}{A:Around}{E:Value->Shared->Prop}{s:Shared}{tg:Expr}{it:Addr}{u:Value}{o:Obj}{n:String}{vs:Array Value}{Q:Unit->Shared->Prop}(ho:s.heap.get? it=some o)(hc:o.cls= .type n)(hd:o.data= .fields vs)
(hn:["enumerate","zip","dict_itemiterator","dict_reverseitemiterator","odict_iterator","itertools.zip_longest","itertools.pairwise"].contains n=false)(hQ:Q () s):wpAny M A (letOwnedTupleGo tg (.ref it) u) Q E s:=by
 unfold letOwnedTupleGo
 cases tg<;>first
  |exact wpAny_pure hQ
  |(cases u<;>first
     |exact wpAny_pure hQ
     |(refine wpAny_bind (wpAny_load ho ?_)
       rw [hc,hd];show wpAny M A (if (["enumerate","zip","dict_itemiterator","dict_reverseitemiterator","odict_iterator","itertools.zip_longest","itertools.pairwise"].contains n&&vs[0]? ==some (rawInt _))=true then _ else _) Q E s;rw [if_neg (by intro h;rw [hn,Bool.false_and] at h;cases h)]
       exact wpAny_pure hQ))
def GD (K:Fg)(a:Addr):It:=
 ⟨λi H=>∃xs x,aS K H a xs/\xs[i]? =some x,λi H x H'=>H'=H/\∀xs,aS K H a xs->xs[i]? =some x,λi H=>∃xs,aS K H a xs/\xs.length<=i⟩
def Gz (K:Fg)(a:Addr):It:=
 ⟨λi H=>∃xs x,aP K H a xs/\xs[i]? =some x,λi H x H'=>H'=H/\∀xs,aP K H a xs->xs[i]? =some x,λi H=>∃xs,aP K H a xs/\xs.length<=i⟩
def Jo (lo:Int)(n:Nat):It:=⟨λi _=>i<n,λi H x H'=>H'=H/\x= .int (lo+i),λi _=>n<=i⟩
theorem Bs {P:Program}{w:World}{K:Fg}{tg:Expr}(a it:Addr):xk P w K tg (GD K a) [it] it (λi h=>h.IsListIter it a i) where
 mem:=by simp
 obj:=λi h st b hb=>by
  have e:b=it:=by simpa using hb
  subst e;obtain ⟨o,e,c,d⟩:=st;exact ⟨o,e,λv z=>by rw [d] at z;cases z⟩
 keep:=λi h h' st k=>st.at λo e=>k it ↑17 o e
 item:=by
  intro X hP hw hK hc i pins s σ H E I hf st hg;subst hP hw hK;obtain ⟨xs,x,hq,hx⟩:=hg;obtain ⟨its,rv,p,hz⟩:=I.list hq;obtain ⟨u,hu,ru⟩:=rv.get hx;obtain ⟨f0,f1,f2,f3,f4,f5⟩:=hf it ↑17;rwa[wpAny_pyNext_list_item st p.isList (x:=u) (by simpa using hu) λh' st' sb=> ?_];have I1:aF X pins σ H {s with heap:=h'}:=I.turned (t':=s.toks) (λb o hb e=>(sb.2 b hb).trans e) f0 f1 f3 f4 f5;obtain ⟨o,e,c,d⟩:=id st';exact ⟨u,rfl,A9 (s:= {s with heap:=h'}) e c d ↑2 ⟨x,H,I1,ru,⟨rfl,λys hy=>by rw [I.list_inj hy hq];exact hx⟩,st',λb hb=>(hf b hb).1⟩⟩
 done:=by
  intro X hP hw hK hc i pins s σ H E I hf st hg;subst hP hw hK;obtain ⟨xs,hq,hx⟩:=hg;obtain ⟨its,rv,p,hz⟩:=I.list hq;obtain ⟨f0,f1,f2,f3,f4,f5⟩:=hf it ↑17;have hl:=rv.length;exact wpAny_pyNext_list_end (I.ok.hd hc) st p.isList (by simp;omega) λh' eb=>⟨rfl,I.turned (t':=s.toks) (λb o hb e=>eb b o hb e) f0 f1 f3 f4 f5⟩
 self:=λ_ _ _ _ _ st h=>wpAny_pyIter_listiter st h
theorem y8 {P:Program}{w:World}{K:Fg}{tg:Expr}(a it:Addr):xk P w K tg (Gz K a) [it] it (λi h=>h.IsTupleIter it a i) where
 mem:=by simp
 obj:=λi h st b hb=>by
  have e:b=it:=by simpa using hb
  subst e;obtain ⟨o,e,c,d⟩:=st;exact ⟨o,e,λv z=>by rw [d] at z;cases z⟩
 keep:=λi h h' st k=>st.at λo e=>k it ↑17 o e
 item:=by
  intro X hP hw hK hc i pins s σ H E I hf st hg;subst hP hw hK;obtain ⟨xs,x,hq,hx⟩:=hg;obtain ⟨its,rv,p,hz⟩:=I.tuple hq;obtain ⟨u,hu,ru⟩:=rv.get hx;obtain ⟨f0,f1,f2,f3,f4,f5⟩:=hf it ↑17;rwa[wpAny_pyNext_tuple_item st (show s.heap.IsTuple a its.toArray from p) (x:=u) (by simpa using hu) λh' st' sb=> ?_];have I1:aF X pins σ H {s with heap:=h'}:=I.turned (t':=s.toks) (λb o hb e=>(sb.2 b hb).trans e) f0 f1 f3 f4 f5;obtain ⟨o,e,c,d⟩:=id st';exact ⟨u,rfl,A9 (s:= {s with heap:=h'}) e c d ↑2 ⟨x,H,I1,ru,⟨rfl,λys hy=>by rw [I.tuple_inj hy hq];exact hx⟩,st',λb hb=>(hf b hb).1⟩⟩
 done:=by
  intro X hP hw hK hc i pins s σ H E I hf st hg;subst hP hw hK;obtain ⟨xs,hq,hx⟩:=hg;obtain ⟨its,rv,p,hz⟩:=I.tuple hq;obtain ⟨f0,f1,f2,f3,f4,f5⟩:=hf it ↑17;have hl:=rv.length;exact wpAny_pyNext_tuple_end (I.ok.hd hc) st (show s.heap.IsTuple a its.toArray from p) (by simp;omega) λh' eb=>⟨rfl,I.turned (t':=s.toks) (λb o hb e=>eb b o hb e) f0 f1 f3 f4 f5⟩
 self:=λ_ _ _ _ _ st h=>wpAny_pyIter_tupleiter st h
theorem y9 {P:Program}{w:World}{K:Fg}{tg:Expr}(it:Addr)(lo:Int)(n:Nat):xk P w K tg (Jo lo n) [it] it (λi h=>IsRangeIter h it (lo+(i:Nat)*1) ((n:Int) - (i:Nat)) 1) where
 mem:=by simp
 obj:=λi h st b hb=>by
  have e:b=it:=by simpa using hb
  subst e
  exact ⟨_,st,λv z=>by
   have z':Data.fields _=Data.cell v:=z
   cases z'⟩
 keep:=λi h h' st k=>k it ↑17 _ st
 item:=by
  intro X hP hw hK hc i pins s σ H E I hf st hg;subst hP hw hK;obtain ⟨f0,f1,f2,f3,f4,f5⟩:=hf it ↑17;have W:=Walks.range (prog:=X.prog) (w:=X.w) (I.ok.hd hc) it lo 1 n;rwa[W.item i s _ _ hg st λv h' tk hv st' kk=> ?_];obtain ⟨t,rfl⟩:=hv;have I1:aF X pins σ H {s with heap:=h',toks:=tk}:=I.turned (λb o hb e=>kk b o (by simpa using hb) e) f0 f1 f3 f4 f5;rwa[⟨_,rfl,A9 (s:= {s with heap:=h',toks:=tk}) (n:="range_iterator") st' rfl rfl ↑2 ⟨.int (lo+i),H,I1,⟨t,?_⟩,⟨rfl,rfl⟩,st',λb hb=>(hf b hb).1⟩⟩];rw [Int.mul_one]
 done:=by
  intro X hP hw hK hc i pins s σ H E I hf st hg;subst hP hw hK;obtain ⟨f0,f1,f2,f3,f4,f5⟩:=hf it ↑17;exact wpAny_pyNext_range_end (I.ok.hd hc) st (by have:n<=i:=hg;omega) λh' eb=>⟨rfl,I.turned (t':=s.toks) (λb o hb e=>eb b o hb e) f0 f1 f3 f4 f5⟩
 self:=λ_ _ _ _ _ st h=>wpAny_pyIter_rangeiter st h
section
variable {X:Cx}{tg:Expr}
theorem Ei {pins:List ↑14}{σ:St}{H:Hp}{s:Shared}{R:It->Hp->Prop}{E:Value->Shared->Prop}{lo hi:Int}{t u v:Tok}{tk:Nat}(I:aF X pins σ H s)(h1: -(2^62)<=lo)(h2:lo<2^62)(h3: -(2^62)<=hi)(h4:hi<2^62)
(q:R (Jo lo (hi - lo).toNat) H):wpAny ↑8 X.A (pyIter (.ref s.heap.objs.size)) (QL X pins σ tg R) E {s with heap:=s.heap.push {cls:= .type "range",data:= .fields #[.int lo t,.int hi u,.int 1 v]},toks:=tk}:=by
 rwa[wpAny_pyIter_range (IsRange.new ..) (small_one h1 h2 h3 h4) ?_];have I1:aF X pins σ H {s with heap:=s.heap.push {cls:= .type "range",data:= .fields #[.int lo t,.int hi u,.int 1 v]},toks:=tk}:=I.kept λb o e=>Heap.get?_push_of_some _ e
 refine ⟨(s.heap.push {cls:= .type "range",data:= .fields #[.int lo t,.int hi u,.int 1 v]}).objs.size,[(s.heap.push {cls:= .type "range",data:= .fields #[.int lo t,.int hi u,.int 1 v]}).objs.size],_,_,H,rfl,
  I1.kept (t':=tk) λb o e=>Heap.get?_push_of_some _ e,y9 _ lo (hi - lo).toNat,?_,λb hb=> ?_,q⟩
 ·have e1:lo+((0:Nat):Int)*1=lo:=by simp
  have e2:(((hi - lo).toNat:Nat):Int) - ((0:Nat):Int)=Builtin.Range.rangeSize lo hi 1:=by rw [rangeSize_one];split<;>omega
  show IsRangeIter _ _ (lo+((0:Nat):Int)*1) ((((hi - lo).toNat:Nat):Int) - ((0:Nat):Int)) 1;rw [e1,e2];exact Heap.get?_push_size _ rfl
 ·have e:b=(s.heap.push {cls:= .type "range",data:= .fields #[.int lo t,.int hi u,.int 1 v]}).objs.size:=by simpa using hb
  subst e;exact I1.fpOk ↑13 (I1.hok.fresh ↑13)
def Qb (wi:TI)(g:TG)(tb:TS):TS:=λD σ H=>wi σ H λJ H1=>∃W:Nat->Nat->St->Hp->Prop,(∃m,W 0 m σ H1)/\∀i m σ H,W i m σ H->
 (J.stop i H/\D.nx σ H)\/(J.go i H/\∃N:St->Hp->Prop,(∀σ' H',N σ' H'->∃m',m'<m/\W (i+1) m' σ' H')/\∀x H',J.yld i H x H'->g x σ H' λσ2 H2=>tb {D with nx:=N,ct:=N,bk:=D.nx} σ2 H2)
def rA (fp:List Addr)(h:Heap):List ↑14:=fp.filterMap λb=>(h.get? b).map λo=>(b,o)
theorem ik {fp:List Addr}{h:Heap}{b:Addr}{o:Obj}(hb:b∈fp)(e:h.get? b=some o):(b,o)∈rA fp h:=List.mem_filterMap.mpr ⟨b,hb,by rw [e];rfl⟩
theorem B9 {fp:List Addr}{h:Heap}{p:Addr×Obj}(hp:p∈rA fp h):p.1∈fp/\h.get? p.1=some p.2:=by
 obtain ⟨b,hb,e⟩:=List.mem_filterMap.mp hp
 cases q:h.get? b with
 |none=>rw [q] at e;cases e
 |some o=>
  rw [q] at e;have e':(b,o)=p:=Option.some.inj e;subst e';exact ⟨hb,q⟩
theorem aF.pinned {pins:List ↑14}{σ:St}{H:Hp}{s:Shared}{fp:List Addr}(I:aF X pins σ H s)(hf:∀b∈fp,jL X pins H b)(ho:∀b∈fp,∃o,s.heap.get? b=some o/\∀v,o.data≠ .cell v):aF X (pins++rA fp s.heap) σ H s:=
 I.pins_of λp hp=>(List.mem_append.mp hp).elim (λz=>I.pin p (List.mem_append_right _ z)) λz=>by
  obtain ⟨hb,e⟩:=B9 z;obtain ⟨f0,f1,f2,_⟩:=hf p.1 hb;obtain ⟨o,e',d⟩:=ho p.1 hb;rw [e] at e';cases e';exact ⟨e,f0,f1,f2,d⟩
theorem aF.unpinned {pins pl:List ↑14}{σ:St}{H:Hp}{s:Shared}(I:aF X (pins++pl) σ H s):aF X pins σ H s:=I.pins_of λp hp=>I.pin p (List.mem_append_right _ (List.mem_append_left _ hp))
theorem K9 {iter:Expr}{body:List Stmt}{wi:TI}{g:TG}{tb:TS}{pos:Pos}(hp:PassesOwn ↑8 X.A X.env X.xe)(hc:X.calm=true)(hi:PI X tg iter wi)(hg:PG X tg g)(hb:uq X body tb)
(hs:∀x,foldedSetIterable iter X.env x=pure x:=by intro _;rfl):PS X (.For tg iter body [] pos) (Qb wi g tb):=by
 intro pins s σ H D I h;rwa[wpAny_For (bT (hi pins s σ H _ I h) λv s1 h1=>bT h1 λitv s2 h2=> ?_) hs];obtain ⟨it,fp,tn,J,H2,e,I2,T,st2,f2,W,⟨m0,w0⟩,turn⟩:=h2;subst e;have stat:∀ {H':Hp},(∀b∈fp,H' b=none)->∀b∈fp,jL X pins H' b:=λhn b hb=>⟨hn b hb,(f2 b hb).2⟩;rwa[codeAny_forLoop_any (λn s'=>∃i σ' H',aF X pins σ' H' s'/\tn i s'.heap/\(∀b∈fp,H' b=none)/\W i n σ' H') ?_ m0 ⟨0,σ,H2,I2,st2,λb hb=>(f2 b hb).1,w0⟩];rintro n s3 ⟨i,σ3,H3,I3,st3,fr3,w3⟩
 rcases turn i n σ3 H3 w3 with ⟨stop,qn⟩|⟨go,N,hN,step⟩
 ·rwa[wpAny_passesOwn hp (bT (T.done X rfl rfl rfl hc i pins s3 σ3 H3 X.xe I3 (stat fr3) st3 stop) λr s4 ⟨hr,I4⟩=> ?_)];subst hr;exact wpAny_execs_nil ⟨σ3,H3,I4,qn⟩
 ·rwa[wpAny_passesOwn hp (bT (T.item X rfl rfl rfl hc i pins s3 σ3 H3 X.xe I3 (stat fr3) st3 go) λr s4 ⟨u,hr,h4⟩=> ?_)];subst hr;rwa[wpAny_passesOwn hp (bT h4 λ_ s5 ⟨x,H5,I5,r5,y5,st5,fr5⟩=> ?_)];have I5':=I5.pinned (stat fr5) (T.obj _ _ st5);rwa[wpAny_passesOwn hp (bT (hg _ s5 σ3 H5 x u _ I5' r5 (step x H5 y5)) λ_ s6 ⟨σ6,H6,I6,q6⟩=> ?_)];rwa[wpAny_passesOwn hp (bT (hb _ s6 σ6 H6 _ I6 q6) λf s7 q7=> ?_)]
  have again:∀ {σ7:St} {H7:Hp},aF X (pins++rA fp s5.heap) σ7 H7 s7->N σ7 H7->∃m,m<n/\∃i σ' H',aF X pins σ' H' s7/\tn i s7.heap/\(∀b∈fp,H' b=none)/\W i m σ' H':=λ{σ7 H7} I7 n7=>by
   obtain ⟨m',hm,w7⟩:=hN σ7 H7 n7;rwa[⟨m',hm,i+1,σ7,H7,I7.unpinned,T.keep _ _ _ st5 λb hb o e=>(I7.pin (b,o) (List.mem_append_right _ (List.mem_append_right _ (ik hb e)))).1,λb hb=> ?_,w7⟩];obtain ⟨o,e,d⟩:=T.obj _ _ st5 b hb;exact (I7.pin (b,o) (List.mem_append_right _ (List.mem_append_right _ (ik hb e)))).2.1
  cases f with
  |next=>obtain ⟨σ7,H7,I7,n7⟩:=q7;exact again I7 n7
  |cont=>obtain ⟨σ7,H7,I7,n7⟩:=q7;exact again I7 n7
  |brk=>obtain ⟨σ7,H7,I7,q7⟩:=q7;exact ⟨σ7,H7,I7.unpinned,q7⟩
  |ret v=>obtain ⟨x7,σ7,H7,I7,r7,q7⟩:=q7;exact ⟨x7,σ7,H7,I7.unpinned,r7,q7⟩
end
theorem FA {K:Fg}{a:Addr}{xs:List V}{g:TG}{tb:TS}{D:pZ}{σ:St}{H:Hp}(Pv:Nat->St->Hp->Prop)(h0:Pv 0 σ H)(hl:∀i σ H,i<=xs.length->Pv i σ H->aS K H a xs)
(hs:∀i x σ H,xs[i]? =some x->Pv i σ H->g x σ H λσ2 H2=>tb {D with nx:=Pv (i+1),ct:=Pv (i+1),bk:=D.nx} σ2 H2)(hd:∀σ H,Pv xs.length σ H->D.nx σ H):
 ∃W:Nat->Nat->St->Hp->Prop,(∃m,W 0 m σ H)/\∀i m σ H,W i m σ H->
  ((GD K a).stop i H/\D.nx σ H)\/((GD K a).go i H/\∃N:St->Hp->Prop,(∀σ' H',N σ' H'->∃m',m'<m/\W (i+1) m' σ' H')/\∀x H',(GD K a).yld i H x H'->g x σ H' λσ2 H2=>tb {D with nx:=N,ct:=N,bk:=D.nx} σ2 H2):=by
 rwa[⟨λi m σ H=>m=xs.length - i/\i<=xs.length/\Pv i σ H,⟨xs.length,by simp,Nat.zero_le _,h0⟩,?_⟩];rintro i m σ H ⟨rfl,hi,p⟩;have q:=hl i σ H hi p;by_cases hlt:i<xs.length
 ·rwa[.inr ⟨⟨xs,xs[i],q,by simp [hlt]⟩,Pv (i+1),λσ' H' p'=>⟨xs.length - (i+1),by omega,rfl,hlt,p'⟩,λx H' y=> ?_⟩];obtain ⟨e,y⟩:=y;subst e;exact hs i x σ _ (y xs q) p
 ·have e:i=xs.length:=by omega
  subst e;exact .inl ⟨⟨xs,q,Nat.le_refl _⟩,hd σ H p⟩
theorem IT {K:Fg}{a:Addr}{xs:List V}{g:TG}{tb:TS}{D:pZ}{σ:St}{H:Hp}(Pv:Nat->St->Hp->Prop)(h0:Pv 0 σ H)(hl:∀i σ H,i<=xs.length->Pv i σ H->aP K H a xs)
(hs:∀i x σ H,xs[i]? =some x->Pv i σ H->g x σ H λσ2 H2=>tb {D with nx:=Pv (i+1),ct:=Pv (i+1),bk:=D.nx} σ2 H2)(hd:∀σ H,Pv xs.length σ H->D.nx σ H):
 ∃W:Nat->Nat->St->Hp->Prop,(∃m,W 0 m σ H)/\∀i m σ H,W i m σ H->
  ((Gz K a).stop i H/\D.nx σ H)\/((Gz K a).go i H/\∃N:St->Hp->Prop,(∀σ' H',N σ' H'->∃m',m'<m/\W (i+1) m' σ' H')/\∀x H',(Gz K a).yld i H x H'->g x σ H' λσ2 H2=>tb {D with nx:=N,ct:=N,bk:=D.nx} σ2 H2):=by
 rwa[⟨λi m σ H=>m=xs.length - i/\i<=xs.length/\Pv i σ H,⟨xs.length,by simp,Nat.zero_le _,h0⟩,?_⟩];rintro i m σ H ⟨rfl,hi,p⟩;have q:=hl i σ H hi p;by_cases hlt:i<xs.length
 ·rwa[.inr ⟨⟨xs,xs[i],q,by simp [hlt]⟩,Pv (i+1),λσ' H' p'=>⟨xs.length - (i+1),by omega,rfl,hlt,p'⟩,λx H' y=> ?_⟩];obtain ⟨e,y⟩:=y;subst e;exact hs i x σ _ (y xs q) p
 ·have e:i=xs.length:=by omega
  subst e;exact .inl ⟨⟨xs,q,Nat.le_refl _⟩,hd σ H p⟩
theorem Cw {lo:Int}{n:Nat}{g:TG}{tb:TS}{D:pZ}{σ:St}{H:Hp}(Pv:Nat->St->Hp->Prop)(h0:Pv 0 σ H)
(hs:∀i σ H,i<n->Pv i σ H->g (.int (lo+i)) σ H λσ2 H2=>tb {D with nx:=Pv (i+1),ct:=Pv (i+1),bk:=D.nx} σ2 H2)(hd:∀σ H,Pv n σ H->D.nx σ H):
 ∃W:Nat->Nat->St->Hp->Prop,(∃m,W 0 m σ H)/\∀i m σ H,W i m σ H->
  ((Jo lo n).stop i H/\D.nx σ H)\/((Jo lo n).go i H/\∃N:St->Hp->Prop,(∀σ' H',N σ' H'->∃m',m'<m/\W (i+1) m' σ' H')/\∀x H',(Jo lo n).yld i H x H'->g x σ H' λσ2 H2=>tb {D with nx:=N,ct:=N,bk:=D.nx} σ2 H2):=by
 rwa[⟨λi m σ H=>m=n - i/\i<=n/\Pv i σ H,⟨n,by simp,Nat.zero_le _,h0⟩,?_⟩];rintro i m σ H ⟨rfl,hi,p⟩;by_cases hlt:i<n
 ·rwa[.inr ⟨hlt,Pv (i+1),λσ' H' p'=>⟨n - (i+1),by omega,rfl,hlt,p'⟩,λx H' y=> ?_⟩];obtain ⟨e,y⟩:=y;subst e y;exact hs i σ _ hlt p
 ·have e:i=n:=by omega
  subst e;exact .inl ⟨Nat.le_refl _,hd σ H p⟩
abbrev R2:=V->V->Hp->VK->Prop
def dD (X:Cx)(f:Value->Value->Sem Value)(r:R2):Prop:=
 ∀(pins:List ↑14) (s:Shared) (σ:St) (H:Hp) (x y:V) (v u:Value) (Q:VK),aF X pins σ H s->aQ x v->aQ y u->r x y H Q->
  wpAny ↑8 X.A (f v u) (EP X pins σ Q) X.xe s
def MM (X:Cx)(f:Value->Sem Value)(r:V->Hp->VK->Prop):Prop:=
 ∀(pins:List ↑14) (s:Shared) (σ:St) (H:Hp) (x:V) (v:Value) (Q:VK),aF X pins σ H s->aQ x v->r x H Q->
  wpAny ↑8 X.A (f v) (EP X pins σ Q) X.xe s
def bH (X:Cx)(f:Value)(r:List V->Hp->VK->Prop):Prop:=
 ∀(pins:List ↑14) (s:Shared) (σ:St) (H:Hp) (xs:List V) (us:List Value) (Q:VK),aF X pins σ H s->aY xs us->r xs H Q->
  wpAny ↑8 X.A (call f us) (EP X pins σ Q) X.xe s
def QK (X:Cx)(r:V->Hp->(Bool->Hp->Prop)->Prop):Prop:=
 ∀(pins:List ↑14) (s:Shared) (σ:St) (H:Hp) (x:V) (v:Value) (Q:Bool->Hp->Prop),aF X pins σ H s->aQ x v->r x H Q->
  wpAny ↑8 X.A (truthy v) (TP X pins σ Q) X.xe s
def O6 (r:R2)(ta tb:TE):TE:=λσ H Q=>ta σ H λx H1=>tb σ H1 λy H2=>r x y H2 Q
def Q2 (r:V->Hp->VK->Prop)(ta:TE):TE:=λσ H Q=>ta σ H λx H1=>r x H1 Q
def rI (C:Int->Int->Prop)(g:Int->Int->V):R2:=λx y H Q=>∃i j,x= .int i/\y= .int j/\C i j/\Q (g i j) H
def El (g:Int->Int->V):R2:=λx y H Q=>∃i j,x= .int i/\y= .int j/\Q (g i j) H
def rU (g:Int->V):V->Hp->VK->Prop:=λx H Q=>∃i,x= .int i/\Q (g i) H
section
variable {X:Cx}{a b c:Expr}{ta tb tc:TE}{pos:Pos}
theorem Mw (ha:PE X a ta)(hb:PE X b tb){pins:List ↑14}{s:Shared}{σ:St}{H:Hp}{R:V->V->Hp->Prop}(I:aF X pins σ H s)
(h:ta σ H λx H1=>tb σ H1 λy H2=>R x y H2){Q:Value->Shared->Prop}{f:Value->Value->Sem Value}
(hf:∀v u s2 x y H2,aF X pins σ H2 s2->aQ x v->aQ y u->R x y H2->wpAny ↑8 X.A (f v u) Q X.xe s2):
 wpAny ↑8 X.A (eval a X.env) (λv s₁=>wpAny ↑8 X.A (eval b X.env) (λu s₂=>wpAny ↑8 X.A (f v u) Q X.xe s₂) X.xe s₁) X.xe s:=by
 rwa[bT (ha pins s σ H _ I h) λv s1 ⟨x,H1,I1,r1,q1⟩=> ?_];rwa[bT (hb pins s1 σ H1 _ I1 q1) λu s2 ⟨y,H2,I2,r2,q2⟩=> ?_];exact hf v u s2 x y H2 I2 r1 r2 q2
theorem aH {op:Operator}{r:R2}(ho:dD X (binaryOp op) r)(ha:PE X a ta)(hb:PE X b tb):PE X (.BinOp a op b pos) (O6 r ta tb):=by
 intro pins s σ H Q I h;exact wpAny_BinOp (Mw ha hb I h λv u s2 x y H2 I2 rx ry q=>ho pins s2 σ H2 x y v u Q I2 rx ry q)
theorem mP {op:UnaryOp}{r:V->Hp->VK->Prop}(ho:MM X (unaryOp op) r)(ha:PE X a ta):PE X (.UnaryOp op a pos) (Q2 r ta):=by
 intro pins s σ H Q I h;exact UnaryOp_ (bT (ha pins s σ H _ I h) λv s1 ⟨x,H1,I1,r1,q1⟩=>ho pins s1 σ H1 x v Q I1 r1 q1)
theorem O9 {f:Value->Value->Sem Value}{C:Int->Int->Prop}{g:Int->Int->Int}
(rule:∀(i j:Int) (t u:Tok) (s:Shared) (Q:Value->Shared->Prop) (E:Value->Shared->Prop),C i j->Q (.int (g i j) s.toks) {s with toks:=s.toks+1}->wpAny ↑8 X.A (f (.int i t) (.int j u)) Q E s):
 dD X f (rI C λi j=> .int (g i j)):=by
 intro pins s σ H x y v u Q I rx ry h;obtain ⟨i,j,rfl,rfl,hc,q⟩:=h;obtain ⟨t,rfl⟩:=rx;obtain ⟨t',rfl⟩:=ry;exact rule i j t t' s _ _ hc ⟨.int (g i j),H,I.tok _,⟨_,rfl⟩,q⟩
theorem HS {f:Value->Value->Sem Value}{g:Int->Int->Int}
(rule:∀(i j:Int) (t u:Tok) (s:Shared) (Q:Value->Shared->Prop) (E:Value->Shared->Prop),Q (.int (g i j) s.toks) {s with toks:=s.toks+1}->wpAny ↑8 X.A (f (.int i t) (.int j u)) Q E s):
 dD X f (El λi j=> .int (g i j)):=by
 intro pins s σ H x y v u Q I rx ry h;obtain ⟨i,j,rfl,rfl,q⟩:=h;obtain ⟨t,rfl⟩:=rx;obtain ⟨t',rfl⟩:=ry;exact rule i j t t' s _ _ ⟨.int (g i j),H,I.tok _,⟨_,rfl⟩,q⟩
theorem HU {f:Value->Value->Sem Value}{g:Int->Int->Bool}
(rule:∀(i j:Int) (t u:Tok) (s:Shared) (Q:Value->Shared->Prop) (E:Value->Shared->Prop),Q (.bool (g i j)) s->wpAny ↑8 X.A (f (.int i t) (.int j u)) Q E s):
 dD X f (El λi j=> .bl (g i j)):=by
 intro pins s σ H x y v u Q I rx ry h;obtain ⟨i,j,rfl,rfl,q⟩:=h;obtain ⟨t,rfl⟩:=rx;obtain ⟨t',rfl⟩:=ry;exact rule i j t t' s _ _ ⟨.bl (g i j),H,I,rfl,q⟩
def CS (i j:Int):Prop:=0<j/\j<1073741824
def GK (i j:Int):Prop:=0<=j/\j<=1000000/\i.natAbs<2^64
def tK (i j:Int):Prop:=(-(2^64)<i/\i<2^64)\/(-(2^64)<j/\j<2^64)
theorem tK.ok {i j:Int}(h:tK i j):IntMulOk i j:=by
 rcases h with ⟨h1,h2⟩|⟨h1,h2⟩
 ·exact .of_left (intBits_le_64 h1 h2)
 ·exact .of_right (intBits_le_64 h1 h2)
theorem Lp:dD X (binaryOp .Add) (El λi j=> .int (i+j)):=HS λ_ _ _ _ _ _ _ q=>add_int q
theorem Li:dD X (binaryOp .Sub) (El λi j=> .int (i - j)):=HS λ_ _ _ _ _ _ _ q=>sub_int q
theorem Lk:dD X (binaryOp .Mult) (rI tK λi j=> .int (i*j)):=O9 λ_ _ _ _ _ _ _ hc q=>mul_int q hc.ok
theorem HP:dD X (binaryOp .FloorDiv) (rI CS λi j=> .int (i / j)):=O9 λi j _ _ _ _ _ hc q=>by
 have h1:(0:Int)<j:=hc.1;have h2:j<1073741824:=hc.2;exact floordiv_int ↑6 (by rw [Int.fdiv_eq_ediv_of_nonneg i ↑6];exact q) (.inl (PyProof.noPylong_small ↑6))
theorem Ll:dD X (binaryOp .Mod) (rI (λ_ j=>0<j) λi j=> .int (i% j)):=O9 λi j _ _ _ _ _ hc q=>by
 have h1:(0:Int)<j:=hc;exact mod_int' ↑6 (by rw [Int.fmod_eq_emod_of_nonneg i ↑6];exact q)
theorem Lj:dD X (binaryOp .LShift) (rI GK λi j=> .int (i*2^j.toNat)):=O9 λ_ _ _ _ _ _ _ hc q=>lshift_int_small hc.1 hc.2.1 hc.2.2 q
theorem Lo:dD X (binaryOp .BitAnd) (El λi j=> .int (Builtin.bitAnd i j)):=HS λ_ _ _ _ _ _ _ q=>and_int q
theorem N4:dD X (binaryOp .BitOr) (El λi j=> .int (Builtin.bitOr i j)):=HS λ_ _ _ _ _ _ _ q=>or_int q
theorem Q1 {f:Value->Sem Value}{g:Int->Int}
(rule:∀(i:Int) (t:Tok) (s:Shared) (Q:Value->Shared->Prop) (E:Value->Shared->Prop),Q (.int (g i) s.toks) {s with toks:=s.toks+1}->wpAny ↑8 X.A (f (.int i t)) Q E s):
 MM X f (rU λi=> .int (g i)):=by
 intro pins s σ H x v Q I rx h;obtain ⟨i,rfl,q⟩:=h;obtain ⟨t,rfl⟩:=rx;exact rule i t s _ _ ⟨.int (g i),H,I.tok _,⟨_,rfl⟩,q⟩
theorem Kp:MM X (unaryOp .USub) (rU λi=> .int (-i)):=Q1 λ_ _ _ _ _ q=>neg_int q
end
def KR:V->V->Bool
 | .non,.non=>true| .non,.int _=>true| .int _,.non=>true| .non,.bl _=>true| .bl _,.non=>true| .non,.str _=>true| .str _,.non=>true
 | .int _,.int _=>true| .bl _,.bl _=>true| .str _,.str _=>true| .byt _,.byt _=>true
 | .int _,.str _=>true| .str _,.int _=>true| .bl _,.str _=>true| .str _,.bl _=>true
 |_,_=>false
def Q7:R2:=λx y H Q=>KR x y=true/\Q (.bl (decide (x=y))) H
def Q6:R2:=λx y H Q=>KR x y=true/\Q (.bl (!decide (x=y))) H
theorem Bc {i j:Int}:decide (V.int i=V.int j)=(i==j):=by
 rw [Bool.eq_iff_iff];simp
theorem FT {i j:Bool}:decide (V.bl i=V.bl j)=(i==j):=by
 rw [Bool.eq_iff_iff];simp
theorem Bb {i j:Str}:decide (V.str i=V.str j)=(i==j):=by
 rw [Bool.eq_iff_iff];simp
theorem Bd {i j:Array UInt8}:decide (V.byt i=V.byt j)=(i.toList==j.toList):=by
 rw [Bool.eq_iff_iff];cases i;cases j;simp
section
variable {X:Cx}{a b c:Expr}{ta tb tc:TE}{pos:Pos}
theorem bu {pins:List ↑14}{σ:St}{H:Hp}{s:Shared}{Q:VK}{k k':Bool}(I:aF X pins σ H s)(q:Q (.bl k) H)(e:k=k'):EP X pins σ Q (.bool k') s:=by
 subst e;exact ⟨.bl k,H,I,rfl,q⟩
theorem Oa:dD X (compareOp .Eq) Q7:=by
 intro pins s σ H x y v u Q I rx ry h;obtain ⟨hs,q⟩:=h
 cases x with
 |non=>
  cases rx
  cases y with
  |non=>cases ry;exact PySem.EqNone.eq_none_none (bu I q ↑17)
  |bl j=>cases ry;exact PySem.EqNone.eq_none_bool (bu I q ↑17)
  |int j=>obtain ⟨t',rfl⟩:=ry;exact PySem.EqNone.eq_none_int (bu I q ↑17)
  |str j=>obtain ⟨t',rfl⟩:=ry;exact PySem.EqNone.eq_none_str (bu I q ↑17)
  |_=>exact absurd (show false=true from hs) Bool.false_ne_true
 |bl i=>
  cases rx
  cases y with
  |non=>cases ry;exact PySem.EqNone.eq_bool_none (bu I q ↑17)
  |bl j=>cases ry;exact eq_bool (bu I q FT)
  |str j=>obtain ⟨t',rfl⟩:=ry;exact PySem.EqMixed.eq_bool_str (bu I q ↑17)
  |_=>exact absurd (show false=true from hs) Bool.false_ne_true
 |int i=>
  obtain ⟨t,rfl⟩:=rx
  cases y with
  |non=>cases ry;exact PySem.EqNone.eq_int_none (bu I q ↑17)
  |int j=>obtain ⟨t',rfl⟩:=ry;exact eq_int (bu I q Bc)
  |str j=>obtain ⟨t',rfl⟩:=ry;exact PySem.EqMixed.eq_int_str (bu I q ↑17)
  |_=>exact absurd (show false=true from hs) Bool.false_ne_true
 |str i=>
  obtain ⟨t,rfl⟩:=rx
  cases y with
  |non=>cases ry;exact PySem.EqNone.eq_str_none (bu I q ↑17)
  |bl j=>cases ry;exact PySem.EqMixed.eq_str_bool (bu I q ↑17)
  |int j=>obtain ⟨t',rfl⟩:=ry;exact PySem.EqMixed.eq_str_int (bu I q ↑17)
  |str j=>obtain ⟨t',rfl⟩:=ry;exact eq_str (bu I q Bb)
  |_=>exact absurd (show false=true from hs) Bool.false_ne_true
 |byt i=>
  obtain ⟨t,rfl⟩:=rx
  cases y with
  |byt j=>obtain ⟨t',rfl⟩:=ry;exact W.eq_bytes (bu I q Bd)
  |_=>exact absurd (show false=true from hs) Bool.false_ne_true
 |_=>cases y<;>exact absurd (show false=true from hs) Bool.false_ne_true
theorem N5:dD X (compareOp .NotEq) Q6:=by
 intro pins s σ H x y v u Q I rx ry h;obtain ⟨hs,q⟩:=h
 cases x with
 |non=>
  cases rx
  cases y with
  |non=>cases ry;exact PySem.EqNone.ne_none_none (bu I q ↑17)
  |bl j=>cases ry;exact PySem.EqNone.ne_none_bool (bu I q ↑17)
  |int j=>obtain ⟨t',rfl⟩:=ry;exact PySem.EqNone.ne_none_int (bu I q ↑17)
  |str j=>obtain ⟨t',rfl⟩:=ry;exact PySem.EqNone.ne_none_str (bu I q ↑17)
  |_=>exact absurd (show false=true from hs) Bool.false_ne_true
 |bl i=>
  cases rx
  cases y with
  |non=>cases ry;exact PySem.EqNone.ne_bool_none (bu I q ↑17)
  |bl j=>cases ry;exact ne_bool (bu I q (congrArg not FT))
  |str j=>obtain ⟨t',rfl⟩:=ry;exact PySem.EqMixed.ne_bool_str (bu I q ↑17)
  |_=>exact absurd (show false=true from hs) Bool.false_ne_true
 |int i=>
  obtain ⟨t,rfl⟩:=rx
  cases y with
  |non=>cases ry;exact PySem.EqNone.ne_int_none (bu I q ↑17)
  |int j=>obtain ⟨t',rfl⟩:=ry;exact ne_int (bu I q (congrArg not Bc))
  |str j=>obtain ⟨t',rfl⟩:=ry;exact PySem.EqMixed.ne_int_str (bu I q ↑17)
  |_=>exact absurd (show false=true from hs) Bool.false_ne_true
 |str i=>
  obtain ⟨t,rfl⟩:=rx
  cases y with
  |non=>cases ry;exact PySem.EqNone.ne_str_none (bu I q ↑17)
  |bl j=>cases ry;exact PySem.EqMixed.ne_str_bool (bu I q ↑17)
  |int j=>obtain ⟨t',rfl⟩:=ry;exact PySem.EqMixed.ne_str_int (bu I q ↑17)
  |str j=>obtain ⟨t',rfl⟩:=ry;exact ne_str (bu I q (congrArg not Bb))
  |_=>exact absurd (show false=true from hs) Bool.false_ne_true
 |byt i=>
  obtain ⟨t,rfl⟩:=rx
  cases y with
  |byt j=>obtain ⟨t',rfl⟩:=ry;exact W.ne_bytes (bu I q (congrArg not Bd))
  |_=>exact absurd (show false=true from hs) Bool.false_ne_true
 |_=>cases y<;>exact absurd (show false=true from hs) Bool.false_ne_true
theorem N6:dD X (compareOp .Lt) (El λi j=> .bl (decide (i<j))):=HU λ_ _ _ _ _ _ _ q=>lt_int q
theorem N7:dD X (compareOp .LtE) (El λi j=> .bl (decide (i<=j))):=HU λ_ _ _ _ _ _ _ q=>le_int q
theorem N8:dD X (compareOp .Gt) (El λi j=> .bl (decide (j<i))):=HU λ_ _ _ _ _ _ _ q=>gt_int q
theorem N9:dD X (compareOp .GtE) (El λi j=> .bl (decide (j<=i))):=HU λ_ _ _ _ _ _ _ q=>ge_int q
theorem BV:dD X (compareOp .In) (λx y H Q=>∃i j,x= .str i/\y= .str j/\Q (.bl (!(Builtin.Str.occurrences j i 0 j.length 1).isEmpty)) H):=by
 intro pins s σ H x y v u Q I rx ry h;obtain ⟨i,j,rfl,rfl,q⟩:=h;obtain ⟨t,rfl⟩:=rx;obtain ⟨t',rfl⟩:=ry;exact in_str (bu I q rfl)
theorem Lm:dD X (compareOp .Is) (λx y H Q=>y= .non/\Q (.bl (decide (x= .non))) H):=by
 intro pins s σ H x y v u Q I rx ry h;obtain ⟨rfl,q⟩:=h;cases ry;rwa[is_none_gen (bu I q ?_)]
 cases x<;>first
  |(cases rx;rfl)
  |(obtain ⟨t,rfl⟩:=rx;rfl)
theorem ww:dD X (compareOp .NotIn) (λx y H Q=>∃i j,x= .str i/\y= .str j/\Q (.bl (!(!(Builtin.Str.occurrences j i 0 j.length 1).isEmpty))) H):=by
 intro pins s σ H x y v u Q I rx ry h;obtain ⟨i,j,rfl,rfl,q⟩:=h;obtain ⟨t,rfl⟩:=rx;obtain ⟨t',rfl⟩:=ry;exact notIn_str (bu I q rfl)
theorem dD.or {f:Value->Value->Sem Value}{r r':R2}(h:dD X f r)(h':dD X f r'):dD X f (λx y H Q=>r x y H Q\/r' x y H Q):=by
 intro pins s σ H x y v u Q I rx ry q
 rcases q with q|q
 ·exact h pins s σ H x y v u Q I rx ry q
 ·exact h' pins s σ H x y v u Q I rx ry q
theorem au (b:Expr){op:CmpOp}(h:op≠ .In:=by decide)(h2:op≠ .NotIn:=by decide):behindInMarks op b=false:=by
 have e1:(op==CmpOp.In)=false:=by cases op<;>first|rfl|exact absurd rfl h
 have e2:(op==CmpOp.NotIn)=false:=by cases op<;>first|rfl|exact absurd rfl h2
 cases b<;>simp [behindInMarks,e1,e2]
theorem bX {op:CmpOp}{r:R2}(ho:dD X (compareOp op) r)(ha:PE X a ta)(hb:PE X b tb)(hm:behindInMarks op b=false):PE X (.Compare a [op] [b] pos) (O6 r ta tb):=by
 intro pins s σ H Q I h;exact wpAny_Compare1 (Mw ha hb I h λv u s2 x y H2 I2 rx ry q=>ho pins s2 σ H2 x y v u Q I2 rx ry q) hm
def OS (K:Fg)(x:V)(H:Hp)(k:Bool):Prop:=
 match x with
 | .non=>k=false
 | .bl b=>k=b
 | .int i=>k=(i != 0)
 | .str y=>y.length<=sizeLine/\k=((y.length:Int) != 0)
 | .byt y=>y.size<=sizeLine/\k=((y.size:Int) != 0)
 | .ref p=>(∃xs,aS K H p xs/\k= !xs.isEmpty)\/(∃xs,aP K H p xs/\k= !xs.isEmpty)\/∃kvs,H p=some (.dK kvs)/\k= !kvs.isEmpty
 |_=>False
theorem Ag {κ:Type}{kvs:List (κ×V)}{vs:List (κ×Value)}(r:KV kvs vs):(!vs.isEmpty)= !kvs.isEmpty:=by
 cases r<;>rfl
theorem rX {xs:List V}{its:List Value}(r:aY xs its):(!its.toArray.isEmpty)= !xs.isEmpty:=by
 cases r<;>simp
theorem lB:(sizeLine:Nat)<2^63:=by rw [sizeLine_eq];decide
theorem iR:QK X (λx H Q=>∃k,OS X.K x H k/\Q k H):=by
 intro pins s σ H x v Q I rx h;obtain ⟨k,e,q⟩:=h;have hl:=lB;have hs:sizeLine=16777216:=sizeLine_eq
 cases x with
 |non=>
  cases rx;have e':k=false:=e;subst e';exact truthy_none ⟨H,I,q⟩
 |bl b=>
  cases rx;have e':k=b:=e;subst e';exact wpAny_truthy_bool ⟨H,I,q⟩
 |int i=>
  obtain ⟨t,rfl⟩:=rx;have e':k=(i != 0):=e;subst e';exact PySem.P.truthy_int ⟨H,I,q⟩
 |str y=>
  obtain ⟨t,rfl⟩:=rx;obtain ⟨hy,e'⟩:y.length<=sizeLine/\k=((y.length:Int) != 0):=e;subst e';exact PySem.P.truthy_str ↑6 ⟨H,I.tok _,q⟩
 |byt y=>
  obtain ⟨t,rfl⟩:=rx;obtain ⟨hy,e'⟩:y.size<=sizeLine/\k=((y.size:Int) != 0):=e;subst e';exact W.truthy_bytes ↑6 ⟨H,I.tok _,q⟩
 |ref p=>
  cases rx;have e':(∃xs,aS X.K H p xs/\k= !xs.isEmpty)\/(∃xs,aP X.K H p xs/\k= !xs.isEmpty)\/∃kvs,H p=some (.dK kvs)/\k= !kvs.isEmpty:=e
  rcases e' with ⟨xs,hx,e'⟩|⟨xs,hx,e'⟩|⟨kvs,hx,e'⟩
  ·subst e';obtain ⟨its,r,pl,hz⟩:=I.list hx;have hlen:=r.length;exact wpAny_truthy_list pl.isList (by simp only [List.size_toArray];omega) ⟨H,I.tok _,by rw [rX r];exact q⟩
  ·subst e';obtain ⟨its,r,pl,hz⟩:=I.tuple hx;have hlen:=r.length;exact truthy_tuple pl (by simp only [List.size_toArray];omega) ⟨H,I.tok _,by rw [rX r];exact q⟩
  ·subst e';obtain ⟨hz,hS,vs,r,m⟩:kvs.length<=sizeLine/\(p==sysModules)=false/\∃vs,KV kvs vs/\s.heap.DictOf (cG X.prog X.w) p vs:=I.hok p _ hx;have hlen:kvs.length=vs.length:=Paired.length r;exact wpAny_truthy_dict hS m ↑6 ⟨H,I.tok _,by rw [Ag r];exact q⟩
 |_=>exact (show False from e).elim
theorem zR:dD X (binaryOp .Add) (λx y H Q=>∃i j,x= .str i/\y= .str j/\i.length+j.length<=sizeLine/\Q (.str (i++j)) H):=by
 intro pins s σ H x y v u Q I rx ry h;obtain ⟨i,j,rfl,rfl,hz,q⟩:=h;obtain ⟨t,rfl⟩:=rx;obtain ⟨t',rfl⟩:=ry;exact add_str (λt' tk=>⟨.str (i++j),H,I.tok _,⟨_,rfl⟩,q⟩) hz
theorem kb {x:V}{us:List Value}(r:aY [x] us):∃u,us=[u]/\aQ x u:=by
 cases r with
 |cons r1 r2=>cases r2;exact ⟨_,rfl,r1⟩
theorem xE {x y:V}{us:List Value}(r:aY [x,y] us):∃u w',us=[u,w']/\aQ x u/\aQ y w':=by
 cases r with
 |cons r1 r2=>
  cases r2 with
  |cons r3 r4=>cases r4;exact ⟨_,_,rfl,r1,r3⟩
theorem F8:bH X (.builtin "abs") (λxs H Q=>∃i,xs=[.int i]/\Q (.int (if i<0 then -i else i)) H):=by
 intro pins s σ H xs us Q I r h;obtain ⟨i,rfl,q⟩:=h;obtain ⟨u,rfl,t,rfl⟩:=kb r;exact call_abs_int λu tk=>⟨.int (if i<0 then -i else i),H,I.tok _,⟨_,rfl⟩,q⟩
theorem CH (hc:X.calm=true):bH X (.builtin "max") (λxs H Q=>∃i j,xs=[.int i,.int j]/\Q (.int (if j>i then j else i)) H):=by
 intro pins s σ H xs us Q I r h;obtain ⟨i,j,rfl,q⟩:=h;obtain ⟨u,w',rfl,⟨t,rfl⟩,⟨t',rfl⟩⟩:=xE r;rwa[max_two_ints (I.ok.hd hc) λh' tk k=>⟨_,H,I.kept k,?_,q⟩];by_cases hj:j>i
 ·rw [if_pos hj,if_pos hj];exact ⟨_,rfl⟩
 ·rw [if_neg hj,if_neg hj];exact ⟨_,rfl⟩
theorem CG (hc:X.calm=true):bH X (.builtin "min") (λxs H Q=>∃i j,xs=[.int i,.int j]/\Q (.int (if j<i then j else i)) H):=by
 intro pins s σ H xs us Q I r h;obtain ⟨i,j,rfl,q⟩:=h;obtain ⟨u,w',rfl,⟨t,rfl⟩,⟨t',rfl⟩⟩:=xE r;rwa[min_two_ints (I.ok.hd hc) λh' tk k=>⟨_,H,I.kept k,?_,q⟩];by_cases hj:j<i
 ·rw [if_pos hj,if_pos hj];exact ⟨_,rfl⟩
 ·rw [if_neg hj,if_neg hj];exact ⟨_,rfl⟩
end
structure Ax (h:Heap)(x dx C:Addr)(mA:Str->Option Value):Prop where
 obj:h.get? x=some (W.instObj C dx)
 ns:h.Ns1 dx mA
 ne:dx≠x
theorem Ch {h:Heap}{dx:Addr}{mA:Str->Option Value}(n:h.Ns1 dx mA):∃od,h.get? dx=some od/\∀name,W.lookIn name od=some (mA name):=by
 obtain ⟨o,es,ep,ho,hd,hk,_,hm⟩:=n;rwa[⟨o,ho,λname=> ?_⟩];have e:=hm name;unfold nsFind findBy at e;rw [<-Array.find?_toList] at e;unfold W.lookIn;rw [hd];dsimp only;split
 ·rename_i y q;rw [q] at e;exact congrArg some e
 ·rename_i q;rw [q] at e
  have a:es.toList.any (·.refKey)=false:=by
   rw [List.any_eq_false];intro y hy;obtain ⟨z,t,hkey⟩:=hk y (Array.mem_toList_iff.mp hy);simp [DictEntry.refKey,hkey]
  have a': ¬es.toList.any (·.refKey)=true:=by rw [a];exact Bool.false_ne_true
  rw [if_neg a'];exact congrArg some e
theorem Ax.look {h:Heap}{x dx C:Addr}{mA:Str->Option Value}(I:Ax h x dx C mA):∃od,PySem.W.InstAt h x (W.instObj C dx) C (some od)/\∀name,W.lookIn name od=some (mA name):=
 let ⟨od,ho,hl⟩:=Ch I.ns
 ⟨od,⟨I.obj,rfl,rfl,ho⟩,hl⟩
section
variable {prog:Program}{w:World}{A:Around}{E:Value->Shared->Prop}{s:Shared}{K:Fg}{x dx C f:Addr}{mA:Str->Option Value}{name:Str}{v:Value}
theorem IQ {expr:Bool}{Q:Value->Shared->Prop}(X:K.In s.heap)(I:Ax s.heap x dx C mA)(hg:W.plainGet K C name=true)(hh:W.hasDictIn K C=true)
(ha:W.findIn K (.ref C) name=some none)(hv:mA name=some v)(hv':W.handedIn v=true)(h:Q v {s with toks:=s.toks+1}):
 wpAny (model prog w) A (getAttr (.ref x) name expr) Q E s:=by
 obtain ⟨od,J,hl⟩:=I.look;exact W.get_value X J (W.plainGet_of hg).1 (W.findObj_own hh ha rfl (by rw [hl,hv])) hv' h
theorem Fv {pl:Sem Bool}{Q:Value×List Value->Shared->Prop}(X:K.In s.heap)(I:Ax s.heap x dx C mA)(hg:W.plainGet K C name=true)
(hf:W.findIn K (.ref C) name=some (some (.ref f)))(ht:W.isFn K (.ref f)=true)(hv:mA name=none)(h:Q (.ref f,[.ref x]) s):
 wpAny (model prog w) A (getMethod (.ref x) name pl) Q E s:=by
 obtain ⟨od,J,hl⟩:=I.look;exact W.method_fn X J (W.plainGet_of hg).1 (W.plainGet_of hg).2 hf (beq_iff_eq.mp ht) (by show (W.lookIn name od).map (·.isSome)=some false;rw [hl,hv];rfl) h
theorem Ho {ns:List Str}{Q:Unit->Shared->Prop}(X:K.In s.heap)(I:Ax s.heap x dx C mA)
(hs:W.findIn K (.ref C) "__setattr__"=some ↑29)(hp:W.plainOver K C=true)(ht:W.takerIn K C name=some none)(hh:W.hasDictIn K C=true)
(hw:PySem.Within mA ns)(hsz:ns.length<=sizeLine)
(h:∀h',Ax h' x dx C (λy=>if y=name then some v else mA y)->Heap.SameBut dx s.heap h'->Q () {s with heap:=h',toks:=s.toks+2}):
 wpAny (model prog w) A (setAttr (.ref x) name v) Q E s:=by
 obtain ⟨od,J,hl⟩:=I.look;rwa[W.set_plain X J hs (W.osa_open (s:= {s with toks:=s.toks+1}) (r:=none) X J hp ht λb=> ?_)];obtain ⟨cd,hc,hd'⟩:=W.any_some hh;have hx:s.heap.get? x=some ⟨.ref C,some dx,.plain,#[]⟩:=I.obj;rwa[wpAny_bind (wpAny_pure (wpAny_bind (wpAny_bind (wpAny_loadPart hx (wpAny_bind (PySem.W.Looks.here (s:= {s with toks:=s.toks+1}) (W.looks_clsIn X hc) ?_))))))];rw [hd'];rwa[wpAny_pure (a:=some dx) (wpAny_bind (wpAny_pure (wpAny_bind ?_)))];rwa[wpAny_nsSet1 (s:= {s with toks:=s.toks+1}) I.ns λh' hn2 hs2=> ?_];obtain ⟨oD,esD,epD,hoD,hdD,hcD⟩:=hn2.count (PySem.Within.cons name v hw);rwa[wpAny_bind (wpAny_lookBehind hoD (by rw [hdD];exact pastItsLine_dict (Nat.le_trans hcD (by rw [List.length_cons];omega))) ?_)];exact wpAny_pure (h _ ⟨(hs2.2 _ (Ne.symm I.ne)).trans I.obj,hn2,I.ne⟩ hs2)
theorem Fe {R:Result->Shared->Prop}{vs:List Value}{kw:List (Str×Value)}(X:K.In s.heap)(hm:W.makesIn K C=true)
(hi:W.findIn K (.ref C) "__init__"=some (some (.ref f)))(hf:W.typeIn K (.ref f)=some (.type "function"))
(h:codeAny (model prog w) (A.under (.builtin "type.__call__" ⟨.ref C::vs,kw⟩)) (.call (.ref f) ⟨.ref ↑24::vs,kw⟩) (PySem.W.InitBack ↑24 R)
   {s with heap:=(s.heap.push W.emptyDict).push (W.instObj C s.heap.objs.size)}):
 codeAny (model prog w) A (.call (.ref C) ⟨vs,kw⟩) R s:=by
 obtain ⟨hh,g,d,t,os⟩:=s;exact W.make_core (W.makes_of X hm) (W.looks_findIn X hi) (λself=>W.bind_fn X self hf) (.inl rfl) h
theorem Cf {R:Result->Shared->Prop}(X:K.In s.heap)(hm:W.makesIn K C=true)
(hi:W.findIn K (.ref C) "__init__"=some (some (.builtin "object.__init__")))
(hb:∀self,PySem.W.Looks (model prog w) s.heap (bindSpecial (.builtin "object.__init__") self) (.builtin "object.__init__",[self]))
(h:codeAny (model prog w) (A.under (.builtin "type.__call__" ⟨[.ref C],[]⟩)) (.call (.builtin "object.__init__") ⟨[.ref ↑24],[]⟩) (PySem.W.InitBack ↑24 R)
   {s with heap:=(s.heap.push W.emptyDict).push (W.instObj C s.heap.objs.size)}):
 codeAny (model prog w) A (.call (.ref C) ⟨[],[]⟩) R s:=by
 obtain ⟨hh,g,d,t,os⟩:=s;exact W.make_core (W.makes_of X hm) (W.looks_findIn X hi) hb (.inr ⟨rfl,rfl⟩) h
end
def putF (f:Str)(v:V):List (Str×V)->List (Str×V)
 |[]=>[(f,v)]
 |(g,x)::r=>if g=f then (g,v)::r else (g,x)::putF f v r
theorem pK (f g:Str)(v:V):∀fs:List (Str×V),(putF f v fs).lookup g=if g=f then some v else fs.lookup g
 |[]=>by
  show List.lookup g [(f,v)]=_;by_cases h:g=f
  ·have hb:(g==f)=true:=beq_iff_eq.mpr h;simp only [List.lookup,hb,if_pos h]
  ·have hb:(g==f)=false:=beq_eq_false_iff_ne.mpr h;simp only [List.lookup,hb,if_neg h]
 |(k,x)::r=>by
  have ih:=pK f g v r;rw [show putF f v ((k,x)::r)=(if k=f then (k,v)::r else (k,x)::putF f v r) from rfl];by_cases hk:k=f
  ·rw [if_pos hk];by_cases h:g=k
   ·have hb:(g==k)=true:=beq_iff_eq.mpr h;simp only [List.lookup,hb,if_pos (h.trans hk)]
   ·have hb:(g==k)=false:=beq_eq_false_iff_ne.mpr h;simp only [List.lookup,hb,if_neg (λe:g=f=>h (e.trans hk.symm))]
  ·rw [if_neg hk];by_cases h:g=k
   ·have hb:(g==k)=true:=beq_iff_eq.mpr h;simp only [List.lookup,hb,if_neg (λe:g=f=>hk (h.symm.trans e))]
   ·have hb:(g==k)=false:=beq_eq_false_iff_ne.mpr h;simp only [List.lookup,hb];exact ih
theorem oP (f:Str)(v:V):∀fs:List (Str×V),f∈(putF f v fs).map (·.1)/\∀g,g∈fs.map (·.1)->g∈(putF f v fs).map (·.1)
 |[]=>⟨by simp [putF],λg h=>by simp at h⟩
 |(k,x)::r=>by
  obtain ⟨i1,i2⟩:=oP f v r;rw [show putF f v ((k,x)::r)=(if k=f then (k,v)::r else (k,x)::putF f v r) from rfl];by_cases hk:k=f
  ·rw [if_pos hk];subst hk;exact ⟨by simp,λg h=>by simpa using h⟩
  ·rw [if_neg hk];rwa[⟨?_,λg h=> ?_⟩]
   ·rw [List.map_cons];exact List.mem_cons_of_mem _ i1
   ·rw [List.map_cons] at h ⊢
    rcases List.mem_cons.mp h with e|e
    ·exact List.mem_cons.mpr (.inl e)
    ·exact List.mem_cons_of_mem _ (i2 g e)
theorem pL (f:Str)(v:V):∀fs:List (Str×V),(putF f v fs).length<=fs.length+1
 |[]=>by simp [putF]
 |(k,x)::r=>by
  have ih:=pL f v r;rw [show putF f v ((k,x)::r)=(if k=f then (k,v)::r else (k,x)::putF f v r) from rfl];by_cases hk:k=f
  ·rw [if_pos hk,List.length_cons,List.length_cons];omega
  ·rw [if_neg hk,List.length_cons,List.length_cons];omega
theorem lQ.some_of {v:V}{o:Option Value}(r:lQ (some v) o):∃u,o=some u/\aQ v u:=by
 cases o with
 |none=>exact (show False from r).elim
 |some u=>exact ⟨u,rfl,r⟩
theorem lQ.none_of {o:Option Value}(r:lQ none o):o=none:=by
 cases o with
 |none=>rfl
 |some u=>exact (show False from r).elim
theorem Ct {v:V}{u:Value}(r:aQ v u):W.handedIn u=true:=by
 cases v with
 |non=>cases (show u=Value.none from r);rfl
 |bl b=>cases (show u=Value.bool b from r);rfl
 |int i=>obtain ⟨t,e⟩:=(show ∃t,u=Value.int i t from r);cases e;rfl
 |str x=>obtain ⟨t,e⟩:=(show ∃t,u=Value.str x t from r);cases e;rfl
 |byt b=>obtain ⟨t,e⟩:=(show ∃t,u=Value.bytes b t from r);cases e;rfl
 |flt b=>obtain ⟨t,e⟩:=(show ∃t,u=Value.float b t from r);cases e;rfl
 |ref a=>cases (show u=Value.ref a from r);rfl
 |ty n=>cases (show u=Value.type n from r);rfl
section
variable {P:Program}{w:World}{H H':Hp}{h h':Heap}{a C dx:Addr}{fs fs':List (Str×V)}
theorem qi (hok:gd P w H h)(e:H a=some (.ins C dx fs)):∃mA,Ax h a dx C mA/\(∀f,lQ (fs.lookup f) (mA f))/\PySem.Within mA (fs.map (·.1))/\fs.length<=1000/\H dx=some (.own a):=by
 obtain ⟨d,z,ne,ob,mA,n,r,q⟩:=(show bE P w H h a (.ins C dx fs) from hok a _ e);exact ⟨mA,⟨ob,n,ne⟩,r,q,z,d⟩
end
structure ut (K:Fg)(C:Addr):Prop where
 pg:W.plainGet K C Str.empty=true
 hd:W.hasDictIn K C=true
 po:W.plainOver K C=true
 sa:W.findIn K (.ref C) "__setattr__"=some ↑29
theorem ut.get {K:Fg}{C:Addr}(c:ut K C)(f:Str):W.plainGet K C f=true:=c.pg
def aZ (K:Fg)(C:Addr)(f:Str):Prop:=W.findIn K (.ref C) f=some none
theorem aZ.taker {K:Fg}{C:Addr}{f:Str}(n:aZ K C f):W.takerIn K C f=some none:=by
 unfold W.takerIn;rw [show W.findIn K (.ref C) f=some none from n];rfl
structure Con (K:Fg)(C:Addr)(f:Str)(v:V)(u:Value):Prop where
 at_:W.findIn K (.ref C) f=some (some u)
 rel:aQ v u
 get:W.specialIn K u "__get__"=some none
 cp:W.copiedNames.contains f=false
structure Gr (K:Fg)(C:Addr)(m:Str)(f:Addr):Prop where
 at_:W.findIn K (.ref C) m=some (some (.ref f))
 fn:W.isFn K (.ref f)=true
 kp:W.keepIn K (.ref f)=true
section
variable {X:Cx}{pins:List ↑14}{σ:St}{H:Hp}{s:Shared}{a C dx:Addr}{fs:List (Str×V)}{f:Str}{v:V}{A:Around}{E:Value->Shared->Prop}
theorem Ai {b:Bool}{Q:Value->Shared->Prop}(I:aF X pins σ H s)(e:H a=some (.ins C dx fs))(c:ut X.K C)(n:aZ X.K C f)(l:fs.lookup f=some v)
(h:∀u s',aF X pins σ H s'->aQ v u->Q u s'):wpAny ↑8 A (getAttr (.ref a) f b) Q E s:=by
 obtain ⟨mA,O,r,_,_,_⟩:=qi I.hok e;obtain ⟨u,hu,ru⟩:=lQ.some_of (v:=v) (o:=mA f) (by rw [<-l];exact r f);exact IQ I.kIn O (c.get f) c.hd n hu (Ct ru) (h u _ (I.tok _) ru)
theorem r6 {m:Str}{g:Addr}{pl:Sem Bool}{Q:Value×List Value->Shared->Prop}(I:aF X pins σ H s)(e:H a=some (.ins C dx fs))(c:ut X.K C)(k:Gr X.K C m g)(l:fs.lookup m=none)
(h:Q (.ref g,[.ref a]) s):wpAny ↑8 A (getMethod (.ref a) m pl) Q E s:=by
 obtain ⟨mA,O,r,_,_,_⟩:=qi I.hok e;have hn:mA m=none:=lQ.none_of (by rw [<-l];exact r m);exact Fv I.kIn O (c.get m) k.at_ k.fn hn h
theorem zr {y:V}{u:Value}{Q:Unit->Shared->Prop}(I:aF X pins σ H s)(e:H a=some (.ins C dx fs))(c:ut X.K C)(n:aZ X.K C f)(hl:fs.length<1000)(ry:aQ y u)
(h:∀s',aF X pins σ (upd H a (.ins C dx (putF f y fs))) s'->Q () s'):wpAny ↑8 A (setAttr (.ref a) f u) Q E s:=by
 obtain ⟨mA,O,r,wi,_,ho⟩:=qi I.hok e
 have hz:(fs.map (·.1)).length<=sizeLine:=by rw [List.length_map,sizeLine_eq];omega
 rwa[Ho I.kIn O c.sa c.po n.taker c.hd wi hz λh' O' sb=>h _ ?_];have hd:∃o,h'.get? dx=some o:=let ⟨o,_,_,e',_⟩:=O'.ns;⟨o,e'⟩;rwa[I.write (x:=a) (e:=dx) (by rw [e];exact True.intro) (.inr ho) (λb q hb z=>(sb.2 b hb).trans z) hd ?_];rwa[⟨by rw [ap O.ne];exact ho,?_,O.ne,O'.obj,_,O'.ns,λg=> ?_,λg hg=> ?_⟩]
 ·have:=pL f y fs;omega
 ·show lQ ((putF f y fs).lookup g) (if g=f then some u else mA g);rw [pK];by_cases q:g=f
  ·rw [if_pos q,if_pos q];exact ry
  ·rw [if_neg q,if_neg q];exact r g
 ·by_cases q:g=f
  ·rw [q];exact (oP f y fs).1
  ·rwa[(oP f y fs).2 g (wi g λz=>hg ?_)];show (if g=f then some u else mA g)=none;rw [if_neg q];exact z
theorem aF.made (I:aF X pins σ H s):aF X pins σ (upd (upd H s.heap.objs.size (.own ↑24)) ↑24 (.ins C s.heap.objs.size []))
 {s with heap:=(s.heap.push W.emptyDict).push (W.instObj C s.heap.objs.size)}:=by
 have e1:(s.heap.push W.emptyDict).get? s.heap.objs.size=some W.emptyDict:=Heap.get?_push_size s.heap rfl
 have e2:((s.heap.push W.emptyDict).push (W.instObj C s.heap.objs.size)).get? ↑24=some (W.instObj C s.heap.objs.size):=by
  have:=Heap.get?_push_size (s.heap.push W.emptyDict) (o:=W.instObj C s.heap.objs.size) rfl;rwa [Heap.size_push] at this
 have e3:(s.heap.push W.emptyDict).Ns s.heap.objs.size (λ_=>none):=⟨W.emptyDict,#[],_,e1,rfl,(λe he=>absurd he ↑17),λ_=>rfl⟩;have I1:=I.laid (a:=s.heap.objs.size) (o:= .own ↑24) (h':=s.heap.push W.emptyDict) (t':=s.toks) (λb u q=>Heap.get?_push_of_some _ q) ↑13 ⟨_,e1⟩;rwa[I1.laid (a:=s.heap.objs.size+1) (o:= .ins C s.heap.objs.size []) (t':=s.toks) (λb u q=>Heap.get?_push_of_some _ q) (Nat.le_of_eq (Heap.size_push _ _)) ?_];have ne:s.heap.objs.size≠s.heap.objs.size+1:=Nat.ne_of_lt (Nat.lt_succ_self _);rwa[⟨by rw [ap ne,ak],Nat.zero_le _,ne,e2,λ_=>none,(Heap.Ns1.of_empty e3).at λo q=>Heap.get?_push_of_some _ q,λ_=>True.intro,λy hy=>absurd rfl hy⟩]
theorem Jf {prog:Program}{w:World}{env:Env}{e:Expr}{f:Str}{pos:Pos}{s:Shared}{Q:Value->Shared->Prop}(hb:attributeBase e f env (eval e env)=eval e env)
(h:wpAny (model prog w) A (eval e env) (λo s₁=>wpAny (model prog w) A (getAttr o f true) Q E s₁) E s):wpAny (model prog w) A (eval (.Attribute e f pos) env) Q E s:=
 Attribute_any_ h (by rw [arm_eval_Attribute,hb])
end
section
variable {X:Cx}{pins:List ↑14}{σ:St}{H:Hp}{s:Shared}{A:Around}{E:Value->Shared->Prop}{Q:Value->Shared->Prop}{c:Value}{b:Bool}
inductive jH (K:Fg)(H:Hp):V->Value->Prop where
 |non:jH K H .non (.type "NoneType")
 |bl (x:Bool):jH K H (.bl x) (.type "bool")
 |int (i:Int):jH K H (.int i) (.type "int")
 |str (x:Str):jH K H (.str x) (.type "str")
 |flt (x:UInt64):jH K H (.flt x) (.type "float")
 |lst {a:Addr} {xs:List V} (e:H a=some (.lst xs)):jH K H (.ref a) (.type "list")
 |frz {a:Addr} {o:Obj} {xs:List V} (e:H a=some (.frz o (.lst xs))):jH K H (.ref a) (.type "list")
 |tup {a:Addr} {xs:List V} (e:H a=some (.tup xs)):jH K H (.ref a) (.type "tuple")
 |dK {a:Addr} {kvs:List (dQ×V)} (e:H a=some (.dK kvs)):jH K H (.ref a) (.type "dict")
 |dT {a:Addr} {kvs:List (List dQ×V)} (e:H a=some (.dT kvs)):jH K H (.ref a) (.type "dict")
 |ins {a C dx:Addr} {fs:List (Str×V)} (e:H a=some (.ins C dx fs)) (cl:ut K C) (ha:W.findIn K (.ref C) "__class__"=some (some (.builtin "object.__class__")))
   (hn:W.specialIn K (.builtin "object.__class__") "__get__"=some (some (.builtin "getset_descriptor.__get__"))) (htk:W.takesIn K (.builtin "object.__class__")=some true)
   (hm:W.mroIn K C (.type "object")=some true):jH K H (.ref a) (.ref C)
theorem Cp {x:V}{u t:Value}(I:aF X pins σ H s)(rx:aQ x u)(ty:jH X.K H x t)(e:W.kitOne X.K t c=some b)(h:∀tk,Q (.bool b) {s with toks:=tk}):
 wpAny ↑8 A (call (.builtin "isinstance") [u,c]) Q E s:=by
 cases ty with
 |non=>cases (show u=Value.none from rx);exact W.kia_one W.kitx_none I.kIn True.intro e (λz=>nomatch z) h
 |bl y=>cases (show u=Value.bool y from rx);exact W.kia_one W.kitx_bool I.kIn True.intro e (λz=>nomatch z) h
 |int i=>obtain ⟨t,q⟩:=(show ∃t,u=Value.int i t from rx);cases q;exact W.kia_one W.kitx_int I.kIn True.intro e (λz=>nomatch z) h
 |str y=>obtain ⟨t,q⟩:=(show ∃t,u=Value.str y t from rx);cases q;exact W.kia_one W.kitx_str I.kIn True.intro e (λz=>nomatch z) h
 |flt y=>obtain ⟨t,q⟩:=(show ∃t,u=Value.float y t from rx);cases q;exact W.kia_one W.kitx_float I.kIn True.intro e (λz=>nomatch z) h
 | @lst a xs ea=>
   cases (show u=Value.ref a from rx);obtain ⟨_,_,n,_,h1⟩:=(show bE X.prog X.w H s.heap a (.lst xs) from I.hok a _ ea);exact W.kia_one W.kitx_list I.kIn ⟨_,h1,rfl⟩ e (λz=>nomatch z) h
 | @frz a ob xs ea=>
   cases (show u=Value.ref a from rx);obtain ⟨_,_,_,n,_,h1⟩:=(show bE X.prog X.w H s.heap a (.frz ob (.lst xs)) from I.hok a _ ea);exact W.kia_one W.kitx_list I.kIn ⟨_,h1,rfl⟩ e (λz=>nomatch z) h
 | @tup a xs ea=>
   cases (show u=Value.ref a from rx);obtain ⟨_,_,_,p⟩:=(show bE X.prog X.w H s.heap a (.tup xs) from I.hok a _ ea);obtain ⟨o,h1,h2,_⟩:=p;exact W.kia_one W.kitx_tuple I.kIn ⟨o,h1,h2⟩ e (λz=>nomatch z) h
 | @dK a kvs ea=>
   cases (show u=Value.ref a from rx);obtain ⟨_,_,vs,_,p⟩:=(show bE X.prog X.w H s.heap a (.dK kvs) from I.hok a _ ea);obtain ⟨o,es,ep,h1,h2,_⟩:=p;exact W.kia_one W.kitx_dict I.kIn ⟨o,h1,h2.1⟩ e (λz=>nomatch z) h
 | @dT a kvs ea=>
   cases (show u=Value.ref a from rx);obtain ⟨_,_,xs,_,o,es,ep,h1,h2,_⟩:=(show bE X.prog X.w H s.heap a (.dT kvs) from I.hok a _ ea);exact W.kia_one W.kitx_dict I.kIn ⟨o,h1,h2.1⟩ e (λz=>nomatch z) h
 | @ins a C dx fs ea cl ha hn htk hm=>
   cases (show u=Value.ref a from rx);obtain ⟨mA,O,_⟩:=qi I.hok ea;obtain ⟨od,J,_⟩:=O.look;exact W.kia_one (W.kitx_own (cl.get _) cl.hd ha hn htk hm) I.kIn J e (λz=>nomatch z) h
end
structure b4 (k:Nat)(A:Around):Prop where
 hd:A.handled=none
 dp:A.depth+3*k+5<recursionLimit
 un:A.units+16*k+200<cLine
theorem b4.mono {j k:Nat}{A:Around}(r:b4 k A)(h:j<=k):b4 j A:=⟨r.hd,by have:=r.dp;omega,by have:=r.un;omega⟩
theorem b4.deeper {k:Nat}{A:Around}(r:b4 (k+1) A)(env:Env):b4 k (A.deeper env):=
 ⟨r.hd,by have:=r.dp;show A.depth+1+3*k+5<_;omega,by have:=r.un;show A.units+3+16*k+200<_;omega⟩
theorem b4.in1 {k:Nat}{A:Around}(r:b4 (k+1) A):b4 k A.in1:=
 ⟨r.hd,by have:=r.dp;show A.depth+3*k+5<_;omega,by have:=r.un;show A.units+1+16*k+200<_;omega⟩
theorem z9 {A:Around}{C:Addr}{us:List Value}{kw:List (Str×Value)}:(A.under (.builtin "type.__call__" ⟨.ref C::us,kw⟩)).depth=A.depth+1:=by
 first|rfl|simp [Around.under,Code.weight,Code.isCreation,Code.isGuard,Code.isCaller,Code.frames,Code.isFrame,guardIds]
theorem z8 {A:Around}{C:Addr}{us:List Value}{kw:List (Str×Value)}:(A.under (.builtin "type.__call__" ⟨.ref C::us,kw⟩)).units=A.units+1:=by
 first|rfl|simp [Around.under,Code.cUnits,Code.frames,Code.isFrame]
theorem b4.make {k:Nat}{A:Around}(r:b4 (k+1) A)(C:Addr)(us:List Value)(kw:List (Str×Value)):b4 k (A.under (.builtin "type.__call__" ⟨.ref C::us,kw⟩)):=
 ⟨r.hd,by have:=r.dp;rw [z9];omega,by have:=r.un;rw [z8];omega⟩
theorem b4.depth {k:Nat}{A:Around}(r:b4 k A):A.depth<recursionLimit:=by have:=r.dp;omega
theorem b4.units {k:Nat}{A:Around}(r:b4 k A):A.units+64<cLine:=by have:=r.un;omega
def Ky:TA:=λ_ H Q=>Q [] H
def Dz (ta:TE)(tr:TA):TA:=λσ H Q=>ta σ H λx H1=>tr σ H1 λxs H2=>Q (x::xs) H2
section
variable {X:Cx}{e:Expr}{es:List Expr}{te:TE}{t:TA}{pos:Pos}
theorem ac:PA X [] Ky:=λ_ _ _ _ H Q I h=>Calls.spliced_nil ⟨[],H,I,.nil,h⟩
theorem HN (ha:PE X e te)(hr:PA X es t)(hs:starEach (e::es) X.env=(false,eval e X.env)::starEach es X.env:=by rfl):PA X (e::es) (Dz te t):=by
 intro pos pins s σ H Q I h;rw [hs];show wpAny _ _ (spliced ((false,eval e X.env)::backTo pos (starEach es X.env))) _ _ s;rwa[Calls.spliced_cons (bT (ha pins s σ H _ I h) λu s1 ⟨x,H1,I1,r1,q1⟩=> ?_)];exact bT (hr pos pins s1 σ H1 _ I1 q1) λus s2 ⟨xs,H2,I2,r2,q2⟩=>⟨x::xs,H2,I2,.cons r1 r2,q2⟩
def P3 (t:TA):TE:=λσ H Q=>t σ H λxs H1=>xs.length<=sizeLine/\∀p,H1 p=none->Q (.ref p) (upd H1 p (.tup xs))
def P8 (t:TA):TE:=λσ H Q=>t σ H λxs H1=>xs.length<=sizeLine/\∀p,H1 p=none->Q (.ref p) (upd H1 p (.lst xs))
theorem Ld {x1}(h:PA X es t):PE X (.Tuple es x1 pos) (P3 t):=by
 intro pins s σ H Q I hq;rwa[wpAny_Tuple_spliced (bT (h pos pins s σ H _ I hq) λus s1 ⟨xs,H1,I1,r,z,q⟩=>⟨by rw [<-r.length];exact z,?_⟩)];have hf:H1 s1.heap.objs.size=none:=I1.hok.fresh ↑13;rwa[⟨.ref s1.heap.objs.size,upd H1 s1.heap.objs.size (.tup xs),I1.laid (t':=s1.toks) (λb u e=>Heap.get?_push_of_some _ e) ↑13 ?_,rfl,q _ hf⟩];exact ⟨z,us,r,⟨_,Heap.get?_push_size _ rfl,rfl,_,rfl⟩⟩
theorem Le (h:PA X es t):PE X (.List es pos) (P8 t):=by
 intro pins s σ H Q I hq;rwa[wpAny_List_spliced (bT (h pos pins s σ H _ I hq) λus s1 ⟨xs,H1,I1,r,z,q⟩=>⟨by rw [<-r.length];exact z,?_⟩)];have hf:H1 s1.heap.objs.size=none:=I1.hok.fresh ↑13;rwa[⟨.ref s1.heap.objs.size,upd H1 s1.heap.objs.size (.lst xs),I1.laid (t':=s1.toks) (λb u e=>Heap.get?_push_of_some _ e) ↑13 ?_,rfl,q _ hf⟩];exact ⟨z,us,0,r,Heap.get?_push_size _ rfl⟩
end
abbrev Sp:=List V->Hp->VK->XK->Prop
abbrev nJ:=List Env->Hp->Shared->XK->Value->Shared->Prop
structure pE (P:Program)(w:World)(K:Fg)(mg:Str->Option Value)(base:Heap)(A:Around)(outer:List Env)(s:Shared)(H:Hp):Prop where
 frames:A.frames=some outer
 mod:Mod K mg base
 bs:∀b o,base.get? b=some o->s.heap.get? b=some o/\H b=none
 bsz:base.objs.size<=s.heap.objs.size
 funs:s.heap.FunFrames base outer
 frf:∀b∈xt outer,H b=none
 hok:gd P w H s.heap
 bare:AllBare s.gens
def CE (outer:List Env)(P:Program)(w:World)(H:Hp)(s:Shared)(Q:VK)(u:Value)(s':Shared):Prop:=
 ∃v H',s'.os=s.os/\AllBare s'.gens/\Un (xt outer) [] H H' s.heap s'.heap/\gd P w H' s'.heap/\aQ v u/\Q v H'
def CR (CX:nJ)(outer:List Env)(P:Program)(w:World)(H:Hp)(s:Shared)(Q:VK)(E:XK)(r:Result)(s':Shared):Prop:=
 match r with
 | .ok (.ret u)=>CE outer P w H s Q u s'
 | .ok _=>False
 | .error e=>CX outer H s E e s'
structure aD (P:Program)(w:World)(K:Fg)(mg:Str->Option Value)(base:Heap)(CX:nJ)(k:Nat)(f:Addr)(fd:FuncData)(ps:List Str)(sp:Sp):Prop where
 len:∀vs H Q E,sp vs H Q E->vs.length=ps.length
 run:∀(A:Around) (outer:List Env) (s:Shared) (H:Hp) (args:Args) (us:List Value) (vs:List V) (Q:VK) (E:XK),b4 k A->pE P w K mg base A outer s H->BindsTo s fd args (ps.zip us)->aY vs us->sp vs H Q E->
  codeAny (model P w) A (.call (.ref f) args) (CR CX outer P w H s Q E) s
theorem aD.mono {P:Program}{w:World}{K:Fg}{mg:Str->Option Value}{base:Heap}{CX:nJ}{j k:Nat}{f:Addr}{fd:FuncData}{ps:List Str}{sp:Sp}(F:aD P w K mg base CX j f fd ps sp)(h:j<=k):
 aD P w K mg base CX k f fd ps sp:=⟨F.len,λA outer s H args us vs Q E hr=>F.run A outer s H args us vs Q E (hr.mono h)⟩
theorem aD.imp {P:Program}{w:World}{K:Fg}{mg:Str->Option Value}{base:Heap}{CX:nJ}{k:Nat}{f:Addr}{fd:FuncData}{ps:List Str}{sp sp':Sp}(F:aD P w K mg base CX k f fd ps sp)
(h:∀vs H Q E,sp' vs H Q E->sp vs H Q E):aD P w K mg base CX k f fd ps sp':=
 ⟨λvs H Q E q=>F.len vs H Q E (h _ _ _ _ q),λA outer s H args us vs Q E hr he hb hv hs=>F.run A outer s H args us vs Q E hr he hb hv (h _ _ _ _ hs)⟩
theorem pE.make {P:Program}{w:World}{K:Fg}{mg:Str->Option Value}{base:Heap}{A:Around}{outer:List Env}{s:Shared}{H:Hp}(e:pE P w K mg base A outer s H)(C:Addr)(us:List Value)(kw:List (Str×Value)):
 pE P w K mg base (A.under (.builtin "type.__call__" ⟨.ref C::us,kw⟩)) outer s H:=⟨by first|exact e.frames|(simpa [Around.under,Code.envs,Code.isFrame,pushEnvs] using e.frames),e.mod,e.bs,e.bsz,e.funs,e.frf,e.hok,e.bare⟩
theorem pE.in1 {P:Program}{w:World}{K:Fg}{mg:Str->Option Value}{base:Heap}{A:Around}{outer:List Env}{s:Shared}{H:Hp}(e:pE P w K mg base A outer s H):
 pE P w K mg base A.in1 outer s H:=⟨e.frames,e.mod,e.bs,e.bsz,e.funs,e.frf,e.hok,e.bare⟩
section
variable {X:Cx}{pins:List ↑14}{σ:St}{H:Hp}{s s':Shared}
theorem aF.env0 (I:aF X pins σ H s):pE X.prog X.w X.K X.mg X.base X.A X.stack s H:=
 ⟨I.ok.frames,I.ok.mod,I.bs,Nat.le_trans I.ok.bsz I.sz,I.stack,I.stkFree,I.hok,I.bare⟩
theorem aF.after {Q:VK}{u:Value}(I:aF X pins σ H s)(h:CE X.stack X.prog X.w H s Q u s'):EP X pins σ Q u s':=by
 obtain ⟨v,H',os,bare,un,hok,r,q⟩:=h;obtain ⟨hh,g,d,t,os'⟩:=s';obtain rfl:os'=s.os:=os;exact ⟨v,H',I.call (h':=hh) (g':=g) (d':=d) (t':=t) (ch:=[]) un hok bare (λb z=>absurd z ↑17),r,q⟩
end
def xM (sp:Sp)(dvs:List V)(E:XK)(t:TA):TE:=λσ H Q=>t σ H λvs H1=>sp (vs++dvs) H1 Q E
def NH (C:Addr)(sp:Sp)(dvs:List V)(E:XK)(t:TA):TE:=λσ H Q=>t σ H λvs H1=>∀x dx,H1 x=none->H1 dx=none->dx≠x->
 sp (.ref x::(vs++dvs)) (upd (upd H1 dx (.own x)) x (.ins C dx [])) (λv H2=>v= .non/\Q (.ref x) H2) E
def fm (K:Fg)(fd:FuncData)(ps:List Str)(ds:List Value):Prop:=
 ∀(s:Shared) (us:List Value),K.In s.heap->(us++ds).length=ps.length->BindsTo s fd ⟨us,[]⟩ (ps.zip (us++ds))
theorem fm.all {K:Fg}{fd:FuncData}{ps:List Str}(h:∀us:List Value,us.length=ps.length->bindArgs fd ⟨us,[]⟩=pure (ps.zip us)):fm K fd ps []:=λs us _ hl=>by
 rw [List.append_nil] at hl ⊢;exact .of_eq (h us hl)
def fN (CX:nJ)(X:Cx)(E:XK):Prop:=∀(pins:List ↑14) (σ:St) (H:Hp) (s:Shared) (e:Value) (s':Shared),aF X pins σ H s->CX X.stack H s E e s'->X.xe e s'
section
variable {X:Cx}{CX:nJ}{k:Nat}{f C:Addr}{fd:FuncData}{ps:List Str}{sp:Sp}{dvs:List V}{ds:List Value}{E:XK}{x m:Str}{p pos apos:Pos}{e o:Expr}{es:List Expr}{ta:TE}{t:TA}
theorem zJ {pins:List ↑14}{σ:St}{H:Hp}{s:Shared}{Q:VK}{us:List Value}{vs:List V}(F:aD X.prog X.w X.K X.mg X.base CX k f fd ps sp)(hr:b4 k X.A)(hb:fm X.K fd ps ds)(hd:aY dvs ds)(hx:fN CX X E)
(I:aF X pins σ H s)(r:aY vs us)(h:sp (vs++dvs) H Q E):wpAny ↑8 X.A (call (.ref f) us) (EP X pins σ Q) X.xe s:=by
 have r2:aY (vs++dvs) (us++ds):=r.append hd
 have hl:(us++ds).length=ps.length:=by rw [<-r2.length];exact F.len _ _ _ _ h
 rwa[wpAny_call (codeAny_mono (F.run X.A X.stack s H ⟨us,[]⟩ (us++ds) (vs++dvs) Q E hr I.env0 (hb s us I.kIn hl) r2 h) λr s' hq=> ?_)]
 cases r with
 |error e=>exact hx pins σ H s e s' I hq
 |ok fl=>
  cases fl with
  |ret u=>exact I.after hq
  |next=>exact False.elim hq
  |brk=>exact False.elim hq
  |cont=>exact False.elim hq
theorem AT (F:aD X.prog X.w X.K X.mg X.base CX k f fd ps sp)(hr:b4 k X.A)(hg:Gl X x)(hm:X.mg x=some (.ref f))(hk:W.keepIn X.K (.ref f)=true)(hb:fm X.K fd ps ds)(hd:aY dvs ds)(hx:fN CX X E)
(ha:PA X (e::es) t)(hdb:↑27=false:=by decide)(he:starEach (e::es) X.env=(false,eval e X.env)::starEach es X.env:=by rfl)(hpl:(backTo pos (starEach es X.env)).any (·.1)=false:=by rfl):
 PE X (.Call (.Name x p) (e::es) [] pos) (xM sp dvs E t):=by
 intro pins s σ H Q I h;rwa[wpAny_Call_Name_kw (im I hg hm ?_ hdb)];rwa[W.callWith_K (h₀:=X.base) I.ok.mod.kin hk (bT (ha pos pins s σ H _ I h) λus s1 ⟨vs,H1,I1,r,q⟩=>⟨I1.kIn,?_⟩) he hpl];exact zJ F hr hb hd hx I1 r q
structure Mk (K:Fg)(C f:Addr):Prop where
 makes:W.makesIn K C=true
 init:W.findIn K (.ref C) "__init__"=some (some (.ref f))
 fn:W.isFn K (.ref f)=true
 kp:W.keepIn K (.ref C)=true
theorem Ed {pins:List ↑14}{σ:St}{H:Hp}{s:Shared}{Q:VK}{us:List Value}{vs:List V}(M:Mk X.K C f)(F:aD X.prog X.w X.K X.mg X.base CX k f fd ps sp)(hr:b4 (k+1) X.A)(hb:fm X.K fd ps ds)(hd:aY dvs ds)
(hx:fN CX X E)(I:aF X pins σ H s)(r:aY vs us)
(h:∀x dx,H x=none->H dx=none->dx≠x->sp (.ref x::(vs++dvs)) (upd (upd H dx (.own x)) x (.ins C dx [])) (λv H2=>v= .non/\Q (.ref x) H2) E):
 wpAny ↑8 X.A (call (.ref C) us) (EP X pins σ Q) X.xe s:=by
 have hq:=h ↑24 s.heap.objs.size (I.hok.fresh (Nat.le_succ _)) (I.hok.fresh ↑13) (Nat.ne_of_lt (Nat.lt_succ_self _));have I2:=aF.made (C:=C) I;have r2:aY (V.ref ↑24::(vs++dvs)) (Value.ref ↑24::(us++ds)):= .cons rfl (r.append hd)
 have hl:(Value.ref ↑24::us++ds).length=ps.length:=by
  have e:=r2.length;rw [F.len _ _ _ _ hq] at e;exact e.symm
 refine wpAny_call (Fe (f:=f) I.kIn M.makes M.init (beq_iff_eq.mp M.fn) (codeAny_mono (F.run _ X.stack _ _ ⟨Value.ref ↑24::us,[]⟩ (Value.ref ↑24::(us++ds)) _ _ E (hr.make C us [])
  (I2.env0.make C us []) (hb _ (Value.ref ↑24::us) I2.kIn hl) r2 hq) λr s' hq'=> ?_))
 cases r with
 |error e=>exact hx pins σ _ _ e s' I2 hq'
 |ok fl=>
  cases fl with
  |ret u=>
   obtain ⟨v,H',I3,rv,ev,q3⟩:=I2.after hq';subst ev;exact ⟨rv,⟨V.ref ↑24,H',I3,rfl,q3⟩⟩
  |next=>exact False.elim hq'
  |brk=>exact False.elim hq'
  |cont=>exact False.elim hq'
theorem HL (M:Mk X.K C f)(F:aD X.prog X.w X.K X.mg X.base CX k f fd ps sp)(hr:b4 (k+1) X.A)(hg:Gl X x)(hm:X.mg x=some (.ref C))(hb:fm X.K fd ps ds)(hd:aY dvs ds)(hx:fN CX X E)
(ha:PA X (e::es) t)(hdb:↑27=false:=by decide)(he:starEach (e::es) X.env=(false,eval e X.env)::starEach es X.env:=by rfl)(hpl:(backTo pos (starEach es X.env)).any (·.1)=false:=by rfl):
 PE X (.Call (.Name x p) (e::es) [] pos) (NH C sp dvs E t):=by
 intro pins s σ H Q I h;rwa[wpAny_Call_Name_kw (im I hg hm ?_ hdb)];rwa[W.callWith_K (h₀:=X.base) I.ok.mod.kin M.kp (bT (ha pos pins s σ H _ I h) λus s1 ⟨vs,H1,I1,r,q⟩=>⟨I1.kIn,?_⟩) he hpl];exact Ed M F hr hb hd hx I1 r q
end
section
variable {X:Cx}{CX:nJ}{k:Nat}{f C:Addr}{fd:FuncData}{ps ks:List Str}{sp:Sp}{E:XK}{x m:Str}{p pos apos kpos:Pos}{e o:Expr}{es:List Expr}{kws:List Keyword}{te ta:TE}{t tk:TA}{nm:Option Str}
structure KBinds (K:Fg)(fd:FuncData)(ps ks:List Str)(g:List Value->List Value->List Value)(gV:List V->List V->List V):Prop where
 to:∀(s:Shared) (us ws:List Value),K.In s.heap->(g us ws).length=ps.length->BindsTo s fd ⟨us,ks.zip ws⟩ (ps.zip (g us ws))
 rel:∀ {vs:List V} {us:List Value} {zs:List V} {ws:List Value},aY vs us->aY zs ws->aY (gV vs zs) (g us ws)
variable {g:List Value->List Value->List Value}{gV:List V->List V->List V}
end
structure am (N P:List Str)(sc:Scope):Prop where
 kind:sc.kind= .function
 co:sc.isCoroutine=false
 gen:sc.isGenerator=false
 nd:N.Nodup
 pre:N.take P.length=P
 par:∀x∈P,sc.names.lookup x=some .local\/sc.names.lookup x=some .cell
 nofree:∀y∈sc.names,y.2≠ .free
theorem u5 {kindOf:Str->Option NameKind}{x:Str}:∀ {binds:List (Str×Value)} {m:Str->Option Value},(∀v,(x,v)∉binds)->bindL kindOf binds m x=m x
 |[],_,_=>rfl
 |(n,v)::r,m,h=>by
  unfold bindL;rw [u5 λw hw=>h w (List.mem_cons_of_mem _ hw)];split
  ·have:x≠n:=by rintro rfl;exact h v List.mem_cons_self
   simp [this]
  ·rfl
theorem u7 {kindOf:Str->Option NameKind}{x:Str}:∀ {binds:List (Str×Value)} {m:Str->Option Value},(∀v,(x,v)∉binds)->bindC kindOf binds m x=m x
 |[],_,_=>rfl
 |(n,v)::r,m,h=>by
  unfold bindC;rw [u7 λw hw=>h w (List.mem_cons_of_mem _ hw)];split
  ·rfl
  ·have:x≠n:=by rintro rfl;exact h v List.mem_cons_self
   simp [this]
theorem u6 {kindOf:Str->Option NameKind}{x:Str}{v:Value}:∀ {P:List Str} {vs:List Value} {i:Nat} {m:Str->Option Value},P.Nodup->P[i]? =some x->vs[i]? =some v->kindOf x=some .local->
 bindL kindOf (P.zip vs) m x=some v
 |[],_,_,_,_,h,_,_=>by simp at h
 |_::_,[],_,_,_,_,h,_=>by simp at h
 |p::P,w::vs,0,m,nd,h1,h2,hk=>by
  simp at h1 h2;subst h1;subst h2;show bindL kindOf ((p,w)::P.zip vs) m p=_;unfold bindL;rw [u5 λv hv=>(List.nodup_cons.mp nd).1 (List.of_mem_zip hv).1,if_pos hk];simp
 |p::P,w::vs,i+1,m,nd,h1,h2,hk=>by
  show bindL kindOf ((p,w)::P.zip vs) m x=_;unfold bindL;exact u6 (i:=i) (List.nodup_cons.mp nd).2 (by simpa using h1) (by simpa using h2) hk
theorem u8 {kindOf:Str->Option NameKind}{x:Str}{v:Value}:∀ {P:List Str} {vs:List Value} {i:Nat} {m:Str->Option Value},P.Nodup->P[i]? =some x->vs[i]? =some v->kindOf x≠some .local->
 bindC kindOf (P.zip vs) m x=some v
 |[],_,_,_,_,h,_,_=>by simp at h
 |_::_,[],_,_,_,_,h,_=>by simp at h
 |p::P,w::vs,0,m,nd,h1,h2,hk=>by
  simp at h1 h2;subst h1;subst h2;show bindC kindOf ((p,w)::P.zip vs) m p=_;unfold bindC;rw [u7 λv hv=>(List.nodup_cons.mp nd).1 (List.of_mem_zip hv).1,if_neg hk];simp
 |p::P,w::vs,i+1,m,nd,h1,h2,hk=>by
  show bindC kindOf ((p,w)::P.zip vs) m x=_;unfold bindC;exact u8 (i:=i) (List.nodup_cons.mp nd).2 (by simpa using h1) (by simpa using h2) hk
def start (N:List Str)(vs:List V):St:=vs.map some++List.replicate (N.length - vs.length) none
def ng (CX:nJ)(P:Program)(w:World)(K:Fg)(mg:Str->Option Value)(base:Heap)(N:List Str)(qual:Str)(scope:Scope)(f:Addr)(cd:Value)(A:Around)(outer:List Env)(s:Shared)(H:Hp)(E:XK):Cx where
 prog:=P
 w:=w
 K:=K
 mg:=mg
 base:=base
 A:=A.deeper (envOfC qual scope s.heap.objs.size f cd)
 N:=N
 s₀:=s
 H₀:=H
 env:=envOfC qual scope s.heap.objs.size f cd
 outer:=outer
 stack:=envOfC qual scope s.heap.objs.size f cd::outer
 ex:=[]
 calm:=true
 fn:=λ_=>true
 pn:=[]
 xe:=λe s'=>wpAny (model P w) (A.deeper (envOfC qual scope s.heap.objs.size f cd)) (leaving (envOfC qual scope s.heap.objs.size f cd) e) (λ_ s''=>CX outer H s E e s'') (λe' s''=>CX outer H s E e' s'') s'
theorem yF {sc:Scope}{n:Nat}{x:Str}(h:sc.names.lookup x=some .cell):∃c,(cellsFrom n sc.names []).lookup x=some c:=by
 have q:=W.cellsFrom_some sc.names n [] (.inl h);exact Option.isSome_iff_exists.mp q
theorem Cq {CX:nJ}{P:Program}{w:World}{K:Fg}{mg:Str->Option Value}{base:Heap}{N ps:List Str}{qual:Str}{scope:Scope}{f:Addr}{cd:Value}{A:Around}{outer:List Env}{s s1:Shared}{H:Hp}{E:XK}{us:List Value}{vs:List V}
(S:am N ps scope)(hd:A.handled=none)(e0:pE P w K mg base A outer s H)(hl:vs.length=ps.length)(r:aY vs us)
(x:InCallC s s.heap.objs.size (bindL (envOfC qual scope s.heap.objs.size f cd).kindOf (ps.zip us) λ_=>none) (cellsFrom ↑24 scope.names []) (bindC (envOfC qual scope s.heap.objs.size f cd).kindOf (ps.zip us) λ_=>none) s1):
 aF (ng CX P w K mg base N qual scope f cd A outer s H E) [] (start N vs) H s1:=by
 have hpl:ps.length<=N.length:=by have:=congrArg List.length S.pre;rw [List.length_take] at this;omega
 obtain ⟨h1,tk,rfl,hk⟩:=x.done;have noA:∀b:Addr,b∉(ng CX P w K mg base N qual scope f cd A outer s H E).ex:=λb z=>absurd (show b∈([]:List Addr) from z) ↑17
 refine ⟨⟨e0.mod,S.kind,rfl,rfl,Nat.le_refl _,λy z c h1 h2=> ?_,λy hy=> ?_,λy c _ h=> ?_,λ_=>hd,Around.frames_deeper e0.frames,.inr ⟨rfl,rfl⟩,λb z=>absurd z (noA b),e0.bs,e0.bsz,λb _ _=>noA b,λb z=>absurd z (noA b),e0.funs,e0.frf⟩,
  rfl,e0.bare,Un.kept hk,⟨_,x.toInCall.ns,λi y v h1 h2 h3=> ?_⟩,λy c h=>⟨_,x.cell y c h⟩,e0.hok.fresh ↑13,λy c h=> ?_,λp hp=>absurd (show p∈([]:List ↑14) from hp) ↑17,e0.hok.kept hk,?_⟩
 ·exact name_of_addr x.apart (PySem.mem_of_lookup h1) (PySem.mem_of_lookup h2)
 ·have hy:scope.names.lookup y=some .cell\/scope.names.lookup y=some .free:=hy
  rcases hy with hy|hy
  ·exact yF hy
  ·exact absurd rfl (S.nofree _ (PySem.mem_of_lookup hy))
 ·exact Nat.le_of_lt (x.above y c (PySem.mem_of_lookup h))
 ·have hi:i<vs.length:=by
   unfold start at h2;by_cases hi:i<vs.length
   ·exact hi
   ·rw [List.getElem?_append_right (by simpa using hi)] at h2;rw [List.getElem?_replicate] at h2;split at h2<;>cases h2
  have ha:vs[i]? =some v:=by
   unfold start at h2;rw [List.getElem?_append_left (by simpa using hi),List.getElem?_map] at h2
   cases e:vs[i]? with
   |none=>rw [e] at h2;cases h2
   |some a=>rw [e] at h2;cases h2;rfl
  obtain ⟨u,hu,rv⟩:=r.get ha
  have hp:ps[i]? =some y:=by
   rw [<-S.pre,List.getElem?_take_of_lt ↑6];exact h1
  have ndP:ps.Nodup:=by rw [<-S.pre];exact S.nd.sublist (List.take_sublist _ _)
  rwa[⟨u,rv,?_⟩]
  rcases S.par y (List.mem_of_getElem? hp) with k|k
  ·exact .inl ⟨k,u6 ndP hp hu k⟩
  ·obtain ⟨c,e⟩:=yF (n:=s.heap.objs.size+1) k;rwa[.inr ⟨.inl k,c,e,?_⟩];have q:=x.cell y c e;rw [u8 ndP hp hu (by show scope.names.lookup y≠_;rw [k];decide)] at q;exact q
 ·exact e0.hok.fresh (Nat.le_of_lt (x.above y c (PySem.mem_of_lookup h)))
 ·unfold start;show _=N.length;rw [List.length_append,List.length_map,List.length_replicate];omega
theorem FD {CX:nJ}{P:Program}{w:World}{K:Fg}{mg:Str->Option Value}{base:Heap}{k:Nat}{f:Addr}{name qual:Str}{params:Arguments}{body:List Stmt}{scope:Scope}{dV kV doc pm cdv ct oc:Value}{an od:Option Addr}
{osl:Array (Option Value)}{N ps:List Str}{sp:Sp}(lk:K.lookup f=some ⟨oc,od,.func (W.fnOf name qual params body scope dV kV doc pm an cdv ct),osl⟩)(hcd:W.codeIn K cdv qual=true)(S:am N ps scope)
(len:∀vs H Q E,sp vs H Q E->vs.length=ps.length)
(hbody:∀(A:Around) (outer:List Env) (s:Shared) (H:Hp) (vs:List V) (Q:VK) (E:XK),b4 k (A.deeper (envOfC qual scope s.heap.objs.size f cdv))->sp vs H Q E->
   ∃t,uq (ng CX P w K mg base N qual scope f cdv A outer s H E) body t/\t {nx:=λ_ H'=>Q .non H',rt:=Q} (start N vs) H):
 aD P w K mg base CX (k+1) f (W.fnOf name qual params body scope dV kV doc pm an cdv ct) ps sp:=by
 rwa[⟨len,λA outer s H args us vs Q E hr e0 hb r hsp=> ?_⟩];have hl:=len _ _ _ _ hsp;have KX:K.In s.heap:=e0.mod.kin.keeps λb o e=>(e0.bs b o e).1;have lim:s.heap.NoLimit:=e0.mod.nolimit.keeps λb o e=>(e0.bs b o e).1
 have hkind:∀y∈ps.zip us,scope.names.lookup y.1=some .local\/(scope.names.lookup y.1=some .cell/\((cellsFrom ↑24 scope.names []).lookup y.1).isSome=true):=λ⟨n,v⟩ hy=>by
  rcases S.par n (List.of_mem_zip hy).1 with q|q
  ·exact .inl q
  ·exact .inr ⟨q,W.cellsFrom_some _ _ _ (.inl q)⟩
 rwa[codeAny_call_function hr.depth (KX _ _ lk) rfl S.co S.gen rfl (W.codeRec_of KX hcd) (hb _ _ _ _ ?_)];rwa[wpAny_newFunctionEnv_cells S.kind hkind λenv he s1 x=> ?_];subst he;rwa[⟨lim.keeps x.toInCall.keep,codeAny_func ?_⟩];obtain ⟨t,ht,hq⟩:=hbody A outer s H vs Q E (hr.deeper _) hsp;have I:aF (ng CX P w K mg base N qual scope f cdv A outer s H E) [] (start N vs) H s1:=Cq S hr.hd e0 hl r x;rwa[wpAny_mono (ht [] s1 (start N vs) H _ I hq) (λfl s' hs=> ?_) λe s' hs=>hs]
 have fin:∀ {σ':St} {H':Hp} {v:V} {u:Value},aF (ng CX P w K mg base N qual scope f cdv A outer s H E) [] σ' H' s'->aQ v u->Q v H'->CE outer P w H s Q u s':=
  λ{σ' H' v u} J rv q=>⟨v,H',J.os,J.bare,J.base,J.hok,rv,q⟩
 cases fl with
 |ret u=>
  obtain ⟨v,σ',H',J,rv,q⟩:=hs;exact fin J rv q
 |next=>
  obtain ⟨σ',H',J,q⟩:=hs;exact fin (v:=V.non) (u:=Value.none) J rfl q
 |brk=>
  obtain ⟨_,_,_,q⟩:=hs;exact False.elim q
 |cont=>
  obtain ⟨_,_,_,q⟩:=hs;exact False.elim q
section
variable {X:Cx}{x:Str}{p pos:Pos}{e:Expr}{es:List Expr}{t:TA}{id T:String}{r:List V->Hp->VK->Prop}
def O7 (r:List V->Hp->VK->Prop)(t:TA):TE:=λσ H Q=>t σ H λvs H1=>r vs H1 Q
theorem Ew (hc:bH X (.builtin id) r)(hg:Gl X x)(hm:X.mg x=none)(hv:bootBuiltins x=some (.builtin id))(ha:PA X (e::es) t)(hn:x≠"__name__":=by decide)(hdb:↑27=false:=by decide)
(he:starEach (e::es) X.env=(false,eval e X.env)::starEach es X.env:=by rfl)(hpl:(backTo pos (starEach es X.env)).any (·.1)=false:=by rfl):PE X (.Call (.Name x p) (e::es) [] pos) (O7 r t):=by
 intro pins s σ H Q I h;rwa[wpAny_Call_Name_kw (oO I hg hm hv ?_ hn hdb)];exact PyProof.Rows.callWith_builtin1 (bT (ha pos pins s σ H _ I h) λus s1 ⟨vs,H1,I1,r1,q1⟩=>hc pins s1 σ H1 vs us Q I1 r1 q1) he hpl
theorem BU (hc:bH X (.type T) r)(hg:Gl X x)(hm:X.mg x=none)(hv:bootBuiltins x=some (.type T))(ha:PA X (e::es) t)(hn:x≠"__name__":=by decide)(hdb:↑27=false:=by decide)
(he:starEach (e::es) X.env=(false,eval e X.env)::starEach es X.env:=by rfl)(hpl:(backTo pos (starEach es X.env)).any (·.1)=false:=by rfl):PE X (.Call (.Name x p) (e::es) [] pos) (O7 r t):=by
 intro pins s σ H Q I h;rwa[wpAny_Call_Name_kw (oO I hg hm hv ?_ hn hdb)];exact PyProof.Rows.callWith_type1 (bT (ha pos pins s σ H _ I h) λus s1 ⟨vs,H1,I1,r1,q1⟩=>hc pins s1 σ H1 vs us Q I1 r1 q1) he hpl
end
end L2
namespace HT
open PySem PyProof.Rows
section
variable {prog:Program}{w:World}{A:Around}{E:Value->Shared->Prop}{s:Shared}
theorem cat_tup {t b:Addr}{vs ws:List Value}{Q:Value->Shared->Prop}(ht:IsTup s.heap t vs.toArray)(hb:IsTup s.heap b ws.toArray)(hv:vs≠[])
(h1:ws=[]->Q (.ref t) s)(h2:ws≠[]->Q (.ref s.heap.objs.size) {s with heap:=s.heap.push {cls:= .type "tuple",data:= .seq (vs++ws).toArray}})
(hsz:vs.length+ws.length<=sizeLine):wpAny (model prog w) A (binaryOp .Add (.ref t) (.ref b)) Q E s:=by
 obtain ⟨⟨cls,dd,data,sl⟩,ho,hc,n,hd⟩:=id ht;obtain ⟨⟨cls2,dd2,data2,sl2⟩,ho2,hc2,n2,hd2⟩:=id hb;simp only at hc hd hc2 hd2;subst hc hd hc2 hd2
 have e:vs.toArray++ws.toArray=(vs++ws).toArray:=by simp
 by_cases hw:ws=[]
 ·exact concat_meets ⟨_,ho,rfl⟩ ⟨_,ho2,rfl⟩ noFill_tuple_add seq_tuple_add PySem.F.slot_tuple_add PySem.F.entry_tuple_add (PySem.F.args_tuple_add_2 _ _)
   (tuple_addW1 t b vs.toArray ws.toArray n n2 dd dd2 sl sl2 (by simpa using hv) (by simp [hw])) ⟨ho,ho2,h1 hw⟩
 ·refine concat_meets ⟨_,ho,rfl⟩ ⟨_,ho2,rfl⟩ noFill_tuple_add seq_tuple_add PySem.F.slot_tuple_add PySem.F.entry_tuple_add (PySem.F.args_tuple_add_2 _ _)
   (tuple_addW2 t b vs.toArray ws.toArray n n2 dd dd2 sl sl2 (by simpa using hv) (by simpa using hw) (by rw [List.size_toArray,List.size_toArray];exact hsz)) ⟨ho,ho2,?_⟩
  rw [e];exact h2 hw
def sIx (n d:Nat):Option Int->Nat
 |none=>d
 |some v=>if v<0 then (v+(n:Int)).toNat else min v.toNat n
theorem sIx_none (n d:Nat):sIx n d none=d:=rfl
theorem sIx_nat (n d k:Nat):sIx n d (some (k:Int))=min k n:=by
 show (if (k:Int)<0 then ((k:Int)+(n:Int)).toNat else min (k:Int).toNat n)=min k n;rw [if_neg ↑6,Int.toNat_natCast]
theorem KW (n d:Nat)(hd:d<=n)(o:Option Int):sIx n d o<=n:=by
 cases o with
 |none=>exact hd
 |some v=>
  show (if v<0 then (v+(n:Int)).toNat else min v.toNat n)<=n;by_cases hv:v<0
  ·rw [if_pos hv];omega
  ·rw [if_neg hv];exact Nat.min_le_right _ _
theorem Be (v:Int)(n d:Nat):(if v<0 then max (v+(n:Int)) 0 else min v (n:Int))=((sIx n d (some v):Nat):Int):=by
 show (if v<0 then max (v+(n:Int)) 0 else min v (n:Int))=(((if v<0 then (v+(n:Int)).toNat else min v.toNat n):Nat):Int);by_cases hv:v<0
 ·simp only [if_pos hv];omega
 ·simp only [if_neg hv];omega
theorem Av (lo hi:Option Int)(n:Nat):Builtin.Slice.sliceAdjust lo hi 1 (n:Int)=(((sIx n 0 lo:Nat):Int),((sIx n n hi:Nat):Int)):=by
 have h1: ¬((1:Int)<0):=by omega
 unfold Builtin.Slice.sliceAdjust;simp only [h1,if_false];rwa[Prod.ext ?_ ?_]
 ·cases lo with
  |none=>rfl
  |some v=>exact Be v n 0
 ·cases hi with
  |none=>rfl
  |some v=>exact Be v n n
theorem zN (i j:Nat):Builtin.Slice.slicePlaces (i:Int) (j:Int) 1=j - i:=by
 unfold Builtin.Slice.slicePlaces
 have h1:(1:Int)>0:=by omega
 simp only [h1,if_true,Int.ediv_one];split<;>omega
theorem qA {v:Value}{o:Option Int}{Q:Option Int->Shared->Prop}(p:IsPart v o)(h:Q o s):wpAny (model prog w) A (Builtin.Slice.slicePartIndex v) Q E s:=by
 cases p with
 |none=>exact slicePart_none h
 |int i t=>exact slicePart_int h
theorem gu {sl:Addr}{vl vu:Value}{lo hi:Option Int}{n:Nat}{Q:Int×Int×Nat->Shared->Prop}(hs:s.heap.IsSliceOf sl vl vu .none)(pl:IsPart vl lo)(pu:IsPart vu hi)
(h:Q (((sIx n 0 lo:Nat):Int),1,sIx n n hi - sIx n 0 lo) s):wpAny (model prog w) A (Builtin.Slice.sliceApplied (.ref sl) (pure (n:Int))) Q E s:=by
 obtain ⟨os,hos,hcs,hds⟩:=id hs;unfold Builtin.Slice.sliceApplied Builtin.Slice.sliceFields;rwa[wpAny_bind (wpAny_bind (wpAny_field hos hds (x:=vl) rfl (wpAny_bind (wpAny_field hos hds (x:=vu) rfl (wpAny_bind (wpAny_field hos hds (x:= .none) rfl (wpAny_pure ?_)))))))];rwa[wpAny_bind (slicePart_none ?_)];show wpAny _ _ (if ((1:Int)==0)=true then _ else _) _ _ s;rw [if_neg ↑2];rwa[wpAny_bind (qA pl (wpAny_bind (qA pu (wpAny_bind (wpAny_pure ?_)))))];show wpAny _ _ (match Builtin.Slice.sliceAdjust lo hi 1 (n:Int) with|(lo,hi)=>pure (lo,(1:Int),Builtin.Slice.slicePlaces lo hi 1)) _ _ s;rw [Av lo hi n];show wpAny _ _ (pure (((sIx n 0 lo:Nat):Int),(1:Int),Builtin.Slice.slicePlaces ((sIx n 0 lo:Nat):Int) ((sIx n n hi:Nat):Int) 1)) _ _ s;rw [zN];exact wpAny_pure h
theorem En (xs:Array Value)(i k:Nat):((List.range k).filterMap λ(m:Nat)=>xs[((i:Int)+(m:Int)*1).toNat]?).toArray=((xs.toList.drop i).take k).toArray:=by
 have e:(λ(m:Nat)=>xs[((i:Int)+(m:Int)*1).toNat]?)=λm=>xs[i+m]? :=by
  funext m
  have:((i:Int)+(m:Int)*1).toNat=i+m:=by omega
  rw [this]
 rw [e];have:=pick_run xs i k;rw [List.filterMap_map] at this;have e2:((λx=>xs[x]?)∘λx=>i+x)=λm=>xs[i+m]? :=rfl;rw [e2] at this;rw [this]
theorem getItem_tuple_cut {t sl:Addr}{items:Array Value}{vl vu:Value}{lo hi:Option Int}{Q:Value->Shared->Prop}(ht:IsTup s.heap t items)(hs:s.heap.IsSliceOf sl vl vu .none)(pl:IsPart vl lo)(pu:IsPart vu hi)
(hw: ¬(sIx items.size 0 lo=0/\sIx items.size items.size hi=items.size))
(h:Q (.ref s.heap.objs.size) {s with heap:=s.heap.push {cls:= .type "tuple",data:= .seq ((items.toList.drop (sIx items.size 0 lo)).take (sIx items.size items.size hi - sIx items.size 0 lo)).toArray}})
(hsz:items.size<=sizeLine):wpAny (model prog w) A (getItem (.ref t) (.ref sl)) Q E s:=by
 have htake:sizeOk (.seq ((items.toList.drop (sIx items.size 0 lo)).take (sIx items.size items.size hi - sIx items.size 0 lo)).toArray):=by
  show ((items.toList.drop (sIx items.size 0 lo)).take (sIx items.size items.size hi - sIx items.size 0 lo)).toArray.size<=sizeLine;rw [List.size_toArray,List.length_take,List.length_drop,Array.length_toList];omega
 have hj:sIx items.size items.size hi<=items.size:=KW _ _ ↑13 hi;obtain ⟨os,hos,hcs,hds⟩:=id hs;have hTs:s.TypeIs (.ref sl) "slice":=⟨os,hos,hcs⟩;unfold getItem
 try with_reducible refine wpAny_holding ?_
 first|refine wpAny_bind (wpAny_pure ?_)|skip
 rwa[wpAny_bind (wpAny_sequenceKey ht.typeIs ↑2 ?_)]
 refine wpAny_bind (wpAny_callSpecial?_slot (name:=Str.ofString "__getitem__") ht.typeIs PyProof.Rows.slot_tuple_getitem
  (wpAny_call_entry PyProof.Rows.slot_tuple_getitem ht.typeIs entry_tuple_getitem ?_ (args_tuple_getitem _ _)))
 show wpAny _ _ (Builtin.Tuple.tupleItemsOf (.ref t)>>=_) _ _ s;rwa[wpAny_bind (tupleItemsOf_ ht ?_)];rwa[wpAny_bind (wpAny_typeOf hTs ?_)];rw [if_pos ↑2];rwa[wpAny_bind (gu hs pl pu ?_)]
 have hno: ¬((((sIx items.size 0 lo:Nat):Int)==0&&(1:Int)==1&&(sIx items.size items.size hi - sIx items.size 0 lo)==items.size)=true):=by
  intro q;rw [Bool.and_eq_true,Bool.and_eq_true] at q;have q1:((sIx items.size 0 lo:Nat):Int)=0:=eq_of_beq q.1.1;have q2:sIx items.size items.size hi - sIx items.size 0 lo=items.size:=eq_of_beq q.2;exact hw ⟨by omega,by omega⟩
 show wpAny _ _ (if (((sIx items.size 0 lo:Nat):Int)==0&&(1:Int)==1&&(sIx items.size items.size hi - sIx items.size 0 lo)==items.size)=true then _ else _) _ _ s;rw [if_neg hno,En]
 first
  |exact wpAny_bind (m:=Builtin.Tuple.tupleExact _) (wpAny_newObj_type (wpAny_pure ⟨_,rfl,wpAny_pure h⟩) htake)
  |exact wpAny_bind (m:=Builtin.Tuple.tupleExact _) (wpAny_newObj_type (wpAny_bind (wpAny_pure (wpAny_pure ⟨_,rfl,wpAny_pure h⟩))) htake)
  |exact wpAny_bind (wpAny_bind (m:=Builtin.Tuple.tupleExact _) (wpAny_newObj_type (wpAny_pure (wpAny_pure ⟨_,rfl,wpAny_pure h⟩)) htake))
  |exact wpAny_bind (wpAny_bind (m:=Builtin.Tuple.tupleExact _) (wpAny_newObj_type (wpAny_pure ⟨_,rfl,wpAny_pure h⟩) htake))
end
end HT
namespace L2
open PySem PySem.Spec PyProof.Rows
abbrev TO:=St->Hp->(Option Int->Hp->Prop)->Prop
def PO (X:Cx)(e:Option Expr)(t:TO):Prop:=
 ∀(pins:List ↑14) (s:Shared) (σ:St) (H:Hp) (Q:Option Int->Hp->Prop),aF X pins σ H s->t σ H Q->
  wpAny ↑8 X.A (evalPart e X.env) (λu s'=>∃o H',aF X pins σ H' s'/\IsPart u o/\Q o H') X.xe s
def G9:TO:=λ_ H Q=>Q none H
section
variable {X:Cx}{e:Expr}{te:TE}{lo hi:Option Expr}{tl th:TO}{pos p2:Pos}
theorem mM:PO X none G9:=by
 intro pins s σ H Q I h;rw [evalPart_none];exact wpAny_pure ⟨none,H,I,.none,h⟩
def JR (X:Cx)(r:V->Option Int->Option Int->Hp->VK->Prop):Prop:=
 ∀(pins:List ↑14) (s:Shared) (σ:St) (H:Hp) (x:V) (v vl vu:Value) (lo hi:Option Int) (sl:Addr) (Q:VK),aF X pins σ H s->aQ x v->s.heap.IsSliceOf sl vl vu .none->IsPart vl lo->IsPart vu hi->r x lo hi H Q->
  ∃T id,typeLookup (.type T) "__getitem__"=pure (some (.builtin id))/\s.TypeIs v T/\wpAny ↑8 X.A (getItem v (.ref sl)) (EP X pins σ Q) X.xe s
def Q3 (r:V->Option Int->Option Int->Hp->VK->Prop)(te:TE)(tl th:TO):TE:=λσ H Q=>te σ H λx H1=>tl σ H1 λl H2=>th σ H2 λu H3=>r x l u H3 Q
theorem jf {r:V->Option Int->Option Int->Hp->VK->Prop}(hr:JR X r)(he:PE X e te)(hl:PO X lo tl)(hu:PO X hi th):PE X (.Subscript e (.Slice lo hi none p2) pos) (Q3 r te tl th):=by
 intro pins s σ H Q I h;rwa[Subscript_ (bT (he pins s σ H _ I h) λv s1 ⟨x,H1,I1,r1,q1⟩=> ?_)];rwa[wpAny_Slice (bT (hl pins s1 σ H1 _ I1 q1) λvl s2 ⟨l,H2,I2,pl,q2⟩=>bT (hu pins s2 σ H2 _ I2 q2) λvu s3 ⟨u,H3,I3,pu,q3⟩=> ?_)];rw [evalPart_none];rwa[wpAny_pure ?_];have I4:aF X pins σ H3 {s3 with heap:=s3.heap.push {cls:= .type "slice",data:= .fields #[vl,vu,.none]}}:=I3.kept (t':=s3.toks) λb ob q=>Heap.get?_push_of_some _ q;obtain ⟨T,id,hT,ht,hg⟩:=hr pins {s3 with heap:=s3.heap.push {cls:= .type "slice",data:= .fields #[vl,vu,.none]}} σ H3 x v vl vu l u s3.heap.objs.size Q I4 r1 (Heap.IsSliceOf.new ..) pl pu q3;show wpAny ↑8 X.A (subscriptTail e (.Slice lo hi none p2) v (.ref s3.heap.objs.size)) (EP X pins σ Q) X.xe {s3 with heap:=s3.heap.push {cls:= .type "slice",data:= .fields #[vl,vu,.none]}};exact tail_any (ops:=[.ref s3.heap.objs.size,v]) ht hT hg (by with_unfolding_all rfl)
def j9 (xs:List V)(lo hi:Option Int):List V:=(xs.drop (HT.sIx xs.length 0 lo)).take (HT.sIx xs.length xs.length hi - HT.sIx xs.length 0 lo)
theorem pO (xs:List V)(lo hi:Option Int):(j9 xs lo hi).length<=xs.length:=by
 unfold j9;rw [List.length_take,List.length_drop];omega
def Qi (K:Fg):V->Option Int->Option Int->Hp->VK->Prop:=λx lo hi H Q=>∃a xs,x= .ref a/\aP K H a xs/\
 ¬(HT.sIx xs.length 0 lo=0/\HT.sIx xs.length xs.length hi=xs.length)/\∀p,H p=none->Q (.ref p) (upd H p (.tup (j9 xs lo hi)))
theorem DS:JR X (Qi X.K):=by
 intro pins s σ H x v vl vu lo hi sl Q I rx hs pl pu h;obtain ⟨a,xs,rfl,hx,hw,q⟩:=h;cases rx;obtain ⟨its,r,ht,hz⟩:=I.tuple hx
 have hlen:its.toArray.size=xs.length:=by rw [List.size_toArray];exact r.length.symm
 rwa[⟨"tuple",_,PyProof.Rows.slot_tuple_getitem.lookup,ht.typeIs,?_⟩];rwa[HT.getItem_tuple_cut ht hs pl pu (by rw [hlen];exact hw) ?_ (by rw [hlen];exact hz)];rw [hlen];rwa[⟨.ref s.heap.objs.size,_,I.laid (t':=s.toks) (o:= .tup (j9 xs lo hi)) (λb ob q=>Heap.get?_push_of_some _ q) ↑13 ?_,rfl,q _ (I.hok.fresh ↑13)⟩];exact ⟨Nat.le_trans (pO xs lo hi) hz,_,(r.drop (HT.sIx xs.length 0 lo)).take (HT.sIx xs.length xs.length hi - HT.sIx xs.length 0 lo),IsTup.new _ _⟩
def NX (K:Fg):R2:=λx y H Q=>∃a b xs ys,x= .ref a/\y= .ref b/\aP K H a xs/\aP K H b ys/\xs≠[]/\xs.length+ys.length<=sizeLine/\
 (ys=[]->Q (.ref a) H)/\(ys≠[]->∀p,H p=none->Q (.ref p) (upd H p (.tup (xs++ys))))
theorem aY.nil_iff {xs:List V}{us:List Value}(r:aY xs us):us=[]↔xs=[]:=by
 cases r with
 |nil=>simp
 |cons _ _=>simp
theorem HQ:dD X (binaryOp .Add) (NX X.K):=by
 intro pins s σ H x y v u Q I rx ry h;obtain ⟨a,b,xs,ys,rfl,rfl,ha,hb,hx,hz,q1,q2⟩:=h;cases rx;cases ry;obtain ⟨its,r1,p1,_⟩:=I.tuple ha;obtain ⟨its2,r2,p2,_⟩:=I.tuple hb;rwa[HT.cat_tup p1 p2 (λz=>hx (r1.nil_iff.mp z)) (λz=>⟨.ref a,H,I,rfl,q1 (r2.nil_iff.mp z)⟩) (λz=> ?_) (by rw [<-r1.length,<-r2.length];exact hz)];rwa[⟨.ref s.heap.objs.size,_,I.laid (t':=s.toks) (o:= .tup (xs++ys)) (λb ob q=>Heap.get?_push_of_some _ q) ↑13 ?_,rfl,q2 (λw=>z (r2.nil_iff.mpr w)) _ (I.hok.fresh ↑13)⟩];exact ⟨by rw [List.length_append];exact hz,_,r1.append r2,IsTup.new _ _⟩
end
def Co (n:Nat)(i:Int):Option Nat:=if 0<=i then (if i<n then some i.toNat else none) else if -(n:Int)<=i then some (i+n).toNat else none
def pW {α:Type}(xs:List α)(i:Int):Option α:=(Co xs.length i).bind λj=>xs[j]?
theorem A5 {n:Nat}{i:Int}{j:Nat}(h:Co n i=some j):seqIndex? i n=some j/\j<n/\ -(n:Int)<=i/\i<n:=by
 unfold Co at h;by_cases h0:0<=i
 ·rw [if_pos h0] at h;by_cases h1:i<n
  ·rw [if_pos h1] at h;have e:i.toNat=j:=Option.some.inj h;exact ⟨by rw [seqIndex_of h0 h1,e],by omega,by omega,h1⟩
  ·rw [if_neg h1] at h;cases h
 ·rw [if_neg h0] at h;by_cases h1: -(n:Int)<=i
  ·rw [if_pos h1] at h;have e:(i+n).toNat=j:=Option.some.inj h;exact ⟨by rw [seqIndex_neg ↑6 h1,e],by omega,h1,by omega⟩
  ·rw [if_neg h1] at h;cases h
theorem xj {α:Type}{xs:List α}{i:Int}{v:α}(h:pW xs i=some v):∃j,seqIndex? i xs.length=some j/\xs[j]? =some v/\j<xs.length/\ -(xs.length:Int)<=i/\i<xs.length:=by
 unfold pW at h
 cases e:Co xs.length i with
 |none=>rw [e] at h;cases h
 |some j=>
  rw [e] at h;obtain ⟨h1,h2,h3,h4⟩:=A5 e;exact ⟨j,h1,h,h2,h3,h4⟩
theorem gb {α:Type}{xs:List α}{j:Nat}{v:α}(h:xs[j]? =some v):pW xs (j:Int)=some v:=by
 have hj:j<xs.length:=(List.getElem?_eq_some_iff.mp h).1
 have e:Co xs.length (j:Int)=some j:=by
  unfold Co;rw [if_pos ↑6,if_pos ↑6];simp
 unfold pW;rw [e];exact h
def Jm (b:Expr):Prop:=∀o i,subscripted b false o i=operate [o,i] (getItem o i)
def CZ (X:Cx)(r:R2):Prop:=
 ∀(value slice:Expr) (pins:List ↑14) (s:Shared) (σ:St) (H:Hp) (x y:V) (v u:Value) (Q:VK),aF X pins σ H s->aQ x v->aQ y u->r x y H Q->
  subscripted slice false v u=operate [v,u] (getItem v u)->wpAny ↑8 X.A (subscriptTail value slice v u) (EP X pins σ Q) X.xe s
def yP (X:Cx)(id:String)(r:V->List V->Hp->VK->Prop):Prop:=
 ∀(pins:List ↑14) (s:Shared) (σ:St) (H:Hp) (x:V) (xs:List V) (v:Value) (us:List Value) (Q:VK),aF X pins σ H s->aQ x v->aY xs us->r x xs H Q->
  wpAny ↑8 X.A (call (.builtin id) (v::us)) (EP X pins σ Q) X.xe s
section
variable {X:Cx}{a b:Expr}{ta tb:TE}{pos:Pos}
theorem ao {r:R2}(hr:CZ X r)(ha:PE X a ta)(hb:PE X b tb)(hs:Jm b):PE X (.Subscript a b pos) (O6 r ta tb):=by
 intro pins s σ H Q I h;exact Subscript_ (Mw ha hb I h λv u s2 x y H2 I2 rx ry q=>hr a b pins s2 σ H2 x y v u Q I2 rx ry q (hs _ _))
def Qm (K:Fg):R2:=λx y H Q=>∃p xs i v,x= .ref p/\y= .int i/\aS K H p xs/\pW xs i=some v/\Q v H
def Qk (K:Fg):R2:=λx y H Q=>∃p xs i v,x= .ref p/\y= .int i/\aP K H p xs/\pW xs i=some v/\Q v H
def Ql:R2:=λx y H Q=>∃z i c,x= .str z/\y= .int i/\z.length<=sizeLine/\pW z.cps.toList i=some c/\Q (.str ⟨#[c]⟩) H
theorem IL:CZ X (Qm X.K):=by
 intro value slice pins s σ H x y v u Q I rx ry h hs;obtain ⟨p,xs,i,z,rfl,rfl,hq,he,q⟩:=h;cases rx;obtain ⟨t,rfl⟩:=ry;obtain ⟨its,r,pl,hz⟩:=I.list hq;obtain ⟨j,h1,h2,h3,h4,h5⟩:=xj he;obtain ⟨w,ew,rw'⟩:=r.get h2;have hl:=r.length;have hn:=lB;have fin:EP X pins σ Q w s:=⟨z,H,I,rw',q⟩;by_cases h0:0<=i
 ·have hj:i.toNat=j:=by
   rw [seqIndex_of h0 h5] at h1;exact Option.some.inj h1
  exact item_listR pl.isList h0 ↑6 (by rw [hj];simpa using ew) fin hs
 ·have hj:(i+(its.toArray.size:Int)).toNat=j:=by
   rw [seqIndex_neg ↑6 h4] at h1;rw [List.size_toArray,<-hl];exact Option.some.inj h1
  exact subscriptTail_builtinR (x:=w) pl.isList.typeIs slot_list_getitem.lookup
   (wpAny_getItem_list_neg (Q:=λr s'=>r=w/\EP X pins σ Q r s') pl.isList ↑6 (by rw [List.size_toArray]<;>omega) ↑6 (by rw [hj];simpa using ew) ⟨rfl,fin⟩) hs
theorem Mf:CZ X (Qk X.K):=by
 intro value slice pins s σ H x y v u Q I rx ry h hs;obtain ⟨p,xs,i,z,rfl,rfl,hq,he,q⟩:=h;cases rx;obtain ⟨t,rfl⟩:=ry;obtain ⟨its,r,pl,hz⟩:=I.tuple hq;obtain ⟨j,h1,h2,h3,h4,h5⟩:=xj he;obtain ⟨w,ew,rw'⟩:=r.get h2;have hl:=r.length;have hn:=lB;have fin:EP X pins σ Q w s:=⟨z,H,I,rw',q⟩
 exact subscriptTail_builtinR (x:=w) pl.typeIs slot_tuple_getitem.lookup
  (getItem_tuple (j:=j) (Q:=λr s'=>r=w/\EP X pins σ Q r s') pl ↑6 ↑6 (by rw [List.size_toArray,<-hl];exact h1) (by simpa using ew) ⟨rfl,fin⟩) hs
theorem Mg:CZ X Ql:=by
 intro value slice pins s σ H x y v u Q I rx ry h hs;obtain ⟨z,i,c,rfl,rfl,hz,he,q⟩:=h;obtain ⟨t,rfl⟩:=rx;obtain ⟨t',rfl⟩:=ry;obtain ⟨j,h1,h2,h3,h4,h5⟩:=xj he
 have hl:z.cps.toList.length=z.length:=by simp [Str.length]
 rw [hl] at h1 h4 h5;have hn:=lB
 exact tail_any (typeIs_str s z t) slot_str_getitem.lookup (getItem_str (c:=c) (by
  have e1:decide (i< -(2^63:Int))=false:=decide_eq_false ↑6;have e2:decide (i≥2^63)=false:=decide_eq_false ↑6
  rw [e1,e2,Bool.or_false]) (by rw [h1];simpa using h2) ⟨.str ⟨#[c]⟩,H,I.tok _,⟨_,rfl⟩,q⟩) hs
theorem z7 (its:List Value)(n j:Nat)(u:Value):Obj.mapSeq (·.setIfInBounds j u) {cls:= .type "list",data:= .seq its.toArray n}= {cls:= .type "list",data:= .seq (its.set j u).toArray n}:=by
 simp [Obj.mapSeq]
theorem aF.lst {pins:List ↑14}{σ:St}{H:Hp}{s:Shared}{p:Addr}{xs:List V}(I:aF X pins σ H s)(h:H p=some (.lst xs)):
 ∃(its:List Value) (n:Nat),aY xs its/\s.heap.get? p=some {cls:= .type "list",data:= .seq its.toArray n}/\xs.length<=sizeLine:=by
 obtain ⟨z,its,n,r,e⟩:=I.hok p _ h;exact ⟨its,n,r,e,z⟩
theorem aF.lstUpd {pins:List ↑14}{σ:St}{H:Hp}{s:Shared}{p:Addr}{xs ys:List V}{its its':List Value}{n n':Nat}{f:Obj->Obj}(I:aF X pins σ H s)(h:H p=some (.lst xs))
(ho:s.heap.get? p=some {cls:= .type "list",data:= .seq its.toArray n})(hf:f {cls:= .type "list",data:= .seq its.toArray n}= {cls:= .type "list",data:= .seq its'.toArray n'})(r:aY ys its')(hz:ys.length<=sizeLine)(t:Nat):
 aF X pins σ (upd H p (.lst ys)) {s with heap:=s.heap.update p f,toks:=t}:=by
 have e:(s.heap.update p f).get? p=some {cls:= .type "list",data:= .seq its'.toArray n'}:=by
  rw [Heap.get?_update_self f ho (by rw [hf]<;>rfl),hf]
 rwa[I.write (x:=p) (e:=p) (by rw [h];trivial) (.inl rfl) (λb u hb q=>(Heap.get?_update_other _ _ (Ne.symm hb)).trans q) ⟨_,e⟩ ?_];exact ⟨hz,its',n',r,e⟩
def NS:V->V->V->Hp->(Hp->Prop)->Prop:=λo i v H Q=>∃p xs k j,o= .ref p/\i= .int k/\H p=some (.lst xs)/\Co xs.length k=some j/\Q (upd H p (.lst (xs.set j v)))
theorem DU:Gp X NS:=by
 intro pins s σ H o i v ov iv u Q I ro ri rv h;obtain ⟨p,xs,k,j,rfl,rfl,hp,hj,q⟩:=h;cases ro;obtain ⟨t,rfl⟩:=ri;obtain ⟨its,n,r,ho,hz⟩:=I.lst hp;obtain ⟨h1,h2,h3,h4⟩:=A5 hj;have hl:=r.length;have hn:=lB
 have I':aF X pins σ (upd H p (.lst (xs.set j v))) {s with heap:=s.heap.update p (Obj.mapSeq (·.setIfInBounds j u))}:=
  I.lstUpd hp ho (z7 its n j u) (r.set rv j) (by rw [List.length_set];exact hz) s.toks
 by_cases h0:0<=k
 ·have hk:k.toNat=j:=by
   rw [seqIndex_of h0 h4] at h1;exact Option.some.inj h1
  exact W.ki_setAt ho h0 ↑6 (by rw [List.size_toArray,<-hl];exact h4) (by rw [hk];exact ⟨_,I',q⟩)
 ·have hk:(k+(its.toArray.size:Int)).toNat=j:=by
   rw [seqIndex_neg ↑6 h3] at h1;rw [List.size_toArray,<-hl];exact Option.some.inj h1
  exact W.ki_setBack ho ↑6 (by rw [List.size_toArray,<-hl];exact h3) ↑6 (by rw [hk];exact ⟨_,I',q⟩)
theorem vH (lo hi:Option Int)(n:Nat):(sliceBounds lo hi none n).1=((HT.sIx n 0 lo:Nat):Int)/\(sliceBounds lo hi none n).2.1=((HT.sIx n n hi:Nat):Int)/\(sliceBounds lo hi none n).2.2=1:=by
 rwa[⟨?_,?_,rfl⟩]
 ·cases lo with
  |none=>simp [sliceBounds,HT.sIx]
  |some i=>
   simp only [sliceBounds,HT.sIx,Option.getD_none,show (1:Int)>0 by decide,if_true];by_cases h:i<0
   ·simp only [h,if_true]<;>omega
   ·simp only [h,if_false]<;>omega
 ·cases hi with
  |none=>simp [sliceBounds,HT.sIx]
  |some i=>
   simp only [sliceBounds,HT.sIx,Option.getD_none,show (1:Int)>0 by decide,if_true];by_cases h:i<0
   ·simp only [h,if_true]<;>omega
   ·simp only [h,if_false]<;>omega
theorem tS (its:List Value)(lo hi:Option Int):slicePick its.toArray lo hi none=((its.drop (HT.sIx its.length 0 lo)).take (HT.sIx its.length its.length hi - HT.sIx its.length 0 lo)).toArray:=by
 obtain ⟨h1,h2,h3⟩:=vH lo hi its.toArray.size;unfold slicePick;rw [h1,h2,h3];simp only [sliceRange_one,pick_run,List.size_toArray]<;>rfl
def Qj (K:Fg):V->Option Int->Option Int->Hp->VK->Prop:=λx lo hi H Q=>∃a xs,x= .ref a/\aS K H a xs/\∀p,H p=none->Q (.ref p) (upd H p (.lst (j9 xs lo hi)))
theorem Hm:JR X (Qj X.K):=by
 intro pins s σ H x v vl vu lo hi sl Q I rx hs pl pu h;obtain ⟨a,xs,rfl,hx,q⟩:=h;cases rx;obtain ⟨its,r,ht,hz⟩:=I.list hx;have hlen:=r.length;rwa[⟨"list",_,slot_list_getitem.lookup,ht.isList.typeIs,?_⟩];rwa[wpAny_getItem_list_slice ht.isList hs pl pu .none ↑17 ?_ (by rw [List.size_toArray]<;>omega)];rw [tS,<-hlen];rwa[⟨.ref s.heap.objs.size,_,I.laid (t':=s.toks) (o:= .lst (j9 xs lo hi)) (λb ob q=>Heap.get?_push_of_some _ q) ↑13 ?_,rfl,q _ (I.hok.fresh ↑13)⟩];exact ⟨Nat.le_trans (pO xs lo hi) hz,_,0,(r.drop (HT.sIx xs.length 0 lo)).take (HT.sIx xs.length xs.length hi - HT.sIx xs.length 0 lo),Heap.get?_push_size _ rfl⟩
def dh:V->Bool
 | .non=>true
 | .bl _=>true
 | .int _=>true
 | .str _=>true
 |_=>false
def IX:V->V->Bool
 | .non,.non=>true
 | .bl a,.bl b=>a==b
 | .bl a,.int b=>(if a then 1 else 0)==b
 | .int a,.bl b=>a==(if b then 1 else 0)
 | .int a,.int b=>a==b
 | .str a,.str b=>a==b
 |_,_=>false
theorem FM {A:Around}{s:Shared}{y x:V}{u v:Value}(ry:aQ y u)(rx:aQ x v)(fy:dh y=true)(fx:dh x=true):SeqAt.EqAt A s u v (IX y x):=by
 cases y with
 |non=>
  cases ry
  cases x with
  |non=>cases rx;exact SeqAt.EqAt.same _
  |bl b=>cases rx;exact SeqAt.EqAt.none_bool b
  |int b=>obtain ⟨t,rfl⟩:=rx;exact SeqAt.EqAt.none_int b t
  |str b=>obtain ⟨t,rfl⟩:=rx;exact SeqAt.EqAt.none_str b t
  |_=>exact absurd (show false=true from fx) Bool.false_ne_true
 |bl a=>
  cases ry
  cases x with
  |non=>cases rx;exact SeqAt.EqAt.bool_none a
  |bl b=>cases rx;exact SeqAt.EqAt.bool_bool a b
  |int b=>obtain ⟨t,rfl⟩:=rx;exact SeqAt.EqAt.bool_int a b t
  |str b=>obtain ⟨t,rfl⟩:=rx;exact SeqAt.EqAt.bool_str a b t
  |_=>exact absurd (show false=true from fx) Bool.false_ne_true
 |int a=>
  obtain ⟨t',rfl⟩:=ry
  cases x with
  |non=>cases rx;exact SeqAt.EqAt.int_none a t'
  |bl b=>cases rx;exact SeqAt.EqAt.int_bool a t' b
  |int b=>obtain ⟨t,rfl⟩:=rx;exact SeqAt.EqAt.int_int a t' b t
  |str b=>obtain ⟨t,rfl⟩:=rx;exact SeqAt.EqAt.int_str a t' b t
  |_=>exact absurd (show false=true from fx) Bool.false_ne_true
 |str a=>
  obtain ⟨t',rfl⟩:=ry
  cases x with
  |non=>cases rx;exact SeqAt.EqAt.str_none a t'
  |bl b=>cases rx;exact SeqAt.EqAt.str_bool a t' b
  |int b=>obtain ⟨t,rfl⟩:=rx;exact SeqAt.EqAt.str_int a t' b t
  |str b=>obtain ⟨t,rfl⟩:=rx;exact SeqAt.EqAt.str_str a t' b t
  |_=>exact absurd (show false=true from fx) Bool.false_ne_true
 |_=>exact absurd (show false=true from fy) Bool.false_ne_true
def An (x:V)(u:Value):Bool:=match u with
 | .none=>IX .non x
 | .bool b=>IX (.bl b) x
 | .int i _=>IX (.int i) x
 | .str z _=>IX (.str z) x
 |_=>false
theorem FK {x y:V}{u:Value}(r:aQ y u)(f:dh y=true):An x u=IX y x:=by
 cases y with
 |non=>cases r;rfl
 |bl b=>cases r;rfl
 |int i=>obtain ⟨t,rfl⟩:=r;rfl
 |str z=>obtain ⟨t,rfl⟩:=r;rfl
 |_=>exact absurd (show false=true from f) Bool.false_ne_true
theorem nr {x:V}:∀ {xs:List V} {us:List Value},aY xs us->xs.all dh=true->us.any (An x)=xs.any λy=>IX y x
 |_,_,.nil,_=>rfl
 |y::xs,u::us,.cons r t,f=>by
  rw [List.all_cons,Bool.and_eq_true] at f;rw [List.any_cons,List.any_cons,FK r f.1,nr t f.2]
theorem jm {A:Around}{s:Shared}{x:V}{v:Value}(rx:aQ x v)(fx:dh x=true):∀ {xs:List V} {us:List Value},aY xs us->xs.all dh=true->∀u∈us,SeqAt.EqAt A s u v (An x u)
 |_,_,.nil,_=>λu hu=>by cases hu
 |y::xs,u::us,.cons r t,f=>λu' hu=>by
  rw [List.all_cons,Bool.and_eq_true] at f
  rcases List.mem_cons.mp hu with rfl|hu
  ·rw [FK r f.1];exact FM r rx f.1 fx
  ·exact jm rx fx t f.2 u' hu
def uN (x:V)(xs:List V):Bool:=xs.any λy=>IX y x
def O8 (K:Fg)(neg:Bool):R2:=λx y H Q=>∃p xs,y= .ref p/\(aS K H p xs\/aP K H p xs)/\dh x=true/\xs.all dh=true/\Q (.bl (if neg then !uN x xs else uN x xs)) H
theorem BW:dD X (compareOp .In) (O8 X.K false):=by
 intro pins s σ H x y v u Q I rx ry h;obtain ⟨p,xs,rfl,hq,fx,fs,q⟩:=h;cases ry
 rcases hq with hq|hq
 ·obtain ⟨its,r,pl,hz⟩:=I.list hq;rwa[SeqAt.in_listAt (An x) pl.isList (λw hw=>jm rx fx r fs w (by simpa using hw)) ⟨.bl _,H,I,rfl,?_⟩];rw [show its.toArray.any (An x)=its.any (An x) by simp,nr r fs];exact q
 ·obtain ⟨its,r,pl,hz⟩:=I.tuple hq;rwa[SeqAt.in_tupleAt (An x) pl (λw hw=>jm rx fx r fs w (by simpa using hw)) ⟨.bl _,H,I,rfl,?_⟩];rw [show its.toArray.any (An x)=its.any (An x) by simp,nr r fs];exact q
theorem wy:dD X (compareOp .NotIn) (O8 X.K true):=by
 intro pins s σ H x y v u Q I rx ry h;obtain ⟨p,xs,rfl,hq,fx,fs,q⟩:=h;cases ry
 rcases hq with hq|hq
 ·obtain ⟨its,r,pl,hz⟩:=I.list hq;rwa[SeqAt.notIn_listAt (An x) pl.isList (λw hw=>jm rx fx r fs w (by simpa using hw)) ⟨.bl _,H,I,rfl,?_⟩];rw [show its.toArray.any (An x)=its.any (An x) by simp,nr r fs];exact q
 ·obtain ⟨its,r,pl,hz⟩:=I.tuple hq;rwa[SeqAt.notIn_tupleAt (An x) pl (λw hw=>jm rx fx r fs w (by simpa using hw)) ⟨.bl _,H,I,rfl,?_⟩];rw [show its.toArray.any (An x)=its.any (An x) by simp,nr r fs];exact q
theorem w6:bH X (.builtin "len") (λxs H Q=>∃p ys,xs=[.ref p]/\(aS X.K H p ys\/aP X.K H p ys)/\Q (.int ys.length) H):=by
 intro pins s σ H xs us Q I r h;obtain ⟨p,ys,rfl,hq,q⟩:=h;obtain ⟨u,rfl,rx⟩:=kb r;cases rx;have hn:=lB
 rcases hq with hq|hq
 ·obtain ⟨its,r',pl,hz⟩:=I.list hq;have hlen:=r'.length;exact Calls.call_len_list pl.isList (by simp only [List.size_toArray]<;>omega) ⟨.int ys.length,H,I.tok _,⟨s.toks+1,by rw [List.size_toArray,hlen]⟩,q⟩
 ·obtain ⟨its,r',pl,hz⟩:=I.tuple hq;have hlen:=r'.length;exact len_tuple pl (by simp only [List.size_toArray]<;>omega) ⟨.int ys.length,H,I.tok _,⟨s.toks+1,by rw [List.size_toArray,hlen]⟩,q⟩
theorem w5:bH X (.builtin "len") (λxs H Q=>∃z,xs=[.str z]/\z.length<=sizeLine/\Q (.int z.length) H):=by
 intro pins s σ H xs us Q I r h;obtain ⟨z,rfl,hz,q⟩:=h;obtain ⟨u,rfl,t,rfl⟩:=kb r;have hn:=lB;exact len_str ↑6 ⟨.int z.length,H,I.tok _,⟨_,rfl⟩,q⟩
theorem w4:bH X (.type "list") (λxs H Q=>∃p ys,xs=[.ref p]/\(aS X.K H p ys\/aP X.K H p ys)/\∀l,H l=none->Q (.ref l) (upd H l (.lst ys))):=by
 intro pins s σ H xs us Q I r h;obtain ⟨p,ys,rfl,hq,q⟩:=h;obtain ⟨u,rfl,rx⟩:=kb r;cases rx
 have fin:∀(its:List Value),aY ys its->ys.length<=sizeLine->∀(h':Heap) (c':Nat),(∀b o',s.heap.get? b=some o'->h'.get? b=some o')->
  h'.get? s.heap.objs.size=some {cls:= .type "list",dict:=none,data:= .seq its.toArray c',slots:= #[]}->EP X pins σ Q (.ref s.heap.objs.size) {s with heap:=h'}:=λits r' hz h' c' kp e=>
  ⟨.ref s.heap.objs.size,_,I.laid (t':=s.toks) kp ↑13 (show bE X.prog X.w _ h' _ (.lst ys) from ⟨hz,its,c',r',e⟩),rfl,q _ (I.hok.fresh ↑13)⟩
 rcases hq with hq|hq
 ·obtain ⟨its,r',pl,hz⟩:=I.list hq;have hlen:=r'.length;obtain ⟨o,ho,hc,n,hd⟩:=pl.isList;exact call_list_seq p (.inl rfl) ho hc hd (λh' c' kp e=>fin its r' hz h' c' kp e) (by simp only [List.size_toArray]<;>omega)
 ·obtain ⟨its,r',pl,hz⟩:=I.tuple hq;have hlen:=r'.length;obtain ⟨o,ho,hc,n,hd⟩:=pl;exact call_list_seq p (.inr rfl) ho hc hd (λh' c' kp e=>fin its r' hz h' c' kp e) (by simp only [List.size_toArray]<;>omega)
theorem uk:bH X (.type "tuple") (λxs H Q=>∃p ys,xs=[.ref p]/\((aS X.K H p ys/\∀l,H l=none->Q (.ref l) (upd H l (.tup ys)))\/(aP X.K H p ys/\Q (.ref p) H))):=by
 intro pins s σ H xs us Q I r h;obtain ⟨p,ys,rfl,h⟩:=h;obtain ⟨u,rfl,rx⟩:=kb r;cases rx
 rcases h with ⟨hq,q⟩|⟨hq,q⟩
 ·obtain ⟨its,r',pl,hz⟩:=I.list hq;have hlen:=r'.length;rwa[call_tuple_list pl.isList (λh' kp=> ?_) (by simp only [List.size_toArray]<;>omega)];have I1:aF X pins σ H {s with heap:=h'}:=I.kept (t':=s.toks) kp
  have I2:aF X pins σ (upd H h'.objs.size (.tup ys)) {s with heap:=h'.push {cls:= .type "tuple",data:= .seq its.toArray}}:=
   I1.laid (t':=s.toks) (λb o e=>Heap.get?_push_of_some _ e) ↑13 (show bE X.prog X.w _ _ _ (.tup ys) from ⟨hz,its,r',IsTup.new _ _⟩)
  exact ⟨.ref h'.objs.size,_,I2,rfl,q _ (I1.hok.fresh ↑13)⟩
 ·obtain ⟨its,r',pl,hz⟩:=I.tuple hq;exact call_tuple_same pl ⟨.ref p,H,I,rfl,q⟩
def O4 (K:Fg)(T:String)(x:V)(H:Hp):Prop:=match x with
 | .str _=>T="str"
 | .int _=>T="int"
 | .ref p=>(T="list"/\∃xs,aS K H p xs)\/(T="tuple"/\∃o,K.lookup p=some o/\o.cls= .type "tuple"/\o.dict=none)\/
    (T="dict"/\((∃kvs,H p=some (.dK kvs))\/∃kvs,H p=some (.dT kvs)))\/(T="set"/\∃S n,H p=some (.set S n))
 |_=>False
theorem Do {pins:List ↑14}{σ:St}{H:Hp}{s:Shared}{T:String}{x:V}{v:Value}(I:aF X pins σ H s)(r:aQ x v)(ty:O4 X.K T x H):
 s.TypeIs v T/\∀a,v= .ref a->∃ob,s.heap.get? a=some ob/\ob.dict=none:=by
 cases x with
 |str z=>
  obtain ⟨t,rfl⟩:=r;cases (show T="str" from ty);exact ⟨typeIs_str s z t,λ_ e=>nomatch e⟩
 |int i=>
  obtain ⟨t,rfl⟩:=r;cases (show T="int" from ty);exact ⟨typeIs_int s i t,λ_ e=>nomatch e⟩
 |ref p=>
  cases r
  rcases ty with ⟨rfl,xs,hq⟩|⟨rfl,o,hk,hc,hd⟩|⟨rfl,hk⟩|⟨rfl,S,n,hk⟩
  ·obtain ⟨its,_,pl,_⟩:=I.list hq;rwa[⟨pl.isList.typeIs,λa e=> ?_⟩];cases e;obtain ⟨o,n,e,c,hd,_⟩:=pl;exact ⟨o,e,hd⟩
  ·rwa[⟨⟨o,I.kIn p o hk,hc⟩,λa e=> ?_⟩];cases e;exact ⟨o,I.kIn _ o hk,hd⟩
  ·have z:∃o,s.heap.get? p=some o/\o.ExactDict:=by
    rcases hk with ⟨kvs,hk⟩|⟨kvs,hk⟩
    ·obtain ⟨_,_,_,_,o,_,_,e,ex,_⟩:=I.hok p _ hk;exact ⟨o,e,ex⟩
    ·obtain ⟨_,_,_,_,o,_,_,e,ex,_⟩:=I.hok p _ hk;exact ⟨o,e,ex⟩
   obtain ⟨o,e,ex⟩:=z;rwa[⟨⟨o,e,ex.1⟩,λa e2=> ?_⟩];cases e2;exact ⟨o,e,ex.2.1⟩
  ·obtain ⟨o,_,_,_,e,ex,_⟩:=I.hok p _ hk;rwa[⟨⟨o,e,ex.1⟩,λa e2=> ?_⟩];cases e2;exact ⟨o,e,ex.2.1⟩
 |_=>exact False.elim ty
variable {o e:Expr}{es:List Expr}{to:TE}{t:TA}{name:Str}{apos cpos:Pos}{T id:String}{r:V->List V->Hp->VK->Prop}
end
def QV (X:Cx)(id:String)(r:V->List V->Hp->VK->Prop):Prop:=
 ∀(pins:List ↑14) (s:Shared) (σ:St) (H:Hp) (x:V) (xs:List V) (v:Value) (us:List Value) (Q:VK),aF X pins σ H s->aQ x v->aY xs us->r x xs H Q->
  wpAny ↑8 X.A (call (.builtin id) (v::us)) (EP X pins σ Q) X.xe s
theorem aY.one:∀ {x:V} {us:List Value},aY [x] us->∃u,us=[u]/\aQ x u
 |_,_,.cons r .nil=>⟨_,rfl,r⟩
section
variable {X:Cx}{pins:List ↑14}{σ:St}{H:Hp}{s:Shared}{l b:Addr}{xs ys zs:List V}
theorem aF.lset {its its':List Value}{n:Nat}{f:Array Value->Array Value}{t':Nat}(I:aF X pins σ H s)(hH:H l=some (.lst xs))
(e:s.heap.get? l=some {cls:= .type "list",data:= .seq its.toArray n})(hf:f its.toArray=its'.toArray)(hv:aY ys its')(hz:ys.length<=sizeLine):
 aF X pins σ (upd H l (.lst ys)) {s with heap:=s.heap.update l (Obj.mapSeq f),toks:=t'}:=by
 have q:=PySem.IsL.update e f;rw [hf] at q;rwa[I.write (x:=l) (e:=l) (by rw [hH];exact trivial) (.inl rfl) (λb' u hb hu=>(Heap.get?_update_other s.heap (Obj.mapSeq f) (Ne.symm hb)).trans hu) ⟨_,q⟩ ?_];exact ⟨hz,its',_,hv,q⟩
theorem aF.lnew {its:List Value}{t':Nat}(I:aF X pins σ H s)(hv:aY ys its)(hz:ys.length<=sizeLine):
 aF X pins σ (upd H s.heap.objs.size (.lst ys)) {s with heap:=s.heap.push {cls:= .type "list",data:= .seq its.toArray},toks:=t'}:=
 I.laid (λ_ _ q=>Heap.get?_push_of_some _ q) ↑13 ⟨hz,its,0,hv,Heap.get?_push_size _ rfl⟩
theorem aF.fresh (I:aF X pins σ H s):H s.heap.objs.size=none:=I.hok.fresh ↑13
theorem aF.lstM (I:aF X pins σ H s)(hH:H l=some (.lst xs)):xs.length<=sizeLine/\∃(its:List Value) (n:Nat),aY xs its/\xs.length=its.length/\s.heap.get? l=some {cls:= .type "list",data:= .seq its.toArray n}:=by
 obtain ⟨z,its,n,r,e⟩:=I.hok l _ hH;exact ⟨z,its,n,r,r.length,e⟩
theorem rJ {n:Nat}(h:n<=sizeLine):Builtin.List.listTooLong n=false:=by
 unfold Builtin.List.listTooLong;exact decide_eq_false ↑6
end
section
variable {X:Cx}
def Hz:V->List V->Hp->VK->Prop:=λx vs H Q=>∃l xs y,x= .ref l/\vs=[y]/\H l=some (.lst xs)/\xs.length<sizeLine/\Q .non (upd H l (.lst (xs++[y])))
theorem Cd:QV X "list.append" Hz:=by
 intro pins s σ H x vs v us Q I rx rv h;obtain ⟨l,xs,y,rfl,rfl,hH,hz,q⟩:=h;cases rx;obtain ⟨u,rfl,ru⟩:=rv.one;obtain ⟨z,its,n,r,hl,e⟩:=I.lstM hH;rwa[call_meets F.slot_list_append ⟨_,e,rfl⟩ F.entry_list_append (F.args_list_append_2 _ _) (PySem.list_append l its.toArray n u (by rw [List.size_toArray];omega)) ⟨e,?_⟩];rwa[⟨.non,_,I.lset (its':=its++[u]) hH e ↑17 (r.append (.cons ru .nil)) ?_,rfl,q⟩];rw [List.length_append,List.length_singleton];omega
def Hy:V->List V->Hp->VK->Prop:=λx vs H Q=>∃l b xs zs,x= .ref l/\vs=[.ref b]/\H l=some (.lst xs)/\H b=some (.lst zs)/\xs.length+zs.length<=sizeLine/\Q .non (upd H l (.lst (xs++zs)))
theorem Cc:QV X "list.extend" Hy:=by
 intro pins s σ H x vs v us Q I rx rv h;obtain ⟨l,b,xs,zs,rfl,rfl,hH,hB,hz,q⟩:=h;cases rx;obtain ⟨u,rfl,ru⟩:=rv.one;cases ru;obtain ⟨z,its,n,r,hl,e⟩:=I.lstM hH;obtain ⟨z2,its2,n2,r2,hl2,e2⟩:=I.lstM hB
 have hsz:its.toArray.size+its2.toArray.size<=sizeLine:=by rw [List.size_toArray,List.size_toArray];omega
 have hlong: ¬(!its.toArray.isEmpty&&Builtin.List.listTooLong (its.toArray.size+its2.toArray.size))=true:=by
  rw [rJ hsz,Bool.and_false];exact Bool.false_ne_true
 refine call_meets F.slot_list_extend ⟨_,e,rfl⟩ F.entry_list_extend (F.args_list_extend_2 _ _)
  (AutoSeq1.list_extend_list_list_0 l its.toArray n b its2.toArray n2 hlong (by rw [List.size_toArray];omega) ↑6) ⟨e,e2,?_⟩
 rwa[⟨.non,_,I.lset (its':=its++its2) hH e ↑17 (r.append r2) ?_,rfl,q⟩];rw [List.length_append];omega
def Qn:R2:=λx y H Q=>∃l b xs zs,x= .ref l/\y= .ref b/\H l=some (.lst xs)/\H b=some (.lst zs)/\xs.length+zs.length<=sizeLine/\∀p,H p=none->Q (.ref p) (upd H p (.lst (xs++zs)))
theorem Ln:dD X (binaryOp .Add) Qn:=by
 intro pins s σ H x y v u Q I rx ry h;obtain ⟨l,b,xs,zs,rfl,rfl,hH,hB,hz,q⟩:=h;cases rx;cases ry;obtain ⟨z,its,n,r,hl,e⟩:=I.lstM hH;obtain ⟨z2,its2,n2,r2,hl2,e2⟩:=I.lstM hB;rwa[PySem.P.add_list e e2 ?_ (by rw [List.size_toArray,List.size_toArray];omega)]
 have ea:its.toArray++its2.toArray=(its++its2).toArray:=by simp
 rw [ea];exact ⟨.ref _,_,I.lnew (t':=s.toks) (r.append r2) (by rw [List.length_append];omega),rfl,q _ I.fresh⟩
end
end L2
namespace Att
open PySem PySem.W PySem.Calls PyProof.Rows
theorem pV {P:Params}{h:Heap}:∀(ns:List Int) (vs:List Value),WellAll P h vs (ns.map WData.int)->IntsAre vs ns:=by
 intro ns
 induction ns with
 |nil=>
  intro vs w;rw [List.map_nil] at w;cases w;exact .nil
 |cons n ns ih=>
  intro vs w;rw [List.map_cons] at w
  cases w with
  |cons a b=>
   cases a;exact .cons _ _ (ih _ b)
theorem Bz {l:OpenLaw}{n:Nat}(hn:l.most=some n){P:Params}{h:Heap}{args:List WData}{vals:List Value}
(hpre:l.row.toRowW.claim.pre args=true)(hwl:WellAll P h vals args):
 ∃a vs ns,vals=[Value.ref a]/\args=[WData.list (ns.map WData.int)]/\h.get? a=some {cls:= .type "list",data:= .seq vs.toArray}/\IntsAre vs ns/\ns.length<=n:=by
 have hsh:WShape.hasAll [] args [.list .int]=true:=(pre_splitW hpre).1;have hc:l.pre.holds [] {args:=args}=true:=(pre_splitW hpre).2;obtain ⟨d,r,rfl,h1,h2⟩:=hasAllW_cons hsh;obtain rfl:=hasAllW_nil h2;obtain ⟨xs,rfl,h3⟩:=hasW_list h1;obtain ⟨ns,rfl⟩:=items_int h3
 have hlen:ns.length<=n:=by
  unfold OpenLaw.pre at hc
  have h4:(WTm.not (.lt (.lit (.int (n:Int))) (.len (.arg 0)))).holds [] {args:=[.list (ns.map .int)]}=true:=by
   have h4:=(holds_andW hc).1;rw [hn] at h4;exact h4
  have h5:=condW_of h4 (w_not (w_lt w_lit (w_len_list (w_arg rfl))));rw [List.length_map] at h5;rwa[Nat.le_of_not_lt λq=> ?_]
  have q':(n:Int)<((ns.length:Nat):Int):=by omega
  first
   |(rw [decide_eq_true q'] at h5;exact absurd h5 ↑2)
   |(simp at h5;omega)
 cases hwl with
 |cons w1 w2=>
  cases w2
  cases w1 with
  |list ho hall=>exact ⟨_,_,ns,rfl,rfl,ho,pV ns _ hall,hlen⟩
theorem BT (l:OpenLaw)(args:List WData):l.row.toRowW.claim.post args (.bool true) args=true:=
 postW_of (r:=l.row.toRowW) (X:=(true==true))
  (show WShape.has [] (.bool true) .bool=true by first|rfl|decide|simp [WShape.has,WShape.arms,WShape.armsAll])
  (show (WTm.eq .res (.lit (.bool true))).value [] {args:=args,res:=some (.bool true),after:=args}=some (.bool (true==true)) from w_eq_bool (w_res rfl) w_lit) rfl
end Att
namespace L2
open PySem PySem.Spec PyProof.Rows
theorem uu:∀ {vs:List Value} {ns:List Int},IntsAre vs ns->aY (ns.map V.int) vs
 |_,_,.nil=> .nil
 |_,_,.cons n t h=> .cons ⟨t,rfl⟩ (uu h)
def cu (s:Stmt):Arguments:=match s with
 | .FunctionDef _ a _ _ _ _ _ _ _ _=>a
 |_=> {posonlyargs:=[],args:=[],vararg:=none,kwonlyargs:=[],kw_defaults:=[],kwarg:=none,defaults:=[]}
def bK (s:Stmt):List Stmt:=match s with
 | .FunctionDef _ _ b _ _ _ _ _ _ _=>b
 |_=>[]
def ai (s:Stmt):Scope:=match s with
 | .FunctionDef _ _ _ _ _ _ sc _ _ _=>sc
 |_=> {kind:= .function,names:=[],isGenerator:=false,isCoroutine:=false}
abbrev br:nJ:=λ_ _ _ _ _ _=>False
abbrev E0:XK:=λ_ _ _=>False
theorem jh {X:Cx}:fN br X E0:=λ_ _ _ _ _ _ _ h=>h.elim
structure bw (K:Fg)(x qual:Str)(st:Stmt)(f:Addr)(fd:FuncData):Prop where
 ex:∃(oc:Value) (od:Option Addr) (kV doc pm:Value) (an:Option Addr) (cdv ct:Value) (osl:Array (Option Value)),
  fd=W.fnOf x qual (cu st) (bK st) (ai st) .none kV doc pm an cdv ct/\K.lookup f=some ⟨oc,od,.func fd,osl⟩/\W.codeIn K cdv qual=true
 kp:W.keepIn K (.ref f)=true
section
variable {P:Program}{w:World}{K:Fg}{mg:Str->Option Value}{base:Heap}
theorem bw.ok {x qual:Str}{st:Stmt}{f:Addr}{fd:FuncData}{N ps:List Str}{k:Nat}{sp:Sp}(F:bw K x qual st f fd)(S:am N ps (ai st))(len:∀vs H Q E,sp vs H Q E->vs.length=ps.length)
(hbody:∀(cdv:Value) (A:Around) (outer:List Env) (s:Shared) (H:Hp) (vs:List V) (Q:VK) (E:XK),b4 k (A.deeper (envOfC qual (ai st) s.heap.objs.size f cdv))->sp vs H Q E->
   ∃t,uq (ng br P w K mg base N qual (ai st) f cdv A outer s H E).nox (bK st) t/\t {nx:=λ_ H'=>Q .non H',rt:=Q} (start N vs) H):aD P w K mg base br (k+1) f fd ps sp:=by
 obtain ⟨oc,od,kV,doc,pm,an,cdv,ct,osl,rfl,lk,hcd⟩:=F.ex;rwa[FD lk hcd S len λA outer s H vs Q E hr hsp=> ?_];obtain ⟨t,h,q⟩:=hbody cdv A outer s H vs Q E hr hsp;exact ⟨t,h.nox,q⟩
theorem bw.binds {x qual:Str}{st:Stmt}{f:Addr}{fd:FuncData}{ps:List Str}(F:bw K x qual st f fd)
(h:∀(kV doc pm:Value) (an:Option Addr) (cdv ct:Value) (us:List Value),us.length=ps.length->bindArgs (W.fnOf x qual (cu st) (bK st) (ai st) .none kV doc pm an cdv ct) ⟨us,[]⟩=pure (ps.zip us)):fm K fd ps []:=by
 obtain ⟨oc,od,kV,doc,pm,an,cdv,ct,osl,rfl,lk,hcd⟩:=F.ex;exact .all (h kV doc pm an cdv ct)
theorem wV {x qual:Str}{st:Stmt}{f:Addr}{oc:Value}{od an:Option Addr}{osl:Array (Option Value)}{kV doc pm cdv ct:Value}(l:K.lookup f=some ⟨oc,od,.func (W.fnOf x qual (cu st) (bK st) (ai st) .none kV doc pm an cdv ct),osl⟩)
(c:W.codeIn K cdv qual=true)(k:W.keepIn K (.ref f)=true):bw K x qual st f (W.fnOf x qual (cu st) (bK st) (ai st) .none kV doc pm an cdv ct):=⟨⟨oc,od,kV,doc,pm,an,cdv,ct,osl,rfl,l,c⟩,k⟩
end
theorem JE {A:Around}{k:Nat}(hr:b4 k A):A.units+1<cLine:=Nat.lt_of_le_of_lt (Nat.add_le_add_left (by decide:1<=64) _) hr.units
def av (H H':Hp):Prop:=∀b o,H b=some o->H' b=some o
theorem av.refl (H:Hp):av H H:=λ_ _ h=>h
theorem av.trans {H H1 H2:Hp}(a:av H H1)(b:av H1 H2):av H H2:=λc o h=>b c o (a c o h)
theorem av.free {H H':Hp}(e:av H H'){l:Addr}(h:H' l=Option.none):H l=Option.none:=by
 cases q:H l with
 |none=>rfl
 |some o=>
  rw [e l o q] at h;cases h
theorem av.seq {K:Fg}{H H':Hp}{a:Addr}{xs:List V}(e:av H H')(h:aS K H a xs):aS K H' a xs:=by
 rcases h with (h|⟨o,h⟩)|h
 ·exact .inl (.inl (e _ _ h))
 ·exact .inl (.inr ⟨o,e _ _ h⟩)
 ·exact .inr h
def eQ (cells:List (Str×Addr)):List (Str×NameKind)->List (Str×Addr)->List (Str×Addr)
 |[],cs=>cs
 |(n,.free)::r,cs=>eQ cells r (match cells.lookup n with|some a=>(n,a)::cs|none=>cs)
 |(_,_)::r,cs=>eQ cells r cs
theorem o0 {cells:List (Str×Addr)}{n:Str}{r:List (Str×NameKind)}{cs:List (Str×Addr)}{a:Addr}(h:cells.lookup n=some a):eQ cells ((n,.free)::r) cs=eQ cells r ((n,a)::cs):=by
 show eQ cells r (match cells.lookup n with|some a=>(n,a)::cs|none=>cs)=_;rw [h]
theorem ir {cells:List (Str×Addr)}{n:Str}{k:NameKind}{r:List (Str×NameKind)}{cs:List (Str×Addr)}(h:k≠ .free):eQ cells ((n,k)::r) cs=eQ cells r cs:=by
 cases k<;>first|rfl|exact absurd rfl h
theorem nh {cells:List (Str×Addr)}:∀ {l:List (Str×NameKind)} {cs:List (Str×Addr)},(∀p∈cs,cells.lookup p.1=some p.2)->∀p∈eQ cells l cs,cells.lookup p.1=some p.2
 |[],_,h=>h
 |(n,k)::r,cs,h=>by
  by_cases hk:k= .free
  ·subst hk
   cases e:cells.lookup n with
   |none=>
    have:eQ cells ((n,.free)::r) cs=eQ cells r cs:=by
     show eQ cells r (match cells.lookup n with|some a=>(n,a)::cs|none=>cs)=_;rw [e]
    rw [this];exact nh h
   |some a=>
    rw [o0 e];rwa[nh λp hp=> ?_]
    rcases List.mem_cons.mp hp with rfl|hp
    ·exact e
    ·exact h p hp
  ·rw [ir hk];exact nh h
theorem iu {cells:List (Str×Addr)}:∀ {l:List (Str×NameKind)} {cs:List (Str×Addr)} {p:Str×Addr},p∈cs->p∈eQ cells l cs
 |[],_,_,h=>h
 |(n,k)::r,cs,p,h=>by
  by_cases hk:k= .free
  ·subst hk;show p∈eQ cells r (match cells.lookup n with|some a=>(n,a)::cs|none=>cs)
   cases e:cells.lookup n with
   |none=>exact iu h
   |some a=>exact iu (List.mem_cons_of_mem _ h)
  ·rw [ir hk];exact iu h
theorem sF {cells:List (Str×Addr)}{x:Str}{c:Addr}(hc:cells.lookup x=some c):∀ {l:List (Str×NameKind)} {cs:List (Str×Addr)},(x,NameKind.free)∈l->(x,c)∈eQ cells l cs
 |(n,k)::r,cs,h=>by
  rcases List.mem_cons.mp h with e|h2
  ·cases e;rw [o0 hc];exact iu List.mem_cons_self
  ·by_cases hk:k= .free
   ·subst hk;show (x,c)∈eQ cells r (match cells.lookup n with|some a=>(n,a)::cs|none=>cs);exact sF hc h2
   ·rw [ir hk];exact sF hc h2
theorem kg {α β:Type}[BEq α][LawfulBEq α]{x:α}{c:β}:∀ {l:List (α×β)},(x,c)∈l->∃d,l.lookup x=some d
 |(n,a)::r,h=>by
  cases e:x==n with
  |true=>exact ⟨a,by simp only [List.lookup_cons,e]⟩
  |false=>
   rcases List.mem_cons.mp h with q|q
   ·cases q;simp at e
   ·obtain ⟨d,hd⟩:=kg q;exact ⟨d,by simp only [List.lookup_cons,e];exact hd⟩
theorem oZ {cells:List (Str×Addr)}{l:List (Str×NameKind)}{x:Str}{c:Addr}(h:(eQ cells l []).lookup x=some c):cells.lookup x=some c:=
 nh (l:=l) (cs:=[]) (λ_ hp=>absurd hp ↑17) (x,c) (PySem.mem_of_lookup h)
theorem F4 {cells:List (Str×Addr)}{l:List (Str×NameKind)}{x:Str}{c:Addr}(hc:cells.lookup x=some c)(h:(x,NameKind.free)∈l):(eQ cells l []).lookup x=some c:=by
 obtain ⟨d,hd⟩:=kg (sF (cs:=[]) hc h);rw [hd,<-hc,oZ hd]
theorem ko {scope:Scope}{env:Env}(h:∀n,(n,NameKind.free)∈scope.names->∃c,env.cells.lookup n=some c):closureFor scope env=pure (eQ env.cells scope.names []):=by
 have go:∀(l:List (Str×NameKind)) (cs:List (Str×Addr)),(∀n,(n,NameKind.free)∈l->∃c,env.cells.lookup n=some c)->
  (forIn l cs (λ(x:Str×NameKind) (r:List (Str×Addr))=>match x with
    |(name,kind)=>if (kind==NameKind.free)=true then (do let c<-cellOf env name;pure (ForInStep.yield ((name,c)::r))) else (do pure PUnit.unit;pure (ForInStep.yield r))):Sem (List (Str×Addr)))=pure (eQ env.cells l cs):=by
  intro l
  induction l with
  |nil=>intro cs _;rfl
  |cons p r ih=>
   intro cs hl;obtain ⟨n,k⟩:=p;have hr:=ih;by_cases hk:k= .free
   ·subst hk;obtain ⟨c,hc⟩:=hl n List.mem_cons_self;rw [o0 hc];rw [<-ih ((n,c)::cs) λm hm=>hl m (List.mem_cons_of_mem _ hm)];rw [List.forIn_cons];simp only [cellOf,hc,beq_self_eq_true,if_true];rfl
   ·rw [ir hk];rw [<-ih cs λm hm=>hl m (List.mem_cons_of_mem _ hm)];rw [List.forIn_cons]
    have hb:(k==NameKind.free)=false:=by simpa using hk
    simp only [hb,Bool.false_eq_true,if_false];rfl
 have e:=go scope.names [] h;unfold closureFor
 first
  |exact congrArg (λm=>m>>=pure) e
  |(simp only [bind_pure];exact e)
  |(rw [show (pure (eQ env.cells scope.names []):Sem (List (Str×Addr)))=(pure (eQ env.cells scope.names [])>>=pure) from rfl,<-e];rfl)
def bz (X:Cx)(scope:Scope)(N':List Str)(C:Addr)(s:Shared)(H:Hp)(ex:List Addr):Cx where
 prog:=X.prog
 w:=X.w
 K:=X.K
 mg:=X.mg
 base:=X.base
 A:=X.A
 N:=N'
 s₀:=s
 H₀:=H
 env:=compEnvC scope (eQ X.env.cells scope.names []) C X.env
 outer:=X.stack
 stack:=X.stack
 ex:=ex
 fn:=λ_=>false
 calm:=X.calm
 pn:=[]
 xe:=λ_ _=>False
structure dg (X:Cx)(scope:Scope)(N':List Str)(pk:List (Option Nat)):Prop where
 kind:scope.kind= .function
 nocell:∀y∈scope.names,y.2≠ .cell
 loc:∀y∈scope.names,y.2= .local->scope.names.lookup y.1=some .local
 free:∀n,(n,NameKind.free)∈scope.names->X.env.kindOf n=some .cell\/X.env.kindOf n=some .free
 nofl:∀n,(n,NameKind.free)∈scope.names->scope.names.lookup n≠some .local
 pl:pk.length=N'.length
 pn:∀(j i:Nat) (x:Str),pk[j]? =some (some i)->N'[j]? =some x->X.N[i]? =some x/\(x,NameKind.free)∈scope.names
def cY (pk:List (Option Nat))(σ:St):St:=pk.map λo=>o.bind λi=>(σ[i]?).join
theorem rN {scope:Scope}{env:Env}{x:Str}(hn:∀y∈scope.names,y.2≠ .cell)(h:(relabel scope env).names.lookup x=some .cell\/(relabel scope env).names.lookup x=some .free):(x,NameKind.free)∈scope.names:=by
 have go:∀k,(relabel scope env).names.lookup x=some k->(k= .cell\/k= .free)->(x,NameKind.free)∈scope.names:=λk e hk=>by
  have m:=PySem.mem_of_lookup e;obtain ⟨p,hp,e2⟩:=List.mem_map.mp m;obtain ⟨n,k'⟩:=p;dsimp only at e2;by_cases hc:(k'==NameKind.free&&env.scope.kind== .function&&env.kindOf n==some .cell)=true
  ·rw [if_pos hc] at e2
   have hk':k'= .free:=by
    simp only [Bool.and_eq_true] at hc;simpa using hc.1.1
   have en:n=x:=(Prod.mk.inj e2).1;rw [<-en,<-hk'];exact hp
  ·rw [if_neg hc] at e2;have en:n=x:=(Prod.mk.inj e2).1;have ek:k'=k:=(Prod.mk.inj e2).2
   rcases hk with hk|hk
   ·exact absurd (ek.trans hk) (hn _ hp)
   ·rw [<-en,<-hk,<-ek];exact hp
 rcases h with h|h
 ·exact go _ h (.inl rfl)
 ·exact go _ h (.inr rfl)
section
variable {X:Cx}{pins:List ↑14}{σ:St}{H:Hp}{s:Shared}{scope:Scope}{N':List Str}{pk:List (Option Nat)}{fp:List Addr}
theorem Jb (I:aF X pins σ H s)(S:dg X scope N' pk){C:Addr}(hC:s.heap.objs.size<=C)(hf:∀b∈fp,jL X pins H b)(hfs:∀b∈fp,b<s.heap.objs.size):(bz X scope N' C s H fp).Ok where
 mod:=I.ok.mod
 kind:=S.kind
 glob:=I.ok.glob
 blt:=I.ok.blt
 above:=hC
 inj:=λx y c h1 h2=>I.ok.inj x y c (oZ h1) (oZ h2)
 has:=λx h=>by
  have m:(x,NameKind.free)∈scope.names:=rN S.nocell h;obtain ⟨c,hc⟩:=I.ok.has x (S.free x m);exact ⟨c,F4 hc m⟩
 cab:=λx c h _=>nomatch h
 hd:=I.ok.hd
 frames:=I.ok.frames
 stk:= .inl rfl
 exf:=λb hb=>⟨Nat.ne_of_lt (Nat.lt_of_lt_of_le (hfs b hb) hC),λx c e=>(hf b hb).2.2.2.2.1 x c (oZ e)⟩
 bs:=I.bs
 bsz:=Nat.le_trans I.ok.bsz I.sz
 noex:=λb o e hb=>by
  rcases (hf b hb).2.2.2.1 with z|z
  ·exact I.ok.noex b o e z
  ·exact absurd (Nat.lt_of_lt_of_le (Heap.lt_size e) (Nat.le_trans I.ok.bsz z)) (Nat.lt_irrefl _)
 exfs:=λb hb z=>by
  rcases List.mem_cons.mp (I.stkSub b z) with e|e
  ·exact (hf b hb).2.1 e
  ·exact (hf b hb).2.2.1 e
 funs:=I.stack
 frf:=I.stkFree
theorem Em {pk:List (Option Nat)}{σ:St}{j:Nat}{v:V}(h:(cY pk σ)[j]? =some (some v)):∃i,pk[j]? =some (some i)/\σ[i]? =some (some v):=by
 unfold cY at h;rw [List.getElem?_map] at h
 cases e:pk[j]? with
 |none=>rw [e] at h;cases h
 |some o=>
  rw [e] at h
  cases o with
  |none=>cases h
  |some i=>
   rwa[⟨i,rfl,?_⟩];have h':(σ[i]?).join=some v:=Option.some.inj h
   cases q:σ[i]? with
   |none=>rw [q] at h';cases h'
   |some z=>rw [q] at h';rw [show z=some v from h']
theorem FX {s4:Shared}{C D:Addr}{od:Obj}(I:aF X pins σ H s)(S:dg X scope N' pk)(hC:s.heap.objs.size<=C)(hf:∀b∈fp,jL X pins H b)(hfs:∀b∈fp,b<s.heap.objs.size)
(hos:s4.os=s.os)(hg:s4.gens=s.gens)(old:∀b o,s.heap.get? b=some o->s4.heap.get? b=some o)(hns:s4.heap.Ns C λ_=>none)(hD:s.heap.objs.size<=D)(hDC:D≠C)(hDo:s4.heap.get? D=some od)(hDd:∀v,od.data≠ .cell v):
 aF (bz X scope N' C s H fp) [(D,od)] (cY pk σ) H s4 where
 ok:=Jb I S hC hf hfs
 os:=hos
 bare:=by rw [hg];exact I.bare
 base:=Un.kept old
 loc:=⟨_,hns,λj x v h1 h2 h3=>by
  obtain ⟨i,e1,e2⟩:=Em h2;obtain ⟨hN,hm⟩:=S.pn j i x e1 h1;obtain ⟨m,hn,hl⟩:=I.loc;have hk:=S.free x hm;obtain ⟨c,hc⟩:=I.ok.has x hk
  have hv:OR X.env.scope x:=by
   rcases hk with k|k
   ·exact .inr (.inl k)
   ·exact .inr (.inr k)
  obtain ⟨u,r,l⟩:=hl i x v hN e2 hv;rwa[⟨u,r,.inr ⟨?_,c,F4 hc hm,?_⟩⟩]
  ·rcases h3 with h3|h3|h3
   ·exfalso;have h3':(relabel scope X.env).names.lookup x=some .local:=h3;obtain ⟨p,hp,e⟩:=List.mem_map.mp (PySem.mem_of_lookup h3');obtain ⟨n,k'⟩:=p;dsimp only at e;by_cases hcnd:(k'==NameKind.free&&X.env.scope.kind== .function&&X.env.kindOf n==some .cell)=true
    ·rw [if_pos hcnd] at e;exact nomatch (Prod.mk.inj e).2
    ·rw [if_neg hcnd] at e;have en:n=x:=(Prod.mk.inj e).1;have ek:k'= .local:=(Prod.mk.inj e).2;have q:=S.loc _ hp ek;have q2:(relabel scope X.env).names.lookup x=some .local:=h3';exact S.nofl x hm (by rw [<-en];exact q)
   ·exact .inl h3
   ·exact .inr h3
  ·rcases l with ⟨k,_⟩|⟨_,c',e,z⟩
   ·rcases hk with k'|k'<;>(rw [k'] at k;cases k)
   ·rw [hc] at e;cases e;obtain ⟨o,ho,hd⟩:=z
    exact ⟨o,old _ _ ho,hd⟩⟩
 cell:=λx c h=>by
  obtain ⟨v,o,ho,hd⟩:=I.cell x c (oZ h);exact ⟨v,o,old _ _ ho,hd⟩
 free:=I.hok.fresh hC
 freeC:=λx c h=>I.freeC x c (oZ h)
 pin:=λp hp=>by
  have e:p=(D,od):=by simpa using (show p∈([]:List ↑14)++[(D,od)] from hp)
  subst e;rwa[⟨hDo,I.hok.fresh hD,hDC,λz=> ?_,hDd⟩];obtain ⟨_,o,ho,_⟩:=I.stack.mem z;exact absurd (Nat.lt_of_lt_of_le (Heap.lt_size ho) hD) (Nat.lt_irrefl _)
 hok:=I.hok.kept old
 len:=by unfold cY;rw [List.length_map];exact S.pl
end
theorem Au {prog:Program}{w:World}{A:Around}{E:Value->Shared->Prop}{s:Shared}{l:Addr}{its:Array Value}{n:Nat}{x:Value}{Q:Value->Shared->Prop}
(e:s.heap.get? l=some {cls:= .type "list",data:= .seq its n})(hsz:its.size<=sizeLine)
(hQ:∀h' n',h'.get? l=some {cls:= .type "list",data:= .seq (its.push x) n'}->Heap.SameBut l s.heap h'->Q .none {s with heap:=h'}):
 wpAny (model prog w) A (call (.builtin "list.append") [.ref l,x]) Q E s:=by
 have hl:s.heap.IsList l its:=PySem.IsL.isList e;rwa[wpAny_call_entry slot_list_append hl.typeIs entry_list_append ?_ (args_list_append _ _)];show wpAny _ _ (updateSeq l (·.push x)>>=λ_=>ret .none) _ _ s;rwa[wpAny_bind ?_];have q:(s.heap.update l (Obj.mapSeq (·.push x))).get? l=some (Obj.mapSeq (·.push x) {cls:= .type "list",data:= .seq its n}):=Heap.get?_update_self _ e rfl;exact wpAny_updateSeq e rfl (wpAny_pure ⟨.none,rfl,hQ _ _ q (Heap.SameBut.update ..)⟩)
section
variable {X:Cx}{pins:List ↑14}{σ:St}{H H':Hp}{s s':Shared}{scope:Scope}{N':List Str}{pk:List (Option Nat)}{fp:List Addr}
theorem gd.track {P:Program}{w:World}{H:Hp}{h:Heap}{a:Addr}{o:HO}(x:gd P w H h)(hn:H a=none)(new:bE P w (upd H a o) h a o):gd P w (upd H a o) h:=λb u e=>by
 by_cases hb:b=a
 ·subst hb;rw [ak] at e;cases e;exact new
 ·rw [ap hb] at e
  exact (x b u e).stay (λc v _ q=>q) (λc q=>by rw [ap (bC q hn)];exact q) λc xs q=>by rw [ap (bC q hn)];exact q
theorem gd.but {P:Program}{w:World}{H:Hp}{h h':Heap}{a:Addr}(x:gd P w H h)(hn:H a=none)(k:∀b o,b≠a->h.get? b=some o->h'.get? b=some o):gd P w H h':=λb u e=>
 (x b u e).stay (λc v hc q=>k c v (by
   rcases hc with rfl|hc
   ·exact λz=>by rw [z,hn] at e;cases e
   ·exact bC hc hn) q) (λ_ q=>q) λ_ _ q=>q
theorem FW {C D:Addr}{h':Heap}{ys:List V}{its:List Value}{n:Nat}{σ':St}{pins':List ↑14}(I:aF X pins σ H s)(hf:∀b∈fp,jL X pins H b)
(J:aF (bz X scope N' C s H fp) pins' σ' H' s')(hC:s.heap.objs.size<=C)(hD:s.heap.objs.size<=D)(hDC:D≠C)(hDn:H' D=none)(e:s'.heap.get? D=some {cls:= .type "list",data:= .seq its.toArray n})(r:aY ys its)
(hz:ys.length<=sizeLine)(sb:Heap.SameBut C s'.heap h'):aF X pins σ (upd H' D (.lst ys)) {s' with heap:=h'}:=by
 have u:Un (xt X.stack) fp H H' s.heap s'.heap:=J.base;have keep:∀b o,b≠C->s'.heap.get? b=some o->h'.get? b=some o:=λb o hb q=>(sb.2 b hb).trans q;have old:∀b o,s.heap.get? b=some o->b≠C/\b≠D:=λb o q=>⟨Nat.ne_of_lt (Nat.lt_of_lt_of_le (Heap.lt_size q) hC),Nat.ne_of_lt (Nat.lt_of_lt_of_le (Heap.lt_size q) hD)⟩;have hCn:H' C=none:=J.free
 have hok:gd X.prog X.w (upd H' D (.lst ys)) h':=by
  rwa[gd.but (a:=C) (gd.track (h:=s'.heap) J.hok hDn ⟨hz,its,n,r,e⟩) ?_ keep];rw [ap (Ne.symm hDC)];exact hCn
 rwa[I.call' (s':= {s' with heap:=h'}) (ch:=fp) J.os ?_ hok J.bare λb hb=>⟨(hf b hb).2.2.2.1,(hf b hb).2.1,(hf b hb).2.2.2.2.1,(hf b hb).2.2.2.2.2⟩];rwa[⟨λb o q n hb hx=> ?_,λb o q n hb hx=> ?_,λb o q n hx=> ?_,λb o q hx=> ?_,λb xs q=> ?_,λb o xs q=> ?_,λb ps q=> ?_⟩]
 ·exact keep b o (old b o q).1 (u.keep b o q n hb hx)
 ·obtain ⟨sl,z⟩:=u.slot b o q n hb hx;exact ⟨sl,keep b _ (old b o q).1 z⟩
 ·rw [ap (old b o q).2];exact u.free b o q n hx
 ·obtain ⟨o',z⟩:=u.there b o q hx;exact ⟨o',keep b o' (old b o q).1 z⟩
 ·have z:=u.tups b xs q;rw [ap (bC z hDn)];exact z
 ·have z:=u.frzs b o xs q;rw [ap (bC z hDn)];exact z
 ·obtain ⟨m,z⟩:=u.tbls b ps q;exact ⟨m,by rw [ap (bC z hDn)];exact z⟩
end
def GM (X:Cx)(es:List Expr)(t:TT):Prop:=
 ∀(pins:List ↑14) (s:Shared) (σ:St) (H:Hp) (Q:Bool->Hp->Prop),aF X pins σ H s->t σ H Q->
  wpAny ↑8 X.A (forIn es true λc r=>if r=true then do let ok<-isTrue c X.env (eval c X.env);pure (ForInStep.yield ok) else pure (ForInStep.yield r)) (TP X pins σ Q) X.xe s
def P1:TT:=λ_ H Q=>Q true H
theorem b5 {X:Cx}:GM X [] P1:=λpins s σ H Q I h=>wpAny_tests_nil ⟨H,I,h⟩
theorem eI {X:Cx}{c:Expr}{t:TT}(h:PT X c t):GM X [c] t:=λpins s σ H Q I hq=>wpAny_tests_one (h pins s σ H Q I hq)
def uo (σ σ':St):Prop:=σ'.length=σ.length/\∀(i:Nat) v,σ[i]? =some (some v)->σ'[i]? =some (some v)
def DA (pk:List (Option Nat))(wi:TI)(g:TG)(tt:TT)(te:TE):TE:=λσ H Q=>wi σ H λJ H1=>∃W:Nat->Nat->List V->Hp->Prop,(∃m,W 0 m [] H1)/\∀i m ys H,W i m ys H->
 (J.stop i H/\ys.length<=sizeLine/\∀p,H p=none->Q (.ref p) (upd H p (.lst ys)))\/
 (J.go i H/\ys.length<sizeLine/\∃N:List V->Hp->Prop,(∀zs H',N zs H'->∃m',m'<m/\W (i+1) m' zs H')/\∀x H',J.yld i H x H'->g x (cY pk σ) H' λσ2 H2=>uo (cY pk σ) σ2/\tt σ2 H2 λb H3=>
   if b=true then te σ2 H3 λv H4=>N (ys++[v]) H4 else N ys H3)
structure Gk (P:Program)(w:World)(K:Fg)(A₀:Around)(c:Bool)(tg:Expr)(J:It)(fp:List Addr)(it:Addr)(tn:Nat->Heap->Prop):Prop where
 mem:it∈fp
 obj:∀i h,tn i h->∀b∈fp,∃o,h.get? b=some o/\∀v,o.data≠ .cell v
 keep:∀i h h',tn i h->(∀b∈fp,∀o,h.get? b=some o->h'.get? b=some o)->tn i h'
 item:∀(X:Cx),X.prog=P->X.w=w->X.K=K->X.A=A₀->X.calm=c->∀(i:Nat) (pins:List ↑14) (s:Shared) (σ:St) (H:Hp) (E:Value->Shared->Prop),aF X pins σ H s->(∀b∈fp,jL X pins H b)->tn i s.heap->J.go i H->
  wpAny (model P w) X.A (pyNext (.ref it)) (λr s1=>∃u,r=some u/\
   wpAny (model P w) X.A (letOwnedTupleGo tg (.ref it) u) (λ_ s2=>∃x H',aF X pins σ H' s2/\aQ x u/\J.yld i H x H'/\tn (i+1) s2.heap/\∀b∈fp,H' b=none) E s1) E s
 done:∀(X:Cx),X.prog=P->X.w=w->X.K=K->X.A=A₀->X.calm=c->∀(i:Nat) (pins:List ↑14) (s:Shared) (σ:St) (H:Hp) (E:Value->Shared->Prop),aF X pins σ H s->(∀b∈fp,jL X pins H b)->tn i s.heap->J.stop i H->
  wpAny (model P w) X.A (pyNext (.ref it)) (λr s1=>r=none/\aF X pins σ H s1) E s
 self:∀(A:Around) (i:Nat) (s:Shared) (Q:Value->Shared->Prop) (E:Value->Shared->Prop),tn i s.heap->Q (.ref it) s->wpAny (model P w) A (pyIter (.ref it)) Q E s
theorem xk.toA {P:Program}{w:World}{K:Fg}{A₀:Around}{c:Bool}{tg:Expr}{J:It}{fp:List Addr}{it:Addr}{tn:Nat->Heap->Prop}(T:xk P w K tg J fp it tn)(hc:c=true):Gk P w K A₀ c tg J fp it tn:=
 ⟨T.mem,T.obj,T.keep,λX h1 h2 h3 _ h5=>T.item X h1 h2 h3 (h5.trans hc),λX h1 h2 h3 _ h5=>T.done X h1 h2 h3 (h5.trans hc),T.self⟩
def QM (X:Cx)(pins:List ↑14)(σ:St)(tg:Expr)(R:It->Hp->Prop)(itv:Value)(s2:Shared):Prop:=
 ∃(it:Addr) (fp:List Addr) (tn:Nat->Heap->Prop) (J:It) (H':Hp),itv= .ref it/\aF X pins σ H' s2/\Gk X.prog X.w X.K X.A X.calm tg J fp it tn/\tn 0 s2.heap/\(∀b∈fp,jL X pins H' b)/\R J H'
def QU (X:Cx)(tg iter:Expr)(t:TI):Prop:=
 ∀(pins:List ↑14) (s:Shared) (σ:St) (H:Hp) (R:It->Hp->Prop),aF X pins σ H s->t σ H R->
  wpAny ↑8 X.A (eval iter X.env) (λv s1=>wpAny ↑8 X.A (pyIter v) (QM X pins σ tg R) X.xe s1) X.xe s
theorem PI.toA {X:Cx}{tg iter:Expr}{t:TI}(h:PI X tg iter t)(hc:X.calm=true):QU X tg iter t:=λpins s σ H R I q=>
 bT (h pins s σ H R I q) λv s1 h1=>bT h1 λitv s2 ⟨it,fp,tn,J,H2,e,I2,T,r⟩=>⟨it,fp,tn,J,H2,e,I2,T.toA hc,r⟩
set_option maxHeartbeats 4000000 in
theorem su {X:Cx}{pins:List ↑14}{σ:St}{H:Hp}{s2:Shared}{scope:Scope}{N':List Str}{pk:List (Option Nat)}{fp:List Addr}{tg elt iter:Expr}{ifs:List Expr}{pos:Pos}{g:TG}{tt:TT}{te:TE}
{J:It}{it:Addr}{tn:Nat->Heap->Prop}{R:Value->Addr->Result->Shared->Prop}{E:Value->Shared->Prop}{Q:VK}
(S:dg X scope N' pk)(hg:∀C s H ex,PG (bz X scope N' C s H ex) tg g)(ht:∀C s H ex,GM (bz X scope N' C s H ex) ifs tt)(he:∀C s H ex,PE (bz X scope N' C s H ex) elt te)
(I:aF X pins σ H s2)(T:Gk X.prog X.w X.K X.A X.calm tg J fp it tn)(st:tn 0 s2.heap)(hf:∀b∈fp,jL X pins H b)
(hW:∃W:Nat->Nat->List V->Hp->Prop,(∃m,W 0 m [] H)/\∀i m ys H,W i m ys H->
   (J.stop i H/\ys.length<=sizeLine/\∀p,H p=none->Q (.ref p) (upd H p (.lst ys)))\/
   (J.go i H/\ys.length<sizeLine/\∃N:List V->Hp->Prop,(∀zs H',N zs H'->∃m',m'<m/\W (i+1) m' zs H')/\∀x H',J.yld i H x H'->g x (cY pk σ) H' λσ2 H2=>uo (cY pk σ) σ2/\tt σ2 H2 λb H3=>
     if b=true then te σ2 H3 λv H4=>N (ys++[v]) H4 else N ys H3))
(hR:∀(C D:Addr) (s':Shared) (ys:List V) (H':Hp),(∃m,s'.heap.Ns C m)->Q (.ref D) (upd H' D (.lst ys))->(∀h',Heap.SameBut C s'.heap h'->aF X pins σ (upd H' D (.lst ys)) {s' with heap:=h'})->s2.heap.objs.size<=C->upd H' D (.lst ys) C=none->
   R (.ref D) C (.ok .next) s'):
 wpAny ↑8 X.A (newList []) (λacc s₃=>wpAny ↑8 X.A (newFunctionEnv scope X.env.globals (eQ X.env.cells scope.names []) [] X.env.qual none .none (some X.env)) (λcenv s₄=>
  codeAny ↑8 X.A (.compStart (.ListComp elt [⟨tg,iter,ifs,0⟩] scope pos) 0 (.ref it) acc {cenv with scope:=relabel scope X.env}) (R acc cenv.locals) s₄) E s₃) E s2:=by
 obtain ⟨W,⟨m0,w0⟩,turn⟩:=hW;rwa[wpAny_newObj_type (wpAny_newFunctionEnv S.nocell (by intro y hy;simp at hy) (λh₁ hns₁ hsb₁=> ?_) S.kind)];dsimp only at hns₁ hsb₁ ⊢;generalize hH2:s2.heap.push {cls:= .type "list",dict:=none,data:= .seq ([]:List Value).toArray}=H2 at hns₁ hsb₁ ⊢
 have hC:H2.objs.size=s2.heap.objs.size+1:=by rw [<-hH2,Heap.size_push]
 have hDC:s2.heap.objs.size≠H2.objs.size:=by rw [hC];exact Nat.ne_of_lt (Nat.lt_succ_self _)
 have hCle:s2.heap.objs.size<=H2.objs.size:=by rw [hC];exact Nat.le_succ _
 have old:∀b o,s2.heap.get? b=some o->h₁.get? b=some o:=λb o e=>
  hsb₁.extBut b o (Nat.ne_of_lt (Nat.lt_of_lt_of_le (Heap.lt_size e) hCle)) (Heap.get?_push_of_some _ (hH2▸Heap.get?_push_of_some _ e))
 have hacc:h₁.get? s2.heap.objs.size=some {cls:= .type "list",data:= .seq ([]:List Value).toArray}:=
  hsb₁.extBut _ _ hDC (Heap.get?_push_of_some _ (hH2▸Heap.get?_push_size _ rfl))
 have hfs:∀b∈fp,b<s2.heap.objs.size:=λb hb=>by
  obtain ⟨o,e,_⟩:=T.obj 0 _ st b hb;exact Heap.lt_size e
 have st1:tn 0 h₁:=T.keep 0 _ _ st λb _ o e=>old b o e;have hLC:X.env.locals≠H2.objs.size:=Nat.ne_of_lt (Nat.lt_of_lt_of_le I.lt hCle);generalize hCe:H2.objs.size=C at *;generalize hDe:s2.heap.objs.size=D at *
 have hDle:s2.heap.objs.size<=D:=by rw [hDe];exact Nat.le_refl _
 have hCle':s2.heap.objs.size<=C:=by rw [hDe];exact hCle
 have loop:∀s₃:Shared,s₃= {s2 with heap:=h₁,toks:=s2.toks+([]:List (Str×Value)).length}->
  codeAny ↑8 X.A (.compLoop (.ListComp elt [⟨tg,iter,ifs,0⟩] scope pos) 0 (.ref it) (.ref D) (compEnvC scope (eQ X.env.cells scope.names []) C X.env)) (R (.ref D) C) s₃:=by
  rintro s₃ rfl
  refine codeAny_loop rfl (λn s'=>∃i H' ys its k,aF (bz X scope N' C s2 H fp) [(D,{cls:= .type "list",data:= .seq its k})] (cY pk σ) H' s'/\aY ys its.toList/\tn i s'.heap/\(∀b∈fp,H' b=none)/\W i n ys H') ?_ m0
   ⟨0,H,[],#[],0,FX I S hCle' hf (λb hb=>by rw [hDe];exact hfs b hb) rfl rfl old (by simpa using hns₁) hDle hDC hacc (λv z=>nomatch z),.nil,st1,λb hb=>(hf b hb).1,w0⟩
  rintro n s3 ⟨i,H3,ys,its,k,I3,rv3,st3,fr3,w3⟩;show wpAny _ _ ((compTurn (.ListComp elt [⟨tg,iter,ifs,0⟩] scope pos) 0 (.ref it) (.ref D) (compEnvC scope (eQ X.env.cells scope.names []) C X.env)).onRaise (λx=>do noteFrame x (compEnvC scope (eQ X.env.cells scope.names []) C X.env);theTreesLotGoes x)) _ _ s3;rwa[wpAny_noted ?_];rw [compTurn_list];have never:∀ {α:Type} {t:Sem α} {Q':α->Shared->Prop} {E':Value->Shared->Prop} {s':Shared},wpAny ↑8 X.A t Q' (λ_ _=>False) s'->wpAny ↑8 X.A t Q' E' s':=λh=>wpAny_mono h (λ_ _ x=>x) λ_ _ x=>x.elim
  have fpY:∀ {H':Hp} {pins'},(∀b∈fp,H' b=none)->(∀p∈pins',p.1=D)->∀b∈fp,jL (bz X scope N' C s2 H fp) pins' H' b:=λ{H' pins'} hn hp b hb=>
   ⟨hn b hb,(I3.ok.exf b hb).1,I3.ok.exfs b hb,.inl hb,(I3.ok.exf b hb).2,λp hp' z=>by
     have hp2:p∈pins':=by simpa using (show p∈([]:List ↑14)++pins' from hp')
     have q:=hfs b hb;rw [<-z,hp p hp2] at q
     exact Nat.lt_irrefl _ q⟩
  have onlyD:∀p∈[(D,({cls:= .type "list",data:= .seq its k}:Obj))],p.1=D:=λp hp=>by
   have e:p=(D,({cls:= .type "list",data:= .seq its k}:Obj)):=by simpa using hp
   rw [e]
  have accAt:∀ {pins':List ↑14} {σ' H' s'},aF (bz X scope N' C s2 H fp) pins' σ' H' s'->(D,({cls:= .type "list",data:= .seq its k}:Obj))∈pins'->s'.heap.get? D=some {cls:= .type "list",data:= .seq its k}/\H' D=none:=λ{pins' σ' H' s'} J hm=>by
   obtain ⟨a1,a2,_⟩:=J.pin _ (show (D,({cls:= .type "list",data:= .seq its k}:Obj))∈([]:List ↑14)++pins' by simpa using hm);exact ⟨a1,a2⟩
  rwa[wpAny_bind (wpAny_standAt (wpAny_bind ?_))]
  rcases turn i n ys H3 w3 with ⟨stop,hz,qn⟩|⟨go,hz,N,hN,step⟩
  ·rwa[never (bT (T.done (bz X scope N' C s2 H fp) rfl rfl rfl rfl rfl i _ s3 _ H3 (λ_ _=>False) I3 (fpY fr3 onlyD) st3 stop) λr s4 ⟨hr,I4⟩=> ?_)];subst hr;rwa[wpAny_pure ?_];obtain ⟨a1,a2⟩:=accAt I4 ↑17;obtain ⟨mC,hnC,_⟩:=I4.loc;exact hR C D s4 ys H3 ⟨mC,hnC⟩ (qn D a2) (λh' sb=>FW I hf I4 hCle' hDle hDC a2 (its:=its.toList) (n:=k) (by simpa using a1) rv3 hz sb) hCle (by rw [ap (Ne.symm hDC)];exact I4.free)
  ·rwa[never (bT (T.item (bz X scope N' C s2 H fp) rfl rfl rfl rfl rfl i _ s3 _ H3 (λ_ _=>False) I3 (fpY fr3 onlyD) st3 go) λr s4 ⟨u,hr,h4⟩=> ?_)];subst hr;rwa[wpAny_bind (never (bT h4 λ_ s5 ⟨x,H5,I5,r5,y5,st5,fr5⟩=> ?_))];have I5':=I5.pinned (fpY fr5 onlyD) (T.obj _ _ st5);rwa[wpAny_bind (never (bT (hg C s2 H fp _ s5 _ H5 x u _ I5' r5 (step x H5 y5)) λ_ s6 ⟨σ6,H6,I6,sup,q6⟩=> ?_))];rwa[wpAny_bind (never (bT (ht C s2 H fp _ s6 σ6 H6 _ I6 q6) λb s7 ⟨H7,I7,q7⟩=> ?_))]
   have back:∀ {H':Hp} {s':Shared},aF (bz X scope N' C s2 H fp) ([(D,{cls:= .type "list",data:= .seq its k})]++rA fp s5.heap) σ6 H' s'->
    aF (bz X scope N' C s2 H fp) [(D,{cls:= .type "list",data:= .seq its k})] (cY pk σ) H' s'/\tn (i+1) s'.heap/\∀b∈fp,H' b=none:=λ{H' s'} I7=>by
    rwa[⟨I7.unpinned.weak sup.1.symm sup.2,T.keep _ _ _ st5 λb hb o e=>(I7.pin (b,o) (List.mem_append_right _ (List.mem_append_right _ (ik hb e)))).1,λb hb=> ?_⟩];obtain ⟨o,e,d⟩:=T.obj _ _ st5 b hb;exact (I7.pin (b,o) (List.mem_append_right _ (List.mem_append_right _ (ik hb e)))).2.1
   cases b with
   |false=>
    rw [if_neg Bool.false_ne_true] at q7;obtain ⟨m',hm,w7⟩:=hN _ _ q7;obtain ⟨J7,t7,f7⟩:=back I7;rw [if_neg Bool.false_ne_true]
    first
     |exact wpAny_pure ⟨rfl,m',hm,i+1,H7,ys,its,k,J7,rv3,t7,f7,w7⟩
     |exact wpAny_bind (wpAny_pure (wpAny_pure ⟨rfl,m',hm,i+1,H7,ys,its,k,J7,rv3,t7,f7,w7⟩))
   |true=>
    rw [if_pos rfl] at q7;rw [if_pos rfl];rwa[wpAny_bind (wpAny_bind (never (bT (he C s2 H fp _ s7 σ6 H7 _ I7 q7) λy s8 ⟨v,H8,I8,r8,n8⟩=> ?_)))];obtain ⟨m',hm,w8⟩:=hN _ _ n8;obtain ⟨J8,t8,f8⟩:=back I8;obtain ⟨a1,a2⟩:=accAt J8 ↑17
    have hsz:its.size<=sizeLine:=by
     have e:=rv3.length
     have e2:its.toList.length=its.size:=by simp
     omega
    rwa[wpAny_bind (Au a1 hsz λh' k' e' sb=> ?_)]
    have J9:aF (bz X scope N' C s2 H fp) [] (cY pk σ) H8 {s8 with heap:=h'}:=
     aF.turned (t':=s8.toks) (it:=D) (J8.pins_of λp hp=>nomatch hp) (λb o hb e=>(sb.2 b hb).trans e) a2 hDC (.inr hDle) (λx c e z=>by
      obtain ⟨w',o,ho,hd⟩:=J8.cell x c e
      rw [z,a1] at ho;cases ho;cases hd) λp hp=>nomatch (show p∈([]:List ↑14)++[] from hp)
    have J10:aF (bz X scope N' C s2 H fp) [(D,{cls:= .type "list",data:= .seq (its.push y) k'})] (cY pk σ) H8 {s8 with heap:=h'}:=
     J9.pins_of λp hp=>by
      have e:p=(D,({cls:= .type "list",data:= .seq (its.push y) k'}:Obj)):=by simpa using hp
      subst e;rwa[⟨e',a2,hDC,λz=> ?_,λv z=>nomatch z⟩];obtain ⟨_,o,ho,_⟩:=I.stack.mem z;exact absurd (Nat.lt_of_lt_of_le (Heap.lt_size ho) hDle) (Nat.lt_irrefl _)
    have t9:tn (i+1) h':=T.keep _ _ _ t8 λb hb o e=>(sb.2 b (λz=>Nat.lt_irrefl D (by have:=hfs b hb;rw [z] at this;exact this))).trans e
    have rv9:aY (ys++[v]) (its.push y).toList:=by
     rw [Array.toList_push];exact aY.append rv3 (.cons r8 .nil)
    first
     |exact wpAny_pure (wpAny_pure ⟨rfl,m',hm,i+1,H8,ys++[v],its.push y,k',J10,rv9,t9,f8,w8⟩)
     |exact wpAny_bind (wpAny_pure (wpAny_pure ⟨rfl,m',hm,i+1,H8,ys++[v],its.push y,k',J10,rv9,t9,f8,w8⟩))
 exact codeAny_compStart_list (loop _ rfl) (T.self _ 0 _ _ _ st1 (loop _ rfl))
section
variable {X:Cx}{scope:Scope}{N':List Str}{pk:List (Option Nat)}{tg elt iter:Expr}{ifs:List Expr}{pos:Pos}{wi:TI}{g:TG}{tt:TT}{te:TE}
theorem Eu (S:dg X scope N' pk)(hi:QU X tg iter wi)(hg:∀C s H ex,PG (bz X scope N' C s H ex) tg g)(ht:∀C s H ex,GM (bz X scope N' C s H ex) ifs tt)
(he:∀C s H ex,PE (bz X scope N' C s H ex) elt te)(hs:∀x,foldedSetIterable iter X.env x=pure x:=by intro _;rfl):PE X (.ListComp elt [⟨tg,iter,ifs,0⟩] scope pos) (DA pk wi g tt te):=by
 intro pins s σ H Q I h;rw [eval_ListComp];rwa[wpAny_comprehension_free (use:=none) rfl hs (ko λn hn=>I.ok.has n (S.free n hn)) S.kind S.loc ?_];rwa[bT (hi pins s σ H _ I h) λv s1 h1=>bT h1 λitv s2 h2=> ?_];obtain ⟨it,fp,tn,J,H2,e,I2,T,st2,f2,hW⟩:=h2;subst e;rwa[su (R:=λacc C=>compPost ↑8 X.A X.xe none (EP X pins σ Q) acc C) S hg ht he I2 T st2 f2 hW ?_];intro C D s' ys H' hn q hv _ _;obtain ⟨m,hm⟩:=hn;exact ⟨m,hm,λh' sb=>⟨.ref D,_,hv h' sb,rfl,q⟩⟩
theorem HM (hc:X.calm=true)(S:dg X scope N' pk)(hi:PI X tg iter wi)(hg:∀C s H ex,PG (bz X scope N' C s H ex) tg g)(ht:∀C s H ex,GM (bz X scope N' C s H ex) ifs tt)
(he:∀C s H ex,PE (bz X scope N' C s H ex) elt te)(hs:∀x,foldedSetIterable iter X.env x=pure x:=by intro _;rfl):PE X (.ListComp elt [⟨tg,iter,ifs,0⟩] scope pos) (DA pk wi g tt te):=Eu S (hi.toA hc) hg ht he hs
theorem HE {i:Nat}{x:Str}{px spos:Pos}(hc:X.calm=true)(hN:X.N.Nodup)(hx:X.N[i]? =some x)(hl:MN X.env.scope x)(S:dg X scope N' pk)(hi:PI X tg iter wi)(hg:∀C s H ex,PG (bz X scope N' C s H ex) tg g)
(ht:∀C s H ex,GM (bz X scope N' C s H ex) ifs tt)(he:∀C s H ex,PE (bz X scope N' C s H ex) elt te)(hs:∀x,foldedSetIterable iter X.env x=pure x:=by intro _;rfl)
(hsw:swapsWith (.ListComp elt [⟨tg,iter,ifs,0⟩] scope pos) (some (.Name x px)) spos.line X.env=pure true:=by rfl)(hf:X.fn x=true\/X.env.scope.names.lookup x=some .local:=by first|exact .inl rfl|exact .inr rfl|assumption):
 PS X (.Assign [.Name x px] (.ListComp elt [⟨tg,iter,ifs,0⟩] scope pos) spos) (Hd (DA pk wi g tt te) (sd i)):=by
 intro pins s σ H D0 I h;rw [exec_Assign_Name_used _ _ _ _ hsw];rwa[wpAny_bind (wpAny_standAt (wpAny_bind ?_))];show wpAny _ _ (comprehension (.ListComp elt [⟨tg,iter,ifs,0⟩] scope pos) scope X.env (firstIterPos [⟨tg,iter,ifs,0⟩] pos) (newList []) false (eval iter X.env) (some (assign (.Name x px) X.env))>>=λ_=>pure ()) _ _ s;rwa[wpAny_bind (wpAny_comprehension_free (use:=some (assign (.Name x px) X.env)) rfl hs (ko λn hn=>I.ok.has n (S.free n hn)) S.kind S.loc ?_)];rwa[bT ((hi.toA hc) pins s σ H _ I h) λv s1 h1=>bT h1 λitv s2 h2=> ?_];obtain ⟨it,fp,tn,J,H2,e,I2,T,st2,f2,hW⟩:=h2;subst e;rwa[su (Q:=λx H1=>sd i x σ H1 D0.nx) (R:=λacc C=>compPost ↑8 X.A X.xe (some (assign (.Name x px) X.env)) _ acc C) S hg ht he I2 T st2 f2 hW ?_];intro C D s' ys H' hn q hv hCle hCn;obtain ⟨m,hm⟩:=hn;have I':aF X pins σ (upd H' D (.lst ys)) s':=hv s'.heap (Heap.SameBut.refl ..);rwa[wpAny_assign_Name (uz (v:= .ref D) I' hN hx hl rfl (λs'' I'' ch=> ?_) hf)];obtain ⟨a,sb,ha⟩:=ch
 have haC:C≠a:=by
  rcases ha with ha|ha
  ·rw [ha];exact Nat.ne_of_gt (Nat.lt_of_lt_of_le I2.lt hCle)
  ·obtain ⟨v,z⟩:=I2.cell x a ha;exact Nat.ne_of_gt (Nat.lt_of_lt_of_le z.lt hCle)
 rwa[⟨m,hm.sameBut sb haC,λh' sb'=>wpAny_pure (wpAny_pure ⟨_,_,?_,q⟩)⟩];rwa[aF.turned (t':=s''.toks) (it:=C) I'' (λb o hb e=>(sb'.2 b hb).trans e) hCn (Nat.ne_of_gt (Nat.lt_of_lt_of_le I2.lt hCle)) (.inr (Nat.le_trans I2.sz hCle)) (λy c e z=> ?_) λp hp z=> ?_]
 ·obtain ⟨v,q⟩:=I2.cell y c e;exact absurd (Nat.lt_of_lt_of_le q.lt hCle) (by rw [z];exact Nat.lt_irrefl _)
 ·exact absurd (Nat.lt_of_lt_of_le (Heap.lt_size (I2.pin p hp).1) hCle) (by rw [z];exact Nat.lt_irrefl _)
end
theorem cE {pk:List (Option Nat)}{σ:St}{x:V}:uo (cY (none::pk) σ) ((cY (none::pk) σ).set 0 (some x)):=by
 rwa[⟨by simp,λi v h=> ?_⟩]
 cases i with
 |zero=>exact nomatch (show (none:Option V)=some v from Option.some.inj h)
 |succ i=>simpa [cY] using h
section
variable {X:Cx}
def cV:V->Option Value
 | .ty n=>some (.type n)
 | .ref C=>some (.ref C)
 |_=>none
theorem Gc {c:V}{t u:Value}(h:cV c=some t)(r:aQ c u):u=t:=by
 cases c with
 |ty n=>cases h;exact r
 |ref C=>cases h;exact r
 |_=>cases h
theorem yI:bH X (.builtin "isinstance") (λxs H Q=>∃x c cv t b,xs=[x,c]/\cV c=some cv/\jH X.K H x t/\W.kitOne X.K t cv=some b/\Q (.bl b) H):=by
 intro pins s σ H xs us Q I r h;obtain ⟨x,c,cv,t,b,rfl,hc,ty,e,q⟩:=h;obtain ⟨u,w',rfl,r1,r2⟩:=xE r;cases Gc hc r2;exact Cp I r1 ty e λtk=>⟨.bl b,H,I.tok _,rfl,q⟩
theorem yK {bs:List Bool}:∀ {us:List Value},aY (List.map V.bl bs) us->LSm.BoolsAre us bs:=by
 induction bs with
 |nil=>intro us r;rw [List.map_nil] at r;cases r;exact .nil
 |cons b bs ih=>
  intro us r;rw [List.map_cons] at r
  cases r with
  |cons r1 r2=>cases r1;exact .cons b (ih r2)
theorem CO (hc:X.calm=true):bH X (.builtin "all") (λxs H Q=>∃(a:Addr) (bs:List Bool),xs=[.ref a]/\aS X.K H a (List.map V.bl bs)/\Q (.bl (bs.all id)) H):=by
 intro pins s σ H xs us Q I r h;obtain ⟨a,bs,rfl,hq,q⟩:=h;obtain ⟨u,rfl,rx⟩:=kb r;cases rx;obtain ⟨its,rv,pl,hz⟩:=I.list hq;have hl:s.heap.IsList a its.toArray:=pl.isList;have hb:=yK rv
 have hlt:a<s.heap.objs.size:=by obtain ⟨_,e,_⟩:=hl;exact Heap.lt_size e
 rwa[call_all_walk (wpAny_pyIter_list hl ?_)]
 refine ⟨s.heap.objs.size,[s.heap.objs.size,a],[s.heap.objs.size],its.toArray.size,_,_,λi=>(bs[i]?).getD true,rfl,Walks.list (A:=X.A.in1) (I.ok.hd hc) _ a (Nat.ne_of_lt hlt) its.toArray,
  ⟨⟨_,Heap.get?_push_size _ rfl,rfl,rfl⟩,hl.push _⟩,λi v s' Q' E' hP hQ=> ?_,λh' tk hk=> ?_⟩
 ·obtain ⟨b,e,rfl⟩:=hb.get i v (by simpa using hP);simp only [e,Option.getD_some] at hQ;exact wpAny_truthy_bool hQ
 ·have e:((List.range its.toArray.size).all λi=>(bs[i]?).getD true)=bs.all id:=by
   rw [List.size_toArray,hb.length];exact LSm.range_all bs
  rw [e];exact ⟨.bl _,H,I.kept (LSm.kept_iter hk),rfl,q⟩
def Pd (x:Str):It:=⟨λi _=>i<x.cps.size,λi H v H'=>H'=H/\∃c,x.cps[i]? =some c/\v= .str ⟨#[c]⟩,λi _=>x.cps.size<=i⟩
theorem uw {P:Program}{w:World}{K:Fg}{tg:Expr}{it:Addr}{x:Str}{t:Tok}{T:String}(hT:T="str_ascii_iterator"\/T="str_iterator"):
 xk P w K tg (Pd x) [it] it (λi h=>i<=x.cps.size/\h.IsStrIter it T x t i) where
 mem:=by simp
 obj:=λi h st b hb=>by
  have e:b=it:=by simpa using hb
  subst e;obtain ⟨o,ho,hc,hd⟩:=st.2;exact ⟨o,ho,λv z=>by rw [hd] at z;cases z⟩
 keep:=λi h h' st k=>⟨st.1,let ⟨o,ho,r⟩:=st.2;⟨o,k it ↑17 o ho,r⟩⟩
 item:=by
  intro X hP hw hK hc i pins s σ H E I hf st hg;subst hP hw hK;obtain ⟨f0,f1,f2,f3,f4,f5⟩:=hf it ↑17
  have W:Walks X.prog X.w X.A it [it] [it] x.cps.size (SignAt x) (λi h=>h.IsStrIter it T x t i):=by
   rcases hT with rfl|rfl
   ·exact Walks.strAscii (I.ok.hd hc) it x t
   ·exact Walks.strWide (I.ok.hd hc) it x t
  rwa[W.item i s _ _ hg st.2 λv h' tk hv st' kk=> ?_];obtain ⟨c,u,hx,rfl⟩:=hv;have I1:aF X pins σ H {s with heap:=h',toks:=tk}:=I.turned (λb o hb e=>kk b o (by simpa using hb) e) f0 f1 f3 f4 f5;obtain ⟨o,ho,hcl,hd⟩:=id st';exact ⟨_,rfl,A9 (s:= {s with heap:=h',toks:=tk}) ho hcl hd (by rcases hT with rfl|rfl<;>decide) ⟨.str ⟨#[c]⟩,H,I1,⟨_,rfl⟩,⟨rfl,c,hx,rfl⟩,⟨hg,st'⟩,λb hb=>(hf b hb).1⟩⟩
 done:=by
  intro X hP hw hK hc i pins s σ H E I hf st hg;subst hP hw hK;obtain ⟨f0,f1,f2,f3,f4,f5⟩:=hf it ↑17
  have W:Walks X.prog X.w X.A it [it] [it] x.cps.size (SignAt x) (λi h=>h.IsStrIter it T x t i):=by
   rcases hT with rfl|rfl
   ·exact Walks.strAscii (I.ok.hd hc) it x t
   ·exact Walks.strWide (I.ok.hd hc) it x t
  have e:i=x.cps.size:=Nat.le_antisymm st.1 hg;subst e;exact W.done s _ _ st.2 λh' tk kk=>⟨rfl,I.turned (λb o hb e=>kk b o (by simpa using hb) e) f0 f1 f3 f4 f5⟩
 self:=λA i s Q E st h=>by
  rcases hT with rfl|rfl
  ·exact wpAny_pyIter_striter_ascii st.2 h
  ·exact wpAny_pyIter_striter_wide st.2 h
theorem He {ts:List Str}:∀ {us:List Value},aY (ts.map V.str) us->∃l:List (Str×Tok),us=strValues l/\l.map (·.1)=ts:=by
 induction ts with
 |nil=>intro us r;rw [List.map_nil] at r;cases r;exact ⟨[],rfl,rfl⟩
 |cons b bs ih=>
  intro us r;rw [List.map_cons] at r
  cases r with
  |cons r1 r2=>
   obtain ⟨t,rfl⟩:=r1;obtain ⟨l,rfl,e⟩:=ih r2;exact ⟨(b,t)::l,rfl,by rw [List.map_cons,e]⟩
theorem Fa:yP X "str.join" (λx xs H Q=>∃z a ts,x= .str z/\xs=[.ref a]/\aS X.K H a (ts.map V.str)/\(ts.toArray.foldl (· + ·.length+z.length) 0)<=sizeLine/\(Builtin.Str.glued z ts).length<=sizeLine/\Q (.str (Builtin.Str.glued z ts)) H):=by
 intro pins s σ H x xs v us Q I rx rs h;obtain ⟨z,a,ts,rfl,rfl,hq,hz,hz2,q⟩:=h;obtain ⟨t,rfl⟩:=rx;obtain ⟨u,rfl,rr⟩:=kb rs;cases rr;obtain ⟨its,rv,pl,_⟩:=I.list hq;obtain ⟨l,rfl,hl⟩:=He rv;rwa[call_meets F.slot_str_join (typeIs_str s z t) F.entry_str_join (F.args_str_join_2 _ _) (meets_str_join_list z t a l ?_) ⟨pl.isList,?_⟩]
 ·rw [hl];exact rJ hz
 ·subst hl
  cases l with
  |nil=>exact ⟨hz2,.str _,H,I.tok _,⟨_,rfl⟩,q⟩
  |cons p r=>
   cases r with
   |nil=>exact ⟨.str _,H,I,⟨p.2,rfl⟩,q⟩
   |cons p2 r=>exact ⟨hz2,.str _,H,I.tok _,⟨_,rfl⟩,q⟩
theorem zP:dD X (binaryOp .Mult) (λx y H Q=>∃z n,x= .str z/\y= .int n/\1<n/\n<=1000/\0<z.length/\z.length<=1000/\Q (.str ⟨(List.replicate n.toNat z.cps).foldl (· ++ ·) #[]⟩) H):=by
 intro pins s σ H x y v u Q I rx ry h;obtain ⟨z,n,rfl,rfl,h1,h2,h3,h4,q⟩:=h;obtain ⟨t,rfl⟩:=rx;obtain ⟨t',rfl⟩:=ry;have hm:(z.length:Int)*n<=1000*1000:=Int.mul_le_mul ↑6 h2 ↑6 ↑2
 have ht:z.length*n.toNat<=1000000:=by
  have e:((z.length*n.toNat:Nat):Int)=(z.length:Int)*n:=by rw [Int.natCast_mul,Int.toNat_of_nonneg ↑6]
  omega
 have hs:sizeLine=16777216:=sizeLine_eq;have hb1:(n==1)=false:=beq_eq_false_iff_ne.mpr ↑6;have hb2:(z.length==0)=false:=beq_eq_false_iff_ne.mpr ↑6;rwa[PySem.P.mul_str ?_ (λ_ _=> ?_) (λ_ _=>rJ ↑6) ?_]
 ·rw [decide_eq_false ↑6,decide_eq_false ↑6];rfl
 ·have:=Int.le_ediv_of_mul_le (a:=(z.length:Int)) (b:=2^63 - 1) (c:=n) ↑6 ↑6;omega
 ·rw [if_neg ↑6,hb1,hb2];rwa[⟨?_,.str _,H,I.tok _,⟨_,rfl⟩,q⟩];show ((List.replicate n.toNat z.cps).foldl (· ++ ·) #[]).size<=sizeLine
  have go:∀(k:Nat) (acc:Array Nat),((List.replicate k z.cps).foldl (· ++ ·) acc).size=acc.size+z.length*k:=by
   intro k
   induction k with
   |zero=>intro acc;simp
   |succ k ih=>
    intro acc;rw [List.replicate_succ,List.foldl_cons,ih,Array.size_append,Nat.mul_succ];have e:z.cps.size=z.length:=rfl;omega
  rw [go];simp only [List.size_toArray,List.length_nil];omega
theorem IC:yP X "int.bit_length" (λx xs H Q=>∃i,x= .int i/\xs=[]/\Q (.int (Builtin.Int.intBits i)) H):=by
 intro pins s σ H x xs v us Q I rx rs h;obtain ⟨i,rfl,rfl,q⟩:=h;obtain ⟨t,rfl⟩:=rx;cases rs;exact call_int_bit_length ⟨.int _,H,I.tok _,⟨_,rfl⟩,q⟩
end
structure bp (P:Program)(w:World)(K:Fg)(mg:Str->Option Value)(base:Heap)(n:Nat)(x:Str)(ps:List Str)(sp:Sp):Prop where
 ex:∃f fd,aD P w K mg base br n f fd ps sp/\fm K fd ps []/\W.keepIn K (.ref f)=true/\mg x=some (.ref f)
section
variable {X:Cx}{x:Str}{p pos:Pos}{e:Expr}{es:List Expr}{t:TA}{ps:List Str}{sp:Sp}{n m:Nat}
theorem N2 (c:bp X.prog X.w X.K X.mg X.base n x ps sp)(hr:b4 m X.A)(hn:n<=m)(hg:Gl X x)(ha:PA X (e::es) t)(hdb:↑27=false:=by decide)
(he:starEach (e::es) X.env=(false,eval e X.env)::starEach es X.env:=by rfl)(hpl:(backTo pos (starEach es X.env)).any (·.1)=false:=by rfl):
 PE X (.Call (.Name x p) (e::es) [] pos) (xM sp [] E0 t):=by
 obtain ⟨f,fd,F,b,k,hm⟩:=c.ex;exact AT (F.mono hn) hr hg hm k b .nil jh ha hdb he hpl
end
def sv (sc:Scope)(N:List Str)(scope:Scope)(N':List Str)(pk:List (Option Nat)):Bool:=
 (scope.kind== .function)&&scope.names.all (λy=>y.2 != .cell)&&scope.names.all (λy=> !(y.2== .local)||scope.names.lookup y.1==some .local)&&
 scope.names.all (λy=> !(y.2== .free)||((sc.names.lookup y.1==some .cell||sc.names.lookup y.1==some .free)&&scope.names.lookup y.1 != some .local))&&
 (pk.length==N'.length)&&(List.range pk.length).all λj=>match pk[j]?,N'[j]? with
   |some (some i),some x=>N[i]? ==some x&&scope.names.contains (x,NameKind.free)
   |_,_=>true
theorem aK {X:Cx}{scope:Scope}{N':List Str}{pk:List (Option Nat)}(h:sv X.env.scope X.N scope N' pk=true):dg X scope N' pk:=by
 unfold sv at h;simp only [Bool.and_eq_true] at h;obtain ⟨⟨⟨⟨⟨h1,h2⟩,h3⟩,h4⟩,h5⟩,h6⟩:=h;rwa[⟨by simpa using h1,λy hy=> ?_,λy hy hl=> ?_,λn hn=> ?_,λn hn=> ?_,by simpa using h5,λj i x e1 e2=> ?_⟩]
 ·have:=List.all_eq_true.mp h2 y hy;simpa using this
 ·have:=List.all_eq_true.mp h3 y hy;rw [hl] at this;simpa using this
 ·have:=List.all_eq_true.mp h4 _ hn;simp only [beq_self_eq_true,Bool.not_true,Bool.false_or,Bool.and_eq_true,Bool.or_eq_true] at this
  rcases this.1 with z|z
  ·exact .inl (show X.env.scope.names.lookup n=_ by simpa using z)
  ·exact .inr (show X.env.scope.names.lookup n=_ by simpa using z)
 ·have:=List.all_eq_true.mp h4 _ hn;simp only [beq_self_eq_true,Bool.not_true,Bool.false_or,Bool.and_eq_true,Bool.or_eq_true] at this;simpa using this.2
 ·have hj:j<pk.length:=(List.getElem?_eq_some_iff.mp e1).1;have:=List.all_eq_true.mp h6 j (List.mem_range.mpr hj);rw [e1,e2] at this;simp only [Bool.and_eq_true] at this;exact ⟨by simpa using this.1,by simpa using this.2⟩
section
variable {X:Cx}
theorem CI:bH X (.builtin "len") (λxs H Q=>∃x,xs=[x]/\((∃z,x= .str z/\z.length<=sizeLine/\Q (.int z.length) H)\/∃p,x= .ref p/\∃ys,(aS X.K H p ys\/aP X.K H p ys)/\Q (.int ys.length) H)):=by
 intro pins s σ H xs us Q I r h;obtain ⟨x,rfl,h⟩:=h
 rcases h with ⟨z,rfl,hz,q⟩|⟨p,rfl,ys,hq,q⟩
 ·exact w5 pins s σ H _ us Q I r ⟨z,rfl,hz,q⟩
 ·exact w6 pins s σ H _ us Q I r ⟨p,ys,rfl,hq,q⟩
def NV (K:Fg):R2:=λx y H Q=>∃i,y= .int i/\((∃z,x= .str z/\z.length<=sizeLine/\∃c,pW z.cps.toList i=some c/\Q (.str ⟨#[c]⟩) H)\/∃p,x= .ref p/\∃xs,(aS K H p xs\/aP K H p xs)/\∃v,pW xs i=some v/\Q v H)
theorem Mh:CZ X (NV X.K):=by
 intro value slice pins s σ H x y v u Q I rx ry h hs;obtain ⟨i,rfl,h⟩:=h
 rcases h with ⟨z,rfl,hz,c,hc,q⟩|⟨p,rfl,xs,hq|hq,w',hv,q⟩
 ·exact Mg value slice pins s σ H _ _ v u Q I rx ry ⟨z,i,c,rfl,rfl,hz,hc,q⟩ hs
 ·exact IL value slice pins s σ H _ _ v u Q I rx ry ⟨p,xs,i,w',rfl,rfl,hq,hv,q⟩ hs
 ·exact Mf value slice pins s σ H _ _ v u Q I rx ry ⟨p,xs,i,w',rfl,rfl,hq,hv,q⟩ hs
theorem Gi {ns:List Int}{k:Int}(h0:0<=k)(h1:k<ns.length):pW (ns.map V.int) k=some (.int (ns.getD k.toNat 0)):=by
 obtain ⟨j,rfl⟩:=Int.eq_ofNat_of_zero_le h0;rwa[gb ?_]
 have hj:j<ns.length:=by omega
 rw [List.getElem?_map,List.getElem?_eq_getElem hj];simp [List.getD,List.getElem?_eq_getElem hj]
def uj (J:It)(pk:List (Option Nat))(g:TG)(tt:TT)(te:TE)(σ:St)(H:Hp)(Q:VK):Prop:=∃W:Nat->Nat->List V->Hp->Prop,(∃m,W 0 m [] H)/\∀i m ys H,W i m ys H->
 (J.stop i H/\ys.length<=sizeLine/\∀p,H p=none->Q (.ref p) (upd H p (.lst ys)))\/
 (J.go i H/\ys.length<sizeLine/\∃N:List V->Hp->Prop,(∀zs H',N zs H'->∃m',m'<m/\W (i+1) m' zs H')/\∀x H',J.yld i H x H'->g x (cY pk σ) H' λσ2 H2=>uo (cY pk σ) σ2/\tt σ2 H2 λb H3=>
   if b=true then te σ2 H3 λv H4=>N (ys++[v]) H4 else N ys H3)
def Al (J:It)(g:TG)(tb:TS)(D:pZ)(σ:St)(H:Hp):Prop:=∃W:Nat->Nat->St->Hp->Prop,(∃m,W 0 m σ H)/\∀i m σ H,W i m σ H->
 (J.stop i H/\D.nx σ H)\/(J.go i H/\∃N:St->Hp->Prop,(∀σ' H',N σ' H'->∃m',m'<m/\W (i+1) m' σ' H')/\∀x H',J.yld i H x H'->g x σ H' λσ2 H2=>tb {D with nx:=N,ct:=N,bk:=D.nx} σ2 H2)
section
variable {K:Fg}{a:Addr}{xs:List V}{g:TG}{tb:TS}{D:pZ}{σ:St}{H:Hp}
theorem jX (Pv:Nat->St->Hp->Prop)(h0:Pv 0 σ H)(hl:∀i σ H,i<=xs.length->Pv i σ H->aS K H a xs)
(hs:∀i x σ H,xs[i]? =some x->Pv i σ H->g x σ H λσ2 H2=>tb {D with nx:=Pv (i+1),ct:=Pv (i+1),bk:=D.nx} σ2 H2)(hd:∀σ H,Pv xs.length σ H->D.nx σ H):Al (GD K a) g tb D σ H:=FA Pv h0 hl hs hd
theorem yA (Pv:Nat->St->Hp->Prop)(h0:Pv 0 σ H)(hl:∀i σ H,i<=xs.length->Pv i σ H->aP K H a xs)
(hs:∀i x σ H,xs[i]? =some x->Pv i σ H->g x σ H λσ2 H2=>tb {D with nx:=Pv (i+1),ct:=Pv (i+1),bk:=D.nx} σ2 H2)(hd:∀σ H,Pv xs.length σ H->D.nx σ H):Al (Gz K a) g tb D σ H:=IT Pv h0 hl hs hd
theorem eu {lo:Int}{n:Nat}(Pv:Nat->St->Hp->Prop)(h0:Pv 0 σ H)
(hs:∀i σ H,i<n->Pv i σ H->g (.int (lo+i)) σ H λσ2 H2=>tb {D with nx:=Pv (i+1),ct:=Pv (i+1),bk:=D.nx} σ2 H2)(hd:∀σ H,Pv n σ H->D.nx σ H):Al (Jo lo n) g tb D σ H:=Cw Pv h0 hs hd
end
theorem fL {lo:Int}{n:Nat}{pk:List (Option Nat)}{g:TG}{tt:TT}{te:TE}{σ:St}{H:Hp}{Q:VK}(Pv:Nat->List V->Hp->Prop)(hn:n<=sizeLine)(hlen:∀i ys H,Pv i ys H->ys.length<=i)(h0:Pv 0 [] H)
(hs:∀i ys H,i<n->Pv i ys H->g (.int (lo+i)) (cY pk σ) H λσ2 H2=>uo (cY pk σ) σ2/\tt σ2 H2 λb H3=>if b=true then te σ2 H3 λv H4=>Pv (i+1) (ys++[v]) H4 else Pv (i+1) ys H3)
(hd:∀ys H,Pv (n) ys H->∀p,H p=none->Q (.ref p) (upd H p (.lst ys))):
 uj (Jo lo n) pk g tt te σ H Q:=by
 rwa[⟨λi m ys H=>m=n - i/\i<=n/\Pv i ys H,⟨n,by simp,Nat.zero_le _,h0⟩,?_⟩];rintro i m ys H ⟨rfl,hi,p⟩;have hl:=hlen _ _ _ p;by_cases hlt:i<n
 ·rwa[.inr ⟨hlt,by omega,Pv (i+1),λzs H' p'=>⟨n - (i+1),by omega,rfl,hlt,p'⟩,λx H' y=> ?_⟩];obtain ⟨e,y⟩:=y;subst e y;exact hs i ys _ hlt p
 ·have e:i=n:=by omega
  subst e;exact .inl ⟨Nat.le_refl _,by omega,hd ys H p⟩
theorem b6 {K:Fg}{a:Addr}{xs:List V}{pk:List (Option Nat)}{g:TG}{tt:TT}{te:TE}{σ:St}{H:Hp}{Q:VK}(Pv:Nat->List V->Hp->Prop)(hn:xs.length<=sizeLine)(hlen:∀i ys H,Pv i ys H->ys.length<=i)(h0:Pv 0 [] H)(hx:∀i ys H,i<=xs.length->Pv i ys H->aS K H a xs)
(hs:∀i x ys H,xs[i]? =some x->Pv i ys H->g x (cY pk σ) H λσ2 H2=>uo (cY pk σ) σ2/\tt σ2 H2 λb H3=>if b=true then te σ2 H3 λv H4=>Pv (i+1) (ys++[v]) H4 else Pv (i+1) ys H3)
(hd:∀ys H,Pv (xs.length) ys H->∀p,H p=none->Q (.ref p) (upd H p (.lst ys))):
 uj (GD K a) pk g tt te σ H Q:=by
 rwa[⟨λi m ys H=>m=xs.length - i/\i<=xs.length/\Pv i ys H,⟨xs.length,by simp,Nat.zero_le _,h0⟩,?_⟩];rintro i m ys H ⟨rfl,hi,p⟩;have hl:=hlen _ _ _ p;by_cases hlt:i<xs.length
 ·rwa[.inr ↑21];obtain ⟨e,y⟩:=y;subst e;exact hs i x ys _ (y xs (hx i ys _ hi p)) p
 ·have e:i=xs.length:=by omega
  subst e;exact .inl ⟨⟨xs,hx _ ys H ↑13 p,Nat.le_refl _⟩,by omega,hd ys H p⟩
theorem cJ {K:Fg}{a:Addr}{xs:List V}{pk:List (Option Nat)}{g:TG}{tt:TT}{te:TE}{σ:St}{H:Hp}{Q:VK}(Pv:Nat->List V->Hp->Prop)(hn:xs.length<=sizeLine)(hlen:∀i ys H,Pv i ys H->ys.length<=i)(h0:Pv 0 [] H)(hx:∀i ys H,i<=xs.length->Pv i ys H->aP K H a xs)
(hs:∀i x ys H,xs[i]? =some x->Pv i ys H->g x (cY pk σ) H λσ2 H2=>uo (cY pk σ) σ2/\tt σ2 H2 λb H3=>if b=true then te σ2 H3 λv H4=>Pv (i+1) (ys++[v]) H4 else Pv (i+1) ys H3)
(hd:∀ys H,Pv (xs.length) ys H->∀p,H p=none->Q (.ref p) (upd H p (.lst ys))):
 uj (Gz K a) pk g tt te σ H Q:=by
 rwa[⟨λi m ys H=>m=xs.length - i/\i<=xs.length/\Pv i ys H,⟨xs.length,by simp,Nat.zero_le _,h0⟩,?_⟩];rintro i m ys H ⟨rfl,hi,p⟩;have hl:=hlen _ _ _ p;by_cases hlt:i<xs.length
 ·rwa[.inr ↑21];obtain ⟨e,y⟩:=y;subst e;exact hs i x ys _ (y xs (hx i ys _ hi p)) p
 ·have e:i=xs.length:=by omega
  subst e;exact .inl ⟨⟨xs,hx _ ys H ↑13 p,Nat.le_refl _⟩,by omega,hd ys H p⟩
theorem FV {z:Str}{pk:List (Option Nat)}{g:TG}{tt:TT}{te:TE}{σ:St}{H:Hp}{Q:VK}(Pv:Nat->List V->Hp->Prop)(hn:z.cps.size<=sizeLine)(hlen:∀i ys H,Pv i ys H->ys.length<=i)(h0:Pv 0 [] H)
(hs:∀i c ys H,z.cps[i]? =some c->Pv i ys H->g (.str ⟨#[c]⟩) (cY pk σ) H λσ2 H2=>uo (cY pk σ) σ2/\tt σ2 H2 λb H3=>if b=true then te σ2 H3 λv H4=>Pv (i+1) (ys++[v]) H4 else Pv (i+1) ys H3)
(hd:∀ys H,Pv (z.cps.size) ys H->∀p,H p=none->Q (.ref p) (upd H p (.lst ys))):
 uj (Pd z) pk g tt te σ H Q:=by
 rwa[⟨λi m ys H=>m=z.cps.size - i/\i<=z.cps.size/\Pv i ys H,⟨z.cps.size,by simp,Nat.zero_le _,h0⟩,?_⟩];rintro i m ys H ⟨rfl,hi,p⟩;have hl:=hlen _ _ _ p;by_cases hlt:i<z.cps.size
 ·rwa[.inr ⟨hlt,by omega,Pv (i+1),λzs H' p'=>⟨z.cps.size - (i+1),by omega,rfl,hlt,p'⟩,λx H' y=> ?_⟩];obtain ⟨e,c,hc,hv⟩:=y;subst e hv;exact hs i c ys _ hc p
 ·have e:i=z.cps.size:=by omega
  subst e;exact .inl ⟨Nat.le_refl _,by omega,hd ys H p⟩
end
section
variable {X:Cx}{K:Fg}
theorem zQ (hK:X.K=K):dD X (compareOp .In) (O8 K false):=hK▸BW
theorem ub (hK:X.K=K):dD X (compareOp .NotIn) (O8 K true):=hK▸wy
theorem IM (hK:X.K=K):CZ X (NV K):=hK▸Mh
def NU (K:Fg):List V->Hp->VK->Prop:=λxs H Q=>∃x,xs=[x]/\((∃z,x= .str z/\z.length<=sizeLine/\Q (.int z.length) H)\/∃p,x= .ref p/\∃ys,(aS K H p ys\/aP K H p ys)/\Q (.int ys.length) H)
theorem CJ (hK:X.K=K):bH X (.builtin "len") (NU K):=hK▸CI
def NW (K:Fg):List V->Hp->VK->Prop:=λxs H Q=>∃x c cv t b,xs=[x,c]/\cV c=some cv/\jH K H x t/\W.kitOne K t cv=some b/\Q (.bl b) H
theorem CK (hK:X.K=K):bH X (.builtin "isinstance") (NW K):=hK▸yI
def NZ (K:Fg):List V->Hp->VK->Prop:=λxs H Q=>∃(a:Addr) (bs:List Bool),xs=[.ref a]/\aS K H a (List.map V.bl bs)/\Q (.bl (bs.all id)) H
theorem CN (hK:X.K=K)(hc:X.calm=true):bH X (.builtin "all") (NZ K):=hK▸CO hc
def Hx (K:Fg):List V->Hp->VK->Prop:=λxs H Q=>∃p ys,xs=[.ref p]/\(aS K H p ys\/aP K H p ys)/\∀l,H l=none->Q (.ref l) (upd H l (.lst ys))
theorem Ar (hK:X.K=K):bH X (.type "list") (Hx K):=hK▸w4
def Ek (K:Fg):List V->Hp->VK->Prop:=λxs H Q=>∃p ys,xs=[.ref p]/\((aS K H p ys/\∀l,H l=none->Q (.ref l) (upd H l (.tup ys)))\/(aP K H p ys/\Q (.ref p) H))
theorem yH (hK:X.K=K):bH X (.type "tuple") (Ek K):=hK▸uk
def K5 (K:Fg):V->List V->Hp->VK->Prop:=λx xs H Q=>∃z a ts,x= .str z/\xs=[.ref a]/\aS K H a (ts.map V.str)/\(ts.toArray.foldl (· + ·.length+z.length) 0)<=sizeLine/\(Builtin.Str.glued z ts).length<=sizeLine/\Q (.str (Builtin.Str.glued z ts)) H
theorem Fb (hK:X.K=K):yP X "str.join" (K5 K):=hK▸Fa
theorem HK (hK:X.K=K){es:List Expr}{k:Nat}{t:Bm}{n:Nat}{pos:Pos}(hc:X.calm=true)(h:Gq X es t)
(hn:(assignEach es X.env).length=n:=by rfl)(hst:(assignEach es X.env).findIdx? (·.1)=none:=by rfl):PG X (.Tuple es k pos) (Ox K n t):=hK▸Lc hc h hn hst
end
theorem uo.refl (σ:St):uo σ σ:=⟨rfl,λ_ _ h=>h⟩
theorem uo.cons {σ σ':St}{o o':Option V}(h:o=none\/o=o')(s:uo σ σ'):uo (o::σ) (o'::σ'):=by
 rwa[⟨by simp [s.1],λi v e=> ?_⟩]
 cases i with
 |zero=>
  rcases h with rfl|rfl
  ·exact nomatch (show (none:Option V)=some v from Option.some.inj e)
  ·exact e
 |succ i=>exact s.2 i v (by simpa using e)
theorem Qe {σ:St}{x:V}:uo (none::σ) (some x::σ):= .cons (.inl rfl) (.refl _)
def bR:Expr->Bool
 | .Starred _ _=>false
 |_=>true
theorem bf {e:Expr}{es:List Expr}{env:Env}(h:bR e=true):starEach (e::es) env=(false,eval e env)::starEach es env:=by
 cases e<;>first|rfl|cases h
def aV:List Expr->Bool
 |[]=>true
 |e::es=>bR e&&aV es
theorem b0 {pos:Pos}{env:Env}:∀ {es:List Expr},aV es=true->(backTo pos (starEach es env)).any (·.1)=false
 |[],_=>rfl
 |e::es,h=>by
  have h':(bR e&&aV es)=true:=h;rw [Bool.and_eq_true] at h';rw [bf h'.1];show (false||(backTo pos (starEach es env)).any (·.1))=false;rw [b0 h'.2];rfl
theorem oH {pos:Pos}{env:Env}:∀ {es:List Expr},aV es=true->(backTo pos (starEach es env)).all (λx=> !x.1)=true
 |[],_=>rfl
 |e::es,h=>by
  have h':(bR e&&aV es)=true:=h;rw [Bool.and_eq_true] at h';rw [bf h'.1];show (true&&(backTo pos (starEach es env)).all (λx=> !x.1))=true;rw [oH h'.2];rfl
def eN:Expr->Bool
 | .Call _ [] [] _=>false
 |_=>true
theorem xh {o:Expr}{name:Str}{env:Env}{wh:Sem Value}(h:eN o=true):attributeBase o name env wh=wh:=by
 unfold attributeBase;split
 ·cases h
 ·rfl
def uG:Expr->Bool
 | .UnaryOp _ _ _=>false
 | .BoolOp _ _ _=>false
 | .IfExp _ _ _ _=>false
 | .Compare _ _ _ _=>false
 |_=>true
theorem Fp {e:Expr}{env:Env}{wh:Sem Value}(h:uG e=true):isTrue e env wh=(do let v<-wh;standAt e.pos;holding [v] (truthy v)):=by
 cases e<;>first|rfl|cases h
section
variable {X:Cx}{K:Fg}{x:Str}{p pos apos cpos:Pos}{e o a:Expr}{es:List Expr}{t:TA}{te to ta:TE}{ps:List Str}{sp:Sp}{n m:Nat}{id T:String}{r:List V->Hp->VK->Prop}{name:Str}{rm:V->List V->Hp->VK->Prop}
theorem ae (ha:PE X e te)(hr:PA X es t)(hs:bR e=true:=by rfl):PA X (e::es) (Dz te t):=HN ha hr (bf hs)
theorem aj (c:bp X.prog X.w X.K X.mg X.base n x ps sp)(hr:b4 m X.A)(hn:n<=m)(hg:Gl X x)(ha:PA X (e::es) t)(hdb:↑27=false:=by decide)(hp:aV (e::es)=true:=by rfl):
 PE X (.Call (.Name x p) (e::es) [] pos) (xM sp [] E0 t):=by
 have h':(bR e&&aV es)=true:=hp;rw [Bool.and_eq_true] at h';exact N2 c hr hn hg ha hdb (bf h'.1) (b0 h'.2)
theorem aG (hc:bH X (.builtin id) r)(hg:Gl X x)(hm:X.mg x=none)(hv:bootBuiltins x=some (.builtin id))(ha:PA X (e::es) t)(hn:x≠"__name__":=by decide)(hdb:↑27=false:=by decide)
(hp:aV (e::es)=true:=by rfl):PE X (.Call (.Name x p) (e::es) [] pos) (O7 r t):=by
 have h':(bR e&&aV es)=true:=hp;rw [Bool.and_eq_true] at h';exact Ew hc hg hm hv ha hn hdb (bf h'.1) (b0 h'.2)
theorem bU (hc:bH X (.type T) r)(hg:Gl X x)(hm:X.mg x=none)(hv:bootBuiltins x=some (.type T))(ha:PA X (e::es) t)(hn:x≠"__name__":=by decide)(hdb:↑27=false:=by decide)
(hp:aV (e::es)=true:=by rfl):PE X (.Call (.Name x p) (e::es) [] pos) (O7 r t):=by
 have h':(bR e&&aV es)=true:=hp;rw [Bool.and_eq_true] at h';exact BU hc hg hm hv ha hn hdb (bf h'.1) (b0 h'.2)
end
def uO (b:Bool)(A B:Prop):Prop:=if b=true then A else B
theorem rZ {b:Bool}{A B:Prop}(h1:b=true->A)(h2:b=false->B):uO b A B:=by
 cases b with
 |true=>exact h1 rfl
 |false=>exact h2 rfl
theorem cO {b:Bool}{A B:Prop}(e:b=true)(h:A):uO b A B:=by subst e;exact h
theorem bP {b:Bool}{A B:Prop}(e:b=false)(h:B):uO b A B:=by subst e;exact h
theorem oR {c:Prop}[Decidable c]{A B:Prop}(h1:c->A)(h2: ¬c->B):uO (decide c) A B:=rZ (λh=>h1 (of_decide_eq_true h)) (λh=>h2 (of_decide_eq_false h))
theorem m3 {c:Prop}[Decidable c]{A B:Prop}(hc:c)(h:A):uO (decide c) A B:=cO (decide_eq_true hc) h
theorem cP {c:Prop}[Decidable c]{A B:Prop}(hc: ¬c)(h:B):uO (decide c) A B:=bP (decide_eq_false hc) h
theorem QA {c:Prop}[Decidable c]{A B:Prop}(h1: ¬c->A)(h2:c->B):uO (!decide c) A B:=by
 by_cases h:c
 ·rw [decide_eq_true h];exact bP rfl (h2 h)
 ·rw [decide_eq_false h];exact cO rfl (h1 h)
theorem PE.imp {X:Cx}{e:Expr}{t t':TE}(h:PE X e t)(i:∀σ H Q,t' σ H Q->t σ H Q):PE X e t':=λpins s σ H Q I q=>h pins s σ H Q I (i σ H Q q)
theorem dD.imp {X:Cx}{f:Value->Value->Sem Value}{r r':R2}(h:dD X f r)(i:∀x y H Q,r' x y H Q->r x y H Q):dD X f r':=λpins s σ H x y v u Q I rx ry q=>h pins s σ H x y v u Q I rx ry (i _ _ _ _ q)
theorem CZ.imp {X:Cx}{r r':R2}(h:CZ X r)(i:∀x y H Q,r' x y H Q->r x y H Q):CZ X r':=λvalue slice pins s σ H x y v u Q I rx ry q=>h value slice pins s σ H x y v u Q I rx ry (i _ _ _ _ q)
theorem bH.imp {X:Cx}{f:Value}{r r':List V->Hp->VK->Prop}(h:bH X f r)(i:∀xs H Q,r' xs H Q->r xs H Q):bH X f r':=λpins s σ H xs us Q I rx q=>h pins s σ H xs us Q I rx (i _ _ _ q)
theorem yP.imp {X:Cx}{id:String}{r r':V->List V->Hp->VK->Prop}(h:yP X id r)(i:∀x xs H Q,r' x xs H Q->r x xs H Q):yP X id r':=λpins s σ H x xs v us Q I rx rs q=>h pins s σ H x xs v us Q I rx rs (i _ _ _ _ q)
def G2 (i:Nat):TE:=λσ H Q=>match σ[i]? with|some (some v)=>Q v H|_=>False
theorem wv {X:Cx}(i:Nat){x:Str}{pos:Pos}(hN:X.N[i]? =some x:=by rfl)(hv:OR X.env.scope x:=by first|exact Or.inl rfl|exact Or.inr ↑7|exact Or.inr (Or.inr rfl))(hd:↑27=false:=by decide)
(hcd:(x==("__classdict__":Str))=false:=by decide):PE X (.Name x pos) (G2 i):=
 (Ep hN hv hd hcd).imp λσ H Q h=>by
   unfold G2 at h
   cases e:σ[i]? with
   |none=>rw [e] at h;exact h.elim
   |some o=>
    cases o with
    |none=>rw [e] at h;exact h.elim
    |some v=>rw [e] at h;exact ⟨v,e,h⟩
def wI (g:Int->Int->V):R2:=λx y H Q=>match x,y with| .int i,.int j=>Q (g i j) H|_,_=>False
def wC (C:Int->Int->Prop)(g:Int->Int->V):R2:=λx y H Q=>match x,y with| .int i,.int j=>C i j/\Q (g i j) H|_,_=>False
theorem kJ {g:Int->Int->V}:∀x y H Q,wI g x y H Q->El g x y H Q:=λx y H Q h=>by
 cases x with
 |int i=>cases y with
  |int j=>exact ⟨i,j,rfl,rfl,h⟩
  |_=>exact False.elim h
 |_=>exact False.elim h
theorem y7 {C:Int->Int->Prop}{g:Int->Int->V}:∀x y H Q,wC C g x y H Q->rI C g x y H Q:=λx y H Q h=>by
 cases x with
 |int i=>cases y with
  |int j=>exact ⟨i,j,rfl,rfl,h⟩
  |_=>exact False.elim h
 |_=>exact False.elim h
section
variable {X:Cx}{K:Fg}
theorem eK:dD X (binaryOp .Sub) (wI λi j=> .int (i - j)):=Li.imp kJ
theorem vk:dD X (binaryOp .FloorDiv) (wC CS λi j=> .int (i / j)):=HP.imp y7
def PH:R2:=λx y H Q=>match x,y with| .int i,.int j=>0<j/\Q (.int (i% j)) H|_,_=>False
theorem iG:dD X (binaryOp .Mod) PH:=Ll.imp λx y H Q h=>y7 (C:=λ_ j=>0<j) (g:=λi j=> .int (i% j)) x y H Q (by
 cases x with
 |int i=>cases y with
  |int j=>exact h
  |_=>exact False.elim h
 |_=>exact False.elim h)
theorem Js:dD X (binaryOp .LShift) (wC GK λi j=> .int (i*2^j.toNat)):=Lj.imp y7
theorem M7:dD X (binaryOp .BitAnd) (wI λi j=> .int (Builtin.bitAnd i j)):=Lo.imp kJ
theorem Ps:dD X (binaryOp .BitOr) (wI λi j=> .int (Builtin.bitOr i j)):=N4.imp kJ
theorem w_lt:dD X (compareOp .Lt) (wI λi j=> .bl (decide (i<j))):=N6.imp kJ
theorem l8:dD X (compareOp .LtE) (wI λi j=> .bl (decide (i<=j))):=N7.imp kJ
theorem iP:dD X (compareOp .Gt) (wI λi j=> .bl (decide (j<i))):=N8.imp kJ
theorem GZ:dD X (compareOp .GtE) (wI λi j=> .bl (decide (j<=i))):=N9.imp kJ
def Jd (p q:Addr)(H:Hp)(Q:VK):Prop:=∃xs ys,H p=some (.lst xs)/\H q=some (.lst ys)/\xs.length+ys.length<=sizeLine/\∀l,H l=none->Q (.ref l) (upd H l (.lst (xs++ys)))
def PZ:R2:=λx y H Q=>match x,y with
 | .int i,.int j=>Q (.int (i+j)) H
 | .str a,.str b=>a.length+b.length<=sizeLine/\Q (.str (a++b)) H
 | .ref p,.ref q=>Jd p q H Q
 |_,_=>False
theorem M8:dD X (binaryOp .Add) PZ:=(Lp.or (zR.or Ln)).imp λx y H Q h=>by
 cases x with
 |int i=>cases y with
  |int j=>exact .inl ⟨i,j,rfl,rfl,h⟩
  |_=>exact False.elim h
 |str a=>cases y with
  |str b=>exact .inr (.inl ⟨a,b,rfl,rfl,h⟩)
  |_=>exact False.elim h
 |ref p=>cases y with
  |ref q=>obtain ⟨xs,ys,h1,h2,h3,h4⟩:=h;exact .inr (.inr ⟨p,q,xs,ys,rfl,rfl,h1,h2,h3,h4⟩)
  |_=>exact False.elim h
 |_=>exact False.elim h
def PF:R2:=λx y H Q=>match x,y with
 | .int i,.int j=>tK i j/\Q (.int (i*j)) H
 | .str z,.int n=>(1<n/\n<=1000/\0<z.length/\z.length<=1000)/\Q (.str ⟨(List.replicate n.toNat z.cps).foldl (· ++ ·) #[]⟩) H
 |_,_=>False
theorem lZ:dD X (binaryOp .Mult) PF:=(Lk.or zP).imp λx y H Q h=>by
 cases x with
 |int i=>cases y with
  |int j=>exact .inl ⟨i,j,rfl,rfl,h⟩
  |_=>exact False.elim h
 |str z=>cases y with
  |int n=>exact .inr ⟨z,n,rfl,rfl,h.1.1,h.1.2.1,h.1.2.2.1,h.1.2.2.2,h.2⟩
  |_=>exact False.elim h
 |_=>exact False.elim h
def PD:V->Hp->VK->Prop:=λx H Q=>match x with| .int i=>Q (.int (-i)) H|_=>False
theorem lY:MM X (unaryOp .USub) PD:=λpins s σ H x v Q I rx h=>by
 cases x with
 |int i=>exact Kp pins s σ H _ v Q I rx ⟨i,rfl,h⟩
 |_=>exact False.elim h
def OB:V->V->Option Bool
 | .non,.non=>some true
 | .int i,.int j=>some (decide (i=j))
 | .str a,.str b=>some (decide (a=b))
 | .bl a,.bl b=>some (decide (a=b))
 | .non,.int _=>some false| .int _,.non=>some false| .non,.str _=>some false| .str _,.non=>some false| .non,.bl _=>some false| .bl _,.non=>some false
 | .int _,.str _=>some false| .str _,.int _=>some false| .bl _,.str _=>some false| .str _,.bl _=>some false
 |_,_=>none
theorem FL {x y:V}{b:Bool}(h:OB x y=some b):KR x y=true/\decide (x=y)=b:=by
 cases x<;>cases y<;>first|cases h|skip
 all_goals first
  |exact ⟨rfl,by simp⟩
  |(refine ⟨rfl,?_⟩;simp)
def PN (neg:Bool):R2:=λx y H Q=>match y with
 | .non=>(match x with| .non=>Q (.bl (!neg)) H|_=>Q (.bl neg) H)
 |_=>False
theorem Jt:dD X (compareOp .Is) (PN false):=Lm.imp λx y H Q h=>by
 cases y with
 |non=>cases x<;>exact ⟨rfl,h⟩
 |_=>exact False.elim h
def qD (K:Fg)(neg:Bool)(x:V)(p:Addr)(H:Hp)(Q:VK):Prop:=∃xs,(aS K H p xs\/aP K H p xs)/\dh x=true/\xs.all dh=true/\Q (.bl (if neg then !uN x xs else uN x xs)) H
def pH (a b:Str):Bool:= !(Builtin.Str.occurrences b a 0 b.length 1).isEmpty
def QQ (K:Fg)(neg:Bool):R2:=λx y H Q=>match y with
 | .str b=>(match x with| .str a=>Q (.bl (if neg then !pH a b else pH a b)) H|_=>False)
 | .ref p=>qD K neg x p H Q
 |_=>False
theorem Bq (hK:X.K=K):dD X (compareOp .In) (QQ K false):=(BV.or (zQ hK)).imp λx y H Q h=>by
 cases y with
 |str b=>cases x with
  |str a=>exact .inl ⟨a,b,rfl,rfl,h⟩
  |_=>exact False.elim h
 |ref p=>obtain ⟨xs,h1,h2,h3,h4⟩:=h;exact .inr ⟨p,xs,rfl,h1,h2,h3,h4⟩
 |_=>exact False.elim h
theorem qa (hK:X.K=K):dD X (compareOp .NotIn) (QQ K true):=(ww.or (ub hK)).imp λx y H Q h=>by
 cases y with
 |str b=>cases x with
  |str a=>exact .inl ⟨a,b,rfl,rfl,h⟩
  |_=>exact False.elim h
 |ref p=>obtain ⟨xs,h1,h2,h3,h4⟩:=h;exact .inr ⟨p,xs,rfl,h1,h2,h3,h4⟩
 |_=>exact False.elim h
def mx (K:Fg)(p:Addr)(i:Int)(H:Hp)(Q:VK):Prop:=∃xs,(aS K H p xs\/aP K H p xs)/\∃v,pW xs i=some v/\Q v H
def vJ (z:Str)(i:Int)(H:Hp)(Q:VK):Prop:=z.length<=sizeLine/\∃c,pW z.cps.toList i=some c/\Q (.str ⟨#[c]⟩) H
def QY (K:Fg):R2:=λx y H Q=>match x,y with
 | .str z,.int i=>vJ z i H Q
 | .ref p,.int i=>mx K p i H Q
 |_,_=>False
theorem aB (hK:X.K=K):CZ X (QY K):=(IM hK).imp λx y H Q h=>by
 cases x with
 |str z=>cases y with
  |int i=>obtain ⟨h1,h2⟩:=h;exact ⟨i,rfl,.inl ⟨z,rfl,h1,h2⟩⟩
  |_=>exact False.elim h
 |ref p=>cases y with
  |int i=>obtain ⟨xs,h1,h2⟩:=h;exact ⟨i,rfl,.inr ⟨p,rfl,xs,h1,h2⟩⟩
  |_=>exact False.elim h
 |_=>exact False.elim h
def iZ (K:Fg)(p:Addr)(H:Hp)(Q:VK):Prop:=∃ys,(aS K H p ys\/aP K H p ys)/\Q (.int ys.length) H
def PM (K:Fg):List V->Hp->VK->Prop:=λxs H Q=>match xs with
 |[.str z]=>z.length<=sizeLine/\Q (.int z.length) H
 |[.ref p]=>iZ K p H Q
 |_=>False
theorem cI (hK:X.K=K):bH X (.builtin "len") (PM K):=(CJ hK).imp λxs H Q h=>by
 match xs,h with
 |[.str z],h=>exact ⟨_,rfl,.inl ⟨z,rfl,h⟩⟩
 |[.ref p],h=>exact ⟨_,rfl,.inr ⟨p,rfl,h⟩⟩
def IN:V->String->Option Bool
 | .non,T=>some (T=="NoneType")
 | .bl _,T=>some (T=="bool"||T=="int")
 | .int _,T=>some (T=="int")
 | .str _,T=>some (T=="str")
 |_,_=>none
def lC (K:Fg)(x c:V)(H:Hp)(Q:VK):Prop:=∃cv t b,cV c=some cv/\jH K H x t/\W.kitOne K t cv=some b/\Q (.bl b) H
def wm (T:String):Bool:=T=="int"||T=="str"||T=="bool"||T=="list"||T=="tuple"||T=="dict"
def Kj (K:Fg):List V->Hp->VK->Prop:=λxs H Q=>match xs with
 |[x,.ty T]=>(match IN x T with|some b=>wm T=true/\Q (.bl b) H|none=>lC K x (.ty T) H Q)
 |[x,c]=>lC K x c H Q
 |_=>False
end
theorem Cl {K:Fg}{H:Hp}{x:V}{T:String}{b:Bool}(h:IN x T=some b)(hp:wm T=true):∃t,jH K H x t/\W.kitOne K t (.type T)=some b:=by
 have ho:T="int"\/T="str"\/T="bool"\/T="list"\/T="tuple"\/T="dict":=by
  unfold wm at hp;simp only [Bool.or_eq_true,beq_iff_eq] at hp
  rcases hp with ((((h|h)|h)|h)|h)|h<;>simp [h]
 cases x with
 |non=>refine ⟨_,.non,?_⟩;rcases ho with rfl|rfl|rfl|rfl|rfl|rfl<;>(cases h;rfl)
 |bl y=>refine ⟨_,.bl y,?_⟩;rcases ho with rfl|rfl|rfl|rfl|rfl|rfl<;>(cases h;rfl)
 |int y=>refine ⟨_,.int y,?_⟩;rcases ho with rfl|rfl|rfl|rfl|rfl|rfl<;>(cases h;rfl)
 |str y=>refine ⟨_,.str y,?_⟩;rcases ho with rfl|rfl|rfl|rfl|rfl|rfl<;>(cases h;rfl)
 |_=>cases h
section
variable {X:Cx}{K:Fg}{a b c e:Expr}{ta tb te:TE}{tA tB':TT}{cK:List Expr}{pos:Pos}
theorem M5 (hK:X.K=K):bH X (.builtin "isinstance") (Kj K):=(CK hK).imp λxs H Q h=>by
 have ref:∀x c,lC K x c H Q->NW K [x,c] H Q:=λx c ⟨cv,t,b,h1,h2,h3,h4⟩=>⟨x,c,cv,t,b,rfl,h1,h2,h3,h4⟩
 match xs,h with
 |[x,.ty T],h=>
  have h':(match IN x T with|some b=>wm T=true/\Q (.bl b) H|none=>lC K x (.ty T) H Q):=h
  cases e:IN x T with
  |none=>rw [e] at h';exact ref _ _ h'
  |some b=>
   rw [e] at h';obtain ⟨t,h1,h2⟩:=Cl (K:=K) (H:=H) e h'.1;exact ⟨x,.ty T,_,t,b,rfl,rfl,h1,h2,h'.2⟩
 |[x,.ref C],h=>exact ref _ _ h
 |[x,.non],h=>exact ref _ _ h
 |[x,.bl _],h=>exact ref _ _ h
 |[x,.int _],h=>exact ref _ _ h
 |[x,.str _],h=>exact ref _ _ h
 |[x,.byt _],h=>exact ref _ _ h
 |[x,.flt _],h=>exact ref _ _ h
def Nc (t:TE):TT:=λσ H Q=>t σ H λx H'=>match x with| .bl k=>Q k H'|_=>False
theorem ax {op:CmpOp}{r:R2}(ho:dD X (compareOp op) r)(ha:PE X a ta)(hb:PE X b tb)(hm:behindInMarks op b=false):PT X (.Compare a [op] [b] pos) (Nc (O6 r ta tb)):=by
 intro pins s σ H Q I h
 refine wpAny_isTrue_Compare1 (bT (ha pins s σ H _ I h) λv s1 ⟨x,H1,I1,r1,q1⟩=>bT (hb pins s1 σ H1 _ I1 q1) λu s2 ⟨y,H2,I2,r2,q2⟩=>
  bT (ho pins s2 σ H2 x y v u _ I2 r1 r2 q2) λcv s3 ⟨z,H3,I3,r3,q3⟩=> ?_) hm
 cases z with
 |bl k=>cases r3;exact wpAny_truthy_bool ⟨H3,I3,q3⟩
 |_=>exact False.elim q3
def qB (K:Fg)(p:Addr)(H:Hp)(Q:Bool->Hp->Prop):Prop:=(∃xs,(aS K H p xs\/aP K H p xs)/\Q (!xs.isEmpty) H)\/∃kvs,H p=some (.dK kvs)/\Q (!kvs.isEmpty) H
def Nb (K:Fg)(ta:TE):TT:=λσ H Q=>ta σ H λx H'=>match x with
 | .bl k=>Q k H'
 | .non=>Q false H'
 | .int i=>Q (i != 0) H'
 | .str y=>y.length<=sizeLine/\Q ((y.length:Int) != 0) H'
 | .ref p=>qB K p H' Q
 |_=>False
theorem bZ (hK:X.K=K)(ha:PE X a ta)(hp:uG a=true:=by rfl):PT X a (Nb K ta):=by
 subst hK;intro pins s σ H Q I h;rwa[isTrue_plain (bT (ha pins s σ H _ I h) λv s1 ⟨x,H1,I1,r1,q1⟩=> ?_) (Fp hp)]
 cases x with
 |bl k=>exact iR pins s1 σ H1 _ v Q I1 r1 ⟨k,rfl,q1⟩
 |non=>exact iR pins s1 σ H1 _ v Q I1 r1 ⟨false,rfl,q1⟩
 |int i=>exact iR pins s1 σ H1 _ v Q I1 r1 ⟨_,rfl,q1⟩
 |str y=>exact iR pins s1 σ H1 _ v Q I1 r1 ⟨_,⟨q1.1,rfl⟩,q1.2⟩
 |ref p=>
  rcases q1 with ⟨xs,hq|hq,q⟩|⟨kvs,hq,q⟩
  ·exact iR pins s1 σ H1 _ v Q I1 r1 ⟨_,.inl ⟨xs,hq,rfl⟩,q⟩
  ·exact iR pins s1 σ H1 _ v Q I1 r1 ⟨_,.inr (.inl ⟨xs,hq,rfl⟩),q⟩
  ·exact iR pins s1 σ H1 _ v Q I1 r1 ⟨_,.inr (.inr ⟨kvs,hq,rfl⟩),q⟩
 |_=>exact False.elim q1
def PX (t u:TT):TT:=λσ H Q=>t σ H λc H1=>uO c (u σ H1 Q) (Q false H1)
def QX (t u:TT):TT:=λσ H Q=>t σ H λc H1=>uO c (Q true H1) (u σ H1 Q)
theorem dj (ha:PT X a tA)(hb:PW X (.BoolOp .And (b::cK) pos) tB'):PW X (.BoolOp .And (a::b::cK) pos) (PX tA tB'):=K6 ha hb
theorem fU (ha:PT X a tA)(hb:PW X (.BoolOp .Or (b::cK) pos) tB'):PW X (.BoolOp .Or (a::b::cK) pos) (QX tA tB'):=N0 ha hb
def Np (ta tb:TE):TE:=λσ H Q=>ta σ H λx H1=>match x with| .bl c=>uO c (tb σ H1 Q) (Q (.bl false) H1)|_=>False
def Pz (ta tb:TE):TE:=λσ H Q=>ta σ H λx H1=>match x with| .bl c=>uO c (Q (.bl true) H1) (tb σ H1 Q)|_=>False
theorem gQ (ha:PE X a ta)(hb:PE X (.BoolOp .And (b::cK) pos) tb):PE X (.BoolOp .And (a::b::cK) pos) (Np ta tb):=by
 intro pins s σ H Q I h;rwa[BoolOp_and (bT (ha pins s σ H _ I h) λv s1 ⟨x,H1,I1,r1,q1⟩=> ?_)]
 cases x with
 |bl c=>
  cases r1;rwa[wpAny_truthy_bool ?_]
  cases c with
  |true=>exact hb pins s1 σ H1 Q I1 q1
  |false=>exact ⟨.bl false,H1,I1,rfl,q1⟩
 |_=>exact False.elim q1
theorem C8 (ha:PE X a ta)(hb:PE X (.BoolOp .Or (b::cK) pos) tb):PE X (.BoolOp .Or (a::b::cK) pos) (Pz ta tb):=by
 intro pins s σ H Q I h;rwa[BoolOp_or (bT (ha pins s σ H _ I h) λv s1 ⟨x,H1,I1,r1,q1⟩=> ?_)]
 cases x with
 |bl c=>
  cases r1;rwa[wpAny_truthy_bool ?_]
  cases c with
  |false=>exact hb pins s1 σ H1 Q I1 q1
  |true=>exact ⟨.bl true,H1,I1,rfl,q1⟩
 |_=>exact False.elim q1
def PB (K:Fg)(ta:TE):TE:=λσ H Q=>ta σ H λx H'=>match x with
 | .bl k=>Q (.bl (!k)) H'
 | .non=>Q (.bl true) H'
 | .int i=>Q (.bl (!(i != 0))) H'
 | .str y=>y.length<=sizeLine/\Q (.bl (!((y.length:Int) != 0))) H'
 | .ref p=>qB K p H' λk H2=>Q (.bl (!k)) H2
 |_=>False
theorem C9 (hK:X.K=K)(ha:PE X a ta):PE X (.UnaryOp .Not a pos) (PB K ta):=by
 subst hK;intro pins s σ H Q I h;rwa[UnaryOp_ (bT (ha pins s σ H _ I h) λv s1 ⟨x,H1,I1,r1,q1⟩=> ?_)]
 have go:(∃k,OS X.K x H1 k/\Q (.bl (!k)) H1)->wpAny ↑8 X.A (unaryOp .Not v) (EP X pins σ Q) X.xe s1:=λh=>
  not_of (bT (iR pins s1 σ H1 x v (λk H2=>Q (.bl (!k)) H2) I1 r1 h) λk s2 ⟨H2,I2,q2⟩=>⟨.bl (!k),H2,I2,rfl,q2⟩)
 cases x with
 |bl k=>exact go ⟨k,rfl,q1⟩
 |non=>exact go ⟨false,rfl,q1⟩
 |int i=>exact go ⟨_,rfl,q1⟩
 |str y=>exact go ⟨_,⟨q1.1,rfl⟩,q1.2⟩
 |ref p=>
  rcases q1 with ⟨xs,hq|hq,q⟩|⟨kvs,hq,q⟩
  ·exact go ⟨_,.inl ⟨xs,hq,rfl⟩,q⟩
  ·exact go ⟨_,.inr (.inl ⟨xs,hq,rfl⟩),q⟩
  ·exact go ⟨_,.inr (.inr ⟨kvs,hq,rfl⟩),q⟩
 |_=>exact False.elim q1
def PQ (t:TT)(ta tb:TE):TE:=λσ H Q=>t σ H λc H1=>uO c (ta σ H1 Q) (tb σ H1 Q)
theorem cL (hc:PT X c tA)(ha:PE X a ta)(hb:PE X b tb):PE X (.IfExp c a b pos) (PQ tA ta tb):=Et hc ha hb
def PP (c:TT)(t u:TS):TS:=λD σ H=>c σ H λb H1=>uO b (t D σ H1) (u D σ H1)
theorem aI {t u:TS}{p q:List Stmt}(hc:PT X c tA)(ha:uq X p t)(hb:uq X q u):PS X (.If c p q pos) (PP tA t u):=N1 hc ha hb
def AN (K:Fg)(p:Addr)(lo hi:Option Int)(H:Hp)(Q:VK):Prop:=(∃xs,aS K H p xs/\∀l,H l=none->Q (.ref l) (upd H l (.lst (j9 xs lo hi))))\/
 ∃xs,aP K H p xs/\ ¬(HT.sIx xs.length 0 lo=0/\HT.sIx xs.length xs.length hi=xs.length)/\∀l,H l=none->Q (.ref l) (upd H l (.tup (j9 xs lo hi)))
def QW (K:Fg):V->Option Int->Option Int->Hp->VK->Prop:=λx lo hi H Q=>match x with| .ref p=>AN K p lo hi H Q|_=>False
theorem Pr (hK:X.K=K):JR X (QW K):=by
 subst hK;intro pins s σ H x v vl vu lo hi sl Q I rx hs pl pu h
 cases x with
 |ref p=>
  rcases h with ⟨xs,h1,h2⟩|⟨xs,h1,h2,h3⟩
  ·exact Hm pins s σ H _ v vl vu lo hi sl Q I rx hs pl pu ⟨p,xs,rfl,h1,h2⟩
  ·exact DS pins s σ H _ v vl vu lo hi sl Q I rx hs pl pu ⟨p,xs,rfl,h1,h2,h3⟩
 |_=>exact False.elim h
def Nf (t:TE):TO:=λσ H Q=>t σ H λx H1=>match x with| .int i=>Q (some i) H1|_=>False
theorem lV (h:PE X e te):PO X (some e) (Nf te):=by
 intro pins s σ H Q I hw;rw [evalPart_some];rwa[bT (h pins s σ H _ I hw) λu s1 ⟨x,H1,I1,r1,q1⟩=> ?_]
 cases x with
 |int i=>obtain ⟨t,rfl⟩:=r1;exact ⟨some i,H1,I1,.int i t,q1⟩
 |_=>exact False.elim q1
def Di (K:Fg)(T:String)(x:V)(H:Hp)(P:Prop):Prop:=match x with
 | .str _=>T="str"/\P
 | .int _=>T="int"/\P
 | .ref _=>O4 K T x H/\P
 |_=>False
def Q0 (K:Fg)(T:String)(r:V->List V->Hp->VK->Prop)(to:TE)(t:TA):TE:=λσ H Q=>to σ H λx H1=>Di K T x H1 (t σ H1 λxs H2=>r x xs H2 Q)
end
section
variable {X:Cx}{K:Fg}{o e:Expr}{es:List Expr}{to:TE}{t:TA}{name:Str}{apos cpos:Pos}{T id:String}{r:V->List V->Hp->VK->Prop}
theorem xD {x:V}{H:Hp}{P:Prop}(h:Di K T x H P):O4 K T x H/\P:=by
 cases x with
 |str z=>exact h
 |int i=>exact h
 |ref p=>exact h
 |_=>exact False.elim h
theorem dY (hK:X.K=K)(pa:PlainAttrs T)(slot:Slot T name id)(hty:typeOf (.builtin id)=pure (.type "method_descriptor"))(hm:yP X id r)(ho:PE X o to)(ha:PA X (e::es) t)
(hb:eN o=true:=by rfl)(hp:aV (e::es)=true:=by rfl)(hl:(e::es).length<29:=by decide)(hline:(apos.endLine==cpos.line)=true:=by rfl):
 PE X (.Call (.Attribute o name apos) (e::es) [] cpos) (Q0 K T r to t):=by
 subst hK;have h':(bR e&&aV es)=true:=hp;rw [Bool.and_eq_true] at h';have hs:starEach (e::es) X.env=(false,eval e X.env)::starEach es X.env:=bf h'.1;have hplain:(backTo cpos (starEach es X.env)).any (·.1)=false:=b0 h'.2
 have hfew:((backTo cpos (starEach (e::es) X.env)).all (λx=> !x.1)&&(backToKw cpos (keywordEach [] X.env)).all (λx=>x.1.isSome)
  &&decide ((e::es).length+([]:List Keyword).length+(if ([]:List Keyword).isEmpty then 0 else 1)<30))=true:=by
  rw [oH hp,arm_keywordEach_nil];show (true&&true&&decide ((e::es).length+0+0<30))=true;rw [decide_eq_true ↑6];rfl
 intro pins s σ H Q I h;rwa[wpAny_Call_method_late (xh hb) hfew hline rfl (bT (ho pins s σ H _ I h) λv s1 ⟨x,H1,I1,r1,q1⟩=> ?_)];obtain ⟨ty,q1⟩:=xD q1;obtain ⟨h1,h2⟩:=Do I1 r1 ty;rwa[⟨T,id,pa,slot,hty,h1,h2,?_⟩];have hA:=ha cpos pins s1 σ H1 _ I1 q1;rw [hs] at hA ⊢;rwa[Calls.callWith_builtin (by show (false||(backTo cpos (starEach es X.env)).any (·.1))=false;rw [hplain]<;>rfl) (Calls.evalArgs_plain ?_)];exact bT hA λus s2 ⟨vs,H2,I2,r2,q2⟩=>hm pins s2 σ H2 x vs v us Q I2 r1 r2 q2
def PV (K:Fg)(T:String)(r:V->List V->Hp->VK->Prop)(to:TE):TE:=λσ H Q=>to σ H λx H1=>Di K T x H1 (r x [] H1 Q)
theorem Dc (hK:X.K=K)(pa:PlainAttrs T)(slot:Slot T name id)(hty:typeOf (.builtin id)=pure (.type "method_descriptor"))(hm:yP X id r)(ho:PE X o to)
(hb:eN o=true:=by rfl)(hline:(apos.endLine==cpos.line)=true:=by rfl):PE X (.Call (.Attribute o name apos) [] [] cpos) (PV K T r to):=by
 subst hK;intro pins s σ H Q I h;rwa[wpAny_Call_method0_late (xh hb) hline (bT (ho pins s σ H _ I h) λv s1 ⟨x,H1,I1,r1,q1⟩=> ?_)];obtain ⟨ty,q1⟩:=xD q1;obtain ⟨h1,h2⟩:=Do I1 r1 ty;exact ⟨T,id,pa,slot,hty,h1,h2,Calls.callWith_builtin rfl (PySem.evalArgs_none (hm pins s1 σ H1 x [] v [] Q I1 r1 .nil q1))⟩
def FI (z y:Str):Int:=match Builtin.Str.occurrences z y 0 z.length 1 with|i::_=>(i:Int)|[]=> -1
def A3 (K:Fg)(z:Str)(a:Addr)(H:Hp)(Q:VK):Prop:=∃ts:List Str,aS K H a (ts.map V.str)/\(ts.toArray.foldl (· + ·.length+z.length) 0)<=sizeLine/\(Builtin.Str.glued z ts).length<=sizeLine/\Q (.str (Builtin.Str.glued z ts)) H
def Nk (K:Fg):V->List V->Hp->VK->Prop:=λx xs H Q=>match x,xs with| .str z,[.ref a]=>A3 K z a H Q|_,_=>False
theorem Dg (hK:X.K=K):yP X "str.join" (Nk K):=(Fb hK).imp λx xs H Q h=>by
 match x,xs,h with
 | .str z,[.ref a],h=>obtain ⟨ts,h1⟩:=h;exact ⟨z,a,ts,rfl,rfl,h1⟩
def Nn:V->List V->Hp->VK->Prop:=λx xs H Q=>match x,xs with| .int i,[]=>Q (.int (Builtin.Int.intBits i)) H|_,_=>False
theorem Dh:yP X "int.bit_length" Nn:=IC.imp λx xs H Q h=>by
 match x,xs,h with
 | .int i,[],h=>exact ⟨i,rfl,rfl,h⟩
def Jg (a:Addr)(y:V)(H:Hp)(Q:VK):Prop:=∃xs,H a=some (.lst xs)/\xs.length<sizeLine/\Q .non (upd H a (.lst (xs++[y])))
def G6:V->List V->Hp->VK->Prop:=λx xs H Q=>match x,xs with| .ref a,[y]=>Jg a y H Q|_,_=>False
theorem dB:yP X "list.append" G6:=by
 intro pins s σ H x xs v us Q I rx rs h
 match x,xs,h with
 | .ref a,[y],h=>
   obtain ⟨ys,h1,h2,h3⟩:=h;exact Cd pins s σ H _ _ v us Q I rx rs ⟨a,ys,y,rfl,rfl,h1,h2,h3⟩
def Jk (K:Fg)(a:Addr)(H:Hp)(Q:VK):Prop:=∃bs:List Bool,aS K H a (List.map V.bl bs)/\Q (.bl (bs.all _root_.id)) H
def PY (K:Fg):List V->Hp->VK->Prop:=λxs H Q=>match xs with|[.ref a]=>Jk K a H Q|_=>False
theorem Ju (hK:X.K=K)(hc:X.calm=true):bH X (.builtin "all") (PY K):=(CN hK hc).imp λxs H Q h=>by
 match xs,h with
 |[.ref a],h=>obtain ⟨bs,h1⟩:=h;exact ⟨a,bs,rfl,h1⟩
def yr (K:Fg)(p:Addr)(H:Hp)(Q:VK):Prop:=∃ys,(aS K H p ys\/aP K H p ys)/\∀l,H l=none->Q (.ref l) (upd H l (.lst ys))
def Nj (K:Fg):List V->Hp->VK->Prop:=λxs H Q=>match xs with|[.ref a]=>yr K a H Q|_=>False
theorem vj (hK:X.K=K):bH X (.type "list") (Nj K):=(Ar hK).imp λxs H Q h=>by
 match xs,h with
 |[.ref a],h=>obtain ⟨ys,h1⟩:=h;exact ⟨a,ys,rfl,h1⟩
def Bt (K:Fg)(p:Addr)(H:Hp)(Q:VK):Prop:=∃ys,(aS K H p ys/\∀l,H l=none->Q (.ref l) (upd H l (.tup ys)))\/(aP K H p ys/\Q (.ref p) H)
def Kh (K:Fg):List V->Hp->VK->Prop:=λxs H Q=>match xs with|[.ref a]=>Bt K a H Q|_=>False
theorem gR (hK:X.K=K):bH X (.type "tuple") (Kh K):=(yH hK).imp λxs H Q h=>by
 match xs,h with
 |[.ref a],h=>obtain ⟨ys,h1⟩:=h;exact ⟨a,ys,rfl,h1⟩
def yw (K:Fg)(p:Addr)(H:Hp)(R:It->Hp->Prop):Prop:=(∃xs,aS K H p xs/\R (GD K p) H)\/∃xs,aP K H p xs/\R (Gz K p) H
def Px (K:Fg)(te:TE):TI:=λσ H R=>te σ H λx H1=>match x with| .str z=>R (Pd z) H1| .ref p=>yw K p H1 R|_=>False
end
theorem bF {X:Cx}{K:Fg}(hK:X.K=K){tg e:Expr}{te:TE}(he:PE X e te):PI X tg e (Px K te):=by
 subst hK;intro pins s σ H R I h;rwa[bT (he pins s σ H _ I h) λv s1 ⟨x,H1,I1,r1,q⟩=> ?_];have one:∀ {t:TE},True:=λ{_}=>trivial
 have go:((∃z,x= .str z/\R (Pd z) H1)\/(∃a,x= .ref a/\(∃xs,aS X.K H1 a xs)/\R (GD X.K a) H1)\/(∃a,x= .ref a/\(∃xs,aP X.K H1 a xs)/\R (Gz X.K a) H1))->
  wpAny ↑8 X.A (pyIter v) (QL X pins σ tg R) X.xe s1:=λq=>by
  rcases q with ⟨z,rfl,q⟩|⟨a,rfl,⟨xs,hq⟩,q⟩|⟨a,rfl,⟨xs,hq⟩,q⟩
  ·obtain ⟨t,rfl⟩:=r1
   have fp:∀b∈[s1.heap.objs.size],jL X pins H1 b:=λb hb=>by
    have e:b=s1.heap.objs.size:=by simpa using hb
    subst e;exact I1.fpOk ↑13 (I1.hok.fresh ↑13)
   cases ha:z.cps.all (· <128)
   ·exact wpAny_pyIter_wide ha ⟨s1.heap.objs.size,[s1.heap.objs.size],_,_,H1,rfl,I1.kept (t':=s1.toks) λb o e=>Heap.get?_push_of_some _ e,uw (.inr rfl),⟨Nat.zero_le _,_,Heap.get?_push_size _ rfl,rfl,rfl⟩,fp,q⟩
   ·exact wpAny_pyIter_ascii ha ⟨s1.heap.objs.size,[s1.heap.objs.size],_,_,H1,rfl,I1.kept (t':=s1.toks) λb o e=>Heap.get?_push_of_some _ e,uw (.inl rfl),⟨Nat.zero_le _,_,Heap.get?_push_size _ rfl,rfl,rfl⟩,fp,q⟩
  ·cases r1;obtain ⟨its,rv,p,hz⟩:=I1.list hq;rwa[wpAny_pyIter_list p.isList ?_];rwa[⟨s1.heap.objs.size,[s1.heap.objs.size],_,_,H1,rfl,I1.kept (t':=s1.toks) λb o e=>Heap.get?_push_of_some _ e,Bs a _,⟨_,Heap.get?_push_size _ rfl,rfl,rfl⟩,λb hb=> ?_,q⟩]
   have e:b=s1.heap.objs.size:=by simpa using hb
   subst e;exact I1.fpOk ↑13 (I1.hok.fresh ↑13)
  ·cases r1;obtain ⟨its,rv,p,hz⟩:=I1.tuple hq;rwa[wpAny_pyIter_tuple (show s1.heap.IsTuple a its.toArray from p) ?_];rwa[⟨s1.heap.objs.size,[s1.heap.objs.size],_,_,H1,rfl,I1.kept (t':=s1.toks) λb o e=>Heap.get?_push_of_some _ e,y8 a _,⟨_,Heap.get?_push_size _ rfl,rfl,rfl⟩,λb hb=> ?_,q⟩]
   have e:b=s1.heap.objs.size:=by simpa using hb
   subst e;exact I1.fpOk ↑13 (I1.hok.fresh ↑13)
 cases x with
 |str z=>exact go (.inl ⟨z,rfl,q⟩)
 |ref p=>
  rcases q with ⟨xs,h1,h2⟩|⟨xs,h1,h2⟩
  ·exact go (.inr (.inl ⟨p,rfl,⟨xs,h1⟩,h2⟩))
  ·exact go (.inr (.inr ⟨p,rfl,⟨xs,h1⟩,h2⟩))
 |_=>exact False.elim q
section
variable {X:Cx}{tg:Expr}
def Nd (ta:TA):TI:=λσ H R=>ta σ H λvs H1=>match vs with|[.int j]=>(-4611686018427387904<=j/\j<4611686018427387904)/\R (Jo 0 j.toNat) H1|_=>False
theorem cy {a:Expr}{ta:TA}{p pos:Pos}(hg:Gl X "range")(hm:X.mg "range"=none)(ha:PA X [a] ta)(hs:bR a=true:=by rfl):PI X tg (.Call (.Name "range" p) [a] [] pos) (Nd ta):=by
 intro pins s σ H R I h;rwa[Call_ (oO I hg hm boot_range (PyProof.Rows.callWith_type1 (bT (ha pos pins s σ H _ I h) λus s1 ⟨vs,H1,I1,r1,q1⟩=> ?_) (bf hs) rfl))]
 match vs,q1 with
 |[.int j],q1=>
  cases r1 with
  |cons r rr=>
   cases rr;obtain ⟨t,rfl⟩:=r;have h1: -4611686018427387904<=j:=q1.1.1;have h2:j<4611686018427387904:=q1.1.2;exact call_range_1 (Ei I1 ↑6 ↑6 ↑6 ↑6 (by simpa using q1.2))
def setL (p:Addr)(k:Int)(v:V)(H:Hp)(Q:Hp->Prop):Prop:=∃xs j,H p=some (.lst xs)/\Co xs.length k=some j/\Q (upd H p (.lst (xs.set j v)))
def G4:V->V->V->Hp->(Hp->Prop)->Prop:=λo i v H Q=>match o,i with| .ref p,.int k=>setL p k v H Q|_,_=>False
theorem lX:Gp X G4:=by
 intro pins s σ H o i v ov iv u Q I ro ri rv h
 match o,i,h with
 | .ref p,.int k,h=>
   obtain ⟨xs,j,h1,h2,h3⟩:=h;exact DU pins s σ H _ _ v ov iv u Q I ro ri rv ⟨p,xs,k,j,rfl,rfl,h1,h2,h3⟩
def Br (K:Fg)(n:Nat)(a:Addr)(H:Hp)(P:List V->Prop):Prop:=∃xs,aP K H a xs/\xs.length=n/\P xs
def Pt (K:Fg)(n:Nat)(t:Bm):TG:=λv σ H Q=>match v with| .ref a=>Br K n a H λxs=>t xs σ H Q|_=>False
def y6 (t:TG)(u:Bm):Bm:=λvs σ H Q=>match vs with|v::r=>t v σ H λσ' H'=>u r σ' H' Q|[]=>False
def Jr:Bm:=λvs σ H Q=>match vs with|[]=>Q σ H|_=>False
theorem cA:Gq X [] Jr:=λpins s σ H vs us Q I r h=>by
 match vs,h with
 |[],h=>exact HJ pins s σ H [] us Q I r ⟨rfl,h⟩
theorem aE {e:Expr}{es:List Expr}{t:TG}{u:Bm}(h1:PG X e t)(h2:Gq X es u)(hs:bR e=true:=by rfl):Gq X (e::es) (y6 t u):=λpins s σ H vs us Q I r h=>by
 match vs,h with
 |v::vr,h=>exact Eo h1 h2 (by cases e<;>first|rfl|cases hs) pins s σ H _ us Q I r ⟨v,vr,rfl,h⟩
theorem dE {K:Fg}(hK:X.K=K){es:List Expr}{k:Nat}{t:Bm}{n:Nat}{pos:Pos}(hc:X.calm=true)(h:Gq X es t)
(hn:(assignEach es X.env).length=n:=by rfl)(hst:(assignEach es X.env).findIdx? (·.1)=none:=by rfl):PG X (.Tuple es k pos) (Pt K n t):=λpins s σ H v u Q I r q=>by
 match v,q with
 | .ref a,⟨xs,h1,h2,h3⟩=>exact HK hK hc h hn hst pins s σ H _ u Q I r ⟨a,xs,rfl,h1,h2,h3⟩
end
def Jv (pk:List (Option Nat))(wi:TI)(g:TG)(tt:TT)(te:TE):TE:=λσ H Q=>wi σ H λJ H1=>uj J pk g tt te σ H1 Q
def PR (wi:TI)(g:TG)(tb:TS):TS:=λD σ H=>wi σ H λJ H1=>Al J g tb D σ H1
section
variable {X:Cx}{scope:Scope}{N':List Str}{pk:List (Option Nat)}{tg elt iter:Expr}{ifs:List Expr}{pos:Pos}{wi:TI}{g:TG}{tt:TT}{te:TE}
def wA:Expr->Bool
 | .Set _ _ _=>false
 |_=>true
theorem jt {e:Expr}{env:Env}(h:wA e=true)(x:Value):foldedSetIterable e env x=pure x:=by
 unfold foldedSetIterable
 cases e<;>first|rfl|cases h
theorem bG (hc:X.calm=true)(S:dg X scope N' pk)(hi:PI X tg iter wi)(hg:∀C s H ex,PG (bz X scope N' C s H ex) tg g)(ht:∀C s H ex,GM (bz X scope N' C s H ex) ifs tt)
(he:∀C s H ex,PE (bz X scope N' C s H ex) elt te)(hs:wA iter=true:=by rfl):PE X (.ListComp elt [⟨tg,iter,ifs,0⟩] scope pos) (Jv pk wi g tt te):=
 HM hc S hi hg ht he (jt hs)
theorem jM {i:Nat}{x:Str}{px spos:Pos}(hc:X.calm=true)(hN:X.N.Nodup)(hx:X.N[i]? =some x)(hl:MN X.env.scope x)(S:dg X scope N' pk)(hi:PI X tg iter wi)(hg:∀C s H ex,PG (bz X scope N' C s H ex) tg g)
(ht:∀C s H ex,GM (bz X scope N' C s H ex) ifs tt)(he:∀C s H ex,PE (bz X scope N' C s H ex) elt te)(hs:wA iter=true:=by rfl)
(hsw:swapsWith (.ListComp elt [⟨tg,iter,ifs,0⟩] scope pos) (some (.Name x px)) spos.line X.env=pure true:=by rfl)(hf:X.fn x=true\/X.env.scope.names.lookup x=some .local:=by first|exact .inl rfl|exact .inr rfl|assumption):
 PS X (.Assign [.Name x px] (.ListComp elt [⟨tg,iter,ifs,0⟩] scope pos) spos) (Hd (Jv pk wi g tt te) (sd i)):=
 HE hc hN hx hl S hi hg ht he (jt hs) hsw hf
theorem d9 {body:List Stmt}{tb:TS}(hp:PassesOwn ↑8 X.A X.env X.xe)(hc:X.calm=true)(hi:PI X tg iter wi)(hg:PG X tg g)(hb:uq X body tb)
(hs:wA iter=true:=by rfl):PS X (.For tg iter body [] pos) (PR wi g tb):=K9 hp hc hi hg hb (jt hs)
end
def Ha (t u:TS):TS:=λD σ H=>∃M:St->Hp->Prop,t {D with nx:=M} σ H/\∀σ' H',M σ' H'->u D σ' H'
theorem mL {X:Cx}{st:Stmt}{cK:List Stmt}{t u:TS}(h1:PS X st t)(h2:uq X cK u):uq X (st::cK) (Ha t u):=by
 intro pins s σ H D I h;obtain ⟨M,ht,hM⟩:=h;rwa[wpAny_execs_cons (bT (h1 pins s σ H {D with nx:=M} I ht) λf s1 q=> ?_)]
 cases f with
 |next=>
  obtain ⟨σ',H',I',q⟩:=q;exact h2 pins s1 σ' H' D I' (hM σ' H' q)
 |ret v=>exact q
 |brk=>exact q
 |cont=>exact q
theorem FU {t u:TS}{D:pZ}{σ:St}{H:Hp}(M:St->Hp->Prop)(h1:t {D with nx:=M} σ H)(h2:∀σ' H',M σ' H'->u D σ' H'):Ha t u D σ H:=⟨M,h1,h2⟩
section
variable {K:Fg}{H:Hp}{p q:Addr}{xs ys:List V}{Q:VK}
theorem eE (h:aS K H p ys)(g:Q (.int ys.length) H):iZ K p H Q:=⟨ys,.inl h,g⟩
theorem fW (h:aP K H p ys)(g:Q (.int ys.length) H):iZ K p H Q:=⟨ys,.inr h,g⟩
theorem cg {i:Int}{v:V}(h:aS K H p xs)(e:pW xs i=some v)(g:Q v H):mx K p i H Q:=⟨xs,.inl h,v,e,g⟩
theorem ar {i:Int}{v:V}(h:aP K H p xs)(e:pW xs i=some v)(g:Q v H):mx K p i H Q:=⟨xs,.inr h,v,e,g⟩
theorem vI {z:Str}{i:Int}{c:Nat}(hz:z.length<=sizeLine)(e:pW z.cps.toList i=some c)(g:Q (.str ⟨#[c]⟩) H):vJ z i H Q:=⟨hz,c,e,g⟩
theorem qC {x:V}(h:aS K H p xs)(h1:dh x=true)(h2:xs.all dh=true)(g:Q (.bl (uN x xs)) H):qD K false x p H Q:=⟨xs,.inl h,h1,h2,g⟩
theorem KP {x:V}(h:aP K H p xs)(h1:dh x=true)(h2:xs.all dh=true)(g:Q (.bl (uN x xs)) H):qD K false x p H Q:=⟨xs,.inr h,h1,h2,g⟩
theorem By {x:V}(h:aS K H p xs)(h1:dh x=true)(h2:xs.all dh=true)(g:Q (.bl (!uN x xs)) H):qD K true x p H Q:=⟨xs,.inl h,h1,h2,g⟩
theorem nY {x:V}(h:aP K H p xs)(h1:dh x=true)(h2:xs.all dh=true)(g:Q (.bl (!uN x xs)) H):qD K true x p H Q:=⟨xs,.inr h,h1,h2,g⟩
theorem Hq {R:Bool->Hp->Prop}(h:aS K H p xs)(g:R (!xs.isEmpty) H):qB K p H R:= .inl ⟨xs,.inl h,g⟩
theorem Fo {z:Str}{ts:List Str}(h:aS K H p (ts.map V.str))(h1:(ts.toArray.foldl (· + ·.length+z.length) 0)<=sizeLine)(h2:(Builtin.Str.glued z ts).length<=sizeLine)(g:Q (.str (Builtin.Str.glued z ts)) H):A3 K z p H Q:=⟨ts,h,h1,h2,g⟩
theorem iK {y:V}(h:H p=some (.lst xs))(hz:xs.length<sizeLine)(g:Q .non (upd H p (.lst (xs++[y])))):Jg p y H Q:=⟨xs,h,hz,g⟩
theorem JP {bs:List Bool}(h:aS K H p (List.map V.bl bs))(g:Q (.bl (bs.all id)) H):Jk K p H Q:=⟨bs,h,g⟩
theorem Nx (h:aS K H p ys)(g:∀l,H l=none->Q (.ref l) (upd H l (.tup ys))):Bt K p H Q:=⟨ys,.inl ⟨h,g⟩⟩
theorem Nv (h:aP K H p ys)(g:Q (.ref p) H):Bt K p H Q:=⟨ys,.inr ⟨h,g⟩⟩
theorem dA {R:It->Hp->Prop}(h:aS K H p xs)(g:R (GD K p) H):yw K p H R:= .inl ⟨xs,h,g⟩
theorem dW {R:It->Hp->Prop}(h:aP K H p xs)(g:R (Gz K p) H):yw K p H R:= .inr ⟨xs,h,g⟩
theorem mw {k:Int}{j:Nat}{v:V}{R:Hp->Prop}(h:H p=some (.lst xs))(hj:Co xs.length k=some j)(g:R (upd H p (.lst (xs.set j v)))):setL p k v H R:=⟨xs,j,h,hj,g⟩
theorem iQ {n:Nat}{P:List V->Prop}(h:aP K H p xs)(hl:xs.length=n)(g:P xs):Br K n p H P:=⟨xs,h,hl,g⟩
end
theorem sE {i j:Int}(h1: -18446744073709551616<i)(h2:i<18446744073709551616):tK i j:= .inl ⟨h1,h2⟩
theorem F0 {i j:Int}(h1: -18446744073709551616<j)(h2:j<18446744073709551616):tK i j:= .inr ⟨h1,h2⟩
theorem OI {i j:Int}(h1:0<j)(h2:j<1073741824):CS i j:=⟨h1,h2⟩
theorem JM {i j:Int}(h1:0<=j)(h2:j<=1000000)(h3:i.natAbs<18446744073709551616):GK i j:=⟨h1,h2,h3⟩
theorem bc (x:Str):x.cps.toList.length=x.length:=by simp [Str.length]
theorem AM {n:Nat}(h:n<=9000):n<sizeLine:=by rw [sizeLine_eq];omega
def CW (K:Fg)(H:Hp)(a:Addr)(ns:List Int):Prop:=aS K H a (ns.map V.int)/\ns.length<=63
inductive D where
 |non|bl (b:Bool)|int (i:Int)|str (x:Str)|lst (ds:List D)|tup (ds:List D)
mutual
def ui:D->D->Bool
 | .non,.non=>true
 | .bl a,.bl b=>a==b
 | .bl a,.int b=>(if a then 1 else 0)==b
 | .int a,.bl b=>a==(if b then 1 else 0)
 | .int a,.int b=>a==b
 | .str a,.str b=>a==b
 | .lst xs,.lst ys=>eqDs xs ys
 | .tup xs,.tup ys=>eqDs xs ys
 |_,_=>false
def eqDs:List D->List D->Bool
 |[],[]=>true
 |x::xs,y::ys=>ui x y&&eqDs xs ys
 |_,_=>false
end
mutual
theorem m6:∀d:D,ui d d=true
 | .non=>rfl
 | .bl a=>by simp [ui]
 | .int a=>by simp [ui]
 | .str a=>by simp [ui]
 | .lst xs=>by rw [ui];exact eqDs_refl xs
 | .tup xs=>by rw [ui];exact eqDs_refl xs
theorem eqDs_refl:∀ds:List D,eqDs ds ds=true
 |[]=>rfl
 |d::ds=>by rw [eqDs,m6 d,eqDs_refl ds];rfl
end
theorem fH:∀ {xs ys:List D},xs.length≠ys.length->eqDs xs ys=false
 |[],[],h=>absurd rfl h
 |[],_::_,_=>by simp [eqDs]
 |_::_,[],_=>by simp [eqDs]
 |x::xs,y::ys,h=>by
  rw [eqDs,fH (xs:=xs) (ys:=ys) (by simpa using h),Bool.and_false]
theorem fI:∀ {xs ys:List D},xs.length=ys.length->((List.range xs.length).all λj=>ui (xs.getD j .non) (ys.getD j .non))=eqDs xs ys
 |[],[],_=>rfl
 |[],_::_,h=>by simp at h
 |_::_,[],h=>by simp at h
 |x::xs,y::ys,h=>by
  have ih:=fI (xs:=xs) (ys:=ys) (by simpa using h);rw [eqDs,<-ih,List.length_cons,List.range_succ_eq_map,List.all_cons,List.all_map];rfl
inductive cm (K:Fg)(H:Hp):V->D->Prop
 |non:cm K H .non .non
 |bl (b:Bool):cm K H (.bl b) (.bl b)
 |int (i:Int):cm K H (.int i) (.int i)
 |str (x:Str):cm K H (.str x) (.str x)
 |lst {a:Addr} {xs:List V} {ds:List D} (h:aS K H a xs) (hl:xs.length=ds.length) (hi:∀(i:Nat) x d,xs[i]? =some x->ds[i]? =some d->cm K H x d):cm K H (.ref a) (.lst ds)
 |tup {a:Addr} {xs:List V} {ds:List D} (h:aP K H a xs) (hl:xs.length=ds.length) (hi:∀(i:Nat) x d,xs[i]? =some x->ds[i]? =some d->cm K H x d):cm K H (.ref a) (.tup ds)
mutual
def oX:D->Nat
 | .lst ds=>deps ds+1
 | .tup ds=>deps ds+1
 |_=>0
def deps:List D->Nat
 |[]=>0
 |d::ds=>max (oX d) (deps ds)
end
theorem lF:∀ {ds:List D} {i:Nat} {d:D},ds[i]? =some d->oX d<=deps ds
 |[],_,_,h=>by simp at h
 |d::ds,0,_,h=>by simp at h;subst h;rw [deps];exact Nat.le_max_left _ _
 |d::ds,i+1,e,h=>by
  have:=lF (ds:=ds) (i:=i) (d:=e) (by simpa using h);rw [deps];exact Nat.le_trans this (Nat.le_max_right _ _)
section
variable {X:Cx}{pins:List ↑14}{σ:St}{H:Hp}{s:Shared}
theorem yo {a:Addr}{xs ys:List V}(I:aF X pins σ H s)(h:aS X.K H a xs)(h':aP X.K H a ys):False:=by
 obtain ⟨its,_,p,_⟩:=I.list h;obtain ⟨its2,_,p2,_⟩:=I.tuple h';obtain ⟨o,e,c,_⟩:=p.isList;obtain ⟨o',e',c',_⟩:=p2;rw [e] at e';cases e';rw [c] at c';injection c' with c2;exact absurd c2 ↑2
theorem cm.inj (I:aF X pins σ H s){x:V}{d e:D}(h:cm X.K H x d)(h':cm X.K H x e):d=e:=by
 induction h generalizing e with
 |non=>cases h';rfl
 |bl b=>cases h';rfl
 |int i=>cases h';rfl
 |str z=>cases h';rfl
 | @lst a xs ds hq hl hi ih=>
   cases h' with
   | @lst _ ys es hq' hl' hi'=>
     have exy:=I.list_inj hq hq';subst exy;congr 1;rwa[List.ext_getElem ↑6 λi h1 h2=> ?_];exact ih i xs[i] _ ↑17 (by simp [h1]) (hi' i xs[i] _ ↑17 (by simp [h2]))
   |tup hq' _ _=>exact (yo I hq hq').elim
 | @tup a xs ds hq hl hi ih=>
   cases h' with
   | @tup _ ys es hq' hl' hi'=>
     have exy:=I.tuple_inj hq hq';subst exy;congr 1;rwa[List.ext_getElem ↑6 λi h1 h2=> ?_];exact ih i xs[i] _ ↑17 (by simp [h1]) (hi' i xs[i] _ ↑17 (by simp [h2]))
   |lst hq' _ _=>exact (yo I hq' hq).elim
open PySem.SeqAt in
theorem m7 (I:aF X pins σ H s){x:V}{d:D}(h:cm X.K H x d):∀ {y:V} {e:D} {u v:Value} {A:Around},cm X.K H y e->aQ x u->aQ y v->A.units+oX d<cLine->EqAt A s u v (ui d e):=by
 have flat:∀ {x y:V} {u v:Value} {A:Around},dh x=true->dh y=true->aQ x u->aQ y v->EqAt A s u v (IX x y):=λf1 f2 r1 r2=>FM r1 r2 f1 f2
 induction h with
 |non=>
  intro y e u v A hy ru rv hu
  cases hy with
  |non=>exact flat (x:= .non) (y:= .non) rfl rfl ru rv
  |bl b=>exact flat (x:= .non) (y:= .bl b) rfl rfl ru rv
  |int i=>exact flat (x:= .non) (y:= .int i) rfl rfl ru rv
  |str z=>exact flat (x:= .non) (y:= .str z) rfl rfl ru rv
  |lst hq _ _=>cases ru;cases rv;obtain ⟨_,_,p,_⟩:=I.list hq;exact EqAt.none_list p.isList ↑6
  |tup hq _ _=>cases ru;cases rv;obtain ⟨_,_,p,_⟩:=I.tuple hq;exact EqAt.none_tuple p ↑6
 |bl b=>
  intro y e u v A hy ru rv hu
  cases hy with
  |non=>exact flat (x:= .bl b) (y:= .non) rfl rfl ru rv
  |bl c=>exact flat (x:= .bl b) (y:= .bl c) rfl rfl ru rv
  |int i=>exact flat (x:= .bl b) (y:= .int i) rfl rfl ru rv
  |str z=>exact flat (x:= .bl b) (y:= .str z) rfl rfl ru rv
  |lst hq _ _=>cases ru;cases rv;obtain ⟨_,_,p,_⟩:=I.list hq;exact EqAt.bool_list b p.isList ↑6
  |tup hq _ _=>cases ru;cases rv;obtain ⟨_,_,p,_⟩:=I.tuple hq;exact EqAt.bool_tuple b p ↑6
 |int i=>
  intro y e u v A hy ru rv hu
  cases hy with
  |non=>exact flat (x:= .int i) (y:= .non) rfl rfl ru rv
  |bl c=>exact flat (x:= .int i) (y:= .bl c) rfl rfl ru rv
  |int j=>exact flat (x:= .int i) (y:= .int j) rfl rfl ru rv
  |str z=>exact flat (x:= .int i) (y:= .str z) rfl rfl ru rv
  |lst hq _ _=>obtain ⟨t,rfl⟩:=ru;cases rv;obtain ⟨_,_,p,_⟩:=I.list hq;exact EqAt.int_list i t p.isList ↑6
  |tup hq _ _=>obtain ⟨t,rfl⟩:=ru;cases rv;obtain ⟨_,_,p,_⟩:=I.tuple hq;exact EqAt.int_tuple i t p ↑6
 |str z=>
  intro y e u v A hy ru rv hu
  cases hy with
  |non=>exact flat (x:= .str z) (y:= .non) rfl rfl ru rv
  |bl c=>exact flat (x:= .str z) (y:= .bl c) rfl rfl ru rv
  |int j=>exact flat (x:= .str z) (y:= .int j) rfl rfl ru rv
  |str z'=>exact flat (x:= .str z) (y:= .str z') rfl rfl ru rv
  |lst hq _ _=>obtain ⟨t,rfl⟩:=ru;cases rv;obtain ⟨_,_,p,_⟩:=I.list hq;exact EqAt.str_list z t p.isList ↑6
  |tup hq _ _=>obtain ⟨t,rfl⟩:=ru;cases rv;obtain ⟨_,_,p,_⟩:=I.tuple hq;exact EqAt.str_tuple z t p ↑6
 | @lst a xs ds hq hl hi ih=>
   intro y e u v A hy ru rv hu
   have hd0:oX (.lst ds)=deps ds+1:=by rw [oX]
   cases ru
   obtain ⟨its,r1,p1,z1⟩:=I.list hq
   cases hy with
   |non=>cases rv;exact EqAt.list_none p1.isList ↑6
   |bl b=>cases rv;exact EqAt.list_bool b p1.isList ↑6
   |int j=>obtain ⟨t,rfl⟩:=rv;exact EqAt.list_int j t p1.isList ↑6
   |str z=>obtain ⟨t,rfl⟩:=rv;exact EqAt.list_str z t p1.isList ↑6
   | @lst b ys es hq' hl' hi'=>
     cases rv
     by_cases hab:a=b
     ·subst hab
      have e:=cm.inj I (.lst hq hl hi) (.lst hq' hl' hi')
      rw [<-e,m6]
      exact EqAt.same _
     obtain ⟨its2,r2,p2,z2⟩:=I.list hq'
     rw [ui]
     have l1:=r1.length
     have l2:=r2.length
     by_cases hlen:ds.length=es.length
     ·rw [<-fI hlen]
      have es1:ds.length=its.toArray.size:=by rw [List.size_toArray];omega
      rw [es1]
      rwa[EqAt.of_refs hab (RcAt.lists p1.isList p2.isList (by simp only [List.size_toArray];omega) ↑6 λj h1 h2=> ?_)]
      have j1:j<xs.length:=by rw [List.size_toArray] at h1;omega
      have j2:j<ys.length:=by rw [List.size_toArray] at h2;omega
      obtain ⟨w1,e1,q1⟩:=r1.get (i:=j) (x:=xs[j]) ↑17
      obtain ⟨w2,e2,q2⟩:=r2.get (i:=j) (x:=ys[j]) ↑17
      have k1:its.toArray[j]=w1:=by
       have:its[j]? =some its.toArray[j]:=by simp
       rw [this] at e1;exact Option.some.inj e1
      have k2:its2.toArray[j]=w2:=by
       have:its2[j]? =some its2.toArray[j]:=by simp
       rw [this] at e2;exact Option.some.inj e2
      rw [k1,k2]
      have d1:ds[j]? =some (ds.getD j .non):=by simp [List.getD,List.getElem?_eq_getElem (show j<ds.length by omega)]
      have d2:es[j]? =some (es.getD j .non):=by simp [List.getD,List.getElem?_eq_getElem (show j<es.length by omega)]
      have hdj:=lF d1
      rwa[ih j xs[j] _ ↑17 d1 (hi' j ys[j] _ ↑17 d2) q1 q2 ?_]
      have:A.in1.units=A.units+1:=rfl
      omega
     ·rw [fH hlen]
      exact EqAt.of_refs hab (RcAt.lists_lengths p1.isList p2.isList (by simp only [List.size_toArray];rw [bne_iff_ne];omega) ↑6)
   |tup hq' _ _=>cases rv;obtain ⟨_,_,p2,_⟩:=I.tuple hq';exact EqAt.list_tuple p1.isList p2 ↑6
 | @tup a xs ds hq hl hi ih=>
   intro y e u v A hy ru rv hu
   have hd0:oX (.tup ds)=deps ds+1:=by rw [oX]
   cases ru
   obtain ⟨its,r1,p1,z1⟩:=I.tuple hq
   cases hy with
   |non=>cases rv;exact EqAt.tuple_none p1 ↑6
   |bl b=>cases rv;exact EqAt.tuple_bool b p1 ↑6
   |int j=>obtain ⟨t,rfl⟩:=rv;exact EqAt.tuple_int j t p1 ↑6
   |str z=>obtain ⟨t,rfl⟩:=rv;exact EqAt.tuple_str z t p1 ↑6
   |lst hq' _ _=>cases rv;obtain ⟨_,_,p2,_⟩:=I.list hq';exact EqAt.tuple_list p1 p2.isList ↑6
   | @tup b ys es hq' hl' hi'=>
     cases rv
     by_cases hab:a=b
     ·subst hab
      have e:=cm.inj I (.tup hq hl hi) (.tup hq' hl' hi')
      rw [<-e,m6]
      exact EqAt.same _
     obtain ⟨its2,r2,p2,z2⟩:=I.tuple hq'
     rw [ui]
     have l1:=r1.length
     have l2:=r2.length
     have res:eqDs ds es=((List.range (min its.toArray.size its2.toArray.size)).all (λj=>ui (ds.getD j .non) (es.getD j .non))&&its.toArray.size==its2.toArray.size):=by
      by_cases hlen:ds.length=es.length
      ·have e1:its.toArray.size=ds.length:=by rw [List.size_toArray];omega
       have e2:its2.toArray.size=ds.length:=by rw [List.size_toArray];omega
       rw [e1,e2,Nat.min_self,fI hlen];simp
      ·rw [fH hlen]
       have:(its.toArray.size==its2.toArray.size)=false:=beq_eq_false_iff_ne.mpr (by simp only [List.size_toArray];omega)
       rw [this,Bool.and_false]
     rw [res]
     rwa[EqAt.of_refs hab (RcAt.tuples p1 p2 ↑6 λj h1 h2=> ?_)]
     have j1:j<xs.length:=by rw [List.size_toArray] at h1;omega
     have j2:j<ys.length:=by rw [List.size_toArray] at h2;omega
     obtain ⟨w1,e1,q1⟩:=r1.get (i:=j) (x:=xs[j]) ↑17
     obtain ⟨w2,e2,q2⟩:=r2.get (i:=j) (x:=ys[j]) ↑17
     have k1:its.toArray[j]=w1:=by
      have:its[j]? =some its.toArray[j]:=by simp
      rw [this] at e1;exact Option.some.inj e1
     have k2:its2.toArray[j]=w2:=by
      have:its2[j]? =some its2.toArray[j]:=by simp
      rw [this] at e2;exact Option.some.inj e2
     rw [k1,k2]
     have d1:ds[j]? =some (ds.getD j .non):=by simp [List.getD,List.getElem?_eq_getElem (show j<ds.length by omega)]
     have d2:es[j]? =some (es.getD j .non):=by simp [List.getD,List.getElem?_eq_getElem (show j<es.length by omega)]
     have hdj:=lF d1
     rwa[ih j xs[j] _ ↑17 d1 (hi' j ys[j] _ ↑17 d2) q1 q2 ?_]
     have:A.in1.units=A.units+1:=rfl
     omega
end
def yC (K:Fg)(x y:V)(H:Hp)(P:Bool->Prop):Prop:=∃d e,cm K H x d/\cm K H y e/\oX d<=60/\P (ui d e)
theorem si {K:Fg}{x y:V}{H:Hp}{P:Bool->Prop}{d:D}(h1:cm K H x d)(h2:cm K H y d)(hd:oX d<=60)(g:P true):yC K x y H P:=⟨d,d,h1,h2,hd,by rw [m6];exact g⟩
def Nm (K:Fg):R2:=λx y H Q=>match OB x y with|some b=>Q (.bl b) H|none=>yC K x y H λb=>Q (.bl b) H
def Ng (K:Fg):R2:=λx y H Q=>match OB x y with|some b=>Q (.bl (!b)) H|none=>yC K x y H λb=>Q (.bl (!b)) H
section
variable {X:Cx}{K:Fg}{m:Nat}
theorem xH {d:D}(hr:b4 m X.A)(hd:oX d<=60):X.A.units+oX d<cLine:=by have:=hr.un;omega
open PySem.SeqAt in
theorem aM (hK:X.K=K)(hr:b4 m X.A):dD X (compareOp .Eq) (Nm K):=by
 subst hK
 intro pins s σ H x y v u Q I rx ry h
 unfold Nm at h
 cases e:OB x y with
 |some b=>
  rw [e] at h
  obtain ⟨h1,h2⟩:=FL e
  exact Oa pins s σ H x y v u Q I rx ry ⟨h1,by rw [h2];exact h⟩
 |none=>
  rw [e] at h
  obtain ⟨d,e',h1,h2,hd,q⟩:=h
  have fin:EP X pins σ Q (.bool (ui d e')) s:=⟨.bl _,H,I,rfl,q⟩
  have hu:=xH (X:=X) hr hd
  have hu0:X.A.units<cLine:=by omega
  cases h1 with
  | @lst a xs ds hq hl hi=>
    have D1:cm X.K H (.ref a) (.lst ds):= .lst hq hl hi
    cases rx
    obtain ⟨its,r1,p1,z1⟩:=I.list hq
    cases h2 with
    |non=>cases ry;exact RcAt.list_none p1.isList hu0 _ _ _ _ fin
    |bl b=>cases ry;exact RcAt.list_bool b p1.isList hu0 _ _ _ _ fin
    |int j=>obtain ⟨t,rfl⟩:=ry;exact RcAt.list_int j t p1.isList hu0 _ _ _ _ fin
    |str z=>obtain ⟨t,rfl⟩:=ry;exact RcAt.list_str z t p1.isList hu0 _ _ _ _ fin
    |tup hq' _ _=>cases ry;obtain ⟨_,_,p2,_⟩:=I.tuple hq';exact RcAt.list_tuple p1.isList p2 hu0 _ _ _ _ fin
    | @lst b ys es hq' hl' hi'=>
      cases ry
      obtain ⟨its2,r2,p2,z2⟩:=I.list hq'
      have hd0:oX (.lst ds)=deps ds+1:=by rw [oX]
      rw [ui] at fin
      have l1:=r1.length
      have l2:=r2.length
      by_cases hlen:ds.length=es.length
      ·rw [<-fI hlen,show ds.length=its.toArray.size by rw [List.size_toArray];omega] at fin
       rwa[RcAt.lists p1.isList p2.isList (by simp only [List.size_toArray];omega) hu0 (λj g1 g2=> ?_) _ _ _ _ fin]
       have j1:j<xs.length:=by rw [List.size_toArray] at g1;omega
       have j2:j<ys.length:=by rw [List.size_toArray] at g2;omega
       obtain ⟨w1,e1,q1⟩:=r1.get (i:=j) (x:=xs[j]) ↑17
       obtain ⟨w2,e2,q2⟩:=r2.get (i:=j) (x:=ys[j]) ↑17
       have k1:its.toArray[j]=w1:=by
        have:its[j]? =some its.toArray[j]:=by simp
        rw [this] at e1;exact Option.some.inj e1
       have k2:its2.toArray[j]=w2:=by
        have:its2[j]? =some its2.toArray[j]:=by simp
        rw [this] at e2;exact Option.some.inj e2
       rw [k1,k2]
       have d1:ds[j]? =some (ds.getD j .non):=by simp [List.getD,List.getElem?_eq_getElem (show j<ds.length by omega)]
       have d2:es[j]? =some (es.getD j .non):=by simp [List.getD,List.getElem?_eq_getElem (show j<es.length by omega)]
       have hdj:=lF d1
       rwa[m7 I (hi j xs[j] _ ↑17 d1) (hi' j ys[j] _ ↑17 d2) q1 q2 ?_]
       have:X.A.in1.units=X.A.units+1:=rfl
       omega
      ·rw [fH hlen] at fin
       exact RcAt.lists_lengths p1.isList p2.isList (by simp only [List.size_toArray];rw [bne_iff_ne];omega) hu0 _ _ _ _ fin
  | @tup a xs ds hq hl hi=>
    cases rx
    obtain ⟨its,r1,p1,z1⟩:=I.tuple hq
    cases h2 with
    |non=>cases ry;exact RcAt.tuple_none p1 hu0 _ _ _ _ fin
    |bl b=>cases ry;exact RcAt.tuple_bool b p1 hu0 _ _ _ _ fin
    |int j=>obtain ⟨t,rfl⟩:=ry;exact RcAt.tuple_int j t p1 hu0 _ _ _ _ fin
    |str z=>obtain ⟨t,rfl⟩:=ry;exact RcAt.tuple_str z t p1 hu0 _ _ _ _ fin
    |lst hq' _ _=>cases ry;obtain ⟨_,_,p2,_⟩:=I.list hq';exact RcAt.tuple_list p1 p2.isList hu0 _ _ _ _ fin
    | @tup b ys es hq' hl' hi'=>
      cases ry
      obtain ⟨its2,r2,p2,z2⟩:=I.tuple hq'
      have hd0:oX (.tup ds)=deps ds+1:=by rw [oX]
      rw [ui] at fin
      have l1:=r1.length
      have l2:=r2.length
      have res:eqDs ds es=((List.range (min its.toArray.size its2.toArray.size)).all (λj=>ui (ds.getD j .non) (es.getD j .non))&&its.toArray.size==its2.toArray.size):=by
       by_cases hlen:ds.length=es.length
       ·have e1:its.toArray.size=ds.length:=by rw [List.size_toArray];omega
        have e2:its2.toArray.size=ds.length:=by rw [List.size_toArray];omega
        rw [e1,e2,Nat.min_self,fI hlen];simp
       ·rw [fH hlen]
        have:(its.toArray.size==its2.toArray.size)=false:=beq_eq_false_iff_ne.mpr (by simp only [List.size_toArray];omega)
        rw [this,Bool.and_false]
      rw [res] at fin
      rwa[RcAt.tuples p1 p2 hu0 (λj g1 g2=> ?_) _ _ _ _ fin]
      have j1:j<xs.length:=by rw [List.size_toArray] at g1;omega
      have j2:j<ys.length:=by rw [List.size_toArray] at g2;omega
      obtain ⟨w1,e1,q1⟩:=r1.get (i:=j) (x:=xs[j]) ↑17
      obtain ⟨w2,e2,q2⟩:=r2.get (i:=j) (x:=ys[j]) ↑17
      have k1:its.toArray[j]=w1:=by
       have:its[j]? =some its.toArray[j]:=by simp
       rw [this] at e1;exact Option.some.inj e1
      have k2:its2.toArray[j]=w2:=by
       have:its2[j]? =some its2.toArray[j]:=by simp
       rw [this] at e2;exact Option.some.inj e2
      rw [k1,k2]
      have d1:ds[j]? =some (ds.getD j .non):=by simp [List.getD,List.getElem?_eq_getElem (show j<ds.length by omega)]
      have d2:es[j]? =some (es.getD j .non):=by simp [List.getD,List.getElem?_eq_getElem (show j<es.length by omega)]
      have hdj:=lF d1
      rwa[m7 I (hi j xs[j] _ ↑17 d1) (hi' j ys[j] _ ↑17 d2) q1 q2 ?_]
      have:X.A.in1.units=X.A.units+1:=rfl
      omega
  |non=>cases h2 with
   |lst hq _ _=>cases rx;cases ry;obtain ⟨_,_,p,_⟩:=I.list hq;exact RcAt.none_list p.isList hu0 _ _ _ _ fin
   |tup hq _ _=>cases rx;cases ry;obtain ⟨_,_,p,_⟩:=I.tuple hq;exact RcAt.none_tuple p hu0 _ _ _ _ fin
   |_=>cases e
  |bl b=>cases h2 with
   |lst hq _ _=>cases rx;cases ry;obtain ⟨_,_,p,_⟩:=I.list hq;exact RcAt.bool_list b p.isList hu0 _ _ _ _ fin
   |tup hq _ _=>cases rx;cases ry;obtain ⟨_,_,p,_⟩:=I.tuple hq;exact RcAt.bool_tuple b p hu0 _ _ _ _ fin
   |int j=>cases rx;obtain ⟨t,rfl⟩:=ry;exact RcAt.bool_int b j t _ _ _ _ fin
   |_=>cases e
  |int i=>cases h2 with
   |lst hq _ _=>obtain ⟨t,rfl⟩:=rx;cases ry;obtain ⟨_,_,p,_⟩:=I.list hq;exact RcAt.int_list i t p.isList hu0 _ _ _ _ fin
   |tup hq _ _=>obtain ⟨t,rfl⟩:=rx;cases ry;obtain ⟨_,_,p,_⟩:=I.tuple hq;exact RcAt.int_tuple i t p hu0 _ _ _ _ fin
   |bl b=>obtain ⟨t,rfl⟩:=rx;cases ry;exact RcAt.int_bool i t b _ _ _ _ fin
   |_=>cases e
  |str z=>cases h2 with
   |lst hq _ _=>obtain ⟨t,rfl⟩:=rx;cases ry;obtain ⟨_,_,p,_⟩:=I.list hq;exact RcAt.str_list z t p.isList hu0 _ _ _ _ fin
   |tup hq _ _=>obtain ⟨t,rfl⟩:=rx;cases ry;obtain ⟨_,_,p,_⟩:=I.tuple hq;exact RcAt.str_tuple z t p hu0 _ _ _ _ fin
   |_=>cases e
open PySem.SeqAt in
theorem gq (hK:X.K=K)(hr:b4 m X.A):dD X (compareOp .NotEq) (Ng K):=by
 subst hK
 intro pins s σ H x y v u Q I rx ry h
 unfold Ng at h
 cases e:OB x y with
 |some b=>
  rw [e] at h
  obtain ⟨h1,h2⟩:=FL e
  exact N5 pins s σ H x y v u Q I rx ry ⟨h1,by rw [h2];exact h⟩
 |none=>
  rw [e] at h
  obtain ⟨d,e',h1,h2,hd,q⟩:=h
  have fin:EP X pins σ Q (.bool (!ui d e')) s:=⟨.bl _,H,I,rfl,q⟩
  have hu:=xH (X:=X) hr hd
  have hu0:X.A.units<cLine:=by omega
  cases h1 with
  | @lst a xs ds hq hl hi=>
    have D1:cm X.K H (.ref a) (.lst ds):= .lst hq hl hi
    cases rx
    obtain ⟨its,r1,p1,z1⟩:=I.list hq
    cases h2 with
    |non=>cases ry;exact RcNeAt.list_none p1.isList hu0 _ _ _ _ fin
    |bl b=>cases ry;exact RcNeAt.list_bool b p1.isList hu0 _ _ _ _ fin
    |int j=>obtain ⟨t,rfl⟩:=ry;exact RcNeAt.list_int j t p1.isList hu0 _ _ _ _ fin
    |str z=>obtain ⟨t,rfl⟩:=ry;exact RcNeAt.list_str z t p1.isList hu0 _ _ _ _ fin
    |tup hq' _ _=>cases ry;obtain ⟨_,_,p2,_⟩:=I.tuple hq';exact RcNeAt.list_tuple p1.isList p2 hu0 _ _ _ _ fin
    | @lst b ys es hq' hl' hi'=>
      cases ry
      obtain ⟨its2,r2,p2,z2⟩:=I.list hq'
      have hd0:oX (.lst ds)=deps ds+1:=by rw [oX]
      rw [ui] at fin
      have l1:=r1.length
      have l2:=r2.length
      by_cases hlen:ds.length=es.length
      ·rw [<-fI hlen,show ds.length=its.toArray.size by rw [List.size_toArray];omega] at fin
       rwa[RcNeAt.lists p1.isList p2.isList (by simp only [List.size_toArray];omega) hu0 (λj g1 g2=> ?_) _ _ _ _ fin]
       have j1:j<xs.length:=by rw [List.size_toArray] at g1;omega
       have j2:j<ys.length:=by rw [List.size_toArray] at g2;omega
       obtain ⟨w1,e1,q1⟩:=r1.get (i:=j) (x:=xs[j]) ↑17
       obtain ⟨w2,e2,q2⟩:=r2.get (i:=j) (x:=ys[j]) ↑17
       have k1:its.toArray[j]=w1:=by
        have:its[j]? =some its.toArray[j]:=by simp
        rw [this] at e1;exact Option.some.inj e1
       have k2:its2.toArray[j]=w2:=by
        have:its2[j]? =some its2.toArray[j]:=by simp
        rw [this] at e2;exact Option.some.inj e2
       rw [k1,k2]
       have d1:ds[j]? =some (ds.getD j .non):=by simp [List.getD,List.getElem?_eq_getElem (show j<ds.length by omega)]
       have d2:es[j]? =some (es.getD j .non):=by simp [List.getD,List.getElem?_eq_getElem (show j<es.length by omega)]
       have hdj:=lF d1
       rwa[m7 I (hi j xs[j] _ ↑17 d1) (hi' j ys[j] _ ↑17 d2) q1 q2 ?_]
       have:X.A.in1.units=X.A.units+1:=rfl
       omega
      ·rw [fH hlen] at fin
       exact RcNeAt.lists_lengths p1.isList p2.isList (by simp only [List.size_toArray];rw [bne_iff_ne];omega) hu0 _ _ _ _ fin
  | @tup a xs ds hq hl hi=>
    cases rx
    obtain ⟨its,r1,p1,z1⟩:=I.tuple hq
    cases h2 with
    |non=>cases ry;exact RcNeAt.tuple_none p1 hu0 _ _ _ _ fin
    |bl b=>cases ry;exact RcNeAt.tuple_bool b p1 hu0 _ _ _ _ fin
    |int j=>obtain ⟨t,rfl⟩:=ry;exact RcNeAt.tuple_int j t p1 hu0 _ _ _ _ fin
    |str z=>obtain ⟨t,rfl⟩:=ry;exact RcNeAt.tuple_str z t p1 hu0 _ _ _ _ fin
    |lst hq' _ _=>cases ry;obtain ⟨_,_,p2,_⟩:=I.list hq';exact RcNeAt.tuple_list p1 p2.isList hu0 _ _ _ _ fin
    | @tup b ys es hq' hl' hi'=>
      cases ry
      obtain ⟨its2,r2,p2,z2⟩:=I.tuple hq'
      have hd0:oX (.tup ds)=deps ds+1:=by rw [oX]
      rw [ui] at fin
      have l1:=r1.length
      have l2:=r2.length
      have res:eqDs ds es=((List.range (min its.toArray.size its2.toArray.size)).all (λj=>ui (ds.getD j .non) (es.getD j .non))&&its.toArray.size==its2.toArray.size):=by
       by_cases hlen:ds.length=es.length
       ·have e1:its.toArray.size=ds.length:=by rw [List.size_toArray];omega
        have e2:its2.toArray.size=ds.length:=by rw [List.size_toArray];omega
        rw [e1,e2,Nat.min_self,fI hlen];simp
       ·rw [fH hlen]
        have:(its.toArray.size==its2.toArray.size)=false:=beq_eq_false_iff_ne.mpr (by simp only [List.size_toArray];omega)
        rw [this,Bool.and_false]
      rw [res] at fin
      rwa[RcNeAt.tuples p1 p2 hu0 (λj g1 g2=> ?_) _ _ _ _ fin]
      have j1:j<xs.length:=by rw [List.size_toArray] at g1;omega
      have j2:j<ys.length:=by rw [List.size_toArray] at g2;omega
      obtain ⟨w1,e1,q1⟩:=r1.get (i:=j) (x:=xs[j]) ↑17
      obtain ⟨w2,e2,q2⟩:=r2.get (i:=j) (x:=ys[j]) ↑17
      have k1:its.toArray[j]=w1:=by
       have:its[j]? =some its.toArray[j]:=by simp
       rw [this] at e1;exact Option.some.inj e1
      have k2:its2.toArray[j]=w2:=by
       have:its2[j]? =some its2.toArray[j]:=by simp
       rw [this] at e2;exact Option.some.inj e2
      rw [k1,k2]
      have d1:ds[j]? =some (ds.getD j .non):=by simp [List.getD,List.getElem?_eq_getElem (show j<ds.length by omega)]
      have d2:es[j]? =some (es.getD j .non):=by simp [List.getD,List.getElem?_eq_getElem (show j<es.length by omega)]
      have hdj:=lF d1
      rwa[m7 I (hi j xs[j] _ ↑17 d1) (hi' j ys[j] _ ↑17 d2) q1 q2 ?_]
      have:X.A.in1.units=X.A.units+1:=rfl
      omega
  |non=>cases h2 with
   |lst hq _ _=>cases rx;cases ry;obtain ⟨_,_,p,_⟩:=I.list hq;exact RcNeAt.none_list p.isList hu0 _ _ _ _ fin
   |tup hq _ _=>cases rx;cases ry;obtain ⟨_,_,p,_⟩:=I.tuple hq;exact RcNeAt.none_tuple p hu0 _ _ _ _ fin
   |_=>cases e
  |bl b=>cases h2 with
   |lst hq _ _=>cases rx;cases ry;obtain ⟨_,_,p,_⟩:=I.list hq;exact RcNeAt.bool_list b p.isList hu0 _ _ _ _ fin
   |tup hq _ _=>cases rx;cases ry;obtain ⟨_,_,p,_⟩:=I.tuple hq;exact RcNeAt.bool_tuple b p hu0 _ _ _ _ fin
   |int j=>cases rx;obtain ⟨t,rfl⟩:=ry;exact RcNeAt.bool_int b j t _ _ _ _ fin
   |_=>cases e
  |int i=>cases h2 with
   |lst hq _ _=>obtain ⟨t,rfl⟩:=rx;cases ry;obtain ⟨_,_,p,_⟩:=I.list hq;exact RcNeAt.int_list i t p.isList hu0 _ _ _ _ fin
   |tup hq _ _=>obtain ⟨t,rfl⟩:=rx;cases ry;obtain ⟨_,_,p,_⟩:=I.tuple hq;exact RcNeAt.int_tuple i t p hu0 _ _ _ _ fin
   |bl b=>obtain ⟨t,rfl⟩:=rx;cases ry;exact RcNeAt.int_bool i t b _ _ _ _ fin
   |_=>cases e
  |str z=>cases h2 with
   |lst hq _ _=>obtain ⟨t,rfl⟩:=rx;cases ry;obtain ⟨_,_,p,_⟩:=I.list hq;exact RcNeAt.str_list z t p.isList hu0 _ _ _ _ fin
   |tup hq _ _=>obtain ⟨t,rfl⟩:=rx;cases ry;obtain ⟨_,_,p,_⟩:=I.tuple hq;exact RcNeAt.str_tuple z t p hu0 _ _ _ _ fin
   |_=>cases e
end
structure MA (h:Heap)(a T:Addr)(cls:Value)(dd:Option Addr)(fl:Value):Prop where
 ex:∃oe vs oT ts,h.get? a=some oe/\oe.cls=cls/\oe.dict=dd/\oe.data= .fields vs/\vs[1]? =some (.ref T)/\vs[2]? =some .none/\T≠a/\h.get? T=some oT/\oT.data= .fields ts/\ts[3]? =some fl
structure Pass (fs:List Addr)(ch:List Addr)(h h':Heap):Prop where
 keep:∀b o,b∉ch->b∉fs->h.get? b=some o->h'.get? b=some o
 slot:∀b o,b∉ch->h.get? b=some o->∃sl,h'.get? b=some {o with slots:=sl}
theorem AX {o:Obj}{vs:Array Value}(hd:o.data= .fields vs)(f:Array Value->Array Value):Obj.mapFields f o= {o with data:= .fields (f vs)}:=by
 obtain ⟨c,d,dt,sl⟩:=o;cases hd;rfl
section
variable {M:Model}{A:Around}{E:Value->Shared->Prop}{s:Shared}
theorem uT {base:Heap}{env:Env}{outer:List Env}{L e:Addr}{oe:Obj}{vs:Array Value}{head:Value}{hadNext:Bool}{Q:Unit->Shared->Prop}
(hfr:A.frames=some (env::outer))(hl:s.heap.FunFrames base (env::outer))(hf:env.frame=some L)(he:s.heap.get? e=some oe)(hd:oe.data= .fields vs)(hsz:1<vs.size)(h2:vs[2]? =some .none)
(h:∀h' T,Pass (xt (env::outer)) [e] s.heap h'->s.heap.get? T=none->MA h' e T oe.cls oe.dict (rawInt L)->Q () {s with heap:=h'}):
 wpAny M A (do let a<-frameOf env;let pl<-entryPlaceOf L hadNext;let b<-EntryCells.newEntry head a .none (rawInt L) .none pl;setField (.ref e) 1 b) Q E s:=by
 have hene:e∉(env::outer).filterMap (·.frame):=λhm=>by
  obtain ⟨_,o,ho,hnf⟩:=hl.mem hm;rw [he] at ho;cases ho;exact hnf vs hd
 rwa[wpAny_bind (wpAny_frameOf_fun hfr hl hf λh₁ hs₁=>wpAny_bind (wpAny_entryPlaceOf λpl hpl=> ?_))];unfold EntryCells.newEntry newFields;rwa[wpAny_bind (wpAny_newObj_type ?_ (hpl.sizeOk5 _ _ _ _ _))];have he₁:h₁.get? e=some oe:=(hs₁.2.1 e hene).trans he;generalize ho:({cls:= .type "traceback",dict:=none,data:= .fields ([head,.ref L,.none,rawInt L,.none]++(if pl.isEmpty then List.replicate 6 Value.none else pl)).toArray}:Obj)=o
 have hdo:o.data= .fields ([head,.ref L,.none,rawInt L,.none]++(if pl.isEmpty then List.replicate 6 Value.none else pl)).toArray:=by rw [<-ho]
 have hfo:o.isFreed=false:=by rw [<-ho];rfl
 have he₂:=Heap.get?_push_of_some (h:=h₁) o he₁;rwa[wpAny_setField he₂ hd hsz ?_];have hTe:h₁.objs.size≠e:=Nat.ne_of_gt (Heap.lt_size he₁);have hd₃:=Obj.data_mapFields hd (·.setIfInBounds 1 (Value.ref h₁.objs.size));have he₃:=Heap.get?_update_self (Obj.mapFields (·.setIfInBounds 1 (Value.ref h₁.objs.size))) he₂ (Obj.isFreed_of_fields hd₃);have hT₃:=(Heap.get?_update_other (h₁.push o) (Obj.mapFields (·.setIfInBounds 1 (Value.ref h₁.objs.size))) (Ne.symm hTe)).trans (Heap.get?_push_size h₁ hfo)
 have keep:∀b u,b≠e->h₁.get? b=some u->((h₁.push o).update e (Obj.mapFields (·.setIfInBounds 1 (Value.ref h₁.objs.size)))).get? b=some u:=λb u hbe hb=>by
  rw [Heap.get?_update_other _ _ (Ne.symm hbe)];exact Heap.get?_push_of_some _ hb
 rwa[h _ h₁.objs.size ⟨λb u hb hbf hbo=> ?_,λb u hb hbo=> ?_⟩ (Heap.get?_none_of_le (by rw [hs₁.1];exact Nat.le_refl _)) ⟨_,_,o,_,he₃,?_,?_,hd₃,by simp [hsz],by rw [Array.getElem?_setIfInBounds_ne ↑2];exact h2,hTe,hT₃,hdo,?_⟩]
 ·exact keep b u (λz=>hb (by simp [z])) ((hs₁.2.1 b hbf).trans hbo)
 ·obtain ⟨sl,hs⟩:=hs₁.2.2 b u hbo;exact ⟨sl,keep b _ (λz=>hb (by simp [z])) hs⟩
 ·exact Obj.cls_mapFields _ _
 ·rw [AX hd]
 ·first|(simp;done)|(rcases hpl with rfl|⟨_,_,_,_,_,_,_,rfl⟩<;>simp)
theorem Am {a T:Addr}{cls fl:Value}{dd:Option Addr}{f:Option Addr}{Q:Unit->Shared->Prop}(x:MA s.heap a T cls dd fl)
(h:∀h',Pass [] [T] s.heap h'->MA h' a T cls dd (f.elim .none λf=>rawInt f)->Q () {s with heap:=h'}):wpAny M A (setFlight (.ref a) f) Q E s:=by
 obtain ⟨oe,vs,oT,ts,h1,h2,h3,h4,h5,h5',h6,h7,h8,h9⟩:=x.ex;have hsz:3<ts.size:=(Array.getElem?_eq_some_iff.mp h9).1;unfold setFlight;rwa[wpAny_bind (wpAny_field h1 h4 h5 ?_)];rw [if_pos (show (Value.ref T != Value.none)=true from by simp)];have other:∀b,b≠T->∀g,(s.heap.update T g).get? b=s.heap.get? b:=λb hb g=>Heap.get?_update_other _ _ (Ne.symm hb);rwa[wpAny_setField h7 h8 hsz (h _ ⟨λb o hb _ hbo=>(other b (λz=>hb (by simp [z])) _).trans hbo,λb o hb hbo=>⟨o.slots,(other b (λz=>hb (by simp [z])) _).trans hbo⟩⟩ ?_)];exact ⟨oe,vs,_,_,(other a (Ne.symm h6) _).trans h1,h2,h3,h4,h5,h5',h6,Heap.get?_update_self _ h7 (Obj.isFreed_of_fields (Obj.data_mapFields h8 _)),Obj.data_mapFields h8 _,by simp [hsz]⟩
end
theorem Pass.more {fs fs' ch:List Addr}{h h1:Heap}(a:Pass fs ch h h1)(hs:∀b∈fs,b∈fs'):Pass fs' ch h h1:=⟨λb o hb hf e=>a.keep b o hb (λz=>hf (hs b z)) e,a.slot⟩
def Nw (X:Cx)(pins:List ↑14)(H:Hp)(b:Addr):Prop:=H b=none/\b≠X.env.locals/\b∉X.fs/\(b∈X.ex\/X.s₀.heap.get? b=none)/\(∀x c,X.env.cells.lookup x=some c->c≠b)/\∀p∈X.pn++pins,p.1≠b
theorem bE.here {P:Program}{w:World}{H:Hp}{h:Heap}{a:Addr}{o:HO}(x:bE P w H h a o):∃u,h.get? a=some u:=by
 cases o with
 |lst xs=>obtain ⟨_,_,_,_,e⟩:=x;exact ⟨_,e⟩
 |tup xs=>obtain ⟨_,_,_,o,e,_⟩:=x;exact ⟨_,e⟩
 |dK kvs=>obtain ⟨_,_,_,_,o,_,_,e,_⟩:=x;exact ⟨_,e⟩
 |dT kvs=>obtain ⟨_,_,_,_,o,_,_,e,_⟩:=x;exact ⟨_,e⟩
 |set S n=>obtain ⟨o,_,_,_,e,_⟩:=x;exact ⟨_,e⟩
 |ins C dx fs=>obtain ⟨_,_,_,e,_⟩:=x;exact ⟨_,e⟩
 |own y=>obtain ⟨_,e⟩:=x;exact ⟨_,e⟩
 |xd fs=>obtain ⟨_,⟨_,_,_,e,_⟩,_⟩:=x;exact ⟨_,e⟩
 |rng lo hi=>obtain ⟨_,_,_,e⟩:=x;exact ⟨_,e⟩
 |frz ob u=>obtain ⟨e,_⟩:=x;exact ⟨_,e⟩
 |tbl ps=>exact ⟨_,show h.get? a=some _ from x⟩
 |met f y=>exact ⟨_,show h.get? a=some _ from x⟩
 |ext φ=>obtain ⟨_,e,_⟩:=x;exact e
theorem gd.none_of {P:Program}{w:World}{H:Hp}{h:Heap}{a:Addr}(x:gd P w H h)(e:h.get? a=none):H a=none:=by
 cases q:H a with
 |none=>rfl
 |some o=>obtain ⟨u,z⟩:=(x a o q).here;rw [e] at z;cases z
section
variable {X:Cx}{pins:List ↑14}{σ:St}{H:Hp}{s:Shared}
theorem aF.nw {H':Hp}{b:Addr}(I:aF X pins σ H s)(hb:s.heap.get? b=none)(hn:H' b=none):Nw X pins H' b:=by
 rwa[⟨hn,λz=> ?_,λz=> ?_,?_,λx c e z=> ?_,λp hp z=> ?_⟩]
 ·obtain ⟨m,⟨o,_,_,ho,_⟩,_⟩:=I.loc;rw [<-z,hb] at ho;cases ho
 ·obtain ⟨_,o,ho,_⟩:=I.funs.mem z;rw [hb] at ho;cases ho
 ·by_cases hx:b∈X.ex
  ·exact .inl hx
  ·rwa[.inr ?_]
   cases q:X.s₀.heap.get? b with
   |none=>rfl
   |some o=>obtain ⟨o',e⟩:=I.base.there b o q hx;rw [hb] at e;cases e
 ·obtain ⟨v,o,ho,_⟩:=I.cell x c e;rw [z,hb] at ho;cases ho
 ·have e:=(I.pin p hp).1;rw [z,hb] at e;cases e
theorem aF.pass {ch:List Addr}{h':Heap}(I:aF X pins σ H s)(p:Pass (xt X.stack) ch s.heap h')(hc:∀b∈ch,Nw X pins H b):aF X pins σ H {s with heap:=h'}:=by
 have nch:∀b u,H b=some u->b∉ch:=λb u e z=>by rw [(hc b z).1] at e;cases e
 have nfr:∀b u,H b=some u->b∉xt X.stack:=λb u e z=>by rw [I.stkFree b z] at e;cases e
 have neC:∀b o,X.s₀.heap.get? b=some o->b∉X.ex->b∉ch:=λb o e hx hb=>by
  rcases (hc b hb).2.2.2.1 with z|z
  ·exact hx z
  ·rw [e] at z;cases z
 have neL:∀b o,X.s₀.heap.get? b=some o->b≠X.env.locals:=λb o e=>Nat.ne_of_lt (Nat.lt_of_lt_of_le (Heap.lt_size e) I.ok.above)
 have nst:∀b o,X.s₀.heap.get? b=some o->b∉X.fs->b∉xt X.stack:=λb o e hb z=>by
  rcases List.mem_cons.mp (I.stkSub b z) with q|q
  ·exact neL b o e q
  ·exact hb q
 have lch:X.env.locals∉ch:=λz=>(hc _ z).2.1 rfl;have cch:∀x c,X.env.cells.lookup x=some c->c∉ch:=λx c e z=>(hc c z).2.2.2.2.1 x c e rfl
 have cellK:∀x c,X.env.cells.lookup x=some c->∀v,s.heap.IsCell c v->h'.IsCell c v:=λx c e v ⟨o,ho,hd⟩=>by
  obtain ⟨sl,q⟩:=p.slot c o (cch x c e) ho;exact ⟨_,q,hd⟩
 rwa[⟨I.ok,I.os,I.bare,⟨λb o e n hb hx=> ?_,λb o e n hb hx=> ?_,I.base.free,λb o e hx=> ?_,I.base.tups,I.base.frzs,I.base.tbls⟩,?_,λx c e=> ?_,I.free,I.freeC,λq hq=> ?_,λb u e=> ?_,I.len⟩]
 ·exact p.keep b o (neC b o e hx) (nst b o e hb) (I.base.keep b o e n hb hx)
 ·obtain ⟨sl,e1⟩:=I.base.slot b o e n hb hx;obtain ⟨sl',e2⟩:=p.slot b _ (neC b o e hx) e1;exact ⟨sl',e2⟩
 ·obtain ⟨o',e1⟩:=I.base.there b o e hx;obtain ⟨sl',e2⟩:=p.slot b _ (neC b o e hx) e1;exact ⟨_,e2⟩
 ·obtain ⟨m,⟨o,es,ep,ho,r⟩,hl⟩:=I.loc;obtain ⟨sl,hL⟩:=p.slot _ o lch ho;rwa[⟨m,⟨_,es,ep,hL,r⟩,λi x v e1 e2 e3=> ?_⟩];obtain ⟨u,rv,l⟩:=hl i x v e1 e2 e3;rwa[⟨u,rv,?_⟩]
  rcases l with l|⟨k,c,e,z⟩
  ·exact .inl l
  ·exact .inr ⟨k,c,e,cellK x c e _ z⟩
 ·obtain ⟨v,z⟩:=I.cell x c e;exact ⟨v,cellK x c e v z⟩
 ·obtain ⟨e,n,ne,nf,d⟩:=I.pin q hq;rwa[⟨p.keep q.1 q.2 (λz=>(hc _ z).2.2.2.2.2 q hq rfl) (λz=> ?_) e,n,ne,nf,d⟩]
  rcases List.mem_cons.mp (I.stkSub _ z) with y|y
  ·exact ne y
  ·exact nf y
 ·rwa[(I.hok b u e).stay (λc v hcv q=>p.keep c v ?_ ?_ q) (λ_ q=>q) λ_ _ q=>q]
  ·rcases hcv with z|z
   ·rw [z];exact nch b u e
   ·exact nch c _ z
  ·rcases hcv with z|z
   ·rw [z];exact nfr b u e
   ·exact nfr c _ z
def MK (X:Cx)(pins:List ↑14)(H:Hp)(h:Heap)(a:Addr)(cls:Value)(dd:Option Addr):Prop:=Nw X pins H a/\
 ((∃oe vs,h.get? a=some oe/\oe.cls=cls/\oe.dict=dd/\oe.data= .fields vs/\vs[1]? =some .none/\vs[2]? =some .none)\/∃T fl,MA h a T cls dd fl/\Nw X pins H T/\(fl= .none\/∃L,X.env.frame=some L/\fl=rawInt L))
theorem E7 {A:Around}{M:Model}{E:Value->Shared->Prop}{a:Addr}{cls:Value}{dd:Option Addr}{Q:Unit->Shared->Prop}{L:Addr}(I:aF X pins σ H s)(x:MK X pins H s.heap a cls dd)
(hA:A.frames=some X.stack)(hst:X.stack=X.env::X.outer)(hf:X.env.frame=some L)
(h:∀h' T,aF X pins σ H {s with heap:=h'}->Nw X pins H T->MA h' a T cls dd (rawInt L)->Q () {s with heap:=h'}):wpAny M A (noteFrame (.ref a) X.env) Q E s:=by
 obtain ⟨fa,x⟩:=x
 have hfr:A.frames=some (X.env::X.outer):=by rw [<-hst];exact hA
 have hl:s.heap.FunFrames X.base (X.env::X.outer):=by rw [<-hst];exact I.stack
 unfold noteFrame;simp only [hf]
 rcases x with ⟨oe,vs,h1,h2,h3,h4,h5,h5'⟩|⟨T,fl,x,fT,hfl⟩
 ·rwa[wpAny_bind (wpAny_field h1 h4 h5 ?_)];rw [if_neg ↑2];rwa[uT hfr hl hf h1 h4 (Array.getElem?_eq_some_iff.mp h5).1 h5' λh' T p hT x=> ?_];rw [<-hst] at p;have J:=I.pass p (by simpa using fa);exact h h' T J (I.nw hT (I.hok.none_of hT)) (by rw [<-h2,<-h3];exact x)
 ·obtain ⟨oe,vs,oT,ts,h1,h2,h3,h4,h5,h5',h6,h7,h8,h9⟩:=id x.ex;rwa[wpAny_bind (wpAny_field h1 h4 h5 ?_)];rw [if_pos (show (Value.ref T != Value.none)=true from by simp)];rwa[wpAny_bind (wpAny_field h7 h8 h9 ?_)]
  rcases hfl with rfl|⟨L',hL',rfl⟩
  ·rw [if_neg (show ¬((Value.none==rawInt L)=true) from by simp [rawInt])];have hsz:3<ts.size:=(Array.getElem?_eq_some_iff.mp h9).1;rwa[wpAny_bind (wpAny_setField h7 h8 hsz ?_)];have other:∀b,b≠T->∀g,(s.heap.update T g).get? b=s.heap.get? b:=λb hb g=>Heap.get?_update_other _ _ (Ne.symm hb)
   have p1:Pass (xt X.stack) [T] s.heap (s.heap.update T (Obj.mapFields (·.setIfInBounds 3 Value.none))):=
    ⟨λb o hb _ hbo=>(other b (λz=>hb (by simp [z])) _).trans hbo,λb o hb hbo=>⟨o.slots,(other b (λz=>hb (by simp [z])) _).trans hbo⟩⟩
   have J1:=I.pass p1 (by simpa using fT);rwa[uT (s:= {s with heap:=s.heap.update T (Obj.mapFields (·.setIfInBounds 3 Value.none))}) hfr (base:=X.base) (by rw [<-hst];exact J1.stack) hf ((other a (Ne.symm h6) _).trans h1) h4 (Array.getElem?_eq_some_iff.mp h5).1 h5' λh' T' p hT x'=> ?_];rw [<-hst] at p;have J:=J1.pass p (by simpa using fa);exact h h' T' J (J1.nw hT (J1.hok.none_of hT)) (by rw [<-h2,<-h3];exact x')
  ·rw [hf] at hL';cases hL';rw [if_pos (show (rawInt L==rawInt L)=true from by simp)];exact wpAny_pure (h s.heap T I fT x)
theorem Cj {A:Around}{M:Model}{E:Value->Shared->Prop}{a:Addr}{cls:Value}{dd:Option Addr}{Q:Unit->Shared->Prop}{L:Addr}(I:aF X pins σ H s)(x:MK X pins H s.heap a cls dd)
(hA:A.frames=some X.stack)(hst:X.stack=X.env::X.outer)(hf:X.env.frame=some L)
(h:∀h' T,aF X pins σ H {s with heap:=h'}->Nw X pins H T->MA h' a T cls dd .none->Q () {s with heap:=h'}):wpAny M A (leaving X.env (.ref a)) Q E s:=by
 unfold leaving;rwa[wpAny_bind (E7 I x hA hst hf λh1 T J fT x1=>Am (s:= {s with heap:=h1}) x1 λh2 p x2=> ?_)];exact h h2 T (J.pass (p.more λ_ z=>nomatch z) (by simpa using fT)) fT x2
end
def j4 (P:Program)(w:World):nJ:=λouter H s E e s'=>∃(a T:Addr) (cls:Value) (dd:Option Addr) (H':Hp),e= .ref a/\s'.os=s.os/\AllBare s'.gens/\Un (xt outer) [] H H' s.heap s'.heap/\gd P w H' s'.heap/\
 s.heap.get? a=none/\s.heap.get? T=none/\H' a=none/\H' T=none/\MA s'.heap a T cls dd .none/\E cls dd H'
def Fl (X:Cx)(E:XK):Prop:=∀(pins:List ↑14) (σ:St) (H:Hp) (s:Shared) (a:Addr) (cls:Value) (dd:Option Addr),aF X pins σ H s->MK X pins H s.heap a cls dd->E cls dd H->X.xe (.ref a) s
theorem aF.afterE {X:Cx}{pins:List ↑14}{σ:St}{H:Hp}{s s':Shared}{E:XK}{e:Value}(I:aF X pins σ H s)(h:j4 X.prog X.w X.stack H s E e s'):
 ∃a cls dd H',e= .ref a/\aF X pins σ H' s'/\MK X pins H' s'.heap a cls dd/\E cls dd H':=by
 obtain ⟨a,T,cls,dd,H',rfl,os,bare,un,hok,ha,hT,na,nT,x,q⟩:=h;rwa[⟨a,cls,dd,H',rfl,I.call' os un hok bare (λb z=>nomatch z),⟨I.nw ha na,.inr ⟨T,_,x,I.nw hT nT,.inl rfl⟩⟩,q⟩]
theorem Fl.passes {X:Cx}{E:XK}(f:Fl X E):fN (j4 X.prog X.w) X E:=λpins σ H s e s' I h=>by
 obtain ⟨a,cls,dd,H',rfl,J,x,q⟩:=I.afterE h;exact f pins σ H' s' a cls dd J x q
section
variable {P:Program}{w:World}{K:Fg}{mg:Str->Option Value}{base:Heap}{N:List Str}{qual:Str}{scope:Scope}{f:Addr}{cd:Value}{A:Around}{outer:List Env}{s:Shared}{H:Hp}{E:XK}
theorem bS:Fl (ng (j4 P w) P w K mg base N qual scope f cd A outer s H E) E:=by
 intro pins σ H' s' a cls dd I x q;show wpAny _ _ _ _ _ _;rwa[Cj I x I.ok.frames rfl rfl λh' T J fT x'=> ?_];have fa:=x.1;rwa[⟨a,T,cls,dd,H',rfl,J.os,J.bare,J.base,J.hok,?_,?_,fa.1,fT.1,x',q⟩]
 ·rcases fa.2.2.2.1 with z|z
  ·exact absurd (show a∈([]:List Addr) from z) ↑17
  ·exact z
 ·rcases fT.2.2.2.1 with z|z
  ·exact absurd (show T∈([]:List Addr) from z) ↑17
  ·exact z
theorem rD:PassesOwn (model P w) (ng (j4 P w) P w K mg base N qual scope f cd A outer s H E).A (ng (j4 P w) P w K mg base N qual scope f cd A outer s H E).env (ng (j4 P w) P w K mg base N qual scope f cd A outer s H E).xe:=by
 intro e s' h;have h':wpAny (model P w) (A.deeper (envOfC qual scope s.heap.objs.size f cd)) (leaving (envOfC qual scope s.heap.objs.size f cd) e) (λ_ s''=>j4 P w outer H s E e s'') (λe' s''=>j4 P w outer H s E e' s'') s':=h;exact PassesOwn.leaving (Q₁:=λe s''=>j4 P w outer H s E e s'') (E₁:=λe' s''=>j4 P w outer H s E e' s'') e s' h'
end
theorem bw.okX {P:Program}{w:World}{K:Fg}{mg:Str->Option Value}{base:Heap}{x qual:Str}{st:Stmt}{f:Addr}{fd:FuncData}{N ps:List Str}{k:Nat}{sp:Sp}(F:bw K x qual st f fd)(S:am N ps (ai st))(len:∀vs H Q E,sp vs H Q E->vs.length=ps.length)
(hbody:∀(cdv:Value) (A:Around) (outer:List Env) (s:Shared) (H:Hp) (vs:List V) (Q:VK) (E:XK),b4 k (A.deeper (envOfC qual (ai st) s.heap.objs.size f cdv))->sp vs H Q E->
   ∃t,uq (ng (j4 P w) P w K mg base N qual (ai st) f cdv A outer s H E) (bK st) t/\t {nx:=λ_ H'=>Q .non H',rt:=Q} (start N vs) H):aD P w K mg base (j4 P w) (k+1) f fd ps sp:=by
 obtain ⟨oc,od,kV,doc,pm,an,cdv,ct,osl,rfl,lk,hcd⟩:=F.ex;exact FD lk hcd S len λA outer s H vs Q E hr hsp=>hbody cdv A outer s H vs Q E hr hsp
structure p9 (P:Program)(w:World)(K:Fg)(mg:Str->Option Value)(base:Heap)(n:Nat)(x:Str)(ps:List Str)(sp:Sp):Prop where
 ex:∃f fd,aD P w K mg base (j4 P w) n f fd ps sp/\fm K fd ps []/\W.keepIn K (.ref f)=true/\mg x=some (.ref f)
section
variable {X:Cx}{x:Str}{p pos:Pos}{e:Expr}{es:List Expr}{t:TA}{ps:List Str}{sp:Sp}{n m:Nat}{E:XK}
theorem jg (fl:Fl X E)(c:p9 X.prog X.w X.K X.mg X.base n x ps sp)(hr:b4 m X.A)(hn:n<=m)(hg:Gl X x)(ha:PA X (e::es) t)(hdb:↑27=false:=by decide)
(hp:aV (e::es)=true:=by rfl):PE X (.Call (.Name x p) (e::es) [] pos) (xM sp [] E t):=by
 obtain ⟨f,fd,F,b,k,hm⟩:=c.ex;have h':(bR e&&aV es)=true:=hp;rw [Bool.and_eq_true] at h';exact AT (F.mono hn) hr hg hm k b .nil fl.passes ha hdb (bf h'.1) (b0 h'.2)
end
theorem IV {K:Fg}{h:Heap}{C:Addr}{bmB:List Value}{newId:String}(X:K.In h)(q:W.excIn K C bmB newId=true):
 ∃bm N nm q bs hdct sn sub ab col dd k0 k1 k2 k3 k5 mN,h.get? C=some (excClassObj nm q C N bs bm hdct sn sub ab col dd k0 k1 k2 k3 k5 newId)/\h.Ns N mN/\mN "__init__"=none/\OwnTail h bmB bm:=by
 unfold W.excIn at q;split at q
 case h_2=>cases q
 case h_1 dd cd sl ho=>
  split at q
  case h_2=>cases q
  case h_1 C' bm k0 k1 k2 k3 n k5 hm hs=>
   simp only [Bool.and_eq_true,beq_iff_eq,Bool.not_eq_true'] at q;obtain ⟨⟨⟨⟨⟨e1,e2⟩,hdel⟩,ht⟩,hok⟩,hni⟩:=q;subst e1 e2;obtain ⟨nm,bs,mro,ns,qn,hd,sn,sub,ab,col,del⟩:=cd;dsimp only at hm hdel hok hni;subst hm hdel;obtain ⟨l⟩:=sl;simp only at hs;subst hs;exact ⟨bm,ns,nm,qn,bs,hd,sn,sub,ab,col,dd,k0,k1,k2,k3,k5,_,X _ _ ho,.of_isNs (W.isNs_of_in X hok),W.nsMap_none_of_in X hok hni,W.tail_of_in X ht⟩
def Kx (C:Addr)(E:XK)(t:TA):TS:=λ_ σ H=>t σ H λvs H1=>vs.length<=sizeLine/\E (.ref C) none H1
section
variable {X:Cx}{C:Addr}{bmB:List Value}{B newId initId:String}{x:Str}{np cpos pos:Pos}{e:Expr}{es:List Expr}{t:TA}{E:XK}
theorem aF.made' {pins:List ↑14}{σ:St}{H:Hp}{s:Shared}{h':Heap}{a:Addr}{vs:List Value}(I:aF X pins σ H s)(m:Heap.MadeExcOf s.heap h' a (.ref C) vs):
 aF X pins σ H {s with heap:=h'}/\MK X pins H h' a (.ref C) none:=by
 obtain ⟨t,h1,_⟩:=m.there;exact ⟨I.kept (t':=s.toks) m.keeps,I.nw m.new (I.hok.none_of m.new),.inl ⟨_,_,h1,rfl,rfl,rfl,rfl,rfl⟩⟩
theorem eM (fl:Fl X E)(hc:X.calm=true)(O:W.excIn X.K C bmB newId=true)(FB:ExcBaseFacts B newId initId bmB)(hg:Gl X x)(hm:X.mg x=some (.ref C))(ha:PA X (e::es) t)
(hp:aV (e::es)=true:=by rfl)(hdb:↑27=false:=by decide):PS X (.Raise (some (.Call (.Name x np) (e::es) [] cpos)) none pos) (Kx C E t):=by
 intro pins s σ H D I h;have h':(bR e&&aV es)=true:=hp;rw [Bool.and_eq_true] at h';have he:=bf (env:=X.env) (es:=es) h'.1;have hpl:(backTo cpos (starEach es X.env)).any (·.1)=false:=b0 h'.2;obtain ⟨bm,N,nm,q,bs,hdct,sn,sub,ab,col,dd,k0,k1,k2,k3,k5,mN,hC,hN,hni,T⟩:=IV I.ok.mod.kin O
 refine wpAny_Raise_call_subT (C:=C) (nm:=nm) (q:=q) (N:=N) (bs:=bs) (bm:=bm) (hdct:=hdct) (sn:=sn) (sub:=sub) (ab:=ab) (col:=col) (dd:=dd) (k0:=k0) (k1:=k1) (k2:=k2) (k3:=k3) (k5:=k5)
  FB (mN:=mN) (T.hasType FB.hasBase) (I.ok.hd hc) (by rw [he];show (false||(backTo cpos (starEach es X.env)).any (·.1))=false;rw [hpl];rfl) hni (im I hg hm ⟨rfl,?_⟩ hdb)
 have hA:=ha cpos pins s σ H _ I h;rw [he] at hA ⊢;rwa[Calls.evalArgs_plain (bT hA λus s2 ⟨vs,H2,I2,r,z,q2⟩=>⟨rfl,by rw [<-r.length];exact z,I2.bk _ _ hC,hN.keeps I2.bk,T.keeps I2.bk,λh' a m=> ?_⟩)];obtain ⟨J,x⟩:=I2.made' m;exact fl pins σ H2 _ a _ _ J x q2
end
structure Exc0 (K:Fg)(C:Addr):Prop where
 ex:∃bmB newId,W.excIn K C bmB newId=true/\bmB.contains (.type "BaseException")=true
def Cx.mk' (X:Cx)(a:Addr):Cx:= {X with A:=X.A.mark (some (.ref a)),calm:=false,xe:=λ_ _=>False}
def XP (X:Cx)(pins:List ↑14)(σ:St)(E:XK)(e:Value)(s':Shared):Prop:=∃a cls dd H',e= .ref a/\aF X pins σ H' s'/\MK X pins H' s'.heap a cls dd/\E cls dd H'
open PySem.W
section
variable {prog:Program}{w:World}{A:Around}{E:Value->Shared->Prop}{s:Shared}{K:Frag}{x D:Addr}{ox:Obj}{odo:Option Obj}{name:Str}
theorem Mp {R:Result->Shared->Prop}{tk:Tok}(X:K.In s.heap)(I:PySem.W.InstAt s.heap x ox D odo)
(hcl:findIn K (.ref D) "__class__"=some (some (.builtin "object.__class__")))(hmB:mroIn K D (.type "BaseException")=some true)(hmO:mroIn K D (.type "object")=some true)
(h:R (.ok (.ret (.ref D))) s):codeAny (model prog w) A (.call (.builtin "BaseException.__getattribute__") ⟨[.ref x,.str (Str.ofString "__class__") tk],[]⟩) R s:=by
 obtain ⟨hh,g,d,t,os⟩:=s;have L0:=I.type (M:=model prog w);have L3:=looks_findIn (M:=model prog w) X hcl;have L4:=looks_mroIn (M:=model prog w) X hmB;rwa[codeAny_call_builtin PySem.F.attr_ValueError.ga.plain PySem.F.entry_bexc_ga ?_]
 have hk:builtinKind "BaseException.__getattribute__"=some .slot:=by decide+kernel
 have hsplit:splitId "BaseException.__getattribute__"=some ("BaseException","__getattribute__"):=by decide+kernel
 have ha:=PySem.F.args_bexc_ga (.ref x) (.str (Str.ofString "__class__") tk);simp only [checkBuiltinCall,hk,hsplit];rwa[wpAny_bind ?_];unfold isInstance;rwa[wpAny_bind (L0.at (L4.at ?_))];have f5:=KF.type_class;have f6:=PySem.F.slot_gs_get.lookup;have f7:=PySem.F.slot_gs_set.lookup
 repeat (any_goals (first|assumption|with_reducible refine L0.at ?_|with_reducible refine L3.at ?_|wp_step))
 rwa[class_get (s:=⟨hh,g,d,t,os⟩) (ox:=ox) (od:=odo) X I hmO ?_]
 repeat (any_goals (first|assumption|wp_step))
theorem IW {Q:Option Value->Shared->Prop}(X:K.In s.heap)(I:PySem.W.InstAt s.heap x ox D odo)(hga:findIn K (.ref D) "__getattribute__"=some (some (.builtin "BaseException.__getattribute__")))
(hgr:findIn K (.ref D) "__getattr__"=some none)(hcl:findIn K (.ref D) "__class__"=some (some (.builtin "object.__class__")))(hmB:mroIn K D (.type "BaseException")=some true)(hmO:mroIn K D (.type "object")=some true)
(h:Q (some (.ref D)) {s with toks:=s.toks+1}):wpAny (model prog w) A (getAttr? (.ref x) "__class__") Q E s:=by
 obtain ⟨hh,g,d,t,os⟩:=s;have L0:=I.type (M:=model prog w);have L1:=looks_findIn (M:=model prog w) X hga;have L2':=looks_findIn (M:=model prog w) X hgr;have L3:=looks_findIn (M:=model prog w) X hcl;have L4:=looks_mroIn (M:=model prog w) X hmB;have f3:=PySem.F.attr_ValueError.ga.bind (.ref x);unfold getAttr? getAttrBy? getAttrBy;rwa[wpAny_bind (wpAny_mkText (wpAny_bind (wpAny_attempt (wpAny_holding (wpAny_bind (L0.at (wpAny_bind (L1.at ?_))))))))]
 have hx2:(Value.builtin "BaseException.__getattribute__"==Value.builtin "object.__getattribute__")=false:=by decide+kernel
 repeat (any_goals (first|assumption|wp_step))
 rwa[L2'.at ?_]
 repeat (any_goals (first|assumption|wp_step))
 rwa[Mp X I hcl hmB hmO ?_];exact handed_on rfl (wpAny_pure h)
end
def Mq (a:Addr)(cls:Value)(dd:Option Addr):HO:= .ext λh=>∃oe vs,h.get? a=some oe/\oe.cls=cls/\oe.dict=dd/\oe.data= .fields vs/\vs[2]? =some .none
structure O2 (K:Frag)(D:Addr):Prop where
 ga:findIn K (.ref D) "__getattribute__"=some (some (.builtin "BaseException.__getattribute__"))
 gr:findIn K (.ref D) "__getattr__"=some none
 cl:findIn K (.ref D) "__class__"=some (some (.builtin "object.__class__"))
 mB:mroIn K D (.type "BaseException")=some true
 mO:mroIn K D (.type "object")=some true
theorem yv {K:Frag}{x D:Addr}{ox:Obj}{odo:Option Obj}(k:O2 K D):KitX K (.ref x) (.ref D) (λh=>PySem.W.InstAt h x ox D odo) where
 ty:=λ_ _ _ I=>I.type
 it:=λM h X _=>by
  obtain ⟨cd,hc,_⟩:=Option.bind_eq_some_iff.mp k.mO;unfold clsIn at hc;split at hc
  ·rename_i c' d' cd' sl' ho;intro A' Q' E' s' kk q;unfold isType loadHead;exact wpAny_bind (wpAny_loadPart (kk _ _ (X _ _ ho)) (wpAny_pure q))
  ·cases hc
 ne:=λh tp dd its n sl X htp=>by
  obtain ⟨cd,hc,_⟩:=Option.bind_eq_some_iff.mp k.mO;rwa[Bool.eq_false_iff.mpr λq=> ?_];have e:D=tp:=Value.ref.inj (beq_iff_eq.mp q);subst e;unfold clsIn at hc;split at hc
  ·rename_i c' d' cd' sl' ho;have z:=(X _ _ ho).symm.trans htp;cases z
  ·cases hc
 ca:=λX I q=>IW X I k.ga k.gr k.cl k.mB k.mO q
section
variable {X:Cx}{pins:List ↑14}{σ:St}{H:Hp}{s:Shared}{a:Addr}{o:HO}
theorem aF.track (I:aF X pins σ H s)(n:Nw X pins H a)(ok:bE X.prog X.w (upd H a o) s.heap a o):aF X pins σ (upd H a o) s:=by
 obtain ⟨n1,n2,n3,n4,n5,n6⟩:=n
 have old:∀b u,H b=some u->upd H a o b=some u:=λb u e=>by rw [ap (bC e n1)];exact e
 rwa[⟨I.ok,I.os,I.bare,⟨I.base.keep,I.base.slot,λb u e n hx=> ?_,I.base.there,λb xs e=>old _ _ (I.base.tups b xs e),λb u v e=>old _ _ (I.base.frzs b u v e),λb ps e=> ?_⟩,I.loc,I.cell,?_,λx c e=> ?_,λp hp=> ?_,λb u e=> ?_,I.len⟩]
 ·have hb:b≠a:=λz=>by
   subst z
   rcases n4 with q|q
   ·exact hx q
   ·rw [e] at q;cases q
  rw [ap hb];exact I.base.free b u e n hx
 ·obtain ⟨m,q⟩:=I.base.tbls b ps e;exact ⟨m,old _ _ q⟩
 ·rw [ap (Ne.symm n2)];exact I.free
 ·rw [ap (n5 x c e)];exact I.freeC x c e
 ·obtain ⟨e,n,r⟩:=I.pin p hp;exact ⟨e,by rw [ap (n6 p hp)];exact n,r⟩
 ·by_cases hb:b=a
  ·subst hb;rw [ak] at e;cases e;exact ok
  ·rw [ap hb] at e;exact (I.hok b u e).stay (λ_ _ _ q=>q) (λc q=>old _ _ q) λc xs q=>old _ _ q
end
section
variable {X:Cx}
def Af (K:Fg)(a:Addr)(c:V)(H:Hp)(Q:VK):Prop:=∃D dd cv b,H a=some (Mq a (.ref D) dd)/\O2 K D/\(dd=none\/∃d fs,dd=some d/\H d=some (.xd fs))/\cV c=some cv/\W.kitOne K (.ref D) cv=some b/\Q (.bl b) H
end
structure OT (k:Nat)(A:Around)(a:Addr):Prop where
 hd:A.handled=some (.ref a)
 dp:A.depth+3*k+5<recursionLimit
 un:A.units+16*k+200<cLine
structure O1 (P:Program)(w:World)(K:Fg)(mg:Str->Option Value)(base:Heap)(k:Nat)(f:Addr)(fd:FuncData)(ps:List Str)(sp:Addr->Sp):Prop where
 len:∀a vs H Q E,sp a vs H Q E->vs.length=ps.length
 run:∀(a:Addr) (A:Around) (outer:List Env) (s:Shared) (H:Hp) (args:Args) (us:List Value) (vs:List V) (Q:VK) (E:XK),OT k A a->pE P w K mg base A outer s H->BindsTo s fd args (ps.zip us)->aY vs us->sp a vs H Q E->
  codeAny (model P w) A (.call (.ref f) args) (CR br outer P w H s Q E) s
structure CalH (P:Program)(w:World)(K:Fg)(mg:Str->Option Value)(base:Heap)(n:Nat)(x:Str)(ps:List Str)(sp:Addr->Sp):Prop where
 ex:∃f fd,O1 P w K mg base n f fd ps sp/\fm K fd ps []/\W.keepIn K (.ref f)=true/\mg x=some (.ref f)
def oQ (K:Fg)(a:Addr)(c:V)(H:Hp)(Q:VK):Prop:=lC K (.ref a) c H Q\/Af K a c H Q
def Dl (K:Fg):List V->Hp->VK->Prop:=λxs H Q=>match xs with
 |[.ref a,c]=>oQ K a c H Q
 |xs=>Kj K xs H Q
theorem qp {X:Cx}{K:Fg}(hK:X.K=K):bH X (.builtin "isinstance") (Dl K):=by
 intro pins s σ H xs us Q I r h;have old:Kj K xs H Q->wpAny ↑8 X.A (call (.builtin "isinstance") us) (EP X pins σ Q) X.xe s:=λh=>M5 hK pins s σ H xs us Q I r h
 match xs,h with
 |[.ref a,c],h=>
  rcases h with h|⟨D,dd,cv,b,e,k,hdd,hc,hk,q⟩
  ·subst hK;obtain ⟨cv,t,b,h1,h2,h3,h4⟩:=h;exact yI pins s σ H _ us Q I r ⟨.ref a,c,cv,t,b,rfl,h1,h2,h3,h4⟩
  ·subst hK;obtain ⟨u,w',rfl,r1,r2⟩:=xE r;cases Gc hc r2;obtain rfl:u=Value.ref a:=r1;obtain ⟨⟨oe,vs,k1,k2,k3,k4,k5⟩,_,_⟩:=I.hok a _ e
   rcases hdd with rfl|⟨d,fs,rfl,ed⟩
   ·rwa[W.kia_one (yv (ox:=oe) (odo:=none) k) I.kIn ⟨k1,k2,?_,?_⟩ hk (λz=>nomatch z) λtk=>⟨.bl b,H,I.tok _,rfl,q⟩]
    ·unfold W.notCls;rw [k4]
    ·rw [k3];trivial
   ·obtain ⟨mA,⟨od,es,ep,e',_⟩,_⟩:=I.hok d _ ed;rwa[W.kia_one (yv (ox:=oe) (odo:=some od) k) I.kIn ⟨k1,k2,?_,?_⟩ hk (λz=>nomatch z) λtk=>⟨.bl b,H,I.tok _,rfl,q⟩]
    ·unfold W.notCls;rw [k4]
    ·rw [k3];exact e'
 |[],h=>exact old h
 |[.non],h=>exact old h
 |[.bl _],h=>exact old h
 |[.int _],h=>exact old h
 |[.str _],h=>exact old h
 |[.byt _],h=>exact old h
 |[.flt _],h=>exact old h
 |[.ty _],h=>exact old h
 |[.ref _],h=>exact old h
 |[.non,c],h=>exact old h
 |[.bl _,c],h=>exact old h
 |[.int _,c],h=>exact old h
 |[.str _,c],h=>exact old h
 |[.byt _,c],h=>exact old h
 |[.flt _,c],h=>exact old h
 |[.ty _,c],h=>exact old h
 |x::y::z::r,h=>exact old (by cases x<;>exact h)
theorem wM {K:Fg}{H:Hp}{a:Addr}{c:V}{cv t:Value}{b:Bool}{Q:VK}(h1:cV c=some cv)(h2:jH K H (.ref a) t)(h3:W.kitOne K t cv=some b)(g:Q (.bl b) H):oQ K a c H Q:= .inl ⟨cv,t,b,h1,h2,h3,g⟩
theorem oM {M:Model}{A:Around}{E:Value->Shared->Prop}{s:Shared}{env:Env}{o:Expr}{m:Str}{apos pos:Pos}{es:List Expr}{Q:Value->Shared->Prop}(hb:eN o=true)(hp:aV es=true)(hl:es.length<29)(hline:(apos.endLine==pos.line)=true)
(h:wpAny M A (eval o env) (λov s₁=>wpAny M A (getMethod ov m (do return (<-importBound o env).getD true)) (λfx s₂=>wpAny M A (callWith pos fx.1 fx.2 (backTo pos (starEach es env)) (backToKw pos (keywordEach [] env))) Q E s₂) E s₁) E s):
 wpAny M A (eval (.Call (.Attribute o m apos) es [] pos) env) Q E s:=by
 have hfew:methodCallForm (es.length+([]:List Keyword).length) (backTo pos (starEach es env)) (backToKw pos (keywordEach [] env))=true:=by
  unfold methodCallForm;rw [oH hp,arm_keywordEach_nil];show (true&&true&&decide (es.length+0+0<30))=true;rw [decide_eq_true ↑6];rfl
 rw [arm_eval_Call,xh hb];rwa[wpAny_bind (bT h λov s1 h1=>wpAny_bind (wpAny_standAt ?_))];unfold methodCall;rw [hfew];rwa[wpAny_bind (wpAny_holding ?_)];unfold calleeOf;rw [if_pos rfl];rwa[bT h1 λfx s2 h2=> ?_];rwa[wpAny_bind ?_];unfold methodCallPos;rw [hline];exact wpAny_pure h2
structure iN (P:Program)(w:World)(K:Fg)(mg:Str->Option Value)(base:Heap)(CX:nJ)(n:Nat)(m:Str)(C:Addr)(sp:Sp):Prop where
 ex:∃f fd ps,ut K C/\Gr K C m f/\aD P w K mg base CX n f fd ps sp/\fm K fd ps []
def wD (P:Program)(w:World)(K:Fg)(mg:Str->Option Value)(base:Heap)(CX:nJ)(n:Nat)(m:Str)(a:Addr)(E:XK)(H:Hp)(k:Sp->Prop):Prop:=∃C dx fs sp,H a=some (.ins C dx fs)/\fs.lookup m=none/\iN P w K mg base CX n m C sp/\k sp
def Dj (P:Program)(w:World)(K:Fg)(mg:Str->Option Value)(base:Heap)(CX:nJ)(n:Nat)(m:Str)(E:XK)(to:TE)(t:TA):TE:=λσ H Q=>to σ H λx H1=>match x with
 | .ref a=>wD P w K mg base CX n m a E H1 λsp=>t σ H1 λvs H2=>sp (.ref a::vs) H2 Q E
 |_=>False
section
variable {X:Cx}{CX:nJ}{o e:Expr}{es:List Expr}{to:TE}{t:TA}{m:Str}{apos pos:Pos}{n k:Nat}{E:XK}
theorem lW (hx:fN CX X E)(hr:b4 k X.A)(hn:n<=k)(ho:PE X o to)(ha:PA X (e::es) t)(hb:eN o=true:=by rfl)(hp:aV (e::es)=true:=by rfl)(hl:(e::es).length<29:=by decide)
(hline:(apos.endLine==pos.line)=true:=by rfl):PE X (.Call (.Attribute o m apos) (e::es) [] pos) (Dj X.prog X.w X.K X.mg X.base CX n m E to t):=by
 have h':(bR e&&aV es)=true:=hp;rw [Bool.and_eq_true] at h';intro pins s σ H Q I h;rwa[oM hb hp hl hline (bT (ho pins s σ H _ I h) λu s1 ⟨x,H1,I1,rx,q⟩=> ?_)]
 match x,q with
 | .ref a,⟨C,dx,fs,sp,ea,l,c,q⟩=>
   obtain rfl:u=Value.ref a:=rx;obtain ⟨f,fd,ps,cl,hm,F,b⟩:=c.ex;rwa[r6 I1 ea cl hm l ?_];rwa[W.callWith_K (first:=[.ref a]) (h₀:=X.base) I.ok.mod.kin hm.kp (bT (ha pos pins s1 σ H1 _ I1 q) λus s2 ⟨vs,H2,I2,r,q2⟩=>⟨I2.kIn,?_⟩) (bf h'.1) (b0 h'.2)];exact zJ (us:= .ref a::us) (vs:= .ref a::vs) (F.mono hn) hr b .nil hx I2 (.cons rfl r) (by rw [List.append_nil];exact q2)
theorem Db (hx:fN CX X E)(hr:b4 k X.A)(hn:n<=k)(ho:PE X o to)(hb:eN o=true:=by rfl)(hline:(apos.endLine==pos.line)=true:=by rfl):
 PE X (.Call (.Attribute o m apos) [] [] pos) (Dj X.prog X.w X.K X.mg X.base CX n m E to Ky):=by
 intro pins s σ H Q I h;rwa[oM hb rfl ↑2 hline (bT (ho pins s σ H _ I h) λu s1 ⟨x,H1,I1,rx,q⟩=> ?_)]
 match x,q with
 | .ref a,⟨C,dx,fs,sp,ea,l,c,q⟩=>
   obtain rfl:u=Value.ref a:=rx;obtain ⟨f,fd,ps,cl,hm,F,b⟩:=c.ex;rwa[r6 I1 ea cl hm l ?_];exact W.callWith_K0 (first:=[.ref a]) I1.kIn hm.kp (zJ (us:=[.ref a]) (vs:=[.ref a]) (F.mono hn) hr b .nil hx I1 (.cons rfl .nil) q)
def pN (K:Fg)(f:Str)(a:Addr)(H:Hp)(Q:VK):Prop:=∃C dx fs v,H a=some (.ins C dx fs)/\ut K C/\aZ K C f/\fs.lookup f=some v/\Q v H
def PU (K:Fg)(f:Str)(to:TE):TE:=λσ H Q=>to σ H λx H1=>match x with| .ref a=>pN K f a H1 Q|_=>False
theorem aJ {K:Fg}{f:Str}(hK:X.K=K)(ho:PE X o to)(hb:eN o=true:=by rfl):PE X (.Attribute o f pos) (PU K f to):=by
 subst hK;intro pins s σ H Q I h;rwa[Jf (xh hb) (bT (ho pins s σ H _ I h) λu s1 ⟨x,H1,I1,rx,q⟩=> ?_)]
 match x,q with
 | .ref a,⟨C,dx,fs,v,ea,c,n,l,q⟩=>
   obtain rfl:u=Value.ref a:=rx;exact Ai I1 ea c n l λu' s2 I2 ru=>⟨v,H1,I2,ru,q⟩
def putAt (K:Fg)(f:Str)(a:Addr)(y:V)(H:Hp)(R:Hp->Prop):Prop:=∃C dx fs,H a=some (.ins C dx fs)/\ut K C/\aZ K C f/\fs.length<1000/\R (upd H a (.ins C dx (putF f y fs)))
def Py (K:Fg)(f:Str)(to tv:TE):TS:=λD σ H=>tv σ H λy H1=>to σ H1 λx H2=>match x with| .ref a=>putAt K f a y H2 λH3=>D.nx σ H3|_=>False
theorem cx {K:Fg}{f:Str}{value:Expr}{tv:TE}{pos':Pos}(hK:X.K=K)(ho:PE X o to)(hv:PE X value tv)(hs:swapsWith value (some (.Attribute o f pos')) pos.line X.env=pure false:=by rfl):PS X (.Assign [.Attribute o f pos'] value pos) (Py K f to tv):=by
 subst hK;intro pins s σ H D I h;rwa[plainObj_wpAny_Assign_Attribute (bT (hv pins s σ H _ I h) λu s1 ⟨y,H1,I1,ry,q⟩=>bT (ho pins s1 σ H1 _ I1 q) λov s2 ⟨x,H2,I2,rx,q2⟩=> ?_) hs]
 match x,q2 with
 | .ref a,⟨C,dx,fs,ea,c,n,l,q⟩=>
   obtain rfl:ov=Value.ref a:=rx;exact zr I2 ea c n l ry λs3 I3=>⟨σ,_,I3,q⟩
theorem ij {P:Program}{w:World}{K:Fg}{mg:Str->Option Value}{base:Heap}{a C dx:Addr}{fs:List (Str×V)}{sp:Sp}{H:Hp}{kk:Sp->Prop}(h1:H a=some (.ins C dx fs))(h2:fs.lookup m=none)(h3:iN P w K mg base CX n m C sp)(g:kk sp):wD P w K mg base CX n m a E H kk:=⟨C,dx,fs,sp,h1,h2,h3,g⟩
theorem fc {K:Fg}{f:Str}{a C dx:Addr}{fs:List (Str×V)}{v:V}{H:Hp}{Q:VK}(h1:H a=some (.ins C dx fs))(h2:ut K C)(h3:aZ K C f)(h4:fs.lookup f=some v)(g:Q v H):pN K f a H Q:=⟨C,dx,fs,v,h1,h2,h3,h4,g⟩
theorem cz {K:Fg}{f:Str}{a C dx:Addr}{fs:List (Str×V)}{y:V}{H:Hp}{R:Hp->Prop}(h1:H a=some (.ins C dx fs))(h2:ut K C)(h3:aZ K C f)(h4:fs.length<1000)(g:R (upd H a (.ins C dx (putF f y fs)))):putAt K f a y H R:=⟨C,dx,fs,h1,h2,h3,h4,g⟩
end
structure jJ (P:Program)(w:World)(K:Fg)(mg:Str->Option Value)(base:Heap)(CX:nJ)(n:Nat)(x:Str)(C:Addr)(sp:Sp):Prop where
 ex:∃f fd ps,Mk K C f/\aD P w K mg base CX n f fd ps sp/\fm K fd ps []/\mg x=some (.ref C)
section
variable {X:Cx}{CX:nJ}{e:Expr}{es:List Expr}{t:TA}{x:Str}{p pos:Pos}{n k:Nat}{E:XK}{C:Addr}{sp:Sp}
def gz (C:Addr)(sp:Sp)(E:XK)(vs:List V)(H:Hp)(Q:VK):Prop:=∀a dx,H a=none->H dx=none->dx≠a->sp (.ref a::(vs++[])) (upd (upd H dx (.own a)) a (.ins C dx [])) (λv H2=>v= .non/\Q (.ref a) H2) E
def Nh (C:Addr)(sp:Sp)(E:XK)(t:TA):TE:=λσ H Q=>t σ H λvs H1=>gz C sp E vs H1 Q
theorem gP (c:jJ X.prog X.w X.K X.mg X.base CX n x C sp)(hx:fN CX X E)(hr:b4 k X.A)(hn:n+1<=k)(hg:Gl X x)(ha:PA X (e::es) t)(hdb:↑27=false:=by decide)(hp:aV (e::es)=true:=by rfl):
 PE X (.Call (.Name x p) (e::es) [] pos) (Nh C sp E t):=by
 obtain ⟨f,fd,ps,M,F,b,hm⟩:=c.ex;have h':(bR e&&aV es)=true:=hp;rw [Bool.and_eq_true] at h';rwa[(HL M F (hr.mono hn) hg hm b .nil hx ha hdb (bf h'.1) (b0 h'.2)).imp λσ H Q h=> ?_];exact h
end
section
variable {X:Cx}{K:Fg}{a b c:Expr}{ta tb tc:TE}{pos:Pos}
def F7 (K:Fg)(p q:Addr)(H:Hp)(Q:VK):Prop:=Jd p q H Q\/∃xs ys,aP K H p xs/\aP K H q ys/\xs≠[]/\xs.length+ys.length<=sizeLine/\(ys=[]->Q (.ref p) H)/\(ys≠[]->∀l,H l=none->Q (.ref l) (upd H l (.tup (xs++ys))))
def Nr (K:Fg):R2:=λx y H Q=>match x,y with
 | .int i,.int j=>Q (.int (i+j)) H
 | .str a,.str b=>a.length+b.length<=sizeLine/\Q (.str (a++b)) H
 | .ref p,.ref q=>F7 K p q H Q
 |_,_=>False
theorem Kg (hK:X.K=K):dD X (binaryOp .Add) (Nr K):=by
 subst hK;rwa[(M8.or HQ).imp λx y H Q h=> ?_]
 cases x with
 |int i=>cases y with
  |int j=>exact .inl h
  |_=>exact False.elim h
 |str a=>cases y with
  |str b=>exact .inl h
  |_=>exact False.elim h
 |ref p=>cases y with
  |ref q=>
   rcases h with h|⟨xs,ys,h1,h2,h3,h4,h5,h6⟩
   ·exact .inl h
   ·exact .inr ⟨p,q,xs,ys,rfl,rfl,h1,h2,h3,h4,h5,h6⟩
  |_=>exact False.elim h
 |_=>exact False.elim h
theorem OK {p q:Addr}{H:Hp}{Q:VK}{xs ys:List V}(h1:H p=some (.lst xs))(h2:H q=some (.lst ys))(hz:xs.length+ys.length<=sizeLine)(g:∀l,H l=none->Q (.ref l) (upd H l (.lst (xs++ys)))):F7 K p q H Q:= .inl ⟨xs,ys,h1,h2,hz,g⟩
def Km (r r':R2)(ta tb tc:TE):TE:=λσ H Q=>ta σ H λx H1=>tb σ H1 λy H2=>r x y H2 λz H3=>match z with| .bl k=>uO k (tc σ H3 λw' H4=>r' y w' H4 Q) (Q (.bl false) H3)|_=>False
theorem qo {op op':CmpOp}{r r':R2}(ho:dD X (compareOp op) r)(ho':dD X (compareOp op') r')(ha:PE X a ta)(hb:PE X b tb)(hc:PE X c tc)
(hm:lastMarks [op,op'] [b,c]=false:=by with_unfolding_all rfl):PE X (.Compare a [op,op'] [b,c] pos) (Km r r' ta tb tc):=by
 intro pins s σ H Q I h
 refine Compare_chain (bT (ha pins s σ H _ I h) λv s1 ⟨x,H1,I1,r1,q1⟩=>chain_link (bT (hb pins s1 σ H1 _ I1 q1) λu s2 ⟨y,H2,I2,r2,q2⟩=>
  bT (ho pins s2 σ H2 x y v u _ I2 r1 r2 q2) λd s3 ⟨z,H3,I3,r3,q3⟩=> ?_)) hm
 match z,q3 with
 | .bl k,q3=>
   cases r3;rwa[wpAny_truthy_bool ?_]
   cases k with
   |false=>exact ite_ff ⟨.bl false,H3,I3,rfl,q3⟩
   |true=>exact ite_tt (chain_last (bT (hc pins s3 σ H3 _ I3 q3) λw' s4 ⟨z',H4,I4,r4,q4⟩=>ho' pins s4 σ H4 y z' u w' Q I4 r2 r4 q4))
def G3 (r r':R2)(ta tb tc:TE):TT:=λσ H Q=>ta σ H λx H1=>tb σ H1 λy H2=>r x y H2 λz H3=>match z with| .bl k=>uO k (tc σ H3 λw' H4=>r' y w' H4 λv H5=>match v with| .bl c=>Q c H5|_=>False) (Q false H3)|_=>False
theorem gp {op op':CmpOp}{r r':R2}(ho:dD X (compareOp op) r)(ho':dD X (compareOp op') r')(ha:PE X a ta)(hb:PE X b tb)(hc:PE X c tc)
(hm:lastMarks [op,op'] [b,c]=false:=by with_unfolding_all rfl):PT X (.Compare a [op,op'] [b,c] pos) (G3 r r' ta tb tc):=by
 intro pins s σ H Q I h
 refine isTrue_chain (bT (ha pins s σ H _ I h) λv s1 ⟨x,H1,I1,r1,q1⟩=>test_link (bT (hb pins s1 σ H1 _ I1 q1) λu s2 ⟨y,H2,I2,r2,q2⟩=>
  bT (ho pins s2 σ H2 x y v u _ I2 r1 r2 q2) λd s3 ⟨z,H3,I3,r3,q3⟩=> ?_)) hm
 match z,q3 with
 | .bl k,q3=>
   cases r3;rwa[wpAny_truthy_bool ?_]
   cases k with
   |false=>exact ite_ff ⟨H3,I3,q3⟩
   |true=>
    rwa[ite_tt (test_last (bT (hc pins s3 σ H3 _ I3 q3) λw' s4 ⟨z',H4,I4,r4,q4⟩=>bT (ho' pins s4 σ H4 y z' u w' _ I4 r2 r4 q4) λd' s5 ⟨z2,H5,I5,r5,q5⟩=> ?_))]
    match z2,q5 with
    | .bl c,q5=>
      cases r5;exact wpAny_truthy_bool ⟨H5,I5,q5⟩
def IU (a b:Addr)(H:Hp)(Q:VK):Prop:=∃xs zs,H a=some (.lst xs)/\H b=some (.lst zs)/\xs.length+zs.length<=sizeLine/\Q .non (upd H a (.lst (xs++zs)))
def G5:V->List V->Hp->VK->Prop:=λx xs H Q=>match x,xs with| .ref a,[.ref b]=>IU a b H Q|_,_=>False
theorem qq:yP X "list.extend" G5:=by
 intro pins s σ H x xs v us Q I rx rs h
 match x,xs,h with
 | .ref a,[.ref b],⟨ys,zs,h1,h2,h3,h4⟩=>exact Cc pins s σ H _ _ v us Q I rx rs ⟨a,b,ys,zs,rfl,rfl,h1,h2,h3,h4⟩
theorem FJ {a b:Addr}{H:Hp}{Q:VK}{xs zs:List V}(h:H a=some (.lst xs))(h2:H b=some (.lst zs))(hz:xs.length+zs.length<=sizeLine)(g:Q .non (upd H a (.lst (xs++zs)))):IU a b H Q:=⟨xs,zs,h,h2,hz,g⟩
def PL:List V->Hp->VK->Prop:=λxs H Q=>match xs with|[.int i,.int j]=>Q (.int (if j>i then j else i)) H|_=>False
theorem M4 (hc:X.calm=true):bH X (.builtin "max") PL:=(CH hc).imp λxs H Q h=>by
 match xs,h with
 |[.int i,.int j],h=>exact ⟨i,j,rfl,h⟩
def PK:List V->Hp->VK->Prop:=λxs H Q=>match xs with|[.int i,.int j]=>Q (.int (if j<i then j else i)) H|_=>False
theorem M3 (hc:X.calm=true):bH X (.builtin "min") PK:=(CG hc).imp λxs H Q h=>by
 match xs,h with
 |[.int i,.int j],h=>exact ⟨i,j,rfl,h⟩
end
open Builtin Builtin.Str
section
variable {X:Cx}{K:Fg}
theorem Hf {l:List (Str×Tok)}:aY ((l.map (·.1)).map V.str) (strValues l):=by
 induction l with
 |nil=>exact .nil
 |cons p r ih=>exact .cons ⟨p.2,rfl⟩ ih
def Ki:V->List V->Hp->VK->Prop:=λx xs H Q=>match x,xs with
 | .str z,[.str y]=>((y.length==0)=false/\z.length+2<=sizeLine)/\∀l,H l=none->Q (.ref l) (upd H l (.lst ((Txt.split z y).map V.str)))
 |_,_=>False
theorem GX:yP X "str.split" Ki:=by
 intro pins s σ H x xs v us Q I rx rs h
 match x,xs,h with
 | .str x,[.str y],⟨⟨hy,hsz⟩,q⟩=>
   obtain ⟨t,rfl⟩:=rx
   cases rs with
   |cons r rr=>
    cases rr;obtain ⟨u,rfl⟩:=r
    have hn:(partsBetween x (occurrences x y 0 x.length (x.length+1)) y.length).length<=sizeLine:=by
     have e1:=StrLaws.occ_length_le x y 0 x.length (x.length+1);rw [length_partsBetween];omega
    have go:∀(l:List (Str×Tok)) (k:Nat),l.map (·.1)=Txt.split x y->l.length<=sizeLine->EP X pins σ Q (.ref s.heap.objs.size) {s with heap:=s.heap.push {cls:= .type "list",data:= .seq (strValues l).toArray},toks:=k}:=λl k e hl=>by
     rwa[⟨.ref s.heap.objs.size,_,I.laid (t':=k) (o:= .lst ((Txt.split x y).map V.str)) (λb ob q=>Heap.get?_push_of_some _ q) ↑13 ?_,rfl,q _ (I.hok.fresh ↑13)⟩];rw [<-e];exact ⟨by simpa using hl,strValues l,0,Hf,Heap.get?_push_size _ rfl⟩
    have one:1<=sizeLine:=by omega
    cases h1:(decide (x.length<y.length)||decide (strKind x<strKind y))
    ·cases hf:(occurrences x y 0 x.length (x.length+1)).isEmpty
     ·rwa[call_meets F.slot_str_split (typeIs_str _ _ _) F.entry_str_split (F.args_str_split_2 _ _) (meets_str_split_sep x y t u h1 hy hf ↑6 hn) ?_];show wants _ _ _ {s with toks:=_,heap:=s.heap.push {cls:= .type "list",data:= .seq (strsFrom s.toks (partsBetween x (occurrences x y 0 x.length (x.length+1)) y.length)).toArray}};rw [strsFrom_eq];have e:(numbered s.toks (partsBetween x (occurrences x y 0 x.length (x.length+1)) y.length)).map (·.1)=Txt.split x y:=(numbered_texts _ _).trans ((if_neg (ne_true_of_eq_false h1)).trans (if_neg (ne_true_of_eq_false hf))).symm;rwa[go _ _ e ?_];have e2:=congrArg List.length (numbered_texts s.toks (partsBetween x (occurrences x y 0 x.length (x.length+1)) y.length));rw [List.length_map] at e2;omega
     ·exact call_meets F.slot_str_split (typeIs_str _ _ _) F.entry_str_split (F.args_str_split_2 _ _) (meets_str_split_not_found x y t u h1 hy hf)
       (go [(x,t)] s.toks ((if_neg (ne_true_of_eq_false h1)).trans (if_pos hf)).symm one)
    ·exact call_meets F.slot_str_split (typeIs_str _ _ _) F.entry_str_split (F.args_str_split_2 _ _) (meets_str_split_cannot_occur x y t u h1)
      (go [(x,t)] s.toks (if_pos h1).symm one)
def Pu (K:Fg):V->Option Int->Option Int->Hp->VK->Prop:=λx lo hi H Q=>match x with
 | .ref p=>AN K p lo hi H Q
 | .str z=>z.length<=sizeLine/\Q (.str (Txt.slice z lo hi)) H
 |_=>False
theorem AD (hK:X.K=K):JR X (Pu K):=by
 intro pins s σ H x v vl vu lo hi sl Q I rx hs pl pu h
 cases x with
 |ref p=>exact Pr hK pins s σ H _ v vl vu lo hi sl Q I rx hs pl pu h
 |str z=>
  obtain ⟨t,rfl⟩:=rx;obtain ⟨hz,q⟩:=h;rwa[⟨"str",_,F.slot_str_getitem.lookup,typeIs_str _ _ _,?_⟩];have fin:∀t' k,EP X pins σ Q (.str (Txt.slice z lo hi) t') {s with toks:=k}:=λt' k=>⟨.str _,H,I.tok k,⟨t',rfl⟩,q⟩
  cases pl with
  |none=>cases pu with
   |none=>exact wpAny_getItem_str_slice (l:=none) (u:=none) (st:=none) hs rfl (post_val_or_str ⟨Nat.le_trans (Txt.slice_le z _ _) hz,fin⟩)
   |int j tj=>exact wpAny_getItem_str_slice (l:=none) (u:=some (j,tj)) (st:=none) hs rfl (post_val_or_str ⟨Nat.le_trans (Txt.slice_le z _ _) hz,fin⟩)
  |int i ti=>cases pu with
   |none=>exact wpAny_getItem_str_slice (l:=some (i,ti)) (u:=none) (st:=none) hs rfl (post_val_or_str ⟨Nat.le_trans (Txt.slice_le z _ _) hz,fin⟩)
   |int j tj=>exact wpAny_getItem_str_slice (l:=some (i,ti)) (u:=some (j,tj)) (st:=none) hs rfl (post_val_or_str ⟨Nat.le_trans (Txt.slice_le z _ _) hz,fin⟩)
 |_=>exact False.elim h
theorem mQ {x:Str}{C:Addr}{pos:Pos}(hg:Gl X x)(hm:X.mg x=some (.ref C))(hdb:↑27=false:=by decide):PE X (.Name x pos) (tC (.ref C)):=bh (v:=V.ref C) hg hm rfl hdb
end
theorem av.seqT {K:Fg}{H H':Hp}{a:Addr}{xs:List V}(e:av H H')(h:aP K H a xs):aP K H' a xs:=by
 rcases h with (h|⟨o,h⟩)|h
 ·exact .inl (.inl (e _ _ h))
 ·exact .inl (.inr ⟨o,e _ _ h⟩)
 ·exact .inr h
theorem av.upd {H:Hp}{p:Addr}{o:HO}(hp:H p=none):av H (upd H p o):=λb u z=>by rw [ap (bC z hp)];exact z
theorem av.any {K:Fg}{H H':Hp}{a:Addr}{xs:List V}(e:av H H')(h:aS K H a xs\/aP K H a xs):aS K H' a xs\/aP K H' a xs:=h.imp e.seq e.seqT
section
variable {K:Fg}{H H':Hp}{x:V}
theorem JB {α β:Type}{F:α->β->Prop}:∀ {xs:List α} {ds:List β} {i:Nat} {x:α},Paired F xs ds->xs[i]? =some x->∃d,ds[i]? =some d/\F x d
 |_,_,0,_,.cons r _,h=>⟨_,rfl,by simp at h;exact h▸r⟩
 |_,_,i+1,_,.cons _ t,h=>by simpa using JB t (by simpa using h)
 |_,_,i,_,.nil,h=>by simp at h
theorem JA {α β:Type}{F:α->β->Prop}:∀ {xs:List α} {ds:List β} {i:Nat} {d:β},Paired F xs ds->ds[i]? =some d->∃x,xs[i]? =some x/\F x d
 |_,_,0,_,.cons r _,h=>⟨_,rfl,by simp at h;exact h▸r⟩
 |_,_,i+1,_,.cons _ t,h=>by simpa using JA t (by simpa using h)
 |_,_,i,_,.nil,h=>by simp at h
theorem _root_.PySem.Paired.len {α β:Type}{F:α->β->Prop}{xs:List α}{ds:List β}(h:Paired F xs ds):xs.length=ds.length:=by
 induction h with
 |nil=>rfl
 |cons _ _ ih=>simp [ih]
theorem QS {α β:Type}{F:α->β->Prop}:∀ {xs:List α} {ds:List β},xs.length=ds.length->(∀(i:Nat) x d,xs[i]? =some x->ds[i]? =some d->F x d)->Paired F xs ds
 |[],[],_,_=> .nil
 |x::xs,d::ds,hl,h=> .cons (h 0 x d rfl rfl) (QS (by simpa using hl) λi y e h1 h2=>h (i+1) y e (by simpa using h1) (by simpa using h2))
 |[],_::_,hl,_=>by simp at hl
 |_::_,[],hl,_=>by simp at hl
theorem _root_.PySem.Paired.get1 {α β:Type}{F:α->β->Prop}{xs:List α}{ds:List β}{i:Nat}{x:α}(h:Paired F xs ds)(e:xs[i]? =some x):∃d,ds[i]? =some d/\F x d:=JB h e
theorem _root_.PySem.Paired.get2 {α β:Type}{F:α->β->Prop}{xs:List α}{ds:List β}{i:Nat}{d:β}(h:Paired F xs ds)(e:ds[i]? =some d):∃x,xs[i]? =some x/\F x d:=JA h e
theorem _root_.PySem.Paired.of {α β:Type}{F:α->β->Prop}{xs:List α}{ds:List β}(hl:xs.length=ds.length)(h:∀(i:Nat) x d,xs[i]? =some x->ds[i]? =some d->F x d):Paired F xs ds:=QS hl h
theorem _root_.PySem.Paired.app {α β:Type}{F:α->β->Prop}{xs xs':List α}{ds ds':List β}(h:Paired F xs ds)(h':Paired F xs' ds'):Paired F (xs++xs') (ds++ds'):=by
 induction h with
 |nil=>exact h'
 |cons r _ ih=>exact .cons r ih
abbrev aN (K:Fg)(H:Hp):List V->List D->Prop:=Paired (cm K H)
theorem gF {a:Addr}{xs:List V}{ds:List D}(h:aP K H a xs)(p:aN K H xs ds):cm K H (.ref a) (.tup ds):=
 .tup h p.len λi x d h1 h2=>by obtain ⟨e,h3,r⟩:=p.get1 h1;rw [h2] at h3;cases h3;exact r
theorem FS {a:Addr}{xs:List V}{ds:List D}(h:aS K H a xs)(p:aN K H xs ds):cm K H (.ref a) (.lst ds):=
 .lst h p.len λi x d h1 h2=>by obtain ⟨e,h3,r⟩:=p.get1 h1;rw [h2] at h3;cases h3;exact r
theorem cm.outT {ds:List D}(h:cm K H x (.tup ds)):∃a xs,x= .ref a/\aP K H a xs/\aN K H xs ds:=by
 cases h with
 |tup h hl hi=>exact ⟨_,_,rfl,h,PySem.Paired.of hl hi⟩
theorem cm.outL {ds:List D}(h:cm K H x (.lst ds)):∃a xs,x= .ref a/\aS K H a xs/\aN K H xs ds:=by
 cases h with
 |lst h hl hi=>exact ⟨_,_,rfl,h,PySem.Paired.of hl hi⟩
theorem cm.isInt {i:Int}(h:cm K H x (.int i)):x= .int i:=by cases h;rfl
theorem cm.isStr {i:Str}(h:cm K H x (.str i)):x= .str i:=by cases h;rfl
theorem cm.same {d:D}(h:cm K H x d)(s:av H H'):cm K H' x d:=by
 induction h with
 |non=>exact .non
 |bl b=>exact .bl b
 |int i=>exact .int i
 |str z=>exact .str z
 |lst h hl hi ih=>exact .lst (s.seq h) hl ih
 |tup h hl hi ih=>exact .tup (s.seqT h) hl ih
theorem aN.same {xs:List V}{ds:List D}(h:aN K H xs ds)(s:av H H'):aN K H' xs ds:=Paired.imp' (λ_ _ z=>cm.same z s) h
mutual
def noL:D->Bool
 | .lst _=>false
 | .tup ds=>noLs ds
 |_=>true
def noLs:List D->Bool
 |[]=>true
 |d::ds=>noL d&&noLs ds
end
theorem gy:∀ {ds:List D} {i:Nat} {d:D},noLs ds=true->ds[i]? =some d->noL d=true
 |[],_,_,_,h=>by simp at h
 |e::ds,0,d,hn,h=>by
  rw [noLs,Bool.and_eq_true] at hn;simp at h;exact h▸hn.1
 |e::ds,i+1,d,hn,h=>by
  rw [noLs,Bool.and_eq_true] at hn;exact gy hn.2 (by simpa using h)
theorem aP.noL {a p:Addr}{xs zs:List V}{o:HO}(h:aP K H a xs)(hp:H p=some (.lst zs)):aP K (upd H p o) a xs:=by
 rcases h with (h|⟨u,h⟩)|h
 ·exact .inl (.inl (by rw [ap (λz=>by rw [z,hp] at h;cases h)];exact h))
 ·exact .inl (.inr ⟨u,by rw [ap (λz=>by rw [z,hp] at h;cases h)];exact h⟩)
 ·exact .inr h
theorem cm.noL {d:D}{p:Addr}{zs:List V}{o:HO}(h:cm K H x d)(hn:L2.noL d=true)(hp:H p=some (.lst zs)):cm K (L2.upd H p o) x d:=by
 induction h with
 |non=>exact .non
 |bl b=>exact .bl b
 |int i=>exact .int i
 |str z=>exact .str z
 |lst h hl hi ih=>rw [L2.noL] at hn;cases hn
 |tup h hl hi ih=>
  rw [L2.noL] at hn;exact .tup (h.noL hp) hl λi x d h1 h2=>ih i x d h1 h2 (gy hn h2)
theorem m9 {xs zs:List V}{ds:List D}{p:Addr}{o:HO}(h:aN K H xs ds)(hn:noLs ds=true)(hp:H p=some (.lst zs)):aN K (upd H p o) xs ds:=
 PySem.Paired.of h.len λi x d h1 h2=>by
  obtain ⟨e,h3,r⟩:=h.get1 h1;rw [h2] at h3;cases h3;exact r.noL (gy hn h2) hp
theorem AO {p:Addr}{ys:List V}{Q:VK}(h:aS K H p ys\/aP K H p ys)(g:Q (.int ys.length) H):iZ K p H Q:=⟨ys,h,g⟩
theorem DV {p:Addr}{ys:List V}{Q:VK}{i:Int}{v:V}(h:aS K H p ys\/aP K H p ys)(e:pW ys i=some v)(g:Q v H):mx K p i H Q:=⟨ys,h,v,e,g⟩
theorem L5 {p:Addr}{ys:List V}{Q:VK}(h:aS K H p ys\/aP K H p ys)(g:∀l,H l=none->Q (.ref l) (upd H l (.lst ys))):yr K p H Q:=⟨ys,h,g⟩
end
section
variable {K:Fg}{H H':Hp}{x:V}{Q:VK}
theorem av.get {b:Addr}{o:HO}(s:av H H')(h:H b=some o):H' b=some o:=s b o h
def IH (xs:List V)(H:Hp)(Q:VK):Prop:=xs.length<=sizeLine/\∀p,H p=none->Q (.ref p) (upd H p (.tup xs))
def Pa (xs:List V)(H:Hp)(Q:VK):Prop:=xs.length<=sizeLine/\∀p,H p=none->Q (.ref p) (upd H p (.lst xs))
def Na (t:TA):TE:=λσ H Q=>t σ H λxs H1=>IH xs H1 Q
def Ni (t:TA):TE:=λσ H Q=>t σ H λxs H1=>Pa xs H1 Q
theorem bt {X:Cx}{es:List Expr}{t:TA}{pos:Pos}{x1}(h:PA X es t):PE X (.Tuple es x1 pos) (Na t):=Ld h
theorem dF {X:Cx}{es:List Expr}{t:TA}{pos:Pos}(h:PA X es t):PE X (.List es pos) (Ni t):=Le h
theorem cf {xs:List V}(hz:xs.length<=sizeLine)(g:∀p H',av H H'->H p=none->H' p=some (.tup xs)->Q (.ref p) H'):IH xs H Q:=
 ⟨hz,λp n=>g p _ (.upd n) n ak⟩
theorem ly {xs:List V}(hz:xs.length<=sizeLine)(g:∀p H',av H H'->H p=none->H' p=some (.lst xs)->Q (.ref p) H'):Pa xs H Q:=
 ⟨hz,λp n=>g p _ (.upd n) n ak⟩
theorem kK {p:Addr}{ys:List V}(h:aS K H p ys)(g:∀p H',av H H'->H p=none->H' p=some (.tup ys)->Q (.ref p) H'):Bt K p H Q:=Nx h λp n=>g p _ (.upd n) n ak
theorem qg {p:Addr}{ys:List V}(h:aS K H p ys\/aP K H p ys)(g:∀p H',av H H'->H p=none->H' p=some (.lst ys)->Q (.ref p) H'):yr K p H Q:=L5 h λp n=>g p _ (.upd n) n ak
theorem aN.via {xs:List V}{ds:List D}(s:av H H')(h:aN K H xs ds):aN K H' xs ds:=aN.same h s
theorem bx {n:Nat}(h:n<=1000000):n<=sizeLine:=by rw [sizeLine_eq];omega
theorem aL {α:Type}{f:α->D}{xs:List V}{as:List α}(h:aN K H xs (as.map f)):xs.length=as.length:=by rw [h.len];simp
theorem bJ {α:Type}{f:α->D}{xs:List V}{as:List α}{i:Nat}{x:V}(h:aN K H xs (as.map f))(e:xs[i]? =some x):∃a,as[i]? =some a/\cm K H x (f a):=by
 obtain ⟨d,hd,dx⟩:=h.get1 e;rw [List.getElem?_map] at hd
 cases z:as[i]? with
 |none=>rw [z] at hd;cases hd
 |some l=>rw [z] at hd;exact ⟨l,rfl,Option.some.inj hd▸dx⟩
end
end L2
local macro_rules | `(tactic| walk_at "l3sq") => `(tactic| first
  | assumption
  | (show L2.aP _ _ _ _; first | exact L2.aP.of (by assumption) | exact L2.av.seqT (by assumption) (by walk_at "l3sq"))
  | (show L2.aS _ _ _ _; first | exact L2.aS.of (by assumption) | exact L2.av.seq (by assumption) (by walk_at "l3sq"))
  | (show L2.CW _ _ _ _; exact L2.CW.via (by assumption) (by walk_at "l3sq"))
  | (show L2.aN _ _ _ _; exact L2.aN.via (by assumption) (by walk_at "l3sq"))
  | (show L2.cm _ _ _ _; exact L2.cm.via (by assumption) (by walk_at "l3sq"))
  | (show _ = some _; exact L2.av.get (by assumption) (by walk_at "l3sq")))
namespace L2
theorem Qy {c:Prop}[Decidable c]{A B:Prop}(hc: ¬c)(h:A):uO (!decide c) A B:=QA (λ_=>h) (λz=>absurd z hc)
theorem Qz {c:Prop}[Decidable c]{A B:Prop}(hc:c)(h:B):uO (!decide c) A B:=QA (λz=>absurd hc z) (λ_=>h)
end L2
local macro_rules | `(tactic| walk_at "l3gs") => `(tactic| ((conv => whnf); first
  | (show L2.mx _ _ _ _ _; first | refine L2.ar (by walk_at "l3sq") rfl ?_ | refine L2.cg (by walk_at "l3sq") rfl ?_)
  | (show L2.iZ _ _ _ _; first | refine L2.fW (by walk_at "l3sq") ?_ | refine L2.eE (by walk_at "l3sq") ?_)
  | (show L2.Br _ _ _ _ _; refine L2.iQ (by walk_at "l3sq") rfl ?_)
  | (show L2.spDraw _ _ _ _ _; refine L2.drawI (by walk_at "l3sq") (by omega) (by omega) (by omega) ?_)
  | (show L2.oQ _ _ _ _ _; first | refine L2.wM rfl (.tup (by walk_at "l3sq")) rfl ?_ | refine L2.wM rfl (.lst (by walk_at "l3sq")) rfl ?_)
  | (show L2.uO _ _ _; first | refine L2.m3 (by first | assumption | decide | omega) ?_ | refine L2.cP (by first | assumption | decide | omega) ?_ | refine L2.Qy (by first | assumption | decide | omega) ?_ | refine L2.Qz (by first | assumption | decide | omega) ?_ | refine L2.cO (by first | assumption | decide) ?_ | refine L2.bP (by first | assumption | decide) ?_)
  | (show L2.O4 _ _ _ _ ∧ _; refine ⟨.inl ⟨rfl, _, by walk_at "l3sq"⟩, ?_⟩)
  | (show L2.CS _ _ ∧ _; refine ⟨L2.OI (by decide) (by decide), ?_⟩)
  | (show L2.tK _ _ ∧ _; refine ⟨L2.sE (by first | decide | omega) (by first | decide | omega), ?_⟩)))
local macro_rules | `(tactic| walk_at "l3go") => `(tactic| ((repeat (walk_at "l3gs")); conv => whnf))
local macro_rules | `(tactic| walk_at "l3gc") => `(tactic| (walk_at "l3go"; refine L2.cutE (by walk_at "l3go"; exact ⟨rfl, rfl⟩) ?_))
local macro_rules | `(tactic| walk_at "l3gr") => `(tactic| first | refine L2.bP rfl ?_ | refine L2.cO rfl ?_)
namespace L2
open PySem PySem.Spec PyProof.Rows
section
variable {X:Cx}{K:Fg}{H:Hp}{Q:VK}
theorem F6 {prog:Program}{w:World}{A:Around}{E:Value->Shared->Prop}{s:Shared}{t b:Addr}{ws:List Value}{Q:Value->Shared->Prop}(ht:IsTup s.heap t (#[]:Array Value))(hb:IsTup s.heap b ws.toArray)(h:Q (.ref b) s):wpAny (model prog w) A (binaryOp .Add (.ref t) (.ref b)) Q E s:=by
 obtain ⟨⟨cls,dd,data,sl⟩,ho,hc,n,hd⟩:=id ht;obtain ⟨⟨cls2,dd2,data2,sl2⟩,ho2,hc2,n2,hd2⟩:=id hb;simp only at hc hd hc2 hd2;subst hc hd hc2 hd2;exact concat_meets ⟨_,ho,rfl⟩ ⟨_,ho2,rfl⟩ noFill_tuple_add seq_tuple_add PySem.F.slot_tuple_add PySem.F.entry_tuple_add (PySem.F.args_tuple_add_2 _ _) (tuple_addW0 t b #[] ws.toArray n n2 dd dd2 sl sl2 ↑17) ⟨ho,ho2,h⟩
def NY (K:Fg):R2:=λx y H Q=>∃a b ys,x= .ref a/\y= .ref b/\aP K H a []/\aP K H b ys/\Q (.ref b) H
theorem HR:dD X (binaryOp .Add) (NY X.K):=by
 intro pins s σ H x y v u Q I rx ry h;obtain ⟨a,b,ys,rfl,rfl,ha,hb,q⟩:=h;cases rx;cases ry;obtain ⟨its,r1,p1,_⟩:=I.tuple ha;obtain ⟨its2,r2,p2,_⟩:=I.tuple hb;cases r1;exact F6 p1 p2 ⟨.ref b,H,I,rfl,q⟩
def Je (K:Fg)(p q:Addr)(H:Hp)(Q:VK):Prop:=F7 K p q H Q\/∃ys,aP K H p []/\aP K H q ys/\Q (.ref q) H
def Nq (K:Fg):R2:=λx y H Q=>match x,y with
 | .int i,.int j=>Q (.int (i+j)) H
 | .str a,.str b=>a.length+b.length<=sizeLine/\Q (.str (a++b)) H
 | .ref p,.ref q=>Je K p q H Q
 |_,_=>False
theorem bd (hK:X.K=K):dD X (binaryOp .Add) (Nq K):=by
 subst hK;rwa[((Kg rfl).or HR).imp λx y H Q h=> ?_]
 cases x with
 |int i=>cases y with
  |int j=>exact .inl h
  |_=>exact False.elim h
 |str a=>cases y with
  |str b=>exact .inl h
  |_=>exact False.elim h
 |ref p=>cases y with
  |ref q=>
   rcases h with h|⟨ys,h1,h2,h3⟩
   ·exact .inl h
   ·exact .inr ⟨p,q,ys,rfl,rfl,h1,h2,h3⟩
  |_=>exact False.elim h
 |_=>exact False.elim h
theorem Bf {p q:Addr}{xs ys:List V}(h1:H p=some (.lst xs))(h2:H q=some (.lst ys))(hz:xs.length+ys.length<=sizeLine)(g:∀l H',av H H'->H l=none->H' l=some (.lst (xs++ys))->Q (.ref l) H'):Je K p q H Q:= .inl (OK h1 h2 hz λl n=>g l _ (.upd n) n ak)
theorem gt {pk:List (Option Nat)}{σ:St}{x y:V}:uo (cY (none::none::pk) σ) (((cY (none::none::pk) σ).set 0 (some x)).set 1 (some y)):=
 uo.cons (.inl rfl) (.cons (.inl rfl) (.refl _))
theorem iU {pk:List (Option Nat)}{σ:St}{x y z u:V}:uo (cY (none::none::none::none::pk) σ) (((((cY (none::none::none::none::pk) σ).set 0 (some x)).set 1 (some y)).set 2 (some z)).set 3 (some u)):=
 uo.cons (.inl rfl) (.cons (.inl rfl) (.cons (.inl rfl) (.cons (.inl rfl) (.refl _))))
end
abbrev TJ:=Str->St->Hp->(Str->Hp->Prop)->Prop
section
variable {X:Cx}{es:List Expr}{t:TJ}{te:TE}{e:Expr}{pos:Pos}
def PJ (X:Cx)(es:List Expr)(t:TJ):Prop:=∀(pins:List ↑14) (s:Shared) (σ:St) (H:Hp) (acc:Str) (Q:Str->Hp->Prop),aF X pins σ H s->t acc σ H Q->
 Joins ↑8 X.A X.xe (evalEach es X.env) acc (λout s1=>∃H1,aF X pins σ H1 s1/\Q out H1) s
def Qv:TJ:=λacc σ H Q=>Q acc H
theorem wr:PJ X [] Qv:=λpins s σ H acc Q I h=>⟨H,I,h⟩
def Qt (c:Str)(t:TJ):TJ:=λacc σ H Q=>(acc++c).length<=sizeLine/\t (acc++c) σ H Q
theorem wn {c:Str}{k:Nat}(h:PJ X es t):PJ X (.Constant (.str c) k pos::es) (Qt c t):=λpins s σ H acc Q I ⟨hz,q⟩=>
 Joins_cons (Calls.Constant_str ⟨c,_,rfl,hz,h pins _ σ H _ Q (I.tok _) q⟩)
def Qu (te:TE)(t:TJ):TJ:=λacc σ H Q=>te σ H λx H1=>match x with
 | .str y=>(reprText y).length<=sizeLine/\(acc++reprText y).length<=sizeLine/\t (acc++reprText y) σ H1 Q
 |_=>False
theorem wq (he:PE X e te)(h:PJ X es t):PJ X (.FormattedValue e 114 none pos::es) (Qu te t):=λpins s σ H acc Q I q=>by
 rwa[Joins_cons (wpAny_FormattedValue_repr (bT (he pins s σ H _ I q) λv s1 ⟨x,H1,I1,r1,q1⟩=> ?_))]
 cases x with
 |str y=>
  obtain ⟨tk,rfl⟩:=r1;obtain ⟨z1,z2,q2⟩:=q1;rwa[wpAny_pyReprObj_str ?_ z1];exact wpAny_formatField_str ⟨_,_,rfl,z2,h pins _ σ H1 _ Q (I1.tok _) q2⟩ ⟨_,_,rfl,z2,h pins _ σ H1 _ Q ((I1.tok _).tok _) q2⟩ z1
 |_=>exact False.elim q1
def NI (t:TJ):TE:=λσ H Q=>t Str.empty σ H λout H1=>out.length<=sizeLine/\Q (.str out) H1
theorem rW {M:Model}{A:Around}{E:Value->Shared->Prop}{Q Q':Str->Shared->Prop}(i:∀o s,Q o s->Q' o s):∀(ps:List (Sem Value)) (acc:Str) (s:Shared),Joins M A E ps acc Q s->Joins M A E ps acc Q' s
 |[],acc,s,h=>i acc s h
 |x::cK,acc,s,h=>bT (show wpAny M A x _ E s from h) λv s1 ⟨y,t,e,z,r⟩=>⟨y,t,e,z,rW i cK (acc++y) s1 r⟩
theorem jN {v1 v2:Expr}(h:PJ X (v1::v2::es) t):PE X (.JoinedStr (v1::v2::es) pos) (NI t):=λpins s σ H Q I q=>
 wpAny_JoinedStr (rW (λo s1 ⟨H1,I1,z,q1⟩=>⟨z,.str o,H1,I1.tok _,⟨_,rfl⟩,q1⟩) _ _ _ (h pins s σ H Str.empty _ I q))
end
def JZ (x:Str):Prop:=∀c∈x.cps.toList,c<128
theorem Eh:∀c,c<128->(Builtin.Str.reprChar 39 c).length<=4/\(Builtin.Str.reprChar 34 c).length<=4:=by decide+kernel
theorem K2 (x:Str):reprQuote x=39\/reprQuote x=34:=by
 unfold reprQuote;split
 ·exact .inr rfl
 ·exact .inl rfl
theorem uF (q:Nat)(h:∀c,c<128->(Builtin.Str.reprChar q c).length<=4):∀(cs:List Nat) (n:Nat),(∀c∈cs,c<128)->cs.foldl (λn c=>n+(Builtin.Str.reprChar q c).length) n<=n+4*cs.length
 |[],n,_=>Nat.le_refl _
 |c::cs,n,hc=>by
  have h1:=h c (hc c (.head _));have h2:=uF q h cs (n+(Builtin.Str.reprChar q c).length) λd hd=>hc d (.tail _ hd);rw [List.foldl_cons,List.length_cons];omega
theorem rp {x:Str}(h:JZ x):(reprText x).length<=4*x.length+2:=by
 rw [<-reprLen_eq,<-Array.foldl_toList];have h2:=uF (reprQuote x) (λc hc=>by rcases K2 x with e|e<;>rw [e];exact (Eh c hc).1;exact (Eh c hc).2) x.cps.toList 2 h
 have:x.cps.toList.length=x.length:=by simp [Str.length]
 omega
section
variable {X:Cx}{K:Fg}
theorem BS (bs:List Bool):((List.range bs.length).any λi=>(bs[i]?).getD true)=bs.any id:=by
 rw [Bool.eq_iff_iff,List.any_eq_true,List.any_eq_true];constructor
 ·rintro ⟨i,hi,e⟩;have hi:=List.mem_range.mp hi;rw [List.getElem?_eq_getElem hi] at e;exact ⟨_,List.getElem_mem hi,e⟩
 ·rintro ⟨b,hb,e⟩;obtain ⟨i,hi,rfl⟩:=List.mem_iff_getElem.mp hb;exact ⟨i,List.mem_range.mpr hi,by rw [List.getElem?_eq_getElem hi];exact e⟩
theorem CM (hc:X.calm=true):bH X (.builtin "any") (λxs H Q=>∃(a:Addr) (bs:List Bool),xs=[.ref a]/\aS X.K H a (List.map V.bl bs)/\Q (.bl (bs.any id)) H):=by
 intro pins s σ H xs us Q I r h;obtain ⟨a,bs,rfl,hq,q⟩:=h;obtain ⟨u,rfl,rx⟩:=kb r;cases rx;obtain ⟨its,rv,pl,hz⟩:=I.list hq;have hl:s.heap.IsList a its.toArray:=pl.isList;have hb:=yK rv
 have hlt:a<s.heap.objs.size:=by obtain ⟨_,e,_⟩:=hl;exact Heap.lt_size e
 rwa[call_any_walk (wpAny_pyIter_list hl ?_)]
 refine ⟨s.heap.objs.size,[s.heap.objs.size,a],[s.heap.objs.size],its.toArray.size,_,_,λi=>(bs[i]?).getD true,rfl,Walks.list (A:=X.A.in1) (I.ok.hd hc) _ a (Nat.ne_of_lt hlt) its.toArray,
  ⟨⟨_,Heap.get?_push_size _ rfl,rfl,rfl⟩,hl.push _⟩,λi v s' Q' E' hP hQ=> ?_,λh' tk hk=> ?_⟩
 ·obtain ⟨b,e,rfl⟩:=hb.get i v (by simpa using hP);simp only [e,Option.getD_some] at hQ;exact wpAny_truthy_bool hQ
 ·have e:((List.range its.toArray.size).any λi=>(bs[i]?).getD true)=bs.any id:=by
   rw [List.size_toArray,hb.length];exact BS bs
  rw [e];exact ⟨.bl _,H,I.kept (LSm.kept_iter hk),rfl,q⟩
def Jh (K:Fg)(a:Addr)(H:Hp)(Q:VK):Prop:=∃bs:List Bool,aS K H a (List.map V.bl bs)/\Q (.bl (bs.any _root_.id)) H
def No (K:Fg):List V->Hp->VK->Prop:=λxs H Q=>match xs with|[.ref a]=>Jh K a H Q|_=>False
theorem M6 (hK:X.K=K)(hc:X.calm=true):bH X (.builtin "any") (No K):=by
 subst hK;rwa[(CM hc).imp λxs H Q h=> ?_];unfold No at h;split at h
 ·obtain ⟨bs,h1,h2⟩:=h;exact ⟨_,bs,rfl,h1,h2⟩
 ·exact h.elim
theorem OP {K:Fg}{p:Addr}{H:Hp}{Q:VK}{bs:List Bool}(h:aS K H p (List.map V.bl bs))(g:Q (.bl (bs.any id)) H):Jh K p H Q:=⟨bs,h,g⟩
def vp (x y:Str):Bool:=decide (0+y.length<=x.length)&&Builtin.Str.subAt x y 0
def AE:V->List V->Hp->VK->Prop:=λx xs H Q=>match x,xs with| .str z,[.str y]=>Q (.bl (vp z y)) H|_,_=>False
theorem Df:yP X "str.startswith" AE:=by
 intro pins s σ H x xs v us Q I rx rs h;unfold AE at h;split at h
 ·rename_i z y;obtain ⟨t,rfl⟩:=rx;obtain ⟨u,rfl,t',rfl⟩:=kb rs;exact call_gives F.slot_str_startswith (typeIs_str s z t) F.entry_str_startswith (F.args_str_startswith_2 _ _) (gives_str_startswith z y t t') ⟨.bl _,H,I,rfl,h⟩
 ·exact h.elim
end
def d7:Stmt->Nat->Stmt
 | .ClassDef _ _ _ body _ _ _ _ _ _ _,j=>body.getD j (.Pass ⟨0,0,0,0⟩)
 |s,_=>s
structure gN (K:Fg)(C:Addr):Prop where
 cl:ut K C
 ha:W.findIn K (.ref C) "__class__"=some (some (.builtin "object.__class__"))
 hn:W.specialIn K (.builtin "object.__class__") "__get__"=some (some (.builtin "getset_descriptor.__get__"))
 htk:W.takesIn K (.builtin "object.__class__")=some true
 hm:W.mroIn K C (.type "object")=some true
structure JT (K:Fg)(C:Addr):Prop where
 makes:W.makesIn K C=true
 init:W.findIn K (.ref C) "__init__"=some (some (.builtin "object.__init__"))
 kp:W.keepIn K (.ref C)=true
section
variable {X:Cx}{C:Addr}{x:Str}{p pos:Pos}
def Dx (C:Addr):TE:=λ_ H Q=>∀a dx,H a=none->H dx=none->dx≠a->Q (.ref a) (upd (upd H dx (.own a)) a (.ins C dx []))
theorem Hw {pins:List ↑14}{σ:St}{H:Hp}{s:Shared}{Q:VK}(M:JT X.K C)(I:aF X pins σ H s)(h:Dx C σ H Q):wpAny ↑8 X.A (call (.ref C) []) (EP X pins σ Q) X.xe s:=by
 have hq:=h ↑24 s.heap.objs.size (I.hok.fresh (Nat.le_succ _)) (I.hok.fresh ↑13) (Nat.ne_of_lt (Nat.lt_succ_self _));have I2:=aF.made (C:=C) I;have Y:=W.makes_of (M:=model X.prog X.w) I.kIn M.makes
 have e2:((s.heap.push W.emptyDict).push (W.instObj C s.heap.objs.size)).get? ↑24=some (W.instObj C s.heap.objs.size):=by
  have:=Heap.get?_push_size (s.heap.push W.emptyDict) (o:=W.instObj C s.heap.objs.size) rfl;rwa [Heap.size_push] at this
 have t1:PySem.W.Looks ↑8 ((s.heap.push W.emptyDict).push (W.instObj C s.heap.objs.size)) (typeOf (.ref ↑24)) (.ref C):=(PySem.W.Looks.ld e2).andThen .now;have t2:PySem.W.Looks ↑8 ((s.heap.push W.emptyDict).push (W.instObj C s.heap.objs.size)) (isInstance (.ref ↑24) (.type "object")) true:=t1.andThen (Y.top.keeps λb o e=>Heap.get?_push_of_some _ (Heap.get?_push_of_some _ e));rwa[wpAny_call (Cf I.kIn M.makes M.init (λself=>PySem.W.Looks.of_pure (W.oi_bind self)) ?_)];obtain ⟨hh,g,d,t,os⟩:=s;rwa[codeAny_call_builtin W.oi_plain W.entry_oi (@W.check_slot ↑8 _ _ _ "object.__init__" "object" "__init__" (.ref (hh.objs.size+1)) [] [] _ W.oi_kind W.oi_split t2 (W.oi_args (.ref (hh.objs.size+1))) ?_)];rw [W.oi_run];exact wpAny_pure (And.intro rfl ⟨V.ref (hh.objs.size+1),_,I2,rfl,hq⟩)
theorem zO (M:JT X.K C)(hg:Gl X x)(hm:X.mg x=some (.ref C))(hdb:↑27=false:=by decide):PE X (.Call (.Name x p) [] [] pos) (Dx C):=by
 intro pins s σ H Q I h;rwa[wpAny_Call_Name_kw (im I hg hm ?_ hdb)];exact W.callWith_K0 I.kIn M.kp (Hw M I h)
end
theorem eg {H:Hp}{a dx:Addr}{o:HO}(h1:H a=none)(h2:H dx=none):av H (upd (upd H dx (.own a)) a o):=λb u z=>by
 rw [ap (λe=>by rw [e,h1] at z;cases z),ap (λe=>by rw [e,h2] at z;cases z)];exact z
theorem LU {C:Addr}{σ:St}{H:Hp}{Q:VK}(g:∀a dx H',av H H'->H a=none->H' a=some (.ins C dx [])->Q (.ref a) H'):Dx C σ H Q:=λa dx h1 h2 _=>g a dx _ (eg h1 h2) h1 ak
section
variable {X:Cx}{x:Str}{p pos:Pos}{e:Expr}{es:List Expr}{t:TA}{ps:List Str}{sp:Sp}{n m:Nat}{E:XK}{C:Addr}
def Q9:XK:=λ_ _ _=>False
theorem AU:fN (j4 X.prog X.w) X Q9:=λpins σ H s e s' I h=>by
 obtain ⟨a,T,cls,dd,H',_,_,_,_,_,_,_,_,_,_,q⟩:=h;exact q.elim
end
section
variable {X:Cx}{CX:nJ}{o e:Expr}{es:List Expr}{to:TE}{t:TA}{m:Str}{apos pos:Pos}{n k:Nat}{E:XK}{P:Program}{w:World}{K:Fg}{mg:Str->Option Value}{base:Heap}
theorem Da (h1:X.prog=P)(h2:X.w=w)(h3:X.K=K)(h4:X.mg=mg)(h5:X.base=base)(hx:fN CX X E)(hr:b4 k X.A)(hn:n<=k)(ho:PE X o to)(ha:PA X (e::es) t)(hb:eN o=true:=by rfl)(hp:aV (e::es)=true:=by rfl)(hl:(e::es).length<29:=by decide)
(hline:(apos.endLine==pos.line)=true:=by rfl):PE X (.Call (.Attribute o m apos) (e::es) [] pos) (Dj P w K mg base CX n m E to t):=by
 subst h1 h2 h3 h4 h5;exact lW hx hr hn ho ha hb hp hl hline
end
theorem A4 (xs:Array Nat)(a:Nat):∀m,a+m<=xs.size->((List.range m).map λk=>a+k).filterMap (λi=>xs[i]?)=(xs.toList.drop a).take m
 |0,_=>by simp
 |m+1,h=>by
  have ih:=A4 xs a m ↑6;rw [List.range_succ,List.map_append,List.filterMap_append,ih,List.take_succ,List.getElem?_drop,Array.getElem?_toList]
  have:a+m<xs.size:=by omega
  simp [Array.getElem?_eq_getElem this]
theorem ye {start stop:Int}{n:Nat}{x:Str}(hn:x.length=n)(h0:0<=start)(h1:start<=stop)(h2:stop<=n):(sliceRange start stop 1).filterMap (λi=>x.cps[i]?)=(x.cps.toList.drop start.toNat).take (stop - start).toNat/\(sliceRange start stop 1).length=(stop - start).toNat:=by
 have e:sliceRange start stop 1=(List.range (stop - start).toNat).map λk=>start.toNat+k:=by
  unfold sliceRange;simp only [show (1:Int)>0 by decide,if_true]
  have c:(if start<stop then (stop - start+1 - 1) / 1 else 0)=stop - start:=by split<;>omega
  rw [c];rwa[List.map_congr_left λk _=> ?_];omega
 have hs:x.cps.size=n:=hn;rw [e];exact ⟨A4 x.cps start.toNat _ ↑6,by simp⟩
theorem fV {x:Str}{l u:Option Int}{start stop:Int}(hi:Builtin.Str.strSliceIndices l u 1 x.length=sliceRange start stop 1)(h0:0<=start)(h1:start<=stop)(h2:stop<=x.length):(Txt.slice x l u).cps.toList=(x.cps.toList.drop start.toNat).take (stop - start).toNat:=by
 obtain ⟨r1,r2⟩:=ye (x:=x) rfl h0 h1 h2;unfold Txt.slice;rw [hi];split
 ·rename_i h
  have h3:(stop - start).toNat=x.length:=by simpa [r2] using h
  have h4:start.toNat=0:=by omega
  rw [h4,List.drop_zero,h3,List.take_of_length_le (by rw [bc];exact Nat.le_refl _)]
 ·exact r1
theorem mv {x:Str}{n:Int}(h:0<=n):(Txt.slice x none (some n)).cps.toList=x.cps.toList.take n.toNat:=by
 by_cases hn:n<=x.length
 ·rw [fV (start:=0) (stop:=n) ?_ ↑2 h hn]
  ·simp
  ·unfold Builtin.Str.strSliceIndices;simp only [show (1:Int)>0 by decide,if_true,if_neg (show ¬n<0 by omega)];congr 1;omega
 ·rw [fV (start:=0) (stop:=x.length) ?_ ↑2 ↑6 (Int.le_refl _)]
  ·rw [List.take_of_length_le (by rw [List.length_drop,bc];omega),List.take_of_length_le (by rw [bc];omega)];rfl
  ·unfold Builtin.Str.strSliceIndices;simp only [show (1:Int)>0 by decide,if_true,if_neg (show ¬n<0 by omega)];congr 1;omega
theorem gW {x:Str}{n:Int}(h:0<=n):(Txt.slice x (some n) none).cps.toList=x.cps.toList.drop n.toNat:=by
 by_cases hn:n<=x.length
 ·rw [fV (start:=n) (stop:=x.length) ?_ h hn (Int.le_refl _)]
  ·rw [List.take_of_length_le (by rw [List.length_drop,bc];omega)]
  ·unfold Builtin.Str.strSliceIndices;simp only [show (1:Int)>0 by decide,if_true,if_neg (show ¬n<0 by omega)];congr 1;omega
 ·rw [fV (start:=x.length) (stop:=x.length) ?_ ↑6 (Int.le_refl _) (Int.le_refl _)]
  ·rw [show ((x.length:Int) - x.length).toNat=0 by omega,List.take_zero,List.drop_of_length_le (by rw [bc];omega)]
  ·unfold Builtin.Str.strSliceIndices;simp only [show (1:Int)>0 by decide,if_true,if_neg (show ¬n<0 by omega)];congr 1;omega
theorem pC (x y:Str):(x++y).cps.toList=x.cps.toList++y.cps.toList:=by
 show (x.cps++y.cps).toList=_;simp
theorem vo {x y:Str}(h:x.cps.toList=y.cps.toList):x=y:=by
 cases x;cases y;congr 1;exact Array.toList_inj.mp h
open PySem.W
def jv (K:Frag)(C:Addr)(bmB:List Value)(newId:String):Bool:=match K.lookup C with
 |some ⟨.type "type",_,.cls cd,sl⟩=>(match cd.mro,sl.toList with
  | .ref C'::bm,[_,_,_,_,some (.builtin n),_]=>C'==C&&n==newId&& !cd.hasDel&&tailIn K bmB bm&&nsOkIn K cd.ns&&cd.hasDict
  |_,_=>false)
 |_=>false
theorem ju {K:Frag}{h:Heap}{C:Addr}{bmB:List Value}{newId:String}(X:K.In h)(q:jv K C bmB newId=true):
 ∃bm N nm q bs sn sub ab col dd k0 k1 k2 k3 k5 mN cd,h.get? C=some (excClassObj nm q C N bs bm true sn sub ab col dd k0 k1 k2 k3 k5 newId)/\h.Ns N mN/\OwnTail h bmB bm/\(∀v b,mroIn K C v=some b->(Value.ref C::bm).contains v=b)/\
  clsIn K C=some cd/\cd.mro= .ref C::bm/\cd.hasDict=true:=by
 unfold jv at q;split at q
 case h_2=>cases q
 case h_1 dd cd sl ho=>
  split at q
  case h_2=>cases q
  case h_1 C' bm k0 k1 k2 k3 n k5 hm hs=>
   simp only [Bool.and_eq_true,beq_iff_eq,Bool.not_eq_true'] at q;obtain ⟨⟨⟨⟨⟨e1,e2⟩,hdel⟩,ht⟩,hok⟩,hdi⟩:=q;subst e1 e2;obtain ⟨nm,bs,mro,ns,qn,hd,sn,sub,ab,col,del⟩:=cd;dsimp only at hm hdel hok hdi;subst hm hdel hdi;obtain ⟨l⟩:=sl;simp only at hs;subst hs;obtain ⟨cd',hcl,hmr,hhd⟩:∃cd',clsIn K C'=some cd'/\cd'.mro= .ref C'::bm/\cd'.hasDict=true:=⟨{name:=nm,bases:=bs,mro:= .ref C'::bm,ns:=ns,qualname:=qn,slotNames:=sn,subclasses:=sub,abstract:=ab,collection:=col},by unfold clsIn;rw [ho],rfl,rfl⟩;rwa[⟨bm,ns,nm,qn,bs,sn,sub,ab,col,dd,k0,k1,k2,k3,k5,_,cd',X _ _ ho,.of_isNs (isNs_of_in X hok),tail_of_in X ht,λv b e=> ?_,hcl,hmr,hhd⟩];unfold mroIn clsIn at e;rw [ho] at e;simpa using e
abbrev yY:List Value:=[.type "ValueError",.type "Exception",.type "BaseException",.type "object"]
section
variable {prog:Program}{w:World}{A:Around}{E:Value->Shared->Prop}{K:Frag}{C f:Addr}
theorem qr {h:Heap}{g:Array GenState}{d:Drawn}{t:Nat}{os:OsState}{cK:List Value}{Q:Fin->Shared->Prop}(X:K.In h)(q:jv K C yY "ValueError.__new__"=true)(hi:findIn K (.ref C) "__init__"=some (some (.ref f)))(hf:isFn K (.ref f)=true)
(hq:∀h' e,Heap.MadeExcOf h h' e (.ref C) cK->
   wpAny (model prog w) A (call (.ref f) (.ref e::cK)) (λr s'=>r= .none/\Q (.done (.ret (.ref e))) s') E ⟨h',g,d,t,os⟩)(hrest:cK.length<=sizeLine):
 wpAny (model prog w) A (Builtin.«type.__call__» ⟨.ref C::cK,[]⟩) Q E ⟨h,g,d,t,os⟩:=by
 obtain ⟨bm,N,nm,q',bs,sn,sub,ab,col,dd,k0,k1,k2,k3,k5,mN,cd,hC,hn,T,_,_⟩:=ju X q;have F:=PySem.F.excBase_ValueError
 have hBn:yY.contains (.type "ValueError")=true:=by decide+kernel
 repeat (first|with_reducible refine wpAny_loadPart_at hC ?_|with_reducible refine wpAny_madeBy_exc hC ?_|wp_step)
 rwa[codeAny_call_builtin_code (Code.quiet_builtin _ F.quiet) (wpAny_check_new_subU F hBn T hC ?_)];rwa[codeAny_exc_new_subU F hBn F T hC ?_ hrest];show wpAny _ _ _ _ _ _
 have kk:∀b o,h.get? b=some o->((h.push {cls:= .type "tuple",data:= .seq cK.toArray}).push {cls:= .ref C,data:= .fields #[.ref h.objs.size,.none,.none,.none,.bool false,.none]}).get? b=some o:=
  λb o e=>Heap.get?_push_of_some _ (Heap.get?_push_of_some _ e)
 have hC₁:=kk _ _ hC;have X₁:=X.keeps kk
 have hget:((h.push {cls:= .type "tuple",data:= .seq cK.toArray}).push
  {cls:= .ref C,data:= .fields #[.ref h.objs.size,.none,.none,.none,.bool false,.none]}).get? (h.objs.size+1)=some
  {cls:= .ref C,data:= .fields #[.ref h.objs.size,.none,.none,.none,.bool false,.none]}:=by heap_get
 have hcC:(Value.ref C::bm).contains (.ref C)=true:=by simp
 unfold isInstance
 repeat (first|with_reducible refine wpAny_loadPart_at hget ?_|(with_reducible refine wpAny_isSubtype_exc hC₁ ?_;rw [hcC])|wp_step)
 show wpAny _ _ (typeLookup (.ref C) _) _ _ _;rwa[(looks_findIn X₁ hi).here ?_];rwa[wpAny_holding (wpAny_bind ?_)];rwa[(bind_fn X₁ _ (beq_iff_eq.mp hf)).here ?_];rwa[wpAny_bind (wpAny_mono (hq _ (h.objs.size+1) ⟨kk,Heap.get?_none_of_le (Nat.le_succ _),h.objs.size,hget,Heap.get?_none_of_le ↑13,?_⟩) (λr s' hr=> ?_) λ_ _ x=>x)]
 ·exact Heap.get?_push_of_some _ (Heap.get?_push_at rfl rfl)
 ·obtain ⟨rfl,hQ⟩:=hr
  wp_walk
  exact hQ
theorem CL {s:Shared}{cK:List Value}{Q:Value->Shared->Prop}(X:K.In s.heap)(q:jv K C yY "ValueError.__new__"=true)(hi:findIn K (.ref C) "__init__"=some (some (.ref f)))(hf:isFn K (.ref f)=true)
(hq:∀h' e,Heap.MadeExcOf s.heap h' e (.ref C) cK->
   wpAny (model prog w) (A.under (.builtin "type.__call__" ⟨.ref C::cK,[]⟩)) (call (.ref f) (.ref e::cK)) (λr s'=>r= .none/\Q (.ref e) s') E {s with heap:=h'})(hrest:cK.length<=sizeLine):
 wpAny (model prog w) A (call (.ref C) cK) Q E s:=by
 obtain ⟨h,g,d,t,os⟩:=s;obtain ⟨bm,N,nm,q',bs,sn,sub,ab,col,dd,k0,k1,k2,k3,k5,mN,cd,hC,hn,T,_,_⟩:=ju X q;have f1:=tc_lookup;have f2:=tc_bind (.ref C);have hT:(⟨h,g,d,t,os⟩:Shared).TypeIs (.ref C) "type":=⟨_,hC,rfl⟩;rwa[wpAny_call (codeAny_of_tree ?_)];show wpAny _ _ (callAny (.ref C) _) _ _ _
 repeat (any_goals (first|assumption|with_reducible refine wpAny_loadPart_at hC ?_|wp_step))
 rwa[⟨rfl,?_⟩];rwa[codeAny_call_builtin_at (Code.quiet_builtin _ (by decide+kernel)) entry_typeCall (wpAny_check_type_call_sub hC (qr X q hi hf (λh' e hm=> ?_) hrest))];exact hq h' e hm
end
def fG (a:Addr)(cls:Value)(dd:Option Addr):HO:= .ext λh=>∃oe vs,h.get? a=some oe/\oe.cls=cls/\oe.dict=dd/\oe.data= .fields vs/\vs[1]? =some .none/\vs[2]? =some .none
theorem wW {P:Program}{w:World}{H:Hp}{h:Heap}{a:Addr}{cls:Value}{dd:Option Addr}{oe:Obj}{vs:Array Value}(h1:h.get? a=some oe)(h2:oe.cls=cls)(h3:oe.dict=dd)(h4:oe.data= .fields vs)(h5:vs[1]? =some .none)(h6:vs[2]? =some .none):bE P w H h a (fG a cls dd):=
 ⟨⟨oe,vs,h1,h2,h3,h4,h5,h6⟩,⟨_,h1⟩,λg1 g2 ⟨oe,vs,k1,k2⟩ st=>⟨oe,vs,st _ k1,k2⟩⟩
structure yU (K:Frag)(B:Addr):Prop where
 rd:readsIn K B (.type "type")=true
 at_:findCls K (.ref B) (.type "type") "__init__"=some (.val (.builtin "ValueError.__init__"))
 ga:specialIn K (.ref B) "__getattribute__"=some (some (.builtin "type.__getattribute__"))
theorem xG {H:Hp}{a:Addr}{o:HO}(e:H a=some o):upd H a o=H:=by
 funext b
 by_cases z:b=a
 ·rw [z,ak,e]
 ·rw [ap z]
def rY (K:Frag)(vs:List V)(H:Hp)(R:Hp->Prop):Prop:=∃a v C,vs=[.ref a,v]/\H a=some (fG a (.ref C) none)/\jv K C yY "ValueError.__new__"=true/\R H
def KG (K:Frag)(t:TA):TE:=λσ H Q=>t σ H λvs H1=>rY K vs H1 λH2=>Q .non H2
section
variable {X:Cx}{B:Addr}{x:Str}{np apos pos:Pos}{e1 e2:Expr}{t:TA}
theorem CQ {A:Around}{pins:List ↑14}{σ:St}{H:Hp}{s:Shared}{Q:Value->Shared->Prop}{E:Value->Shared->Prop}{a C:Addr}{us:List Value}(I:aF X pins σ H s)(ea:H a=some (fG a (.ref C) none))(q:jv X.K C yY "ValueError.__new__"=true)(hz:us.length<=1000)
(h:∀s',aF X pins σ H s'->Q .none s'):wpAny ↑8 A (call (.builtin "ValueError.__init__") (.ref a::us)) Q E s:=by
 have F:=PySem.F.excBase_ValueError;obtain ⟨bm,N,nm,q',bs,sn,sub,ab,col,dd,k0,k1,k2,k3,k5,mN,cd,hC,hn,T,_,_⟩:=ju I.kIn q;obtain ⟨⟨oe,vs,g1,g2,g3,g4,g5,g6⟩,_⟩:=I.hok a _ ea;obtain ⟨hh,g,d,tk,os⟩:=s;rwa[wpAny_call (codeAny_call_builtin F.init.plain F.initEntry (wpAny_check_init_subU F T hC g1 g2 ?_))]
 wp_walk
 rw [if_neg (show ¬(us.toArray.size>sizeLine) by rw [sizeLine_eq];simp;omega)]
 wp_walk
 rw [g4];rwa[wpAny_pure ?_];have sz:1<vs.size:=(Array.getElem?_eq_some_iff.mp g5).1
 have sz0:0<vs.size:=by omega
 rw [Array.getElem?_eq_getElem sz0];rwa[wpAny_pure (wpAny_bind ?_)];have e1:(hh.push {cls:=Value.type "tuple",data:=Data.seq us.toArray}).get? a=some oe:=Heap.get?_push_of_some _ g1;rwa[wpAny_setField e1 g4 sz0 ?_]
 have fin:∀(s':Shared),aF X pins σ H s'->wpAny ↑8 A.in1 (ret Value.none) (λfin s'=>match fin with
  |Fin.done f=>(match (Except.ok f:Result) with|Except.ok (Flow.ret v)=>Q v s'|Except.ok a=>False|Except.error e=>E e s')
  |Fin.again c'=>c'.quiet=true/\codeAny ↑8 A c' (λr s'=>match r with|Except.ok (Flow.ret v)=>Q v s'|Except.ok a=>False|Except.error e=>E e s') s')
  (λe s'=>match (Except.error e:Result) with|Except.ok (Flow.ret v)=>Q v s'|Except.ok a=>False|Except.error e=>E e s') s':=λs' J=>wpAny_pure (h s' J)
 have J:aF X pins σ H {heap:=(hh.push {cls:=Value.type "tuple",data:=Data.seq us.toArray}).update a (Obj.mapFields (·.setIfInBounds 0 (Value.ref hh.objs.size))),gens:=g,drawn:=d,toks:=tk,os:=os}:=by
  have hd₃:=Obj.data_mapFields g4 (·.setIfInBounds 0 (Value.ref hh.objs.size));have he₃:=Heap.get?_update_self (Obj.mapFields (·.setIfInBounds 0 (Value.ref hh.objs.size))) e1 (Obj.isFreed_of_fields hd₃)
  have J:=I.write (x:=a) (e:=a) (o:=fG a (.ref C) none) (h':=(hh.push {cls:=Value.type "tuple",data:=Data.seq us.toArray}).update a (Obj.mapFields (·.setIfInBounds 0 (Value.ref hh.objs.size)))) (t':=tk) (by rw [ea];exact True.intro) (.inl rfl)
   (λb u hb z=>by rw [Heap.get?_update_other _ _ (Ne.symm hb)];exact Heap.get?_push_of_some _ z) ⟨_,he₃⟩
   (wW he₃ ((Obj.cls_mapFields _ _).trans g2) (by rw [AX g4];exact g3) hd₃ (by rw [Array.getElem?_setIfInBounds_ne ↑2];exact g5) (by rw [Array.getElem?_setIfInBounds_ne ↑2];exact g6))
  rw [xG ea] at J;exact J
 split
 ·exact wpAny_letGo (fin _ J)
 ·exact wpAny_pure (fin _ J)
end
section
variable {X:Cx}{B:Addr}{x:Str}{np apos pos:Pos}{e1:Expr}{es:List Expr}{t:TA}
theorem rB {K:Frag}(hK:X.K=K)(M:yU K B)(hg:Gl X x)(hm:X.mg x=some (.ref B))(ha:PA X (e1::es) t)(hdb:↑27=false:=by decide)(hp:aV (e1::es)=true:=by rfl)(hl:(e1::es).length<29:=by decide)(hline:(apos.endLine==pos.line)=true:=by rfl):
 PE X (.Call (.Attribute (.Name x np) "__init__" apos) (e1::es) [] pos) (KG K t):=by
 subst hK;have h':(bR e1&&aV es)=true:=hp;rw [Bool.and_eq_true] at h';intro pins s σ H Q I h;rwa[oM rfl hp hl hline (im I hg hm ?_ hdb)];rwa[method_cls I.kIn M.ga (cls_value I.kIn M.rd M.at_ rfl ?_)];have I1:=I.tok (s.toks+1);have he:=bf (env:=X.env) (es:=es) h'.1;have hpl:(backTo pos (starEach es X.env)).any (·.1)=false:=b0 h'.2;have hA:=ha pos pins _ σ H _ I1 h;rw [he] at hA ⊢;rwa[Calls.callWith_builtin (by show (false||(backTo pos (starEach es X.env)).any (·.1))=false;rw [hpl];rfl) (Calls.evalArgs_plain (bT hA λus s2 ⟨vs,H2,I2,r,q2⟩=> ?_))];obtain ⟨a,v,C,rfl,ea,j,q⟩:=q2
 cases r with|cons r1 r2=>cases r2 with|cons r2 r3=>
 cases r3;obtain rfl:_=Value.ref a:=r1;exact CQ I2 ea j ↑17 λs' J=>⟨.non,H2,J,rfl,q⟩
end
theorem OwnTail.refuse {h:Heap}{bmB bm:List Value}(T:OwnTail h bmB bm)(self:Value)(what:Str):refuseLoop self what bm=refuseLoop self what bmB:=by
 induction T with
 |base=>rfl
 |own _ _ _ _ ih=>rw [refuseLoop_ref];exact ih
def qm (K:Frag)(f:Str)(a:Addr)(y:V)(H:Hp)(R:Hp->Prop):Prop:=∃C,H a=some (fG a (.ref C) none)/\jv K C yY "ValueError.__new__"=true/\findIn K (.ref C) "__setattr__"=some ↑29/\findIn K (.ref C) f=some none/\mroIn K C (.type "object")=some true/\
 ∀d,H d=none->d≠a->R (upd (upd H a (fG a (.ref C) (some d))) d (.xd [(f,y)]))
def Nz (K:Frag)(f:Str)(to tv:TE):TS:=λD σ H=>tv σ H λy H1=>to σ H1 λx H2=>match x with| .ref a=>qm K f a y H2 λH3=>D.nx σ H3|_=>False
section
variable {X:Cx}{o value:Expr}{to tv:TE}{f:Str}{pos pos':Pos}
theorem Pp {A:Around}{pins:List ↑14}{σ:St}{H:Hp}{s:Shared}{Q:Unit->Shared->Prop}{E:Value->Shared->Prop}{a C:Addr}{y:V}{u:Value}(I:aF X pins σ H s)(ea:H a=some (fG a (.ref C) none))(q:jv X.K C yY "ValueError.__new__"=true)
(hs:findIn X.K (.ref C) "__setattr__"=some ↑29)(hn:findIn X.K (.ref C) f=some none)(hO:mroIn X.K C (.type "object")=some true)(ry:aQ y u)
(h:∀d s',H d=none->d≠a->aF X pins σ (upd (upd H a (fG a (.ref C) (some d))) d (.xd [(f,y)])) s'->Q () s'):wpAny ↑8 A (setAttr (.ref a) f u) Q E s:=by
 obtain ⟨bm,N,nm,q',bs,sn,sub,ab,col,dd,k0,k1,k2,k3,k5,mN,cd,hC,hN,T,_,hcl,hmr,hhd⟩:=ju I.kIn q;obtain ⟨⟨oe,vs,g1,g2,g3,g4,g5,g6⟩,_⟩:=I.hok a _ ea;have IA:InstAt s.heap a oe C none:=⟨g1,g2,by unfold notCls;rw [g4],by rw [g3];trivial⟩;rwa[set_plain I.kIn IA hs ?_];have SF:=PySem.F.store_object;have Xk:=I.kIn;have sub:Looks ↑8 s.heap (isInstance (.ref a) (.type "object")) true:=IA.type.andThen (looks_mroIn Xk hO);have hm:Looks ↑8 s.heap (mroOf (.ref C)) cd.mro:=(looks_clsIn Xk hcl).andThen .now;rwa[codeAny_call_builtin SF.slot.plain SF.entry (@check_slot ↑8 _ _ {s with toks:=s.toks+1} "object.__setattr__" "object" "__setattr__" (.ref a) [.str f s.toks,u] [] _ SF.kind SF.split sub (SF.args (.ref a) (.str f s.toks) u) ?_)];rw [osa_eq,refuse_eq];rwa[wpAny_bind (wpAny_bind (Looks.here (s:= {s with toks:=s.toks+1}) IA.type (wpAny_bind (Looks.here (s:= {s with toks:=s.toks+1}) hm ?_))))];rw [hmr,refuseLoop_ref,OwnTail.refuse T,PySem.F.store_ValueError.passes];rwa[wpAny_pure (wpAny_bind (Looks.here (s:= {s with toks:=s.toks+1}) IA.type (wpAny_bind (Looks.here (s:= {s with toks:=s.toks+1}) (looks_findIn Xk hn) (wpAny_bind (wpAny_pure ?_))))))];rwa[wpAny_bind (wpAny_pure (wpAny_bind (wpAny_bind (wpAny_loadPart (s:= {s with toks:=s.toks+1}) g1 ?_))))];rw [g2];rwa[wpAny_bind (Looks.here (s:= {s with toks:=s.toks+1}) (looks_clsIn Xk hcl) ?_)];rw [hhd,if_neg ↑2];dsimp only;rw [g3];dsimp only;rw [if_neg (by simp [typeHasDict]),g4];dsimp only;obtain ⟨hh,gg,dw,tk,os⟩:=s;dsimp only at g1 ⊢;have hx₁:(hh.push {cls:= .type "dict",data:= .dict #[]}).get? a=some oe:=Heap.get?_push_of_some _ g1;have hxs:a≠hh.objs.size:=Nat.ne_of_lt (Heap.lt_size g1);rwa[wpAny_bind (wpAny_alloc' (wpAny_bind (wpAny_update' hx₁ ?_)))];rwa[wpAny_pure ?_]
 have hgd:((hh.push {cls:= .type "dict",data:= .dict #[]}).update a λo=> {cls:=o.cls,dict:=some hh.objs.size,data:=o.data,slots:=o.slots}).get? hh.objs.size
  =some {cls:= .type "dict",data:= .dict #[]}:=(Heap.get?_update_ne _ _ _ _ hxs.symm).trans (Heap.get?_push_at rfl rfl)
 have hnd:((hh.push {cls:= .type "dict",data:= .dict #[]}).update a λo=> {cls:=o.cls,dict:=some hh.objs.size,data:=o.data,slots:=o.slots}).Ns hh.objs.size (λ_=>none):=
  ⟨_,#[],_,hgd,rfl,λe he=>absurd he ↑17,λ_=>rfl⟩
 show wpAny _ _ (Builtin.ObjectAttr.storeInDict hh.objs.size (.str f tk) f u) _ _ _;unfold Builtin.ObjectAttr.storeInDict Builtin.ObjectAttr.newKeyGuard;rwa[wpAny_bind (wpAny_pure (wpAny_bind (wpAny_nsSet1 (Heap.Ns1.of_empty hnd) λh' hn' hs=> ?_)))];obtain ⟨oD,esD,epD,hoD,hdD,hcD⟩:=hn'.count (Within.cons f u Within.nil);rwa[wpAny_bind (wpAny_lookBehind hoD (by rw [hdD];exact pastItsLine_dict (Nat.le_trans hcD (by rw [List.length_cons,List.length_nil,sizeLine_eq];omega))) ?_)];rwa[wpAny_pure (h hh.objs.size _ I.fresh hxs.symm ?_)]
 have ha':h'.get? a=some {cls:=oe.cls,dict:=some hh.objs.size,data:=oe.data,slots:=oe.slots}:=by
  rwa[(hs.2 a hxs).trans (Heap.get?_update_self _ hx₁ ?_)];show Obj.isFreed {cls:=oe.cls,dict:=some hh.objs.size,data:=oe.data,slots:=oe.slots}=false;exact Obj.isFreed_of_fields (vs:=vs) g4
 have J:=I.write (x:=a) (e:=a) (o:=fG a (.ref C) (some hh.objs.size)) (h':=h') (t':=tk+2) (by rw [ea];exact True.intro) (.inl rfl)
  (λb z hb e=>(hs.2 b (Nat.ne_of_lt (Heap.lt_size e))).trans ((Heap.get?_update_ne _ _ _ _ hb).trans (Heap.get?_push_of_some _ e))) ⟨_,ha'⟩ (wW ha' g2 rfl g4 g5 g6)
 rwa[J.track (I.nw (Heap.get?_none_of_le ↑13) (by rw [ap hxs.symm];exact I.fresh)) ⟨_,hn',λg=> ?_⟩];show lQ (List.lookup g [(f,y)]) (if g=f then some u else none);by_cases z:g=f
 ·subst z;rw [if_pos rfl,List.lookup_cons_self];exact ry
 ·rw [if_neg z,List.lookup_cons,beq_false_of_ne z];trivial
theorem wk {K:Frag}(hK:X.K=K)(ho:PE X o to)(hv:PE X value tv)(hs:swapsWith value (some (.Attribute o f pos')) pos.line X.env=pure false:=by rfl):PS X (.Assign [.Attribute o f pos'] value pos) (Nz K f to tv):=by
 subst hK;intro pins s σ H D I h;rwa[plainObj_wpAny_Assign_Attribute (bT (hv pins s σ H _ I h) λu s1 ⟨y,H1,I1,ry,q⟩=>bT (ho pins s1 σ H1 _ I1 q) λov s2 ⟨x,H2,I2,rx,q2⟩=> ?_) hs]
 match x,q2 with
 | .ref a,⟨C,ea,j,sa,na,mO,q⟩=>
   obtain rfl:ov=Value.ref a:=rx;exact Pp I2 ea j sa na mO ry λd s3 nd dne I3=>⟨σ,_,I3,q d nd dne⟩
end
theorem aF.untrack {X:Cx}{pins:List ↑14}{σ:St}{H:Hp}{s:Shared}{a:Addr}{φ:Heap->Prop}(I:aF X pins σ H s)(e:H a=some (.ext φ)):aF X pins σ (λb=>if b=a then none else H b) s:=by
 have ne:∀b u,H b=some u->(∀φ,u≠ .ext φ)->(λb=>if b=a then none else H b) b=some u:=λb u z n=>by
  show (if b=a then none else H b)=some u;rw [if_neg];exact z;rintro rfl;rw [e] at z;cases z;exact n _ rfl
 have dn:∀b,H b=none->(λb=>if b=a then none else H b) b=none:=λb z=>by
  show (if b=a then none else H b)=none;split
  ·rfl
  ·exact z
 rwa[⟨I.ok,I.os,I.bare,⟨I.base.keep,I.base.slot,λb u e n hx=>dn _ (I.base.free b u e n hx),I.base.there,λb xs e=>ne _ _ (I.base.tups b xs e) (by intro φ z;cases z),λb u v e=>ne _ _ (I.base.frzs b u v e) (by intro φ z;cases z),λb ps e=> ?_⟩,I.loc,I.cell,dn _ I.free,λx c e=>dn _ (I.freeC x c e),λp hp=> ?_,λb u z=> ?_,I.len⟩]
 ·obtain ⟨m,q⟩:=I.base.tbls b ps e;exact ⟨m,ne _ _ q (by intro φ z;cases z)⟩
 ·obtain ⟨e,n,r⟩:=I.pin p hp;exact ⟨e,dn _ n,r⟩
 ·have hb:b≠a:=λy=>by
   subst y;have z':(if b=b then none else H b)=some u:=z;rw [if_pos rfl] at z';cases z'
  have z':(if b=a then none else H b)=some u:=z;rw [if_neg hb] at z';rwa[(I.hok b u z').stay (λ_ _ _ q=>q) (λc q=>ne _ _ q (by intro φ y;cases y)) λc xs q=>ne _ _ q (by intro φ y;cases y)]
inductive zc (C:Addr)(fld:Str)(vs:List V)(H:Hp)(Q:VK)(_e:XK):Prop
 |mk (a v:_) (_:vs=[.ref a,v]) (_:H a=some (fG a (.ref C) none)) (_:∀d,H d=none->d≠a->Q .non (upd (upd H a (fG a (.ref C) (some d))) d (.xd [(fld,v)])))
structure XI (K:Frag)(C f:Addr):Prop where
 j:jv K C yY "ValueError.__new__"=true
 init:findIn K (.ref C) "__init__"=some (some (.ref f))
 fn:isFn K (.ref f)=true
 kp:keepIn K (.ref C)=true
structure ML (P:Program)(w:World)(K:Frag)(mg:Str->Option Value)(base:Heap)(n:Nat)(x:Str)(C:Addr)(fld:Str):Prop where
 ex:∃f fd ps,XI K C f/\aD P w K mg base br n f fd ps (zc C fld)/\fm K fd ps []/\mg x=some (.ref C)
def G8 (C:Addr)(fld:Str)(E:XK)(t:TA):TS:=λ_ σ H=>t σ H λvs H1=>∃v,vs=[v]/\∀d,H1 d=none->E (.ref C) (some d) (upd H1 d (.xd [(fld,v)]))
section
variable {M:Model}{A:Around}{E:Value->Shared->Prop}{env:Env}{nm q:Str}{C N:Addr}{bs bm:List Value}{hdct:Bool}{sn:List Str}{sub:List Value}{ab:Bool}{col:Option Bool}{dd:Option Addr}{k0 k1 k2 k3 k5:Option Value}{newId:String}
theorem jd {s:Shared}{x:Sem Value}{Q:Flow->Shared->Prop}(hbase:(Value.ref C::bm).contains (.type "BaseException")=true)(hh:A.handled=none)
(h:wpAny M A x (λv s₁=>∃e oe vs,v= .ref e/\s₁.heap.get? C=some (excClassObj nm q C N bs bm hdct sn sub ab col dd k0 k1 k2 k3 k5 newId)/\s₁.heap.get? e=some oe/\oe.cls= .ref C/\oe.data= .fields vs/\vs[1]? =some .none/\E (.ref e) s₁) E s):
 wpAny M A (raiseStmt env (some x) none) Q E s:=by
 unfold raiseStmt;rwa[wpAny_bind (wpAny_mono h (λv s₁ h₁=> ?_) λ_ _ x=>x)];obtain ⟨e,⟨oc,od,odt,osl⟩,vs,rfl,hC,he,hcl,hdt,h1,hE⟩:=h₁;dsimp only at hcl hdt;subst hcl hdt;obtain ⟨hp,g,d,tk,os⟩:=s₁
 repeat (first|with_reducible refine wpAny_loadPart_at he ?_|with_reducible refine wpAny_loadPart_at hC ?_|(with_reducible refine wpAny_isSubtype_exc hC ?_;rw [hbase])|wp_step)
 rw [h1];rwa[wpAny_pure ?_];rw [if_neg ↑2];exact wpAny_pure (wpAny_raiseNew_none hh hE)
end
section
variable {X:Cx}{C:Addr}{x fld:Str}{np cpos pos:Pos}{e:Expr}{es:List Expr}{t:TA}{E:XK}{n k:Nat}
theorem oG (fl:Fl X E)(hc:X.calm=true)(c:ML X.prog X.w X.K X.mg X.base n x C fld)(hr:b4 k X.A)(hn:n+1<=k)(hg:Gl X x)(ha:PA X (e::es) t)
(hp:aV (e::es)=true:=by rfl)(hdb:↑27=false:=by decide):PS X (.Raise (some (.Call (.Name x np) (e::es) [] cpos)) none pos) (G8 C fld E t):=by
 intro pins s σ H D I h;have h':(bR e&&aV es)=true:=hp;rw [Bool.and_eq_true] at h';obtain ⟨f,fd,ps,M,F,b,hm⟩:=c.ex;obtain ⟨bm,N,nm,q,bs,sn,sub,ab,col,dd,k0,k1,k2,k3,k5,mN,cd,hC,hN,T,_⟩:=ju I.ok.mod.kin M.j
 have hbase:(Value.ref C::bm).contains (.type "BaseException")=true:=by rw [List.contains_cons,T.hasType (b:=true) (by decide+kernel),Bool.or_true]
 rw [arm_exec_Raise]
 have go:wpAny ↑8 X.A (eval (.Call (.Name x np) (e::es) [] cpos) X.env) (λv s₁=>∃e oe vs,v= .ref e/\s₁.heap.get? C=some (excClassObj nm q C N bs bm true sn sub ab col dd k0 k1 k2 k3 k5 "ValueError.__new__")/\s₁.heap.get? e=some oe/\oe.cls= .ref C/\oe.data= .fields vs/\vs[1]? =some .none/\X.xe (.ref e) s₁) X.xe s:=by
  rwa[wpAny_Call_Name_kw (im I hg hm ?_ hdb)];rwa[callWith_K (h₀:=X.base) I.ok.mod.kin M.kp (bT (ha cpos pins s σ H _ I h) λus s1 ⟨vs,H1,I1,r,q1⟩=>⟨I1.kIn,?_⟩) (bf h'.1) (b0 h'.2)];rw [List.nil_append];obtain ⟨v,rfl,q1⟩:=q1;rwa[CL I1.kIn M.j M.init M.fn (λh2 a m=> ?_) (by rw [<-r.length];show 1<=_;rw [sizeLine_eq];omega)];have n1:H1 a=none:=I1.hok.none_of m.new;have I2:=I1.kept (t':=s1.toks) m.keeps;have nw:=I1.nw m.new n1;obtain ⟨tt,ht,_⟩:=m.there;have I3:=I2.track (o:=fG a (.ref C) none) nw (wW ht rfl rfl rfl rfl rfl)
  have sp:zc C fld (.ref a::([v]++[])) (upd H1 a (fG a (.ref C) none)) (λz H2=>z= .non/\∃d,H1 d=none/\d≠a/\H2=upd (upd (upd H1 a (fG a (.ref C) none)) a (fG a (.ref C) (some d))) d (.xd [(fld,v)])) E:=
   ⟨a,v,rfl,ak,λd nd ne=>⟨rfl,d,by rw [ap ne] at nd;exact nd,ne,rfl⟩⟩
  have r2:aY (V.ref a::([v]++[])) (Value.ref a::(us++[])):= .cons rfl (r.append .nil)
  have hl:(Value.ref a::us++[]).length=ps.length:=by
   have e:=r2.length;rw [F.len _ _ _ _ sp] at e;exact e.symm
  have hb:BindsTo {heap:=h2,gens:=s1.gens,drawn:=s1.drawn,toks:=s1.toks,os:=s1.os} fd {pos:=Value.ref a::us} (ps.zip (Value.ref a::(us++[]))):=b _ (Value.ref a::us) I3.kIn hl;rwa[wpAny_call (codeAny_mono (F.run _ X.stack _ _ ⟨Value.ref a::us,[]⟩ (Value.ref a::(us++[])) _ _ E ((hr.mono hn).make C us []) (I3.env0.make C us []) hb r2 sp) λr s' hq'=> ?_)]
  cases r with
  |error e=>exact False.elim hq'
  |ok flw=>
   cases flw with
   |ret u=>
    obtain ⟨v',H',I4,rv,ev,d,nd,dne,rfl⟩:=I3.after hq';subst ev;rwa[⟨rv,a,?_⟩]
    have e4:upd (upd (upd H1 a (fG a (.ref C) none)) a (fG a (.ref C) (some d))) d (.xd [(fld,v)]) a=some (fG a (.ref C) (some d)):=by rw [ap (Ne.symm dne),ak]
    obtain ⟨⟨oe,vs,g1,g2,g3,g4,g5,g6⟩,_⟩:=I4.hok a _ e4;have I5:=I4.untrack e4
    have eH:(λb=>if b=a then none else upd (upd (upd H1 a (fG a (.ref C) none)) a (fG a (.ref C) (some d))) d (.xd [(fld,v)]) b)=upd H1 d (.xd [(fld,v)]):=by
     funext y
     show (if y=a then none else _)=_;by_cases hya:y=a
     ·rw [if_pos hya,hya,ap (Ne.symm dne),n1]
     ·rw [if_neg hya];by_cases hyd:y=d
      ·rw [hyd,ak,ak]
      ·rw [ap hyd,ap hyd,ap hya,ap hya]
    rw [eH] at I5;rwa[⟨oe,vs,rfl,I4.bk _ _ hC,g1,g2,g4,g5,?_⟩];rwa[fl pins σ _ _ a (.ref C) (some d) I5 ⟨⟨by rw [ap (Ne.symm dne)];exact n1,nw.2⟩,.inl ⟨oe,vs,g1,g2,g3,g4,g5,g6⟩⟩ (q1 d nd)]
   |next=>exact False.elim hq'
   |brk=>exact False.elim hq'
   |cont=>exact False.elim hq'
 first
  |refine wpAny_bind (wpAny_standAt (jd hbase (I.ok.hd hc) (wpAny_bind (wpAny_mono go (λv s₃ h₃=>wpAny_bind (wpAny_standAt (wpAny_pure h₃))) λ_ _ x=>x))))
  |(simp only [evalOpt,Option.map];refine wpAny_bind (wpAny_standAt (jd hbase (I.ok.hd hc) (wpAny_bind (wpAny_mono go (λv s₃ h₃=>wpAny_bind (wpAny_standAt (wpAny_pure h₃))) λ_ _ x=>x)))))
  |(refine wpAny_bind (wpAny_standAt (jd hbase (I.ok.hd hc) ?_));refine wpAny_bind (wpAny_mono go (λv s₃ h₃=>wpAny_bind (wpAny_standAt (wpAny_pure h₃))) λ_ _ x=>x))
end
open PySem.Calls Att
theorem tE {i:Int}{n:Nat}(h:WData.weight (.int i)<=n):Builtin.Int.intBits i<=n:=by
 unfold WData.weight at h;unfold Builtin.Int.intBits;exact h
theorem pP:∀ {ns:List Int} {n:Nat},WData.weightAll (ns.map WData.int)<=n->∀i∈ns,Builtin.Int.intBits i<=n
 |[],_,_,_,hi=>nomatch hi
 |a::r,n,h,i,hi=>by
  have h':WData.weight (.int a)+1+WData.weightAll (r.map WData.int)<=n:=by simpa [WData.weightAll] using h
  rcases List.mem_cons.mp hi with rfl|hi
  ·exact tE ↑6
  ·exact pP ↑6 i hi
theorem yM {ns:List Int}(h:WData.layableAll [WData.list (List.map WData.int ns)]=true):∀i∈ns,Builtin.Int.intBits i<=2^20:=by
 have h1:WData.layable (WData.list (List.map WData.int ns))=true:=by simpa [WData.layableAll] using h
 unfold WData.layable at h1;rw [Bool.and_eq_true,Bool.and_eq_true] at h1;have h2:=of_decide_eq_true h1.2;rwa[pP ?_];simpa [WData.weight] using h2
theorem xi {l:OpenLaw}{n:Nat}{q:Program}{loose:List Str}{XP:(Str->Option Value)->Heap->Prop}{YP:World->Heap->Prop}{d:DefRec}
(hn:l.most=some n)(hdf:d.params.defaults=[])
(call:∀(w:World) (s₀ s₁:Shared) (mg mb:Str->Option Value) (fa:Addr) (o:Obj) (pm cd doc:Value) (a:Addr) (vs:List Value) (ns:List Int),
   Ground q loose [] XP w s₀ mg mb s₁.heap->YP w s₁.heap->
   s₁.heap.get? fa=some o->o.data= .func (docDef d.name d.params d.body d.scope pm cd doc)->s₁.heap.CodeRec cd d.name->mg d.name=some (.ref fa)->
   s₁.heap.get? a=some {cls:= .type "list",data:= .seq vs.toArray}->IntsAre vs ns->ns.length<=n->(∀i∈ns,Builtin.Int.intBits i<=2^20)->s₁.gens= #[]->
   codeAny (model l.prog w) callerA (.call (.ref fa) ⟨[.ref a],[]⟩) (λr s'=>r= .ok (.ret (.bool true))/\OldK s₁.heap s'.heap/\s'.os=s₁.os/\AllBare s'.gens) s₁):
 WalkO q loose XP YP l.row.toRowW d [] (λf vs=>PySem.call f vs):=by
 intro w s₀ s₁ mg mb G Y fa o pm cd doc dV kV ho hd hcd hD hmg hg args vals as hpre hlay hrd hwl hlo;obtain rfl:dV= .none:=Dflts.none hD hdf;obtain rfl:kV= .none:=Dflts.noKw hD;obtain ⟨a,vs,ns,rfl,rfl,hobj,hints,hlen⟩:=Bz hn hpre hwl;rwa[enter_call (codeAny_mono (call w s₀ s₁ mg mb fa o pm cd doc a vs ns G Y ho (fd_plain hd) hcd hmg hobj hints hlen (yM hlay) hg) λr s' hq=> ?_)];obtain ⟨rfl,h2,h3,h4⟩:=hq;exact ⟨.inl ⟨.bool true,.bool true,[],rfl,λ_=>rfl,.bool true,BT l _,λ_=>⟨List.Pairwise.nil,λ_ hm=>(nomatch hm)⟩⟩,h2,h3,h4⟩
open PySem.StrLaws Builtin.Str
def jn (sp:List Nat):List (List Nat)->List Nat
 |[]=>[]
 |[p]=>p
 |p::q::r=>p++sp++jn sp (q::r)
structure FunD (K:Fg)(x qual:Str)(st:Stmt)(T f:Addr)(fd:FuncData):Prop where
 ex:∃(oc:Value) (od:Option Addr) (kV doc pm:Value) (an:Option Addr) (cdv ct:Value) (osl:Array (Option Value)),
  fd=W.fnOf x qual (cu st) (bK st) (ai st) (.ref T) kV doc pm an cdv ct/\K.lookup f=some ⟨oc,od,.func fd,osl⟩/\W.codeIn K cdv qual=true
structure CalD (P:Program)(w:World)(K:Fg)(mg:Str->Option Value)(base:Heap)(n:Nat)(x:Str)(ps:List Str)(dvs:List V)(sp:Sp):Prop where
 ex:∃f fd ds,aD P w K mg base (j4 P w) n f fd ps sp/\fm K fd ps ds/\aY dvs ds/\W.keepIn K (.ref f)=true/\mg x=some (.ref f)
def QO (P:Program)(w:World)(K:Fg)(mg:Str->Option Value)(base:Heap)(n:Nat)(f:Addr)(ps:List Str)(sp:Sp):Prop:=
 ∃fd,aD P w K mg base br n f fd ps sp/\fm K fd ps []/\W.keepIn K (.ref f)=true
theorem bp.fnv {P:Program}{w:World}{K:Fg}{mg:Str->Option Value}{base:Heap}{n:Nat}{x:Str}{ps:List Str}{sp:Sp}(c:bp P w K mg base n x ps sp):∃f,mg x=some (.ref f)/\QO P w K mg base n f ps sp:=by
 obtain ⟨f,fd,F,b,k,hm⟩:=c.ex;exact ⟨f,hm,fd,F,b,k⟩
def kz (base:Heap)(mg:Str->Option Value):Prop:=∃bm o,mg "__builtins__"=some (.ref bm)/\bm≠builtinsNs/\bm≠mainGlobals/\base.get? bm=some o/\o.cls= .type "module"/\o.dict=some builtinsNs/\o.data= .plain
theorem Ck {P:Program}{w:World}{K:Frag}{mg mb:Str->Option Value}{CX:nJ}{k:Nat}{fa a:Addr}{fd:FuncData}{x:Str}{sp:Sp}{s₁:Shared}{vs:List Value}{ns:List Int}{tabs:List (Addr×Addr)}
(hT:∀q∈tabs,CodeHd s₁.heap q.1 q.2/\s₁.heap.get? q.2=some (tabObj #[]))(hnt:noTabs K=true)(hbm:kz s₁.heap mg)
(KX:K.In s₁.heap)(hns:s₁.heap.Ns mainGlobals mg)(hb:s₁.heap.Ns builtinsNs mb)(hbb:∀x:Str,x≠"__name__"->mb x=bootBuiltins x)(hlim:s₁.heap.NoLimit)(hg:s₁.gens= #[])
(ha:s₁.heap.get? a=some {cls:= .type "list",data:= .seq vs.toArray})(hi:IntsAre vs ns)(hl:ns.length<=sizeLine)(hr:b4 k callerA)
(F:∀base:Heap,K.In base->base.Ns mainGlobals mg->kz base mg->aD P w K mg base CX k fa fd [x] sp)(hbind:∀(s:Shared) (u:Value),BindsTo s fd ⟨[u],[]⟩ [(x,u)])
(hsp:∀H:Hp,(∀q∈tabs,H q.2=some (.tbl #[]))->aS K H a (ns.map V.int)->sp [.ref a] H (λv _=>v= .bl true) λ_ _ _=>False)
(hCX:∀H e s',CX [] H s₁ (λ_ _ _=>False) e s'->False):
 codeAny (model P w) callerA (.call (.ref fa) ⟨[.ref a],[]⟩) (λr s'=>r= .ok (.ret (.bool true))/\OldK s₁.heap s'.heap/\s'.os=s₁.os/\AllBare s'.gens) s₁:=by
 have rv:=uu hi;have lenV:=hi.length
 have ta:∀q∈tabs,q.2≠a:=λq hq z=>by have:=(hT q hq).2;rw [z,ha] at this;cases this
 have core:∀H:Hp,aS K H a (ns.map V.int)->gd P w H s₁.heap->(∀q∈tabs,H q.2=some (.tbl #[]))->(∀b u,H b=some u->(∃q∈tabs,b=q.2)\/(b=a/\K.lookup a=none/\∃ob xs,u= .frz ob (.lst xs)))->
  codeAny (model P w) callerA (.call (.ref fa) ⟨[.ref a],[]⟩) (λr s'=>r= .ok (.ret (.bool true))/\OldK s₁.heap s'.heap/\s'.os=s₁.os/\AllBare s'.gens) s₁:=by
  intro H hS hok hTb hA;have base_of:∀ {b:Addr} {o:Obj},s₁.heap.get? b=some o->H b=none->(uh s₁.heap H).get? b=some o:=λe n=>Fs e n
  have noA:∀ {b:Addr} {o:Obj},s₁.heap.get? b=some o->o.cls≠ .none->o.cls≠ .type "list"->H b=none:=λ{b o} e d1 d2=>by
   cases q:H b with
   |none=>rfl
   |some u=>
    rcases hA b u q with ⟨t,ht,rfl⟩|⟨rfl,_,_⟩
    ·rw [(hT t ht).2] at e;cases e;exact absurd rfl d1
    ·rw [ha] at e;cases e;exact absurd rfl d2
  have noD:∀ {b:Addr} {o:Obj} {es:Array DictEntry} {ep:Nat},s₁.heap.get? b=some o->o.data= .dict es ep->H b=none:=λ{b o es ep} e d=>by
   cases q:H b with
   |none=>rfl
   |some u=>
    rcases hA b u q with ⟨t,ht,rfl⟩|⟨rfl,_,_⟩
    ·rw [(hT t ht).2] at e;cases e;cases d
    ·rw [ha] at e;cases e;cases d
  have nsK:∀ {b:Addr} {m:Str->Option Value},s₁.heap.Ns b m->(uh s₁.heap H).Ns b m:=λ{b m} ⟨o,es,ep,e,d,r⟩=>⟨o,es,ep,base_of e (noD e d),d,r⟩
  have hKb:K.In (uh s₁.heap H):=λb o e=>base_of (KX b o e) (by
   cases q:H b with
   |none=>rfl
   |some u=>
    rcases hA b u q with ⟨t,ht,rfl⟩|⟨rfl,hk,_⟩
    ·have e2:=KX _ _ e;rw [(hT t ht).2] at e2;have h2:=List.all_eq_true.mp hnt (t.2,o) (mem_of_lookupK e);cases e2;exact absurd (show false=true from h2) Bool.false_ne_true
    ·rw [hk] at e;cases e)
  have hM:Mod K mg (uh s₁.heap H):=⟨hKb,nsK hns,⟨mb,nsK hb,hbb⟩,let ⟨mc,h1,h2⟩:=hlim;⟨mc,nsK h1,h2⟩⟩;have hB:kz (uh s₁.heap H) mg:=let ⟨bm,o,h1,h2,h3,h4,h5,h6,h7⟩:=hbm;⟨bm,o,h1,h2,h3,base_of h4 (noA h4 (by rw [h5];simp) (by rw [h5];simp)),h5,h6,h7⟩;have e0:pE P w K mg (uh s₁.heap H) callerA [] s₁ H:=⟨rfl,hM,λb o e=>IB e,Nat.le_of_eq (Cs _ _),trivial,λb hb=>absurd (show b∈([]:List Addr) from hb) ↑17,hok,.of_eq hg⟩;rwa[codeAny_mono ((F _ hKb (nsK hns) hB).run callerA [] s₁ H ⟨[.ref a],[]⟩ [.ref a] [.ref a] _ _ hr e0 (hbind s₁ (.ref a)) (.cons rfl .nil) (hsp H hTb hS)) λr s' h=> ?_]
  cases r with
  |error e=>exact (hCX H e s' h).elim
  |ok fl=>
   cases fl with
   |next=>exact False.elim h
   |brk=>exact False.elim h
   |cont=>exact False.elim h
   |ret u=>
    obtain ⟨v,H',os,bare,un,hok',r',q⟩:=h;have q':v= .bl true:=q;subst q';obtain rfl:u=Value.bool true:=r';rwa[⟨rfl,⟨λb o e=> ?_,λb o e=>un.there b o e ↑17⟩,os,bare⟩]
    cases q:H b with
    |none=>exact .inl (un.keep b o e q (by intro z;exact absurd (show b∈([]:List Addr) from z) ↑17) ↑17)
    |some u=>
     rcases hA b u q with ⟨t,ht,rfl⟩|⟨rfl,hk,ob,xs,rfl⟩
     ·obtain ⟨more,e2⟩:=un.tbls _ _ (hTb t ht);have e3:s'.heap.get? t.2=some (tabObj (#[]++more)):=hok' _ _ e2;have e4:=(hT t ht).2;rw [e4] at e;cases e;exact .inr (.inl ⟨((hT t ht).1.tab e4).isCodeTable,rfl,#[],more,rfl,e3⟩)
     ·have z2:=un.frzs b ob _ q;obtain ⟨e1,_⟩:=hok b _ q;obtain ⟨e2,_⟩:=hok' b _ z2;rw [e] at e1;cases e1;exact .inl e2
 have tbk:∀(H:Hp),(∀b u,H b=some u->u= .tbl #[]->∃q∈tabs,b=q.2)->∀b,H b=some (.tbl #[])->bE P w H s₁.heap b (.tbl #[]):=λH z b e=>by
  obtain ⟨q,hq,rfl⟩:=z b _ e rfl;exact (hT q hq).2
 cases hk:K.lookup a with
 |some o=>
  have e:=KX a o hk;rw [ha] at e;cases e;rwa[core (λb=>if b∈tabs.map (·.2) then some (.tbl #[]) else none) (.inr ⟨_,vs.toArray,_,hk,rfl,rfl,rfl,by rw [List.size_toArray,lenV];exact hl,by simpa using rv⟩) (λb u z=> ?_) (λq hq=>if_pos (List.mem_map_of_mem hq)) (λb u z=> ?_)]
  ·by_cases hm:b∈tabs.map (·.2)
   ·have z':=(if_pos hm).symm.trans z;cases z';obtain ⟨q,hq,rfl⟩:=List.mem_map.mp hm;exact (hT q hq).2
   ·have z':=(if_neg hm).symm.trans z;cases z'
  ·by_cases hm:b∈tabs.map (·.2)
   ·obtain ⟨q,hq,rfl⟩:=List.mem_map.mp hm;exact .inl ⟨q,hq,rfl⟩
   ·have z':=(if_neg hm).symm.trans z;cases z'
 |none=>
  have na:a∉tabs.map (·.2):=λz=>by obtain ⟨q,hq,e⟩:=List.mem_map.mp z;exact ta q hq e
  rwa[core (λb=>if b∈tabs.map (·.2) then some (.tbl #[]) else if b=a then some (.frz {cls:= .type "list",data:= .seq vs.toArray} (.lst (ns.map V.int))) else none) (.inl (.inr ⟨{cls:= .type "list",data:= .seq vs.toArray},(if_neg na).trans (if_pos rfl)⟩)) (λb u z=> ?_) (λq hq=>if_pos (List.mem_map_of_mem hq)) (λb u z=> ?_)]
  ·by_cases hm:b∈tabs.map (·.2)
   ·have z':=(if_pos hm).symm.trans z;cases z';obtain ⟨q,hq,rfl⟩:=List.mem_map.mp hm;exact (hT q hq).2
   ·have z':=(if_neg hm).symm.trans z;by_cases hb:b=a
    ·have z2:=(if_pos hb).symm.trans z';cases z2;subst hb;exact ⟨ha,by rw [List.length_map];exact hl,vs,_,rv,ha⟩
    ·have z2:=(if_neg hb).symm.trans z';cases z2
  ·by_cases hm:b∈tabs.map (·.2)
   ·obtain ⟨q,hq,rfl⟩:=List.mem_map.mp hm;exact .inl ⟨q,hq,rfl⟩
   ·have z':=(if_neg hm).symm.trans z;by_cases hb:b=a
    ·have z2:=(if_pos hb).symm.trans z';cases z2;exact .inr ⟨hb,hk,_,_,rfl⟩
    ·have z2:=(if_neg hb).symm.trans z';cases z2
theorem De {l:OpenLaw}{n k:Nat}{q:Program}{loose:List Str}{XP:(Str->Option Value)->Heap->Prop}{YP:World->Heap->Prop}{d:DefRec}{K:Params->Frag}{CX:World->nJ}{sp:World->Sp}{x:Str}{tabs:World->List (Addr×Addr)}
(hn:l.most=some n)(hn2:n<=sizeLine)(hdf:d.params.defaults=[])(hr:b4 k callerA)
(hY:∀(w:World) (h:Heap),YP w h->(K w.params).In h/\∀t∈tabs w,h.get? t.2=some (tabObj #[]))(hnt:∀w:World,noTabs (K w.params)=true)(hcd:∀w:World,∀t∈tabs w,codeHdIn (K w.params) t.1 t.2=true)
(F:∀(w:World) (mg:Str->Option Value) (fa:Addr) (h:Heap),(K w.params).In h->h.Ns mainGlobals mg->mg d.name=some (.ref fa)->
   ∃fd:FuncData,(∀(s:Shared) (u:Value),BindsTo s fd ⟨[u],[]⟩ [(x,u)])/\
    ∀base:Heap,(K w.params).In base->base.Ns mainGlobals mg->kz base mg->aD l.prog w (K w.params) mg base (CX w) k fa fd [x] (sp w))
(hsp:∀(w:World) (H:Hp) (a:Addr) (ns:List Int),ns.length<=n->(∀i∈ns,Builtin.Int.intBits i<=2^20)->(∀t∈tabs w,H t.2=some (.tbl #[]))->aS (K w.params) H a (ns.map V.int)->sp w [.ref a] H (λv _=>v= .bl true) λ_ _ _=>False)
(hCX:∀(w:World) (H:Hp) (s:Shared) (e:Value) (s':Shared),CX w [] H s (λ_ _ _=>False) e s'->False):
 WalkO q loose XP YP l.row.toRowW d [] (λf vs=>PySem.call f vs):=by
 rwa[xi hn hdf λw s₀ s₁ mg mb fa o pm cd doc a vs ns G Y ho hd hcd' hmg hobj hints hlen hbits hg=> ?_];obtain ⟨KX,hT⟩:=hY w _ Y;obtain ⟨fd,hb,hF⟩:=F w mg fa _ KX G.T.g hmg
 have hbm:kz s₁.heap mg:=by
  obtain ⟨bm,ob,h1,h2,h3,h4,h5,h6⟩:=G.T.bmain;rwa[⟨bm,ob,h1,h2,λz=> ?_,h3,h4,h5,h6⟩];obtain ⟨o',es,ep,e',d',_⟩:=G.T.g;rw [z,e'] at h3;cases h3;rw [d'] at h6;cases h6
 exact Ck (tabs:=tabs w) (λt ht=>⟨codeHd_of_K KX (hcd w t ht),hT t ht⟩) (hnt w) hbm KX G.T.g G.T.b G.T.builtins G.T.nolimit hg hobj hints (Nat.le_trans hlen hn2) hr hF hb (λH hTb hS=>hsp w H a ns hlen hbits hTb hS) λH e s'=>hCX w H s₁ e s'
def AB (c:Addr)(q:Str):HO:= .ext λh=>h.CodeRec (.ref c) q
def AA (a:Addr)(o:Obj):HO:= .ext λh=>h.get? a=some o
section
variable {P:Program}{w:World}{H:Hp}{h:Heap}
theorem Jc {c:Addr}{q:Str}(e:h.CodeRec (.ref c) q):bE P w H h c (AB c q):=by
 obtain ⟨c0,oc,vs,tq,hc,hoc,hd,hq⟩:=id e;cases hc
 exact ⟨e,⟨oc,hoc⟩,λh1 h2 z k=>by
  obtain ⟨c1,o1,v1,t1,z1,z2,z3,z4⟩:=z;cases z1
  exact ⟨_,o1,v1,t1,rfl,k _ z2,z3,z4⟩⟩
theorem A0 {a:Addr}{o:Obj}(e:h.get? a=some o):bE P w H h a (AA a o):=⟨e,⟨o,e⟩,λh1 h2 z k=>k _ z⟩
end
def dP (H:Hp)(P:Addr)(q:Str):Prop:=∃ps,H P=some (.tbl ps)/\TriplesOk ps.toList/\∀pos cv,codeAmong pos ps.toList=some cv->∃c',cv= .ref c'/\H c'=some (AB c' q)
def fM (P:Addr)(H H':Hp):Prop:=∀b o,b≠P->H b=some o->H' b=some o
def bB (H H':Hp):Prop:=∀b o,(∀ps,o≠ .tbl ps)->H b=some o->H' b=some o
theorem bB.trans {H H1 H2:Hp}(a:bB H H1)(b:bB H1 H2):bB H H2:=λc o n e=>b c o n (a c o n e)
theorem av.nt {H H':Hp}(s:av H H'):bB H H':=λb o _ e=>s b o e
theorem fM.nt {P:Addr}{H H':Hp}{ps:Array Value}(s:fM P H H')(hP:H P=some (.tbl ps)):bB H H':=λb o n e=>s b o (λz=>by rw [z,hP] at e;cases e;exact n _ rfl) e
theorem dP.same {H H':Hp}{P:Addr}{q:Str}(t:dP H P q)(s:av H H'):dP H' P q:=
 let ⟨ps,h1,h2,h3⟩:=t;⟨ps,s _ _ h1,h2,λpos cv e=>let ⟨c',a,b⟩:=h3 pos cv e;⟨c',a,s _ _ b⟩⟩
theorem dP.sameP {H H':Hp}{P P':Addr}{q:Str}{ps':Array Value}(t:dP H P q)(s:fM P' H H')(hp:H P'=some (.tbl ps'))(hn:P≠P'):dP H' P q:=
 let ⟨ps,h1,h2,h3⟩:=t;⟨ps,s _ _ hn h1,h2,λpos cv e=>let ⟨c',a,b⟩:=h3 pos cv e;⟨c',a,s _ _ (λz=>by rw [z,hp] at b;cases b) b⟩⟩
theorem md {a b:Int}{t u:Tok}{c:Value}:∀ {l:List Value},TriplesOk l->TriplesOk (l++[.int a t,.int b u,c])
 |[],_=>trivial
 | .int _ _:: .int _ _::_::r,h=>md (l:=r) h
theorem tF {a b:Int}{t u:Tok}{c:Value}{pos:Pos}{cv:Value}:∀ {l:List Value},TriplesOk l->codeAmong pos (l++[.int a t,.int b u,c])=some cv->codeAmong pos l=some cv\/cv=c
 |[],_,h=>by
  simp only [List.nil_append,codeAmong] at h;split at h
  ·cases h;exact .inr rfl
  ·cases h
 | .int x _:: .int y _::z::r,ok,h=>by
   have h:(if x==pos.line&&y==pos.col then some z else codeAmong pos (r++[.int a t,.int b u,c]))=some cv:=h;show (if x==pos.line&&y==pos.col then some z else codeAmong pos r)=some cv\/_;by_cases z1:(x==pos.line&&y==pos.col)=true
   ·rw [if_pos z1] at h ⊢;exact .inl h
   ·rw [if_neg z1] at h ⊢;exact tF (l:=r) ok h
def P9 (P:Addr)(q:Str)(mk:Addr->Value->Obj):TE:=λσ H Q=>dP H P q/\∀f c' ctv H',fM P H H'->H f=none->H' f=some (AA f (mk c' ctv))->H' c'=some (AB c' q)->dP H' P q->Q (.ref f) H'
theorem Es {X:Cx}{c P:Addr}{params:Arguments}{body:Expr}{scope:Scope}{clos:List (Str×Addr)}{pos:Pos}(hcode:X.env.code= .ref c)(C:CodeHd X.base c P)(hB:kz X.base X.mg)(hdef:defaultsOf params X.env=([],[]))(hcl:closureFor scope X.env=pure clos):
 PE X (.Lambda params body scope pos) (P9 P (X.env.qual++"<lambda>") λc' ctv=>kla_obj "<lambda>" (X.env.qual++"<lambda>") params body scope clos ((X.mg "__name__").getD .none) c' ctv):=by
 intro pins s σ H Q I ⟨T,h⟩;rwa[kla_eval hdef ?_];obtain ⟨ps,hP,ht,hc⟩:=id T;have hP':s.heap.get? P=some (tabObj ps):=I.hok P _ hP;have C':=C.keeps I.bk;have hg:s.heap.Ns mainGlobals X.mg:=I.ok.mod.glob.keeps I.bk
 have nb:∀ {b:Addr} {o:Obj},X.base.get? b=some o->b≠P:=λ{b o} e z=>by have:=(I.bs b o e).2;rw [z,hP] at this;cases this
 have hgP:mainGlobals≠P:=by
  obtain ⟨o,es,ep,e,_⟩:=I.ok.mod.glob;exact nb e
 have hb:s.heap.BuiltinsAt X.mg P:=by
  obtain ⟨bm,o,h1,h2,h3,h4,h5,h6,h7⟩:=hB;exact ⟨bm,o,h1,h2,h3,nb h4,I.bk _ _ h4,h5,h6,h7⟩
 cases hm:codeAmong pos ps.toList with
 |none=>
  rwa[kla_makeFunction hcl I.ok.glob hg hcode C' hP' ht hm hgP hb λc' ctv h' tk hx hge hlt hrec htab=> ?_];generalize hobj:kla_obj "<lambda>" (X.env.qual++"<lambda>") params body scope clos ((X.mg "__name__").getD .none) c' ctv=obj;generalize hps:ps++ #[rawInt pos.line,rawInt pos.col,.ref c']=ps' at htab;have hsz:s.heap.objs.size<=h'.objs.size:=Nat.le_trans hge (Nat.le_of_lt hlt);have lt:∀ {b:Addr} {u:HO},H b=some u->b<s.heap.objs.size:=λe=>I.hok.lt e;have ncP:c'≠P:=Nat.ne_of_gt (Nat.lt_of_lt_of_le (lt hP) hge);have nfP:h'.objs.size≠P:=Nat.ne_of_gt (Nat.lt_of_lt_of_le (lt hP) hsz);have nfc:h'.objs.size≠c':=Nat.ne_of_gt hlt;have hc'n:H c'=none:=I.hok.fresh hge;have hfn:H h'.objs.size=none:=I.hok.fresh hsz
  let H':Hp:=upd (upd (upd H P (.tbl ps')) c' (AB c' (X.env.qual++"<lambda>"))) h'.objs.size (AA h'.objs.size obj)
  have ne:∀ {b:Addr} {u:HO},b≠P->H b=some u->H' b=some u:=λ{b u} nP e=>by
   have l:=lt e;show upd (upd (upd H P _) c' _) h'.objs.size _ b=_;rw [ap (Nat.ne_of_lt (Nat.lt_of_lt_of_le l hsz)),ap (Nat.ne_of_lt (Nat.lt_of_lt_of_le l hge)),ap nP];exact e
  have eP:H' P=some (.tbl ps'):=by
   show upd (upd (upd H P _) c' _) h'.objs.size _ P=_;rw [ap nfP.symm,ap ncP.symm];exact ak
  have ec:H' c'=some (AB c' (X.env.qual++"<lambda>")):=by
   show upd (upd (upd H P _) c' _) h'.objs.size _ c'=_;rw [ap nfc.symm];exact ak
  have ef:H' h'.objs.size=some (AA h'.objs.size obj):=ak;have kp:∀b o,b≠P->s.heap.get? b=some o->(h'.push obj).get? b=some o:=λb o nP e=>Heap.get?_push_of_some _ (hx b o nP e);have tP:(h'.push obj).get? P=some (tabObj ps'):=Heap.get?_push_of_some _ htab
  have nP:∀ {b:Addr},H b=none->b≠P:=λ{b} n z=>by rw [z,hP] at n;cases n
  have un:Un X.fs [] H H' s.heap (h'.push obj):=by
   rwa[⟨λb o e n _ _=>kp b o (nP n) e,λb o e n _ _=>⟨o.slots,kp b o (nP n) e⟩,λb o e n _=> ?_,λb o e _=> ?_,λb xs e=>ne (λz=>by rw [z,hP] at e;cases e) e,λb o u e=>ne (λz=>by rw [z,hP] at e;cases e) e,λb qs e=> ?_⟩]
   ·have l:=Heap.lt_size e;show upd (upd (upd H P _) c' _) h'.objs.size _ b=_;rw [ap (Nat.ne_of_lt (Nat.lt_of_lt_of_le l hsz)),ap (Nat.ne_of_lt (Nat.lt_of_lt_of_le l hge)),ap (nP n)];exact n
   ·by_cases z:b=P
    ·exact ⟨_,by rw [z];exact tP⟩
    ·exact ⟨o,kp b o z e⟩
   ·by_cases z:b=P
    ·rw [z,hP] at e;cases e;exact ⟨#[rawInt pos.line,rawInt pos.col,.ref c'],by rw [z,eP,<-hps]⟩
    ·exact ⟨#[],by rw [ne z e];simp⟩
  have hok:gd X.prog X.w H' (h'.push obj):=by
   intro b u e;by_cases z1:b=h'.objs.size
   ·rw [z1,ef] at e;cases e;rw [z1];exact A0 (Heap.get?_push_size _ (by rw [<-hobj];rfl))
   by_cases z2:b=c'
   ·rw [z2,ec] at e;cases e;rw [z2];exact Jc (hrec.keeps λb o e=>Heap.get?_push_of_some _ e)
   by_cases z3:b=P
   ·rw [z3,eP] at e;cases e;rw [z3];exact tP
   ·have e':H b=some u:=by
     have e:upd (upd (upd H P _) c' _) h'.objs.size _ b=some u:=e;rw [ap z1,ap z2,ap z3] at e;exact e
    rwa[(I.hok b u e').stay (λd v hd r=> ?_) (λd r=>ne (λz=>by rw [z,hP] at r;cases r) r) λd xs r=>ne (λz=>by rw [z,hP] at r;cases r) r];rwa[kp d v (λz=> ?_) r]
    rcases hd with hd|hd
    ·exact z3 (hd.symm.trans z)
    ·rw [z,hP] at hd;cases hd
  rwa[⟨.ref h'.objs.size,H',I.un (t':=tk) un hok,rfl,h _ c' ctv H' (λb o n e=>ne n e) hfn (by rw [<-hobj] at ef;exact ef) ec ⟨ps',eP,?_,λpos' cv e=> ?_⟩⟩]
  ·rw [<-hps,Array.toList_append];exact md ht
  ·rw [<-hps,Array.toList_append] at e
   rcases tF ht e with z|z
   ·obtain ⟨d,e1,e2⟩:=hc pos' cv z;exact ⟨d,e1,ne (λy=>by rw [y,hP] at e2;cases e2) e2⟩
   ·exact ⟨c',z,ec⟩
 |some cv=>
  obtain ⟨c',rfl,hc'⟩:=hc pos cv hm;rwa[kla_makeFunctionHit hcl I.ok.glob hg hcode C' hP' ht hm hb λctv h' tk hk hsz=> ?_];have k2:∀b o,s.heap.get? b=some o->(h'.push (kla_obj "<lambda>" (X.env.qual++"<lambda>") params body scope clos ((X.mg "__name__").getD .none) c' ctv)).get? b=some o:=λb o e=>Heap.get?_push_of_some _ (hk b o e);have hfn:H h'.objs.size=none:=I.hok.fresh hsz;have sm:av H (upd H h'.objs.size (AA h'.objs.size (kla_obj "<lambda>" (X.env.qual++"<lambda>") params body scope clos ((X.mg "__name__").getD .none) c' ctv))):= .upd hfn;exact ⟨.ref h'.objs.size,_,I.laid (t':=tk) k2 hsz (A0 (Heap.get?_push_size _ rfl)),rfl,h _ c' ctv _ (λb o _ e=>sm b o e) hfn ak (sm _ _ hc') (T.same sm)⟩
structure jK (ps fs:List Str)(sc:Scope):Prop where
 kind:sc.kind= .function
 co:sc.isCoroutine=false
 gen:sc.isGenerator=false
 nd:(ps++fs).Nodup
 par:∀x∈ps,sc.names.lookup x=some .local
 fre:∀x∈fs,sc.names.lookup x=some .free
 nocell:∀x∈sc.names,x.2≠ .cell
 only:∀y∈sc.names,y.2= .free->y.1∈fs
def OG (P:Program)(w:World)(K:Frag)(mg:Str->Option Value)(base:Heap)(N:List Str)(qual:Str)(scope:Scope)(f:Addr)(cd:Value)(cl:List (Str×Addr))(A:Around)(outer:List Env)(s:Shared)(H:Hp):Cx where
 prog:=P
 w:=w
 K:=K
 mg:=mg
 base:=base
 A:=A.deeper (envX qual scope s.heap.objs.size f cd cl)
 N:=N
 s₀:=s
 H₀:=H
 env:=envX qual scope s.heap.objs.size f cd cl
 outer:=outer
 stack:=envX qual scope s.heap.objs.size f cd cl::outer
 ex:=[]
 calm:=true
 fn:=λ_=>false
 pn:=[]
 xe:=λ_ _=>False
theorem Ad {ps:List Str}{us:List Value}{i:Nat}{x:Str}{u:Value}(nd:ps.Nodup)(h1:ps[i]? =some x)(h2:us[i]? =some u):(ps.zip us).reverse.lookup x=some u:=by
 have hz:(ps.zip us)[i]? =some (x,u):=by rw [List.getElem?_zip_eq_some];exact ⟨h1,h2⟩
 have hm:(x,u)∈(ps.zip us).reverse:=List.mem_reverse.mpr (List.mem_of_getElem? hz)
 have uniq:∀v,(x,v)∈(ps.zip us).reverse->v=u:=λv hv=>by
  obtain ⟨j,hj⟩:=List.mem_iff_getElem?.mp (List.mem_reverse.mp hv);obtain ⟨j1,j2⟩:=List.getElem?_zip_eq_some.mp hj;have:j=i:=rK nd j1 h1;subst this;rw [h2] at j2;exact (Option.some.inj j2).symm
 cases e:(ps.zip us).reverse.lookup x with
 |none=>
  have:=List.lookup_eq_none_iff.mp e (x,u) hm;simp at this
 |some v=>rw [uniq v (PySem.mem_of_lookup e)]
theorem IK {P:Program}{w:World}{K:Frag}{mg:Str->Option Value}{base:Heap}{k:Nat}{f c':Addr}{name qual:Str}{params:Arguments}{body:Expr}{scope:Scope}{cl:List (Str×Addr)}{pm ctv:Value}{ps fs:List Str}{A:Around}{outer:List Env}{s:Shared}{H:Hp}{us:List Value}{vs fvs:List V}{Q:VK}{E:XK}
(S:jK ps fs scope)(hf:s.heap.get? f=some (kla_obj name qual params body scope cl pm c' ctv))(hcd:s.heap.CodeRec (.ref c') qual)(hr:b4 (k+1) A)(e0:pE P w K mg base A outer s H)
(hbind:bindArgs (kla_fn name qual params body scope cl pm (.ref c') ctv) ⟨us,[]⟩=pure (ps.zip us))(r:aY vs us)(hl:vs.length=ps.length)(hfl:fvs.length=fs.length)
(hcell:∀(i:Nat) x v,fs[i]? =some x->fvs[i]? =some v->∃c u,cl.lookup x=some c/\aQ v u/\s.heap.IsCell c (some u))(hdom:∀x c,cl.lookup x=some c->x∈fs)
(hinj:∀x y c,cl.lookup x=some c->cl.lookup y=some c->x=y)(hfree:∀x c,cl.lookup x=some c->H c=none)
(hbody:b4 k (A.deeper (envX qual scope s.heap.objs.size f (.ref c') cl))->∃t,PE (OG P w K mg base (ps++fs) qual scope f (.ref c') cl A outer s H) body t/\t ((vs++fvs).map some) H Q):
 codeAny (model P w) A (.call (.ref f) ⟨us,[]⟩) (CR br outer P w H s Q E) s:=by
 have ul:us.length=ps.length:=by rw [<-r.length,hl]
 rwa[kla_callFunE hr.depth hf rfl S.co S.gen rfl hcd ?_];rw [hbind];have lim:s.heap.NoLimit:=e0.mod.nolimit.keeps λb o e=>(e0.bs b o e).1;rwa[wpAny_pure (wpAny_newFunctionEnv S.nocell (λy hy=>S.par _ (List.of_mem_zip hy).1) (λh₁ hns hsb=>⟨lim.fresh _ hsb,?_⟩) S.kind)];show codeAny _ _ (.expr body (envX qual scope s.heap.objs.size f (.ref c') cl)) _ _;have hk:∀b o,s.heap.get? b=some o->h₁.get? b=some o:=λb o e=>hsb.extBut b o (Nat.ne_of_lt (Heap.lt_size e)) (Heap.get?_push_of_some _ e);obtain ⟨t,ht,hq⟩:=hbody (hr.deeper _)
 have allCell:∀x c,cl.lookup x=some c->∃u,s.heap.IsCell c (some u):=λx c e=>by
  obtain ⟨i,hi⟩:=List.mem_iff_getElem?.mp (hdom x c e);have hi':i<fs.length:=(List.getElem?_eq_some_iff.mp hi).1;obtain ⟨c2,u,e2,_,hc⟩:=hcell i x _ hi (List.getElem?_eq_getElem ↑6);rw [e] at e2;cases e2;exact ⟨u,hc⟩
 have cellK:∀ {c:Addr} {v:Option Value},s.heap.IsCell c v->h₁.IsCell c v:=λ{c v} ⟨o,ho,hd⟩=>⟨o,hk _ _ ho,hd⟩;have kindF:∀x,scope.names.lookup x=some .free->x∈fs:=λx e=>S.only _ (PySem.mem_of_lookup e) rfl
 have I:aF (OG P w K mg base (ps++fs) qual scope f (.ref c') cl A outer s H) [] ((vs++fvs).map some) H {s with heap:=h₁,toks:=s.toks+(ps.zip us).length}:=by
  have noA:∀b:Addr,b∉(OG P w K mg base (ps++fs) qual scope f (.ref c') cl A outer s H).ex:=λb z=>absurd (show b∈([]:List Addr) from z) ↑17
  refine ⟨⟨e0.mod,S.kind,rfl,rfl,Nat.le_refl _,hinj,λy hy=> ?_,λy c z _=>(nomatch (show false=true from z)),λ_=>hr.hd,Around.frames_deeper e0.frames,.inr ⟨rfl,rfl⟩,λb z=>absurd z (noA b),e0.bs,e0.bsz,λb _ _=>noA b,λb z=>absurd z (noA b),e0.funs,e0.frf⟩,
   rfl,e0.bare,Un.kept hk,⟨_,hns,λi y v h1 h2 h3=> ?_⟩,λy c h=> ?_,e0.hok.fresh ↑13,hfree,λp hp=>absurd (show p∈([]:List ↑14) from hp) ↑17,e0.hok.kept hk,?_⟩
  ·have hy:scope.names.lookup y=some .cell\/scope.names.lookup y=some .free:=hy
   rcases hy with hy|hy
   ·exact absurd rfl (S.nocell _ (PySem.mem_of_lookup hy))
   ·obtain ⟨i,hi⟩:=List.mem_iff_getElem?.mp (kindF y hy);have hi':i<fs.length:=(List.getElem?_eq_some_iff.mp hi).1;obtain ⟨c2,u,e2,_⟩:=hcell i y _ hi (List.getElem?_eq_getElem ↑6);exact ⟨c2,e2⟩
  ·have h1:(ps++fs)[i]? =some y:=h1;rw [List.getElem?_map] at h2;obtain ⟨v',hv,e⟩:=Option.map_eq_some_iff.mp h2;cases e;by_cases hi:i<ps.length
   ·rw [List.getElem?_append_left hi] at h1;rw [List.getElem?_append_left ↑6] at hv;obtain ⟨u,hu,rv⟩:=r.get hv;rwa[⟨u,rv,.inl ⟨S.par y (List.mem_of_getElem? h1),?_⟩⟩];exact Ad (List.nodup_append.mp S.nd).1 h1 hu
   ·rw [List.getElem?_append_right ↑6] at h1;rw [List.getElem?_append_right ↑6,hl] at hv;obtain ⟨c,u,e2,rv,hc⟩:=hcell _ y _ h1 hv;exact ⟨u,rv,.inr ⟨.inr (S.fre y (List.mem_of_getElem? h1)),c,e2,cellK hc⟩⟩
  ·obtain ⟨u,hc⟩:=allCell y c h;exact ⟨_,cellK hc⟩
  ·show _=(ps++fs).length;rw [List.length_map,List.length_append,List.length_append];omega
 rwa[kla_codeExpr (wpAny_mono (ht [] _ _ H Q I hq) (λu s' hs=> ?_) λe s' hs=>False.elim hs)];obtain ⟨v,H',J,rv,q⟩:=hs;exact ⟨v,H',J.os,J.bare,J.base,J.hok,rv,q⟩
structure lS (P:Program)(w:World)(K:Frag)(mg:Str->Option Value)(base:Heap)(n:Nat)(f:Addr)(sp:Sp):Prop where
 run:∀(A:Around) (outer:List Env) (s:Shared) (H:Hp) (us:List Value) (vs:List V) (Q:VK) (E:XK),b4 n A->pE P w K mg base A outer s H->aY vs us->sp vs H Q E->codeAny (model P w) A (.call (.ref f) ⟨us,[]⟩) (CR br outer P w H s Q E) s
 keep:∀(vs:List V) (H:Hp) (Q:VK) (E:XK) (h:Heap),sp vs H Q E->gd P w H h->K.In h->∃k,(k=Keeper.frame\/k=Keeper.machine\/k=Keeper.boundFrame)/\Looks (model P w) h (keeperOf (.ref f)) k
theorem QO.cal {P:Program}{w:World}{K:Frag}{mg:Str->Option Value}{base:Heap}{n:Nat}{f:Addr}{ps:List Str}{sp:Sp}(F:QO P w K mg base n f ps sp):lS P w K mg base n f sp:=by
 obtain ⟨fd,F,b,k⟩:=F;rwa[⟨λA outer s H us vs Q E hr e0 r h=> ?_,λvs H Q E h _ _ KI=>keeps_K k h KI⟩];have KI:K.In s.heap:=e0.mod.kin.keeps λb o e=>(e0.bs b o e).1
 have r2:aY vs (us++[]):=by rw [List.append_nil];exact r
 have hl:(us++[]).length=ps.length:=by rw [<-r2.length];exact F.len _ _ _ _ h
 exact F.run A outer s H ⟨us,[]⟩ (us++[]) vs Q E hr e0 (b s us KI hl) r2 h
section
variable {X:Cx}{x:Str}{p pos:Pos}{e:Expr}{es:List Expr}{t:TA}{n m:Nat}
def KD (P:Program)(w:World)(K:Frag)(mg:Str->Option Value)(base:Heap)(m:Nat)(i:Nat)(t:TA):TE:=λσ H Q=>∃f n sp,σ[i]? =some (some (.ref f))/\n<=m/\lS P w K mg base n f sp/\t σ H λvs H1=>sp vs H1 Q E0
theorem Ev (i:Nat)(hr:b4 m X.A)(hN:X.N[i]? =some x)(hv:OR X.env.scope x)(ha:PA X (e::es) t)(hdb:↑27=false:=by decide)(hcd:(x==("__classdict__":Str))=false:=by decide)
(hp:aV (e::es)=true:=by rfl):PE X (.Call (.Name x p) (e::es) [] pos) (KD X.prog X.w X.K X.mg X.base m i t):=by
 have h':(bR e&&aV es)=true:=hp;rw [Bool.and_eq_true] at h';intro pins s σ H Q I h;obtain ⟨f,n,sp,hσ,hn,C,h⟩:=h;rwa[wpAny_Call_Name_kw (bT (Ep (X:=X) hN hv hdb hcd pins s σ H (λv H1=>v= .ref f/\H1=H) I ⟨.ref f,hσ,rfl,rfl⟩) λu s0 ⟨v,H0,I0,rv,ev,eH⟩=> ?_)];subst ev;subst eH;have rv:u=Value.ref f:=rv;subst rv;have he:=bf (env:=X.env) (es:=es) h'.1;have hpl:(backTo pos (starEach es X.env)).any (·.1)=false:=b0 h'.2
 have hargs:wpAny ↑8 X.A (spliced (backTo pos (starEach (e::es) X.env))) (λus s1=>(∃k,(k=Keeper.frame\/k=Keeper.machine\/k=Keeper.boundFrame)/\Looks ↑8 s1.heap (keeperOf (.ref f)) k)/\wpAny ↑8 X.A (call (.ref f) ([]++us)) (EP X pins σ Q) X.xe s1) X.xe s0:=by
  rwa[bT (ha pos pins s0 σ H0 _ I0 h) λus s1 ⟨vs,H1,I1,r,q⟩=>⟨C.keep _ _ _ _ _ q I1.hok I1.kIn,?_⟩];rwa[wpAny_call (codeAny_mono (C.run X.A X.stack s1 H1 us vs Q E0 (hr.mono hn) I1.env0 r q) λr s' hq=> ?_)]
  cases r with
  |error e=>exact False.elim hq
  |ok fl=>
   cases fl with
   |ret u=>exact I1.after hq
   |next=>exact False.elim hq
   |brk=>exact False.elim hq
   |cont=>exact False.elim hq
 rw [he] at hargs ⊢;exact callWith_of (P:=λh=>∃k,(k=Keeper.frame\/k=Keeper.machine\/k=Keeper.boundFrame)/\Looks ↑8 h (keeperOf (.ref f)) k) (by show ((false||(backTo pos (starEach es X.env)).any (·.1))||false)=false;rw [hpl];rfl) (λh z=>z) (evalArgs_plain hargs)
end
theorem aD.calm {P:Program}{w:World}{K:Frag}{mg:Str->Option Value}{base:Heap}{k:Nat}{f:Addr}{fd:FuncData}{ps:List Str}{sp:Sp}(F:aD P w K mg base (j4 P w) k f fd ps sp):aD P w K mg base br k f fd ps (λvs H Q _=>sp vs H Q E0):=by
 rwa[⟨λvs H Q E h=>F.len _ _ _ _ h,λA outer s H args us vs Q E hr e0 hb r h=>codeAny_mono (F.run A outer s H args us vs Q E0 hr e0 hb r h) λrr s' hq=> ?_⟩]
 cases rr with
 |ok fl=>cases fl<;>exact hq
 |error e=>obtain ⟨a,T,cls,dd,H',_,_,_,_,_,_,_,_,_,_,z⟩:=hq;exact z.elim
theorem p9.calm {P:Program}{w:World}{K:Frag}{mg:Str->Option Value}{base:Heap}{n:Nat}{x:Str}{ps:List Str}{sp:Sp}(c:p9 P w K mg base n x ps sp):bp P w K mg base n x ps (λvs H Q _=>sp vs H Q E0):=by
 obtain ⟨f,fd,F,b,k,hm⟩:=c.ex;exact ⟨f,fd,F.calm,b,k,hm⟩
section
variable {X:Cx}{pins:List ↑14}{σ:St}{H:Hp}{s:Shared}{h':Heap}
theorem aF.sub {pins':List ↑14}(I:aF X pins σ H s)(h:∀p∈pins',p∈pins):aF X pins' σ H s:=I.pins_of λp hp=>I.pin p (List.mem_append_right _ (h p hp))
theorem aF.repin {t':Nat}{a:Addr}{o o':Obj}(I:aF X ((a,o)::pins) σ H s)(h0:X.s₀.heap.objs.size<=a)(hne:∀p∈X.pn++pins,p.1≠a)(k:∀b u,b≠a->s.heap.get? b=some u->h'.get? b=some u)(ho:h'.get? a=some o')(hd:∀v,o'.data≠ .cell v):
 aF X ((a,o')::pins) σ H {s with heap:=h',toks:=t'}:=by
 obtain ⟨p1,p2,p3,p4,p5⟩:=I.pin (a,o) (List.mem_append_right _ (.head _));have I0:aF X pins σ H s:=I.sub λp hp=> .tail _ hp
 have I1:aF X pins σ H {s with heap:=h',toks:=t'}:=I0.turned (it:=a) k p2 p3 (.inr h0) (λx c e z=>by
  obtain ⟨v,oc,h1,h2⟩:=I.cell x c e;rw [z] at h1;have p1:s.heap.get? a=some o:=p1;rw [p1] at h1;cases h1
  exact p5 v h2) hne
 rwa[I1.pins_of λp hp=> ?_]
 rcases List.mem_cons.mp hp with rfl|hp
 ·exact ⟨ho,p2,p3,p4,hd⟩
 ·exact I1.pin p (List.mem_append_right _ hp)
theorem aF.pinNew {t':Nat}{a:Addr}{o:Obj}(I:aF X pins σ H s)(hp:s.heap.objs.size<=a)(k:∀b u,s.heap.get? b=some u->h'.get? b=some u)(ho:h'.get? a=some o)(hd:∀v,o.data≠ .cell v):aF X ((a,o)::pins) σ H {s with heap:=h',toks:=t'}:=by
 rwa[(I.kept (t':=t') k).pins_of λp hq=> ?_]
 rcases List.mem_cons.mp hq with rfl|hq
 ·exact ⟨ho,I.hok.fresh hp,Nat.ne_of_gt (Nat.lt_of_lt_of_le I.lt hp),I.nofs hp,hd⟩
 ·exact (I.kept (t':=t') k).pin p (List.mem_append_right _ hq)
end
def Gy (X:Cx)(σ:St)(f:Addr)(xs:List V)(J:Hp->Prop)(kf:Nat->Int):Prop:=
 ∀(pins:List ↑14) (s:Shared) (H:Hp) (i:Nat) (v:V) (u:Value),aF X pins σ H s->J H->xs[i]? =some v->aQ v u->
  wpAny ↑8 X.A.in1 (call (.ref f) [u]) (λr s'=>∃H',aF X pins σ H' s'/\aQ (.int (kf i)) r/\J H') (λ_ _=>False) s
def MI (xs:List V)(kf:Nat->Int)(i:Nat):Prop:=∀j,j<xs.length->kf i<=kf j/\(j<i->kf i<kf j)
theorem jT {X:Cx}{pins:List ↑14}{σ:St}{H:Hp}{s:Shared}{l:Addr}{xs:List V}(I:aF X pins σ H s)(e:H l=some (.lst xs)):∃us:List Value,aY xs us/\s.heap.IsList l us.toArray:=by
 obtain ⟨_,us,n,r,h1⟩:=(show bE X.prog X.w H s.heap l (.lst xs) from I.hok l _ e);exact ⟨us,r,_,h1,rfl,n,rfl⟩
theorem ID {X:Cx}{pins:List ↑14}{σ:St}{l S It f:Addr}{xs:List V}{dv:Value}{R:Result->Shared->Prop}(kf:Nat->Int)(J:Hp->Prop)(hh:X.A.handled=none)(hJl:∀H,J H->H l=some (.lst xs))
(hI0:X.s₀.heap.objs.size<=It)(hS0:X.s₀.heap.objs.size<=S)(hpI:∀p∈X.pn++pins,p.1≠It)(hpS:∀p∈X.pn++pins,p.1≠S)(hSI:S≠It)(turn:Gy X σ f xs J kf)
(hR:∀i v u s' H,xs[i]? =some v->aQ v u->MI xs kf i->J H->aF X pins σ H s'->R (.ok (.ret u)) s'):
 ∀(r j i:Nat) (s:Shared) (H:Hp) (v:V) (vb:Value) (tb:Tok) (c:Nat) (oI:Obj),xs.length - (j+1)=r->j+1<=xs.length->
  aF X ((S,seqObj "list" #[vb,.int (kf i) tb] c)::(It,oI)::pins) σ H s->J H->s.heap.IsListIter It l (j+1)->xs[i]? =some v->aQ v vb->i<=j->(∀j',j'<=j->kf i<=kf j'/\(j'<i->kf i<kf j'))->
  codeAny ↑8 X.A (.builtin "min.loop" ⟨[.ref It,.ref f,.ref S],[("default",dv)]⟩) R s:=by
 have hname:(toString "min"++toString ".loop":String)="min.loop":=by decide
 have hpI':∀(o:Obj),∀p∈X.pn++(S,o)::pins,p.1≠It:=λo p hp=>by
  rcases List.mem_append.mp hp with hp|hp
  ·exact hpI p (List.mem_append_left _ hp)
  ·rcases List.mem_cons.mp hp with rfl|hp
   ·exact hSI
   ·exact hpI p (List.mem_append_right _ hp)
 have hpS':∀(o:Obj),∀p∈X.pn++(It,o)::pins,p.1≠S:=λo p hp=>by
  rcases List.mem_append.mp hp with hp|hp
  ·exact hpS p (List.mem_append_left _ hp)
  ·rcases List.mem_cons.mp hp with rfl|hp
   ·exact hSI.symm
   ·exact hpS p (List.mem_append_right _ hp)
 have swap:∀ {a b:Addr×Obj},∀p∈a::b::pins,p∈b::a::pins:=λ{a b} p hp=>by
  rcases List.mem_cons.mp hp with rfl|hp
  ·exact .tail _ (.head _)
  ·rcases List.mem_cons.mp hp with rfl|hp
   ·exact .head _
   ·exact .tail _ (.tail _ hp)
 intro r
 induction r with
 |zero=>
  intro j i s H v vb tb c oI hr hj I hJ hit hv rv hij hbest;obtain ⟨us,rus,hl⟩:=jT I (hJl H hJ)
  have hsz:us.toArray.size=xs.length:=by rw [List.size_toArray,rus.length]
  have nS:=I.pin (S,_) (List.mem_append_right _ (.head _));have nI:=I.pin (It,oI) (List.mem_append_right _ (.tail _ (.head _)))
  have hlI:l≠It:=λz=>by have:=nI.2.1;rw [<-z,hJl H hJ] at this;cases this
  have W:=Walks.list (prog:=X.prog) (w:=X.w) (A:=X.A.in1) hh It l hlI us.toArray;rwa[codeAny_builtin PySem.F.entry_min_loop ?_];rw [Around.under_plainId PySem.F.plain_min_loop _];show wpAny _ X.A.in1 (seqItems? (.ref S)>>=_) _ _ _;rwa[wpAny_bind (wpAny_seqItems nS.1 rfl ?_)];show wpAny _ X.A.in1 (tryCatch (pyNext (.ref It)) _>>=_) _ _ _;rwa[wpAny_bind (wpAny_tryCatch (W.done _ _ _ ⟨by rw [hsz,show xs.length=j+1 by omega];exact hit,hl⟩ λh1 tk1 hk1=> ?_))];have hk1:∀b u,b≠It->s.heap.get? b=some u->h1.get? b=some u:=λb u n e=>hk1 b u (by simpa using n) e;have I0:aF X pins σ H s:=I.sub λp hp=> .tail _ (.tail _ hp)
  have cne:∀ {a:Addr} {o:Obj},s.heap.get? a=some o->(∀v,o.data≠ .cell v)->∀x c,X.env.cells.lookup x=some c->c≠a:=λ{a o} ho hd x c e z=>by
   obtain ⟨v,oc,h1,h2⟩:=I.cell x c e;rw [z,ho] at h1;cases h1;exact hd v h2
  have hS1:=hk1 S _ hSI nS.1;have s1:=Heap.SameBut.update h1 S (Obj.mapSeq λ_=>(#[]:Array Value));have I1:aF X pins σ H {s with heap:=h1,toks:=tk1}:=I0.turned (it:=It) hk1 nI.2.1 nI.2.2.1 (.inr hI0) (cne nI.1 nI.2.2.2.2) hpI;have cne1:∀x c,X.env.cells.lookup x=some c->c≠S:=cne nS.1 nS.2.2.2.2;show wpAny _ X.A.in1 (updateSeq S (λ_=> #[])>>=_) _ _ _;rwa[wpAny_bind ?_];rwa[wpAny_updateSeq hS1 rfl (wpAny_bind (wpAny_letGo (wpAny_pure ?_)))];rwa[hR i v vb _ H hv rv (λj' hj'=>hbest j' ↑6) hJ ?_];exact I1.turned (it:=S) (λb u n e=>(s1.2 b n).trans e) nS.2.1 nS.2.2.1 (.inr hS0) cne1 hpS
 |succ r ih=>
  intro j i s H v vb tb c oI hr hj I hJ hit hv rv hij hbest
  have hlt:j+1<xs.length:=by omega
  obtain ⟨us,rus,hl⟩:=jT I (hJl H hJ)
  have hsz:us.toArray.size=xs.length:=by rw [List.size_toArray,rus.length]
  have nS:=I.pin (S,_) (List.mem_append_right _ (.head _));have nI:=I.pin (It,oI) (List.mem_append_right _ (.tail _ (.head _)))
  have hlI:l≠It:=λz=>by have:=nI.2.1;rw [<-z,hJl H hJ] at this;cases this
  have W:=Walks.list (prog:=X.prog) (w:=X.w) (A:=X.A.in1) hh It l hlI us.toArray;rwa[codeAny_builtin PySem.F.entry_min_loop ?_];rw [Around.under_plainId PySem.F.plain_min_loop _];show wpAny _ X.A.in1 (seqItems? (.ref S)>>=_) _ _ _;rwa[wpAny_bind (wpAny_seqItems nS.1 rfl ?_)];show wpAny _ X.A.in1 (tryCatch (pyNext (.ref It)) _>>=_) _ _ _;rwa[wpAny_bind (wpAny_tryCatch (W.item (j+1) _ _ _ (by rw [hsz];exact hlt) ⟨hit,hl⟩ λu h1 tk1 hP hst1 hk1=> ?_))]
  have hu:us[j+1]? =some u:=by simpa using hP
  obtain ⟨v1,hv1⟩:∃v1,xs[j+1]? =some v1:=⟨_,List.getElem?_eq_getElem hlt⟩
  have rv1:aQ v1 u:=by
   obtain ⟨u',hu',ru⟩:=rus.get hv1;rw [hu] at hu';cases hu';exact ru
  obtain ⟨oI1,hoI1,hoc,hod⟩:=id hst1.1;have hk1:∀b u,b≠It->s.heap.get? b=some u->h1.get? b=some u:=λb u n e=>hk1 b u (by simpa using n) e
  have I1:aF X ((S,seqObj "list" #[vb,.int (kf i) tb] c)::(It,oI1)::pins) σ H {s with heap:=h1,toks:=tk1}:=
   ((I.sub swap).repin (t':=tk1) hI0 (hpI' _) hk1 hoI1 λv e=>by rw [hod] at e;cases e).sub swap
  show wpAny _ X.A.in1 (tryCatch (holding [u] (call (.ref f) [u])) _>>=_) _ _ _;rwa[wpAny_bind (wpAny_tryCatch (wpAny_holding (wpAny_mono (turn _ _ H (j+1) v1 u I1 hJ hv1 rv1) (λx s2 he=> ?_) λ_ _ hF=>hF.elim)))];obtain ⟨H2,I2,⟨t2,rfl⟩,hJ2⟩:=he;have nS2:=I2.pin (S,_) (List.mem_append_right _ (.head _));have nI2:=I2.pin (It,oI1) (List.mem_append_right _ (.tail _ (.head _)));have hit2:s2.heap.IsListIter It l (j+1+1):=⟨oI1,nI2.1,hoc,hod⟩;show wpAny _ X.A.in1 (tryCatch (holding [u,.int (kf (j+1)) t2] (richCompare .Lt (.int (kf (j+1)) t2) (.int (kf i) tb)>>=_)) _>>=_) _ _ _;rwa[wpAny_bind (wpAny_tryCatch (wpAny_holding (wpAny_bind (CmpOf.ints_lt (prog:=X.prog) (w:=X.w) (A:=X.A.in1) (P:=λi v=>∃t,v= .int (kf i) t) kf (λi v h=>h) (j+1) i _ _ _ _ _ ⟨t2,rfl⟩ ⟨tb,rfl⟩ ?_))))];rwa[wpAny_bind (wpAny_holding (wpAny_truthy_bool ?_))];rwa[wpAny_bind (wpAny_letGo (wpAny_pure ?_))];by_cases hb':kf (j+1)<kf i
  ·have s1:=Heap.SameBut.update s2.heap S (Obj.mapSeq λ_=> #[u,.int (kf (j+1)) t2]);obtain ⟨c2,hc2⟩:∃c2,(s2.heap.update S (Obj.mapSeq λ_=> #[u,.int (kf (j+1)) t2])).get? S=some (seqObj "list" #[u,.int (kf (j+1)) t2] c2):=⟨_,get?_update_seq nS2.1 λ_=> #[u,.int (kf (j+1)) t2]⟩;simp only [hb',decide_true,if_true];rwa[wpAny_bind ?_];rwa[wpAny_updateSeq nS2.1 rfl (wpAny_bind (wpAny_letGo ?_))];rw [hname];rwa[wpAny_pure ⟨plainId_quiet PySem.F.plain_min_loop _,ih (j+1) (j+1) _ H2 v1 u t2 c2 oI1 ↑6 hlt (I2.repin (t':=s2.toks) hS0 (hpS' _) (λb u n e=>(s1.2 b n).trans e) hc2 λv e=>by cases e) hJ2 ⟨oI1,(s1.2 It hSI.symm).trans nI2.1,hoc,hod⟩ hv1 rv1 ↑13 λj' hj'=> ?_⟩];by_cases e:j'=j+1
   ·subst e;exact ⟨by omega,λ_=>by omega⟩
   ·have hb1:=hbest j' ↑6;have hb2:=hb1.1;exact ⟨by omega,λ_=>by omega⟩
  ·simp only [hb',decide_false,Bool.false_eq_true,if_false];rwa[wpAny_bind (wpAny_letGo ?_)];rw [hname];rwa[wpAny_pure ⟨plainId_quiet PySem.F.plain_min_loop _,ih (j+1) i _ H2 v vb tb c oI1 ↑6 hlt I2 hJ2 hit2 hv rv ↑6 λj' hj'=> ?_⟩];by_cases e:j'=j+1
   ·subst e;exact ⟨by omega,λ_=>by omega⟩
   ·exact hbest j' ↑6
theorem Gj (a v d:Value):argsOk "min" ⟨[a],[(Str.ofString "key",v),(Str.ofString "default",d)]⟩:=by unfold argsOk;kernel_rfl
theorem LR {X:Cx}{pins:List ↑14}{σ:St}{H:Hp}{s:Shared}{l f:Addr}{xs:List V}{d:V}{dv:Value}{Q:VK}{E:Value->Shared->Prop}(hh:X.A.handled=none)(I:aF X pins σ H s)(hl0:H l=some (.lst xs))(rd:aQ d dv)
(h0:xs=[]->Q d H)(h1:xs≠[]->∃(kf:Nat->Int) (J:Hp->Prop),J H/\(∀H,J H->H l=some (.lst xs))/\Gy X σ f xs J kf/\∀i v H,xs[i]? =some v->MI xs kf i->J H->Q v H):
 wpAny ↑8 X.A (call (.builtin "min") [.ref l] [(Str.ofString "key",.ref f),(Str.ofString "default",dv)]) (EP X pins σ Q) E s:=by
 have hname:(toString "min"++toString ".loop":String)="min.loop":=by decide
 obtain ⟨us,rus,hls⟩:=jT I hl0
 have hsz:us.toArray.size=xs.length:=by rw [List.size_toArray,rus.length]
 obtain ⟨ol,hol,_⟩:=id hls;have hll:l<s.heap.objs.size:=Heap.lt_size hol;rwa[kmk_tree PySem.F.kind_min PySem.F.plain_min PySem.F.entry_min (Gj _ _ _) ?_];show wpAny _ X.A.in1 (Builtin.Builtins.bindParams "min" ["key","default"] 0 ⟨[],[(Str.ofString "key",.ref f),(Str.ofString "default",dv)]⟩>>=_) _ _ s;rwa[wpAny_bind (wpAny_of_eq (show Builtin.Builtins.bindParams "min" ["key","default"] 0 ⟨[],[(Str.ofString "key",.ref f),(Str.ofString "default",dv)]⟩=pure [some (.ref f),some dv] from rfl) ?_)];rwa[wpAny_bind (wpAny_pure ?_)];rwa[wpAny_bind (wpAny_pyIter_list hls ?_)];rwa[wpAny_bind (wpAny_newList ?_ (Nat.zero_le _))];rw [hname];generalize hIt:s.heap.objs.size=It at *
 have I1:aF X ((It,{cls:= .type "list_iterator",data:= .fields #[.ref l,.int 0 0]})::pins) σ H {s with heap:=s.heap.push {cls:= .type "list_iterator",data:= .fields #[.ref l,.int 0 0]}}:=
  I.pinNew (t':=s.toks) (a:=It) (by rw [hIt];exact Nat.le_refl _) (λb u e=>Heap.get?_push_of_some _ e) (by rw [<-hIt];exact Heap.get?_push_size _ rfl) λv e=>by cases e
 have hS:(s.heap.push {cls:= .type "list_iterator",data:= .fields #[.ref l,.int 0 0]}).objs.size=It+1:=by rw [size_push',hIt]
 generalize hSS:(s.heap.push {cls:= .type "list_iterator",data:= .fields #[.ref l,.int 0 0]}).objs.size=S at *
 have I2:=I1.pinNew (t':=s.toks) (h':=(s.heap.push {cls:= .type "list_iterator",data:= .fields #[.ref l,.int 0 0]}).push (seqObj "list" #[] 0)) (a:=S) (o:=seqObj "list" #[] 0) (Nat.le_of_eq hSS) (λb u e=>Heap.get?_push_of_some _ e) (by rw [<-hSS];exact Heap.get?_push_size _ rfl) λv e=>by cases e
 have hSI:S≠It:=by rw [hS];exact Nat.ne_of_gt (Nat.lt_succ_self _)
 have hI0:X.s₀.heap.objs.size<=It:=by rw [<-hIt];exact I.sz
 have hS0:X.s₀.heap.objs.size<=S:=by rw [hS];exact Nat.le_succ_of_le hI0
 have old:∀p∈X.pn++pins,p.1<It:=λp hp=>by rw [<-hIt];exact Heap.lt_size (I.pin p hp).1
 have hpI:∀p∈X.pn++pins,p.1≠It:=λp hp=>Nat.ne_of_lt (old p hp)
 have hpS:∀p∈X.pn++pins,p.1≠S:=λp hp=>by rw [hS];exact Nat.ne_of_lt (Nat.lt_succ_of_lt (old p hp))
 have hlI:l≠It:=Nat.ne_of_lt hll;rwa[wpAny_pure ⟨plainId_quiet PySem.F.plain_min_loop _,?_⟩];generalize hs2:({s with heap:=(s.heap.push {cls:= .type "list_iterator",data:= .fields #[.ref l,.int 0 0]}).push (seqObj "list" #[] 0)}:Shared)=s2 at I2;show codeAny _ _ (.builtin "min.loop" ⟨[.ref It,.ref f,.ref S],[("default",dv)]⟩) _ s2;have nS:=I2.pin (S,_) (List.mem_append_right _ (.head _));have nI:=I2.pin (It,_) (List.mem_append_right _ (.tail _ (.head _)));have W:=Walks.list (prog:=X.prog) (w:=X.w) (A:=X.A.in1) hh It l hlI us.toArray
 have hls2:s2.heap.IsList l us.toArray:=by
  obtain ⟨o,a,b⟩:=hls;rw [<-hs2];exact ⟨o,Heap.get?_push_of_some _ (Heap.get?_push_of_some _ a),b⟩
 rwa[codeAny_builtin PySem.F.entry_min_loop ?_];rw [Around.under_plainId PySem.F.plain_min_loop _];show wpAny _ X.A.in1 (seqItems? (.ref S)>>=_) _ _ _;rwa[wpAny_bind (wpAny_seqItems nS.1 rfl ?_)];show wpAny _ X.A.in1 (tryCatch (pyNext (.ref It)) _>>=_) _ _ _;by_cases hx:xs=[]
 ·rwa[wpAny_bind (wpAny_tryCatch (W.done _ _ _ ⟨by rw [hsz,hx];exact ⟨_,nI.1,rfl,rfl⟩,hls2⟩ λh1 tk1 hk1=> ?_))]
  have I3:aF X pins σ H {s2 with heap:=h1,toks:=tk1}:=(I2.sub λp hp=> .tail _ (.tail _ hp)).turned (it:=It) (λb u n e=>hk1 b u (by simpa using n) e) nI.2.1 nI.2.2.1 (.inr hI0) (λx c e z=>by
   obtain ⟨v,oc,h1,h2⟩:=I2.cell x c e;rw [z,nI.1] at h1;cases h1
   exact nI.2.2.2.2 v h2) hpI
  exact wpAny_bind (wpAny_rule (wpAny_pure ⟨d,H,I3,rd,h0 hx⟩))
 ·obtain ⟨kf,J,hJ,hJl,turn,hQ⟩:=h1 hx;have hne:0<xs.length:=List.length_pos_iff.mpr hx;rwa[wpAny_bind (wpAny_tryCatch (W.item 0 _ _ _ (by rw [hsz];exact hne) ⟨⟨_,nI.1,rfl,rfl⟩,hls2⟩ λu h1 tk1 hP hst1 hk1=> ?_))]
  have hu:us[0]? =some u:=by simpa using hP
  obtain ⟨v1,hv1⟩:∃v1,xs[0]? =some v1:=⟨_,List.getElem?_eq_getElem hne⟩
  have rv1:aQ v1 u:=by
   obtain ⟨u',hu',ru⟩:=rus.get hv1;rw [hu] at hu';cases hu';exact ru
  obtain ⟨oI1,hoI1,hoc,hod⟩:=id hst1.1;have hk1:∀b u,b≠It->s2.heap.get? b=some u->h1.get? b=some u:=λb u n e=>hk1 b u (by simpa using n) e
  have swap:∀ {a b:Addr×Obj},∀p∈a::b::pins,p∈b::a::pins:=λ{a b} p hp=>by
   rcases List.mem_cons.mp hp with rfl|hp
   ·exact .tail _ (.head _)
   ·rcases List.mem_cons.mp hp with rfl|hp
    ·exact .head _
    ·exact .tail _ (.tail _ hp)
  have I3:aF X ((S,seqObj "list" #[] 0)::(It,oI1)::pins) σ H {s2 with heap:=h1,toks:=tk1}:=
   ((I2.sub swap).repin (t':=tk1) hI0 (λp hp=>by
     rcases List.mem_append.mp hp with hp|hp
     ·exact hpI p (List.mem_append_left _ hp)
     ·rcases List.mem_cons.mp hp with rfl|hp
      ·exact hSI
      ·exact hpI p (List.mem_append_right _ hp)) hk1 hoI1 λv e=>by rw [hod] at e;cases e).sub swap
  show wpAny _ X.A.in1 (tryCatch (holding [u] (call (.ref f) [u])) _>>=_) _ _ _;rwa[wpAny_bind (wpAny_tryCatch (wpAny_holding (wpAny_mono (turn _ _ H 0 v1 u I3 hJ hv1 rv1) (λx s3 he=> ?_) λ_ _ hF=>hF.elim)))];obtain ⟨H3,I4,⟨t2,rfl⟩,hJ3⟩:=he;have nS2:=I4.pin (S,_) (List.mem_append_right _ (.head _));have nI2:=I4.pin (It,oI1) (List.mem_append_right _ (.tail _ (.head _)));have s1:=Heap.SameBut.update s3.heap S (Obj.mapSeq λ_=> #[u,.int (kf 0) t2]);obtain ⟨c2,hc2⟩:∃c2,(s3.heap.update S (Obj.mapSeq λ_=> #[u,.int (kf 0) t2])).get? S=some (seqObj "list" #[u,.int (kf 0) t2] c2):=⟨_,get?_update_seq nS2.1 λ_=> #[u,.int (kf 0) t2]⟩;show wpAny _ X.A.in1 (updateSeq S (λ_=> #[u,.int (kf 0) t2])>>=_) _ _ _;rwa[wpAny_bind ?_];rwa[wpAny_updateSeq nS2.1 rfl ?_];rw [hname];rwa[wpAny_pure ⟨plainId_quiet PySem.F.plain_min_loop _,ID kf J hh hJl hI0 hS0 hpI hpS hSI turn (λi v u s' H hv ru hb hJ I=>⟨v,H,I,ru,hQ i v H hv hb hJ⟩) _ 0 0 _ H3 v1 u t2 c2 oI1 rfl hne (I4.repin (t':=s3.toks) hS0 (λp hp=> ?_) (λb u n e=>(s1.2 b n).trans e) hc2 λv e=>by cases e) hJ3 ⟨oI1,(s1.2 _ hSI.symm).trans nI2.1,hoc,hod⟩ hv1 rv1 ↑13 λj' hj'=> ?_⟩]
  ·rcases List.mem_append.mp hp with hp|hp
   ·exact hpS p (List.mem_append_left _ hp)
   ·rcases List.mem_cons.mp hp with rfl|hp
    ·exact hSI.symm
    ·exact hpS p (List.mem_append_right _ hp)
  ·have e:j'=0:=by omega
   subst e;exact ⟨by omega,λh=>absurd h (Nat.lt_irrefl _)⟩
structure pR (X:Cx)(fs:List Str)(js:List Nat)(cl:List (Str×Addr)):Prop where
 at_:∀(i:Nat) x,fs[i]? =some x->∃j c,js[i]? =some j/\X.N[j]? =some x/\X.env.scope.names.lookup x=some .cell/\X.env.cells.lookup x=some c/\cl.lookup x=some c
 dom:∀x c,cl.lookup x=some c->x∈fs/\X.env.cells.lookup x=some c
theorem Fn {X:Cx}{σ:St}{k:Nat}{f c':Addr}{name qual p0:Str}{params:Arguments}{body:Expr}{scope:Scope}{cl:List (Str×Addr)}{pm ctv:Value}{fs:List Str}{js:List Nat}{fvs:List V}{xs:List V}{J:Hp->Prop}{kf:Nat->Int}{t:TE}
(S:jK [p0] fs scope)(LI:pR X fs js cl)(hbind:∀u:Value,bindArgs (kla_fn name qual params body scope cl pm (.ref c') ctv) ⟨[u],[]⟩=pure [(p0,u)])(hr:b4 (k+1) X.A.in1)
(hfv:js.map (λj=>σ[j]?)=fvs.map λv=>some (some v))(hjl:js.length=fs.length)
(hJ:∀H,J H->H f=some (AA f (kla_obj name qual params body scope cl pm c' ctv))/\H c'=some (AB c' qual))
(hb:∀(s:Shared) (H:Hp),b4 k (X.A.in1.deeper (envX qual scope s.heap.objs.size f (.ref c') cl))->PE (OG X.prog X.w X.K X.mg X.base ([p0]++fs) qual scope f (.ref c') cl X.A.in1 X.stack s H) body t)
(ht:∀i v H,xs[i]? =some v->J H->t (some v::fvs.map some) H λr H'=>r= .int (kf i)/\J H'):Gy X σ f xs J kf:=by
 intro pins s H i v u I hJH hv rv;obtain ⟨hf,hc⟩:=hJ H hJH
 have hfl:fvs.length=fs.length:=by
  have:=congrArg List.length hfv;rw [List.length_map,List.length_map] at this;omega
 have hof:s.heap.get? f=some (kla_obj name qual params body scope cl pm c' ctv):=(I.hok f _ hf).1;have hcr:s.heap.CodeRec (.ref c') qual:=(I.hok c' _ hc).1;rwa[wpAny_call (codeAny_mono (IK (Q:=λr H'=>r= .int (kf i)/\J H') (E:=E0) (fvs:=fvs) (vs:=[v]) (us:=[u]) S hof hcr hr I.env0.in1 (hbind u) (.cons rv .nil) rfl hfl (λn x w h1 h2=> ?_) (λx c e=>(LI.dom x c e).1) (λx y c e1 e2=>I.ok.inj x y c (LI.dom x c e1).2 (LI.dom y c e2).2) (λx c e=>I.freeC x c (LI.dom x c e).2) λhr'=>⟨t,hb s H hr',ht i v H hv hJH⟩) λrr s' hq=> ?_)]
 ·obtain ⟨j,c,e1,e2,e3,e4,e5⟩:=LI.at_ n x h1;obtain ⟨m,hn,hloc⟩:=I.loc
  have hσ:σ[j]? =some (some w):=by
   have:=congrArg (λl=>l[n]?) hfv;simp only [List.getElem?_map,e1,h2,Option.map_some,Option.some.injEq] at this;exact this
  obtain ⟨u0,rv0,look⟩:=hloc j x w e2 hσ (.inr (.inl e3))
  rcases look with ⟨z,_⟩|⟨_,c2,e6,hcell⟩
  ·have z:X.env.scope.names.lookup x=some .local:=z;rw [e3] at z;cases z
  ·rw [e4] at e6;cases e6;exact ⟨c,u0,e5,rv0,hcell⟩
 ·cases rr with
  |error e=>exact False.elim hq
  |ok fl=>
   cases fl with
   |ret u=>
    obtain ⟨v',H',I',rv',rfl,hJ'⟩:=I.after hq;exact ⟨H',I',rv',hJ'⟩
   |next=>exact False.elim hq
   |brk=>exact False.elim hq
   |cont=>exact False.elim hq
def P7 (q:Str)(mk:Addr->Value->Obj)(js:List Nat)(te tl td tb:TE):TE:=λσ H Q=>te σ H λx H1=>tl σ H1 λfv H2=>td σ H2 λd H3=>
 ∃l f xs,x= .ref l/\fv= .ref f/\H3 l=some (.lst xs)/\(xs=[]->Q d H3)/\(xs≠[]->∃(c':Addr) (ctv:Value) (fvs:List V) (kf:Nat->Int) (J:Hp->Prop),js.map (λj=>σ[j]?)=fvs.map (λv=>some (some v))/\J H3/\
  (∀H,J H->H l=some (.lst xs)/\H f=some (AA f (mk c' ctv))/\H c'=some (AB c' q))/\(∀i v H,xs[i]? =some v->J H->tb (some v::fvs.map some) H λr H'=>r= .int (kf i)/\J H')/\∀i v H,xs[i]? =some v->MI xs kf i->J H->Q v H)
theorem Er {X:Cx}{k:Nat}{p pos lpos kp1 kp2:Pos}{e D:Expr}{te tl td tb:TE}{p0:Str}{lp:Arguments}{lb:Expr}{lsc:Scope}{cl:List (Str×Addr)}{fs:List Str}{js:List Nat}(hc:X.calm=true)(hg:Gl X "min")(hm:X.mg "min"=none)(hr:b4 (k+2) X.A)
(he:PE X e te)(hl:PE X (.Lambda lp lb lsc lpos) tl)(hd:PE X D td)(S:jK [p0] fs lsc)(LI:pR X fs js cl)(hjl:js.length=fs.length)
(hbind:∀(c':Addr) (ctv u:Value),bindArgs (kla_fn "<lambda>" (X.env.qual++"<lambda>") lp lb lsc cl ((X.mg "__name__").getD .none) (.ref c') ctv) ⟨[u],[]⟩=pure [(p0,u)])
(hb:∀(f c':Addr) (s:Shared) (H:Hp),b4 k (X.A.in1.deeper (envX (X.env.qual++"<lambda>") lsc s.heap.objs.size f (.ref c') cl))->PE (OG X.prog X.w X.K X.mg X.base ([p0]++fs) (X.env.qual++"<lambda>") lsc f (.ref c') cl X.A.in1 X.stack s H) lb tb)
(hs:bR e=true:=by rfl):
 PE X (.Call (.Name "min" p) [e] [⟨some "key",.Lambda lp lb lsc lpos,kp1⟩,⟨some "default",D,kp2⟩] pos)
  (P7 (X.env.qual++"<lambda>") (λc' ctv=>kla_obj "<lambda>" (X.env.qual++"<lambda>") lp lb lsc cl ((X.mg "__name__").getD .none) c' ctv) js te tl td tb):=by
 intro pins s σ H Q I h;have st:starEach [e] X.env=[(false,eval e X.env)]:=bf hs;rwa[wpAny_Call_Name_kw (oO I hg hm boot_min ?_)];rwa[callWith_kw (env:=X.env) ?_ (by rw [st];rfl) (by rw [st];rfl)];rw [st];show wpAny _ _ (spliced ((false,eval e X.env)::backTo pos (starEach [] X.env))) _ _ s;rwa[Calls.spliced_cons (bT (he pins s σ H _ I h) λu s1 ⟨x,H1,I1,r1,q1⟩=> ?_)];rwa[Calls.spliced_nil ?_];rwa[kws_cons (bT (hl pins s1 σ H1 _ I1 q1) λuf s2 ⟨fv,H2,I2,r2,q2⟩=> ?_)];rwa[kws_cons (bT (hd pins s2 σ H2 _ I2 q2) λud s3 ⟨d,H3,I3,r3,q3⟩=> ?_)];rwa[kws_nil ?_];obtain ⟨l,f,xs,rfl,rfl,hxs,h0,h1⟩:=q3;have r1:u=Value.ref l:=r1;have r2:uf=Value.ref f:=r2;subst r1 r2;rwa[LR (f:=f) (I.ok.hd hc) I3 hxs r3 h0 λhx=> ?_];obtain ⟨c',ctv,fvs,kf,J,hfv,hJ,hJs,ht,hQ⟩:=h1 hx;exact ⟨kf,J,hJ,λH z=>(hJs H z).1,Fn S LI (hbind c' ctv) hr.in1 hfv hjl (λH z=>(hJs H z).2) (hb f c') ht,hQ⟩
section
variable {prog:Program}{w:World}{A:Around}{E:Value->Shared->Prop}{s:Shared}
theorem z5 {it t:Addr}{i:Nat}{items:Array Value}{x:Value}{Q:Value->Shared->Prop}(hit:s.heap.IsTupleIter it t i)(ht:s.heap.IsTuple t items)(hx:items[i]? =some x)
(hQ:∀h',h'.IsTupleIter it t (i+1)->Heap.SameBut it s.heap h'->Q x {s with heap:=h'}):wpAny (model prog w) A (Builtin.SmallTypes.nextOf (.ref it)) Q E s:=by
 obtain ⟨o,ho,hc,hd⟩:=id hit;obtain ⟨ol,hol,_,nl,hdl⟩:=ht;unfold Builtin.SmallTypes.nextOf;rwa[wpAny_bind (wpAny_callSpecial?_slot (name:=Str.ofString "__next__") hit.typeIs F.slot_tuple_iterator_next (wpAny_call_entry F.slot_tuple_iterator_next hit.typeIs F.entry_tuple_iterator_next ?_ (F.args_tuple_iterator_next_1 _)))];show wpAny _ _ (field (.ref it) 0>>=_) _ _ s;rwa[wpAny_bind (wpAny_field ho hd (x:= .ref t) rfl ?_)];show wpAny _ _ (if (Value.ref t==Value.none)=true then _ else _) _ _ s;rw [if_neg (show ¬((Value.ref t==Value.none)=true) from Bool.false_ne_true)];show wpAny _ _ (field (.ref it) 1>>=_) _ _ s;rwa[wpAny_bind (wpAny_field ho hd (x:= .int i 0) rfl ?_)];show wpAny _ _ (seqItems? (.ref t)>>=_) _ _ s;rwa[wpAny_bind (wpAny_seqItems hol hdl ?_)];simp only [Int.toNat_natCast,hx];rwa[wpAny_bind (wpAny_setField ho hd ↑17 (wpAny_pure ⟨x,rfl,wpAny_pure (hQ _ ?_ (Heap.SameBut.update ..))⟩))];exact ⟨_,Heap.get?_update_self _ ho (Obj.isFreed_of_fields (Obj.data_mapFields hd _)),(Obj.cls_mapFields ..).trans hc,by rw [Obj.data_mapFields hd];simp [rawInt]⟩
theorem jj {it t:Addr}{i:Nat}{items:Array Value}{Q:Value->Shared->Prop}(hh:A.handled=none)(hit:s.heap.IsTupleIter it t i)(ht:s.heap.IsTuple t items)(hx:items[i]? =none)
(hE:∀h' e,Heap.ExtBut it s.heap h'->(∃o,h'.get? e=some o/\o.cls= .type "StopIteration")->E (.ref e) {s with heap:=h'}):wpAny (model prog w) A (Builtin.SmallTypes.nextOf (.ref it)) Q E s:=by
 obtain ⟨o,ho,hc,hd⟩:=id hit;obtain ⟨ol,hol,_,nl,hdl⟩:=ht;unfold Builtin.SmallTypes.nextOf;rwa[wpAny_bind (wpAny_callSpecial?_slot (name:=Str.ofString "__next__") hit.typeIs F.slot_tuple_iterator_next (wpAny_call_entry F.slot_tuple_iterator_next hit.typeIs F.entry_tuple_iterator_next ?_ (F.args_tuple_iterator_next_1 _)))];show wpAny _ _ (field (.ref it) 0>>=_) _ _ s;rwa[wpAny_bind (wpAny_field ho hd (x:= .ref t) rfl ?_)];show wpAny _ _ (if (Value.ref t==Value.none)=true then _ else _) _ _ s;rw [if_neg (show ¬((Value.ref t==Value.none)=true) from Bool.false_ne_true)];show wpAny _ _ (field (.ref it) 1>>=_) _ _ s;rwa[wpAny_bind (wpAny_field ho hd (x:= .int i 0) rfl ?_)];show wpAny _ _ (seqItems? (.ref t)>>=_) _ _ s;rwa[wpAny_bind (wpAny_seqItems hol hdl ?_)];simp only [Int.toNat_natCast,hx];rwa[wpAny_bind (wpAny_rule (wpAny_bind (wpAny_setField ho hd ↑17 ?_)))];show wpAny _ _ (newExc (.type "StopIteration") []>>=_) _ _ _;rwa[wpAny_bind ?_];simp only [newExc,newTuple];rwa[wpAny_bind (wpAny_newObj_type ?_ (by size_fits))];rwa[wpAny_bind (m:=firstArgMember _ _) (wpAny_of_eq (a:=Value.none) (by first|rfl|(simp only [firstArgMember];rfl)) ?_)];rwa[wpAny_newObj_type ?_ (by size_fits)];simp only [raiseNew];rwa[wpAny_bind (wpAny_handled ?_)]
 first|rw [show A.in1.handled=none from hh]|rw [hh]
 rwa[wpAny_bind (wpAny_pure (wpAny_throw ?_))];exact hE _ _ (((Heap.SameBut.update ..).extBut.push _).push _) ⟨_,Heap.get?_push_size _ rfl,rfl⟩
end
theorem uU {prog:Program}{w:World}{A:Around}(hh:A.handled=none)(it l:Addr)(hne:l≠it)(items:Array Value):
 Draws prog w A it [it,l] items.size (λi v=>items[i]? =some v) (λi h=>h.IsTupleIter it l i/\h.IsTuple l items) where
 live:=λ_ _ st=>let ⟨o,ho,_⟩:=st.1;⟨o,ho⟩
 frame:=λ_ _ _ st hk=>⟨st.1.at λo e=>hk it ↑17 o e,let ⟨o,ho,r⟩:=st.2;⟨o,hk l ↑17 o ho,r⟩⟩
 item:=λi s Q E hi st hQ=>by
  rwa[z5 st.1 st.2 (x:=items[i]) (by simp [hi]) λh' hit' hs'=> ?_];exact hQ _ h' s.toks (by simp [hi]) ⟨hit',let ⟨o,ho,r⟩:=st.2;⟨o,(hs'.2 l hne).trans ho,r⟩⟩ hs'
 done:=λs Q E st hE=>jj hh st.1 st.2 ↑17 hE
open Sem (wp)
open AutoSeq1 (wpAny_loadPart')
theorem rO (l:Addr)(items:Array Value)(n:Nat)(dct:Option Addr)(sl:Array (Option Value)):
 Meets (Builtin.«enumerate.__new__» ⟨[.type "enumerate",.ref l],[]⟩) (λ_ R s=>s.heap.get? l=some {cls:= .type "tuple",dict:=dct,data:= .seq items n,slots:=sl}/\
  R (.ok (.ret (.ref (s.heap.push {cls:= .type "tuple_iterator",data:= .fields #[.ref l,.int 0 0]}).objs.size)))
    {s with heap:=(s.heap.push {cls:= .type "tuple_iterator",data:= .fields #[.ref l,.int 0 0]}).push {cls:= .type "enumerate",data:= .fields #[.none,.bool false,.ref s.heap.objs.size,rawInt 0,.none,.none]}}):=
 .of_wp λprog w A R s h=>by
  obtain ⟨hp,g,d,tk,os⟩:=s;obtain ⟨hl,h⟩:=h;have hsub:=sub_enumerate;have hL:Heap.IsTuple (Shared.heap ⟨hp,g,d,tk,os⟩) l items:=⟨_,hl,rfl,n,rfl⟩
  wp_walk using wpAny_loadPart' hl
  rwa[wpAny_stack_any λst=>wpAny_pure ?_];split
  ·rename_i c _ _ _ _ _;cases (c==Value.type "enumerate")
   ·wp_walk using wpAny_loadPart' hl,wpAny_pyIter_tuple hL
    exact ⟨_,rfl,h⟩
   ·wp_walk using wpAny_loadPart' hl,wpAny_pyIter_tuple hL
    exact ⟨_,rfl,h⟩
  ·wp_walk using wpAny_loadPart' hl,wpAny_pyIter_tuple hL
   exact ⟨_,rfl,h⟩
theorem um {prog:Program}{w:World}{A:Around}{E:Value->Shared->Prop}{s:Shared}{l:Addr}{items:Array Value}{Q:Value->Shared->Prop}(hL:s.heap.IsTuple l items)
(h:∀h',IsEnum h' ↑24 s.heap.objs.size 0 .none->h'.IsTupleIter s.heap.objs.size l 0->h'.objs.size=s.heap.objs.size+2->
   (∀b o,s.heap.get? b=some o->h'.get? b=some o)->Q (.ref ↑24) {s with heap:=h'}):wpAny (model prog w) A (call (.type "enumerate") [.ref l]) Q E s:=by
 obtain ⟨⟨c,dct,dt,sl⟩,hl,hc,n,hd⟩:=hL;replace hc:c= .type "tuple":=hc;replace hd:dt= .seq items n:=hd;subst hc hd;rwa[callType_new F.called_enumerate ↑2 (F.typeCall_enumerate_1 _) (F.newCall_enumerate_1 _) (λobj=>F.args_object_init_2 obj _) F.entry_enumerate_new (rO l items n dct sl) ⟨hl,?_⟩];have hz:(s.heap.push {cls:= .type "tuple_iterator",data:= .fields #[.ref l,.int 0 0]}).objs.size=s.heap.objs.size+1:=Heap.size_push ..;show _/\_;rw [hz]
 have he:IsEnum ((s.heap.push {cls:= .type "tuple_iterator",data:= .fields #[.ref l,.int 0 0]}).push {cls:= .type "enumerate",data:= .fields #[.none,.bool false,.ref s.heap.objs.size,rawInt 0,.none,.none]}) ↑24 s.heap.objs.size 0 .none:=by
  have:=Heap.get?_push_size (s.heap.push {cls:= .type "tuple_iterator",data:= .fields #[.ref l,.int 0 0]}) (o:= {cls:= .type "enumerate",data:= .fields #[.none,.bool false,.ref s.heap.objs.size,rawInt 0,.none,.none]}) rfl;rw [hz] at this;exact this
 rwa[⟨⟨_,he,rfl⟩,h _ he ⟨_,Heap.get?_push_of_some _ (Heap.get?_push_size _ rfl),rfl,rfl⟩ (by rw [Heap.size_push,hz]) λb o x=>Heap.get?_push_of_some _ (Heap.get?_push_of_some _ x)⟩]
theorem aF.turnLaid {X:Cx}{pins:List ↑14}{σ:St}{H:Hp}{s:Shared}{h':Heap}{t':Nat}{ch:List Addr}{a:Addr}{o:HO}(I:aF X pins σ H s)(hf:∀b∈ch,jL X pins H b)(k:∀b u,b∉ch->s.heap.get? b=some u->h'.get? b=some u)
(ha:s.heap.objs.size<=a)(new:bE X.prog X.w (upd H a o) h' a o):aF X pins σ (upd H a o) {s with heap:=h',toks:=t'}:=by
 have hn:H a=none:=I.hok.fresh ha;have ne:∀ {b:Addr} {u:Obj},s.heap.get? b=some u->b≠a:=λ{b u} e=>Nat.ne_of_lt (Nat.lt_of_lt_of_le (Heap.lt_size e) ha)
 have nch:∀ {b:Addr} {u:HO},H b=some u->b∉ch:=λ{b u} e z=>by have:=(hf b z).1;rw [e] at this;cases this
 have sm:av H (upd H a o):= .upd hn
 refine I.step (g':=s.gens) (d':=s.drawn) (ch:=ch) (λb hb=> ?_) (λb u _ _ hc e _=>k b u hc e) (λb u _ _ hc e _=>⟨u.slots,k b u hc e⟩) (λb u _ e n=>by rw [ap (ne e)];exact n) (λb u hc e=>⟨u,k b u hc e⟩)
  (λb xs e=>sm _ _ e) (λb u v e=>sm _ _ e) (λb ps e=>⟨#[],by rw [sm _ _ e];simp⟩) (λm hm=> ?_) (λb u e=> ?_) I.bare
 ·obtain ⟨_,f1,_,f3,f4,f5⟩:=hf b hb;exact ⟨f3,f1,f4,f5⟩
 ·obtain ⟨o,es,ep,ho,r⟩:=hm;exact ⟨o,es,ep,k _ o (λz=>(hf _ z).2.1 rfl) ho,r⟩
 ·by_cases hb:b=a
  ·subst hb;rw [ak] at e;cases e;exact new
  ·rw [ap hb] at e;rwa[(I.hok b u e).stay (λc v hc q=>k c v ?_ q) (λc q=>sm _ _ q) λc xs q=>sm _ _ q]
   rcases hc with z|z
   ·rw [z];exact nch e
   ·exact nch z
def Pf (K:Fg)(a:Addr):It:=⟨(GD K a).go,λi H x H'=>∃T y,x= .ref T/\H T=none/\H'=upd H T (.tup [.int i,y])/\∀xs,aS K H a xs->xs[i]? =some y,(GD K a).stop⟩
theorem Dq {P:Program}{w:World}{K:Fg}{elts:List Expr}{k:Nat}{pos:Pos}(a it e:Addr):xk P w K (.Tuple elts k pos) (Pf K a) [e,it] e (λi h=>(∃old,IsEnum h e it i old)/\h.IsListIter it a i) where
 mem:=by simp
 obj:=λi h st b hb=>by
  obtain ⟨⟨old,he⟩,o,ho,c,d⟩:=st
  rcases List.mem_cons.mp hb with rfl|hb
  ·exact ⟨_,he,λv z=>by cases z⟩
  ·rw [List.mem_singleton.mp hb];exact ⟨o,ho,λv z=>by rw [d] at z;cases z⟩
 keep:=λi h h' st kk=>by
  obtain ⟨⟨old,he⟩,hit⟩:=st;exact ⟨⟨old,kk e ↑17 _ he⟩,hit.at λo z=>kk it ↑17 o z⟩
 item:=by
  intro X hP hw hK hc i pins s σ H E I hf st hg;subst hP hw hK;obtain ⟨⟨old,he⟩,hit⟩:=st;obtain ⟨xs,x,hq,hx⟩:=hg;obtain ⟨its,rv,p,hz⟩:=I.list hq;have hl:s.heap.IsList a its.toArray:=p.isList;obtain ⟨u,hu,ru⟩:=rv.get hx;obtain ⟨oi,hoi,ci,di⟩:=id hit;obtain ⟨ol,hol,cl,_⟩:=id hl
  have hei:e≠it:=λz=>by have h1:=hoi.symm.trans (z▸he);cases h1;exact absurd (Value.type.inj ci) ↑2
  have hea:e≠a:=λz=>by have h1:=hol.symm.trans (z▸he);cases h1;exact absurd (Value.type.inj cl) ↑2
  have hia:a≠it:=λz=>by rw [z,hoi] at hol;cases hol;rw [ci] at cl;exact absurd (Value.type.inj cl) ↑2
  have W:=WalksT.enumerateD (Draws.list (prog:=X.prog) (w:=X.w) (A:=X.A.in1) (I.ok.hd hc) it a hia its.toArray) e hei (by simp [hei,hea]) ↑17
  have hi:i<its.toArray.size:=by rw [List.size_toArray];exact (List.getElem?_eq_some_iff.mp hu).1
  rwa[W.item i s _ _ hi ⟨⟨old,he⟩,hit,hl⟩ λT vals h' tk hP hT hIsT hMid hk=>⟨.ref T,rfl,?_⟩];rwa[W.go elts k pos i T _ _ _ hMid λh2 hst2 hk2=> ?_];obtain ⟨t,u',hu',rfl⟩:=hP
  have hu':its[i]? =some u':=by simpa using hu'
  rw [hu] at hu';cases hu';have hTn:T∉[e,it]:=W.apart i T h' hMid;have kk:∀b o,b∉[e,it]->s.heap.get? b=some o->h2.get? b=some o:=λb o nb z=>hk2 b o nb (hk b o nb z)
  have hIs2:IsTup h2 T (#[.int i t,u]:Array Value):=by
   obtain ⟨o,ho,c,r⟩:=hIsT;exact ⟨o,hk2 T o hTn ho,c,r⟩
  have new:bE X.prog X.w (upd H T (.tup [.int i,x])) h2 T (.tup [.int i,x]):=⟨by show 2<=sizeLine;decide,[.int i t,u],.cons ⟨t,rfl⟩ (.cons ru .nil),hIs2⟩;rwa[⟨.ref T,upd H T (.tup [.int i,x]),I.turnLaid (t':=tk) hf kk hT new,rfl,⟨T,x,rfl,I.hok.fresh hT,rfl,λys hy=>by rw [I.list_inj hy hq];exact hx⟩,⟨hst2.1,hst2.2.1⟩,λb hb=> ?_⟩];have ne:b≠T:=λz=>hTn (by rw [<-z];exact hb);rw [ap ne];exact (hf b hb).1
 done:=by
  intro X hP hw hK hc i pins s σ H E I hf st hg;subst hP hw hK;obtain ⟨⟨old,he⟩,hit⟩:=st;obtain ⟨xs,hq,hx⟩:=hg;obtain ⟨its,rv,p,hz⟩:=I.list hq;have hl:s.heap.IsList a its.toArray:=p.isList;have hlen:=rv.length;obtain ⟨oi,hoi,ci,di⟩:=id hit;obtain ⟨ol,hol,cl,_⟩:=id hl
  have hia:a≠it:=λz=>by rw [z,hoi] at hol;cases hol;rw [ci] at cl;exact absurd (Value.type.inj cl) ↑2
  have D:=Draws.list (prog:=X.prog) (w:=X.w) (A:=X.A.in1) (I.ok.hd hc) it a hia its.toArray;have hT:s.TypeIs (.ref e) "enumerate":=⟨_,he,rfl⟩;obtain ⟨f0,f1,f2,f3,f4,f5⟩:=hf it ↑17;unfold pyNext;rwa[wpAny_bind (wpAny_attempt (wpAny_callSpecial?_slot (name:=Str.ofString "__next__") hT F.slot_enumerate_next (wpAny_call_entry F.slot_enumerate_next hT F.entry_enumerate_next ?_ (F.args_enumerate_next_1 _))))];show wpAny _ _ (field (.ref e) 2>>=_) _ _ _;rwa[wpAny_bind (wpAny_field he rfl (x:= .ref it) rfl ?_)];rwa[wpAny_bind (wpAny_nextOf_list_end (I.ok.hd hc) hit hl (by simp;omega) λh' x he' hx'=> ?_)];obtain ⟨o,ho,hcc⟩:=hx';rwa[wpAny_bind (wpAny_isInstance (T:="StopIteration") (b:=true) ⟨o,ho,hcc⟩ isSubtype_stop ?_)];exact wpAny_pure ⟨rfl,I.turned (t':=s.toks) (λb o hb e=>he' b o hb e) f0 f1 f3 f4 f5⟩
 self:=λ_ _ _ _ _ st h=>let ⟨⟨old,he⟩,_⟩:=st;wpAny_pyIter_enum he h
theorem FZ {K:Fg}{a:Addr}{xs:List V}{pk:List (Option Nat)}{g:TG}{tt:TT}{te:TE}{σ:St}{H:Hp}{Q:VK}(Pv:Nat->List V->Hp->Prop)(hn:xs.length<=sizeLine)(hlen:∀i ys H,Pv i ys H->ys.length<=i)(h0:Pv 0 [] H)(hx:∀i ys H,i<=xs.length->Pv i ys H->aS K H a xs)
(hs:∀(i:Nat) x ys H T H',xs[i]? =some x->Pv i ys H->av H H'->H' T=some (.tup [.int i,x])->g (.ref T) (cY pk σ) H' λσ2 H2=>uo (cY pk σ) σ2/\tt σ2 H2 λb H3=>if b=true then te σ2 H3 λv H4=>Pv (i+1) (ys++[v]) H4 else Pv (i+1) ys H3)
(hd:∀ys H,Pv (xs.length) ys H->∀p,H p=none->Q (.ref p) (upd H p (.lst ys))):
 uj (Pf K a) pk g tt te σ H Q:=by
 rwa[⟨λi m ys H=>m=xs.length - i/\i<=xs.length/\Pv i ys H,⟨xs.length,by simp,Nat.zero_le _,h0⟩,?_⟩];rintro i m ys H ⟨rfl,hi,p⟩;have hl:=hlen _ _ _ p;by_cases hlt:i<xs.length
 ·rwa[.inr ↑21];obtain ⟨T,z,rfl,nT,rfl,y⟩:=y;exact hs i z ys _ T _ (y xs (hx i ys _ hi p)) p (.upd nT) ak
 ·have e:i=xs.length:=by omega
  subst e;exact .inl ⟨⟨xs,hx _ ys H ↑13 p,Nat.le_refl _⟩,by omega,hd ys H p⟩
def QP (K:Fg)(a:Addr):It:=⟨(Gz K a).go,λi H x H'=>∃T y,x= .ref T/\H T=none/\H'=upd H T (.tup [.int i,y])/\∀xs,aP K H a xs->xs[i]? =some y,(Gz K a).stop⟩
theorem Dp {P:Program}{w:World}{K:Fg}{elts:List Expr}{k:Nat}{pos:Pos}(a it e:Addr):xk P w K (.Tuple elts k pos) (QP K a) [e,it] e (λi h=>(∃old,IsEnum h e it i old)/\h.IsTupleIter it a i) where
 mem:=by simp
 obj:=λi h st b hb=>by
  obtain ⟨⟨old,he⟩,o,ho,c,d⟩:=st
  rcases List.mem_cons.mp hb with rfl|hb
  ·exact ⟨_,he,λv z=>by cases z⟩
  ·rw [List.mem_singleton.mp hb];exact ⟨o,ho,λv z=>by rw [d] at z;cases z⟩
 keep:=λi h h' st kk=>by
  obtain ⟨⟨old,he⟩,hit⟩:=st;exact ⟨⟨old,kk e ↑17 _ he⟩,hit.at λo z=>kk it ↑17 o z⟩
 item:=by
  intro X hP hw hK hc i pins s σ H E I hf st hg;subst hP hw hK;obtain ⟨⟨old,he⟩,hit⟩:=st;obtain ⟨xs,x,hq,hx⟩:=hg;obtain ⟨its,rv,p,hz⟩:=I.tuple hq;have hl:s.heap.IsTuple a its.toArray:=p;obtain ⟨u,hu,ru⟩:=rv.get hx;obtain ⟨oi,hoi,ci,di⟩:=id hit;obtain ⟨ol,hol,cl,_⟩:=id hl
  have hei:e≠it:=λz=>by have h1:=hoi.symm.trans (z▸he);cases h1;exact absurd (Value.type.inj ci) ↑2
  have hea:e≠a:=λz=>by have h1:=hol.symm.trans (z▸he);cases h1;exact absurd (Value.type.inj cl) ↑2
  have hia:a≠it:=λz=>by rw [z,hoi] at hol;cases hol;rw [ci] at cl;exact absurd (Value.type.inj cl) ↑2
  have W:=WalksT.enumerateD (uU (prog:=X.prog) (w:=X.w) (A:=X.A.in1) (I.ok.hd hc) it a hia its.toArray) e hei (by simp [hei,hea]) ↑17
  have hi:i<its.toArray.size:=by rw [List.size_toArray];exact (List.getElem?_eq_some_iff.mp hu).1
  rwa[W.item i s _ _ hi ⟨⟨old,he⟩,hit,hl⟩ λT vals h' tk hP hT hIsT hMid hk=>⟨.ref T,rfl,?_⟩];rwa[W.go elts k pos i T _ _ _ hMid λh2 hst2 hk2=> ?_];obtain ⟨t,u',hu',rfl⟩:=hP
  have hu':its[i]? =some u':=by simpa using hu'
  rw [hu] at hu';cases hu';have hTn:T∉[e,it]:=W.apart i T h' hMid;have kk:∀b o,b∉[e,it]->s.heap.get? b=some o->h2.get? b=some o:=λb o nb z=>hk2 b o nb (hk b o nb z)
  have hIs2:IsTup h2 T (#[.int i t,u]:Array Value):=by
   obtain ⟨o,ho,c,r⟩:=hIsT;exact ⟨o,hk2 T o hTn ho,c,r⟩
  have new:bE X.prog X.w (upd H T (.tup [.int i,x])) h2 T (.tup [.int i,x]):=⟨by show 2<=sizeLine;decide,[.int i t,u],.cons ⟨t,rfl⟩ (.cons ru .nil),hIs2⟩;rwa[⟨.ref T,upd H T (.tup [.int i,x]),I.turnLaid (t':=tk) hf kk hT new,rfl,⟨T,x,rfl,I.hok.fresh hT,rfl,λys hy=>by rw [I.tuple_inj hy hq];exact hx⟩,⟨hst2.1,hst2.2.1⟩,λb hb=> ?_⟩];have ne:b≠T:=λz=>hTn (by rw [<-z];exact hb);rw [ap ne];exact (hf b hb).1
 done:=by
  intro X hP hw hK hc i pins s σ H E I hf st hg;subst hP hw hK;obtain ⟨⟨old,he⟩,hit⟩:=st;obtain ⟨xs,hq,hx⟩:=hg;obtain ⟨its,rv,p,hz⟩:=I.tuple hq;have hl:s.heap.IsTuple a its.toArray:=p;have hlen:=rv.length;obtain ⟨oi,hoi,ci,di⟩:=id hit;obtain ⟨ol,hol,cl,_⟩:=id hl
  have hia:a≠it:=λz=>by rw [z,hoi] at hol;cases hol;rw [ci] at cl;exact absurd (Value.type.inj cl) ↑2
  have D:=uU (prog:=X.prog) (w:=X.w) (A:=X.A.in1) (I.ok.hd hc) it a hia its.toArray;have hT:s.TypeIs (.ref e) "enumerate":=⟨_,he,rfl⟩;obtain ⟨f0,f1,f2,f3,f4,f5⟩:=hf it ↑17;unfold pyNext;rwa[wpAny_bind (wpAny_attempt (wpAny_callSpecial?_slot (name:=Str.ofString "__next__") hT F.slot_enumerate_next (wpAny_call_entry F.slot_enumerate_next hT F.entry_enumerate_next ?_ (F.args_enumerate_next_1 _))))];show wpAny _ _ (field (.ref e) 2>>=_) _ _ _;rwa[wpAny_bind (wpAny_field he rfl (x:= .ref it) rfl ?_)];rwa[wpAny_bind (jj (I.ok.hd hc) hit hl (by simp;omega) λh' x he' hx'=> ?_)];obtain ⟨o,ho,hcc⟩:=hx';rwa[wpAny_bind (wpAny_isInstance (T:="StopIteration") (b:=true) ⟨o,ho,hcc⟩ isSubtype_stop ?_)];exact wpAny_pure ⟨rfl,I.turned (t':=s.toks) (λb o hb e=>he' b o hb e) f0 f1 f3 f4 f5⟩
 self:=λ_ _ _ _ _ st h=>let ⟨⟨old,he⟩,_⟩:=st;wpAny_pyIter_enum he h
theorem FY {K:Fg}{a:Addr}{xs:List V}{pk:List (Option Nat)}{g:TG}{tt:TT}{te:TE}{σ:St}{H:Hp}{Q:VK}(Pv:Nat->List V->Hp->Prop)(hn:xs.length<=sizeLine)(hlen:∀i ys H,Pv i ys H->ys.length<=i)(h0:Pv 0 [] H)(hx:∀i ys H,i<=xs.length->Pv i ys H->aP K H a xs)
(hs:∀(i:Nat) x ys H T H',xs[i]? =some x->Pv i ys H->av H H'->H' T=some (.tup [.int i,x])->g (.ref T) (cY pk σ) H' λσ2 H2=>uo (cY pk σ) σ2/\tt σ2 H2 λb H3=>if b=true then te σ2 H3 λv H4=>Pv (i+1) (ys++[v]) H4 else Pv (i+1) ys H3)
(hd:∀ys H,Pv (xs.length) ys H->∀p,H p=none->Q (.ref p) (upd H p (.lst ys))):
 uj (QP K a) pk g tt te σ H Q:=by
 rwa[⟨λi m ys H=>m=xs.length - i/\i<=xs.length/\Pv i ys H,⟨xs.length,by simp,Nat.zero_le _,h0⟩,?_⟩];rintro i m ys H ⟨rfl,hi,p⟩;have hl:=hlen _ _ _ p;by_cases hlt:i<xs.length
 ·rwa[.inr ↑21];obtain ⟨T,z,rfl,nT,rfl,y⟩:=y;exact hs i z ys _ T _ (y xs (hx i ys _ hi p)) p (.upd nT) ak
 ·have e:i=xs.length:=by omega
  subst e;exact .inl ⟨⟨xs,hx _ ys H ↑13 p,Nat.le_refl _⟩,by omega,hd ys H p⟩
def Qw (K:Fg)(p:Addr)(H:Hp)(R:It->Hp->Prop):Prop:=(∃xs,aS K H p xs/\R (Pf K p) H)\/∃xs,aP K H p xs/\R (QP K p) H
def QZ (K:Fg)(te:TE):TI:=λσ H R=>te σ H λx H1=>match x with| .ref p=>Qw K p H1 R|_=>False
theorem AC {X:Cx}{K:Fg}(hK:X.K=K){elts:List Expr}{k:Nat}{tpos p pos:Pos}{e:Expr}{te:TE}(hg:Gl X "enumerate")(hm:X.mg "enumerate"=none)(he:PE X e te)(hs:bR e=true:=by rfl):
 PI X (.Tuple elts k tpos) (.Call (.Name "enumerate" p) [e] [] pos) (QZ K te):=by
 subst hK;intro pins s σ H R I h;have st:starEach [e] X.env=[(false,eval e X.env)]:=bf hs;rwa[Call_ (oO I hg hm boot_enumerate (PyProof.Rows.callWith_type1 ?_ st (b0 (by rfl))))];rw [st];show wpAny _ _ (spliced ((false,eval e X.env)::backTo pos (starEach [] X.env))) _ _ s;rwa[Calls.spliced_cons (bT (he pins s σ H _ I h) λu s1 ⟨x,H1,I1,r1,q1⟩=> ?_)];rwa[Calls.spliced_nil ?_]
 cases x with
 |ref a=>
  have r1:u=Value.ref a:=r1;subst r1
  have fp:∀b∈[s1.heap.objs.size+1,s1.heap.objs.size],jL X pins H1 b:=λb hb=>by
   rcases List.mem_cons.mp hb with rfl|hb
   ·exact I1.fpOk (Nat.le_succ _) (I1.hok.fresh (Nat.le_succ _))
   ·rw [List.mem_singleton.mp hb];exact I1.fpOk ↑13 (I1.hok.fresh ↑13)
  rcases q1 with ⟨xs,hq,q⟩|⟨xs,hq,q⟩
  ·obtain ⟨its,rv,p,hz⟩:=I1.list hq;rwa[call_enumerate_list p.isList λh' h1 h2 h3 h4=> ?_];exact wpAny_pyIter_enum h1 ⟨_,[s1.heap.objs.size+1,s1.heap.objs.size],_,_,H1,rfl,I1.kept (t':=s1.toks) h4,Dq a _ _,⟨⟨_,h1⟩,h2⟩,fp,q⟩
  ·obtain ⟨its,rv,p,hz⟩:=I1.tuple hq;rwa[um (show s1.heap.IsTuple a its.toArray from p) λh' h1 h2 h3 h4=> ?_];exact wpAny_pyIter_enum h1 ⟨_,[s1.heap.objs.size+1,s1.heap.objs.size],_,_,H1,rfl,I1.kept (t':=s1.toks) h4,Dp a _ _,⟨⟨_,h1⟩,h2⟩,fp,q⟩
 |_=>exact False.elim q1
section
variable {X:Cx}{K:Fg}
def P0:List V->Hp->VK->Prop:=λxs H Q=>match xs with|[.int i]=>Q (.int (if i<0 then -i else i)) H|_=>False
theorem M9:bH X (.builtin "abs") P0:=F8.imp λxs H Q h=>by
 match xs,h with
 |[.int i],h=>exact ⟨i,rfl,h⟩
theorem IO {ns:List Int}:∀ {us:List Value},aY (ns.map V.int) us->IntsAre us ns:=by
 induction ns with
 |nil=>intro us r;cases r;exact .nil
 |cons a r ih=>
  intro us h
  cases h with
  |cons r1 r2=>
   obtain ⟨t,rfl⟩:=r1;exact .cons _ _ (ih r2)
def QE (K:Fg)(a:Addr)(j:Int)(H:Hp)(Q:VK):Prop:=∃ns:List Int,aS K H a (ns.map V.int)/\Q (.int (ns.count j:Nat)) H
def Kl (K:Fg):V->List V->Hp->VK->Prop:=λx xs H Q=>match x,xs with| .ref a,[.int j]=>QE K a j H Q|_,_=>False
theorem G1 (hK:X.K=K):yP X "list.count" (Kl K):=by
 subst hK;intro pins s σ H x xs v us Q I rx rs h
 match x,xs,h with
 | .ref a,[.int j],h=>
   obtain ⟨ns,hq,q⟩:=h;have rx:v=Value.ref a:=rx;subst rx;obtain ⟨u,rfl,t,rfl⟩:=kb rs;obtain ⟨its,rv,p,hz⟩:=I.list hq;rwa[count_list_ints p.isList (IO rv) ?_];exact ⟨.int (ns.count j:Nat),H,I.tok _,⟨_,rfl⟩,q⟩
end
theorem pR.two {X:Cx}{x0 x1:Str}{c0 c1:Addr}{j0 j1:Nat}{cl:List (Str×Addr)}(hne:(x0==x1)=false)(n0:X.N[j0]? =some x0)(n1:X.N[j1]? =some x1)(k0:X.env.scope.names.lookup x0=some .cell)(k1:X.env.scope.names.lookup x1=some .cell)
(e0:X.env.cells.lookup x0=some c0)(e1:X.env.cells.lookup x1=some c1)(h:cl=[(x0,c0),(x1,c1)]\/cl=[(x1,c1),(x0,c0)]):pR X [x0,x1] [j0,j1] cl:=by
 have hne':(x1==x0)=false:=by
  cases z:x1==x0 with
  |false=>rfl
  |true=>rw [eq_of_beq z] at hne;rw [beq_self_eq_true] at hne;cases hne
 have g0:cl.lookup x0=some c0:=by
  rcases h with rfl|rfl
  ·simp [List.lookup]
  ·simp [List.lookup,hne]
 have g1:cl.lookup x1=some c1:=by
  rcases h with rfl|rfl
  ·simp [List.lookup,hne']
  ·simp [List.lookup]
 rwa[⟨λi x hx=> ?_,λx c e=> ?_⟩]
 ·match i,hx with
  |0,hx=>cases hx;exact ⟨j0,c0,rfl,n0,k0,e0,g0⟩
  |1,hx=>cases hx;exact ⟨j1,c1,rfl,n1,k1,e1,g1⟩
 ·have hx:x=x0\/x=x1:=by
   rcases h with rfl|rfl
   ·cases z:x==x0 with
    |true=>exact .inl (eq_of_beq z)
    |false=>
     cases z1:x==x1 with
     |true=>exact .inr (eq_of_beq z1)
     |false=>simp [List.lookup,z,z1] at e
   ·cases z:x==x0 with
    |true=>exact .inl (eq_of_beq z)
    |false=>
     cases z1:x==x1 with
     |true=>exact .inr (eq_of_beq z1)
     |false=>simp [List.lookup,z,z1] at e
  rcases hx with rfl|rfl
  ·rw [g0] at e;cases e;exact ⟨by simp,e0⟩
  ·rw [g1] at e;cases e;exact ⟨by simp,e1⟩
theorem yB {P:Program}{w:World}{K:Frag}{mg:Str->Option Value}{base:Heap}{k:Nat}{f c:Addr}{x:Str}{st:Stmt}{kV doc pm ct oc:Value}{an od:Option Addr}{osl:Array (Option Value)}{N ps:List Str}{sp:Sp}
(lk:K.lookup f=some ⟨oc,od,.func (fnOf x x (cu st) (bK st) (ai st) .none kV doc pm an (.ref c) ct),osl⟩)(hcd:codeIn K (.ref c) x=true)(S:am N ps (ai st))(len:∀vs H Q E,sp vs H Q E->vs.length=ps.length)
(hbody:∀(A:Around) (outer:List Env) (s:Shared) (H:Hp) (vs:List V) (Q:VK) (E:XK),b4 k (A.deeper (envOfC x (ai st) s.heap.objs.size f (.ref c)))->sp vs H Q E->
   ∃t,uq (ng br P w K mg base N x (ai st) f (.ref c) A outer s H E).nox (bK st) t/\t {nx:=λ_ H'=>Q .non H',rt:=Q} (start N vs) H):aD P w K mg base br (k+1) f (fnOf x x (cu st) (bK st) (ai st) .none kV doc pm an (.ref c) ct) ps sp:=by
 rwa[FD lk hcd S len λA outer s H vs Q E hr hsp=> ?_];obtain ⟨t,h,q⟩:=hbody A outer s H vs Q E hr hsp;exact ⟨t,h.nox,q⟩
theorem FE {CX:nJ}{P:Program}{w:World}{K:Frag}{mg:Str->Option Value}{base:Heap}{f:Addr}{fd:FuncData}{ps:List Str}:aD P w K mg base CX 1 f fd ps (λ_ _ _ _=>False):=⟨λ_ _ _ _ h=>h.elim,λ_ _ _ _ _ _ _ _ _ _ _ _ _ h=>h.elim⟩
end L2
namespace HT
open PySem PyProof.Rows
open PySem.SeqAt
open PySem.MeetsSeq PySem.MeetsSeq2 PySem.MeetsSeq3
theorem getItem_tuple_whole {prog:Program}{w:World}{A:Around}{E:Value->Shared->Prop}{s:Shared}{t sl:Addr}{items:Array Value}{vl vu:Value}{lo hi:Option Int}{Q:Value->Shared->Prop}(ht:IsTup s.heap t items)(hs:s.heap.IsSliceOf sl vl vu .none)(pl:IsPart vl lo)(pu:IsPart vu hi)
(hw:sIx items.size 0 lo=0/\sIx items.size items.size hi=items.size)(h:Q (.ref t) s):wpAny (model prog w) A (getItem (.ref t) (.ref sl)) Q E s:=by
 obtain ⟨os,hos,hcs,hds⟩:=id hs;have hTs:s.TypeIs (.ref sl) "slice":=⟨os,hos,hcs⟩;unfold getItem
 try with_reducible refine wpAny_holding ?_
 first|refine wpAny_bind (wpAny_pure ?_)|skip
 rwa[wpAny_bind (wpAny_sequenceKey ht.typeIs ↑2 ?_)]
 refine wpAny_bind (wpAny_callSpecial?_slot (name:=Str.ofString "__getitem__") ht.typeIs PyProof.Rows.slot_tuple_getitem
  (wpAny_call_entry PyProof.Rows.slot_tuple_getitem ht.typeIs entry_tuple_getitem ?_ (args_tuple_getitem _ _)))
 show wpAny _ _ (Builtin.Tuple.tupleItemsOf (.ref t)>>=_) _ _ s;rwa[wpAny_bind (tupleItemsOf_ ht ?_)];rwa[wpAny_bind (wpAny_typeOf hTs ?_)];rw [if_pos ↑2];rwa[wpAny_bind (gu hs pl pu ?_)];show wpAny _ _ (if (((sIx items.size 0 lo:Nat):Int)==0&&(1:Int)==1&&(sIx items.size items.size hi - sIx items.size 0 lo)==items.size)=true then _ else _) _ _ s;rw [hw.1,hw.2,if_pos ↑17];rwa[wpAny_bind ?_];unfold Builtin.Tuple.tupleIsExact;rwa[wpAny_bind (wpAny_typeOf ht.typeIs (wpAny_pure ?_))];show wpAny _ _ (if ((Value.type "tuple"==Value.type "tuple")=true) then _ else _) _ _ s;rw [if_pos ↑2];rwa[wpAny_bind (wpAny_rule ?_)]
 first|exact wpAny_pure ⟨_,rfl,wpAny_pure h⟩|exact wpAny_bind (wpAny_pure (wpAny_pure ⟨_,rfl,wpAny_pure h⟩))|trace_state
end HT
namespace L2
open PySem PySem.Spec PyProof.Rows
section
variable {X:Cx}{K:Fg}
def Hn (K:Fg)(p:Addr)(lo hi:Option Int)(H:Hp)(Q:VK):Prop:=∃xs,aP K H p xs/\(HT.sIx xs.length 0 lo=0/\HT.sIx xs.length xs.length hi=xs.length->Q (.ref p) H)/\(¬(HT.sIx xs.length 0 lo=0/\HT.sIx xs.length xs.length hi=xs.length)->∀l,H l=none->Q (.ref l) (upd H l (.tup (j9 xs lo hi))))
def Pw (K:Fg):V->Option Int->Option Int->Hp->VK->Prop:=λx lo hi H Q=>match x with| .ref p=>Hn K p lo hi H Q|_=>False
theorem MZ (hK:X.K=K):JR X (Pw K):=by
 subst hK;intro pins s σ H x v vl vu lo hi sl Q I rx hs pl pu h
 cases x with
 |ref p=>
  obtain ⟨xs,hx,h1,h2⟩:=h;by_cases hw:HT.sIx xs.length 0 lo=0/\HT.sIx xs.length xs.length hi=xs.length
  ·cases rx;obtain ⟨its,r,ht,hz⟩:=I.tuple hx
   have hlen:its.toArray.size=xs.length:=by rw [List.size_toArray];exact r.length.symm
   exact ⟨"tuple",_,PyProof.Rows.slot_tuple_getitem.lookup,ht.typeIs,HT.getItem_tuple_whole ht hs pl pu (by rw [hlen];exact hw) ⟨.ref p,H,I,rfl,h1 hw⟩⟩
  ·exact DS pins s σ H _ v vl vu lo hi sl Q I rx hs pl pu ⟨p,xs,rfl,hx,hw,h2 hw⟩
 |_=>exact False.elim h
theorem Jw {p:Addr}{xs:List V}{lo hi:Option Int}{H:Hp}{Q:VK}(h:aP K H p xs)(g1:j9 xs lo hi=xs->Q (.ref p) H)(g2:∀l H',av H H'->H' l=some (.tup (j9 xs lo hi))->Q (.ref l) H'):Hn K p lo hi H Q:=by
 rwa[⟨xs,h,λhw=>g1 ?_,λ_ l n=>g2 l _ (.upd n) ak⟩];unfold j9;rw [hw.1,hw.2];simp
end
theorem FC {K:Fg}{a:Addr}{xs:List V}{g:TG}{tb:TS}{D:pZ}{σ:St}{H:Hp}(Pv:Nat->St->Hp->Prop)(h0:Pv 0 σ H)(hx:∀i σ H,i<=xs.length->Pv i σ H->aS K H a xs)
(hs:∀(i:Nat) x σ H T H',xs[i]? =some x->Pv i σ H->av H H'->H' T=some (.tup [.int i,x])->g (.ref T) σ H' λσ2 H2=>tb {D with nx:=Pv (i+1),ct:=Pv (i+1),bk:=D.nx} σ2 H2)(hd:∀σ H,Pv xs.length σ H->D.nx σ H):Al (Pf K a) g tb D σ H:=by
 rwa[⟨λi m σ H=>m=xs.length - i/\i<=xs.length/\Pv i σ H,⟨xs.length,by simp,Nat.zero_le _,h0⟩,?_⟩];rintro i m σ H ⟨rfl,hi,p⟩;by_cases hlt:i<xs.length
 ·rwa[.inr ⟨⟨xs,xs[i],hx i σ H hi p,by simp [hlt]⟩,Pv (i+1),λσ' H' p'=>⟨xs.length - (i+1),by omega,rfl,hlt,p'⟩,λx H' y=> ?_⟩];obtain ⟨T,z,rfl,nT,rfl,y⟩:=y;exact hs i z σ _ T _ (y xs (hx i σ _ hi p)) p (.upd nT) ak
 ·have e:i=xs.length:=by omega
  subst e;exact .inl ⟨⟨xs,hx _ σ H ↑13 p,Nat.le_refl _⟩,hd σ H p⟩
section
variable {κ:Type}[DecidableEq κ]
def ge (kvs:List (κ×V))(k:κ):Option V:=(kvs.find? λkv=>decide (kv.1=k)).map (·.2)
def gx (kvs:List (κ×V))(k:κ)(v:V):List (κ×V):=
 if (kvs.any λkv=>decide (kv.1=k))=true then kvs.map (λkv=>if kv.1=k then (kv.1,v) else kv) else kvs++[(k,v)]
theorem cQ {p:κ×V}{r:List (κ×V)}{k:κ}(e:p.1=k):ge (p::r) k=some p.2:=by simp [ge,List.find?_cons,e]
theorem cR {p:κ×V}{r:List (κ×V)}{k:κ}(e: ¬p.1=k):ge (p::r) k=ge r k:=by simp [ge,List.find?_cons,e]
theorem l9 (k:κ):∀kvs:List (κ×V),(kvs.any λkv=>decide (kv.1=k))=(ge kvs k).isSome
 |[]=>rfl
 |p::r=>by
  rw [List.any_cons];by_cases e:p.1=k
  ·simp only [cQ e,decide_eq_true e,Bool.true_or,Option.isSome_some]
  ·rw [cR e,decide_eq_false e,Bool.false_or];exact l9 k r
theorem xF (k j:κ)(y:V):∀kvs:List (κ×V),ge (kvs.map λkv=>if kv.1=k then (kv.1,y) else kv) j=(ge kvs j).map λx=>if j=k then y else x
 |[]=>rfl
 |p::r=>by
  have ih:=xF k j y r;rw [List.map_cons];by_cases h:p.1=k
  ·rw [if_pos h];by_cases e:p.1=j
   ·rw [cQ (p:=(p.1,y)) e,cQ e,Option.map_some,if_pos (e.symm.trans h)]
   ·rw [cR (p:=(p.1,y)) e,cR e,ih]
  ·rw [if_neg h];by_cases e:p.1=j
   ·rw [cQ (p:=p) e,cQ e,Option.map_some,if_neg (λz=>h (e.trans z))]
   ·rw [cR (p:=p) e,cR e,ih]
theorem uv (k j:κ)(y:V):∀kvs:List (κ×V),ge kvs k=none->ge (kvs++[(k,y)]) j=if j=k then some y else ge kvs j
 |[],_=>by
  by_cases e:k=j
  ·rw [if_pos e.symm];exact cQ (p:=(k,y)) e
  ·rw [if_neg (λz=>e z.symm)];exact cR (p:=(k,y)) e
 |p::r,hn=>by
  rw [List.cons_append]
  have hk: ¬p.1=k:=λz=>by rw [cQ z] at hn;cases hn
  rw [cR hk] at hn;have ih:=uv k j y r hn;by_cases e:p.1=j
  ·rw [cQ e,cQ e,if_neg (λz=>hk (e.trans z))]
  ·rw [cR e,cR e,ih]
theorem Dm (kvs:List (κ×V))(k j:κ)(y:V):ge (gx kvs k y) j=if j=k then some y else ge kvs j:=by
 unfold gx;by_cases a:(kvs.any λkv=>decide (kv.1=k))=true
 ·rw [if_pos a,xF];rw [l9] at a;by_cases e:j=k
  ·obtain ⟨x,hx⟩:=Option.isSome_iff_exists.mp a;rw [if_pos e,e,hx,Option.map_some,if_pos rfl]
  ·rw [if_neg e]
   cases ge kvs j with
   |none=>rfl
   |some x=>rw [Option.map_some,if_neg e]
 ·rw [if_neg a];rwa[uv k j y kvs ?_];rw [l9] at a
  cases q:ge kvs k with
  |none=>rfl
  |some x=>rw [q] at a;exact (a rfl).elim
theorem dI (kvs:List (κ×V))(k:κ)(v:V):(gx kvs k v).length<=kvs.length+1:=by
 unfold gx;split
 ·rw [List.length_map];omega
 ·rw [List.length_append,List.length_cons,List.length_nil];omega
theorem lQ.isSome_eq {o:Option V}{u:Option Value}(r:lQ o u):o.isSome=u.isSome:=by
 cases o with
 |none=>cases u with
  |none=>rfl
  |some _=>exact (show False from r).elim
 |some _=>cases u with
  |none=>exact (show False from r).elim
  |some _=>rfl
theorem KV.val {kvs:List (κ×V)}{vs:List (κ×Value)}(r:KV kvs vs)(k:κ):lQ (ge kvs k) (valueAt vs k):=by
 unfold KV at r
 induction r with
 |nil=>exact True.intro
 | @cons p q ps qs h t ih=>
   obtain ⟨h1,h2⟩:=h;by_cases e:p.1=k
   ·have e':q.1=k:=h1.symm.trans e
    have b:valueAt (q::qs) k=some q.2:=by simp [valueAt,List.find?_cons,e']
    rw [cQ e,b];exact h2
   ·have e': ¬q.1=k:=λz=>e (h1.trans z)
    have b:valueAt (q::qs) k=valueAt qs k:=by simp [valueAt,List.find?_cons,e']
    rw [cR e,b];exact ih
theorem KV.any {kvs:List (κ×V)}{vs:List (κ×Value)}(r:KV kvs vs)(k:κ):(kvs.any λkv=>decide (kv.1=k))=vs.any λkv=>decide (kv.1=k):=by
 unfold KV at r
 induction r with
 |nil=>rfl
 |cons h t ih=>rw [List.any_cons,List.any_cons,ih,h.1]
theorem KV.repl {kvs:List (κ×V)}{vs:List (κ×Value)}(r:KV kvs vs)(k:κ){y:V}{u:Value}(ry:aQ y u):
 KV (kvs.map λkv=>if kv.1=k then (kv.1,y) else kv) (vs.map λkv=>if kv.1=k then (kv.1,u) else kv):=by
 unfold KV at r ⊢
 induction r with
 |nil=>exact .nil
 | @cons p q ps qs h t ih=>
   rw [List.map_cons,List.map_cons];rwa[.cons ?_ ih];obtain ⟨h1,h2⟩:=h;by_cases e:p.1=k
   ·rw [if_pos e,if_pos (h1.symm.trans e)];exact ⟨h1,ry⟩
   ·rw [if_neg e,if_neg (λz=>e (h1.trans z))];exact ⟨h1,h2⟩
theorem KV.put {kvs:List (κ×V)}{vs:List (κ×Value)}(r:KV kvs vs)(k:κ){y:V}{u:Value}(ry:aQ y u):KV (gx kvs k y) (stored vs k u):=by
 unfold gx stored;rw [r.any k];by_cases e:(vs.any λkv=>decide (kv.1=k))=true
 ·rw [if_pos e,if_pos e];exact r.repl k ry
 ·rw [if_neg e,if_neg e];exact Paired.snoc r ⟨rfl,ry⟩
theorem KV.length {kvs:List (κ×V)}{vs:List (κ×Value)}(r:KV kvs vs):kvs.length=vs.length:=Paired.length r
end
theorem A2 {P:Program}{w:World}{k:dQ}{u:Value}(r:aQ (kV k) u):(cG P w).is k u=true:=by
 cases k with
 |inl i=>obtain ⟨t,e⟩:=(show ∃t,u=Value.int i t from r);subst e;exact yq P w i t
 |inr x=>obtain ⟨t,e⟩:=(show ∃t,u=Value.str x t from r);subst e;exact yp P w x t
theorem uM {P:Program}{w:World}:∀ {ks:List dQ} {us:List Value},aY (ks.map kV) us->ItemsAre (cG P w) ks us
 |[],_,r=>by rw [List.map_nil] at r;cases r;exact .nil
 |k::ks,_,r=>by
  rw [List.map_cons] at r
  cases r with
  |cons h t=>exact .cons (A2 h) (uM t)
abbrev KT (H:Hp):List (List dQ×V)->List (List dQ×Addr×Value)->Prop:=Paired λp q=>p.1=q.1/\H q.2.1=some (.tup (p.1.map kV))/\aQ p.2 q.2.2
theorem KT.val {H:Hp}{kvs:List (List dQ×V)}{xs:List (List dQ×Addr×Value)}(r:KT H kvs xs)(k:List dQ):lQ (ge kvs k) ((atKey xs k).map (·.2)):=by
 induction r with
 |nil=>exact True.intro
 | @cons p q ps qs h t ih=>
   obtain ⟨h1,_,h2⟩:=h;by_cases e:p.1=k
   ·have e':q.1=k:=h1.symm.trans e
    have b:atKey (q::qs) k=some q.2:=by simp [atKey,List.find?_cons,e']
    rw [cQ e,b];exact h2
   ·have e': ¬q.1=k:=λz=>e (h1.trans z)
    have b:atKey (q::qs) k=atKey qs k:=by simp [atKey,List.find?_cons,e']
    rw [cR e,b];exact ih
theorem KT.repl {H:Hp}{kvs:List (List dQ×V)}{xs:List (List dQ×Addr×Value)}(r:KT H kvs xs)(k:List dQ){y:V}{u:Value}(ry:aQ y u):
 KT H (kvs.map λkv=>if kv.1=k then (kv.1,y) else kv) (xs.map (PySem.putAt k u)):=by
 induction r with
 |nil=>exact .nil
 | @cons p q ps qs h t ih=>
   rw [List.map_cons,List.map_cons];rwa[.cons ?_ ih];obtain ⟨h1,h2,h3⟩:=h;unfold PySem.putAt;by_cases e:p.1=k
   ·rw [if_pos e,if_pos (h1.symm.trans e)];exact ⟨h1,h2,ry⟩
   ·rw [if_neg e,if_neg (λz=>e (h1.trans z))];exact ⟨h1,h2,h3⟩
theorem KT.put {H:Hp}{kvs:List (List dQ×V)}{xs:List (List dQ×Addr×Value)}(r:KT H kvs xs)(k:List dQ){b:Addr}{y:V}{u:Value}(hb:H b=some (.tup (k.map kV)))(ry:aQ y u):
 KT H (gx kvs k y) (storedH xs k b u):=by
 have e:(kvs.any λkv=>decide (kv.1=k))=(atKey xs k).isSome:=by
  rw [l9,(r.val k).isSome_eq,Option.isSome_map]
 unfold gx storedH;rw [e];by_cases q:(atKey xs k).isSome=true
 ·rw [if_pos q,if_pos q];exact r.repl k ry
 ·rw [if_neg q,if_neg q];exact Paired.snoc r ⟨rfl,hb,ry⟩
theorem KT.keeps {H H':Hp}{kvs:List (List dQ×V)}{xs:List (List dQ×Addr×Value)}(r:KT H kvs xs)(ht:∀b ys,H b=some (.tup ys)->H' b=some (.tup ys)):KT H' kvs xs:=
 Paired.mapP r λ_ _ z=>⟨z.1,ht _ _ z.2.1,z.2.2⟩
section
variable {P:Program}{w:World}{H:Hp}{h:Heap}{a:Addr}
theorem Jz {u:HO}(ok:gd P w H h)(e:Rd H a u):bE P w H h a u:=e.ok ok
theorem JJ {kvs:List (dQ×V)}(ok:gd P w H h)(e:Rd H a (.dK kvs)):kvs.length<=sizeLine/\(a==sysModules)=false/\∃vs,KV kvs vs/\h.DictOf (cG P w) a vs:=
 show bE P w H h a (.dK kvs) from Jz ok e
theorem JK {kvs:List (dQ×V)}(ok:gd P w H h)(e:H a=some (.dK kvs)):kvs.length<=sizeLine/\(a==sysModules)=false/\∃vs,KV kvs vs/\h.DictOf (cG P w) a vs:=JJ ok (.inl e)
theorem Ae {ks:List dQ}(ok:gd P w H h)(e:H a=some (.tup (ks.map kV))):(tupleKind (cG P w)).is h ks a:=by
 obtain ⟨_,its,r,o,h1,h2,n,h3⟩:=(show bE P w H h a (.tup (ks.map kV)) from ok a _ e);exact ⟨o,its.toArray,n,h1,h2,h3,by simpa using uM r⟩
theorem JI {kvs:List (List dQ×V)}(ok:gd P w H h)(e:Rd H a (.dT kvs)):kvs.length<=sizeLine/\(a==sysModules)=false/\
 ∃xs,KT H kvs xs/\h.DictOfH (tupleKind (cG P w)) a xs:=by
 obtain ⟨z,y,xs,r,o,es,ep,h1,h2,h3,h4,h5⟩:=(show bE P w H h a (.dT kvs) from Jz ok e);rwa[⟨z,y,xs,r,o,es,ep,h1,h2,h3,h4,λx hx=> ?_,h5⟩]
 have all:∀ {l:List (List dQ×V)} {m:List (List dQ×Addr×Value)},KT H l m->∀x∈m,(tupleKind (cG P w)).is h x.1 x.2.1:=by
  intro l m q
  induction q with
  |nil=>intro x hx;exact nomatch hx
  | @cons p q ps qs hq t ih=>
    intro x hx
    rcases List.mem_cons.mp hx with e|hx
    ·subst e;exact Ae ok (by rw [<-hq.1];exact hq.2.1)
    ·exact ih x hx
 exact all r x hx
theorem OD {kvs:List (List dQ×V)}(ok:gd P w H h)(e:H a=some (.dT kvs)):kvs.length<=sizeLine/\(a==sysModules)=false/\
 ∃xs,KT H kvs xs/\h.DictOfH (tupleKind (cG P w)) a xs:=JI ok (.inl e)
end
def GJ (H:Hp)(a:Addr)(y:V)(r:Option V):Prop:=
 (∃kvs k,Rd H a (.dK kvs)/\y=kV k/\r=ge kvs k)\/∃kvs k b,Rd H a (.dT kvs)/\y= .ref b/\H b=some (.tup (k.map kV))/\r=ge kvs k
def GI (H:Hp)(a:Addr)(y v:V)(H':Hp):Prop:=
 (∃kvs k,H a=some (.dK kvs)/\y=kV k/\kvs.length<sizeLine/\H'=upd H a (.dK (gx kvs k v)))\/
 ∃kvs k b,H a=some (.dT kvs)/\y= .ref b/\H b=some (.tup (k.map kV))/\kvs.length<sizeLine/\H'=upd H a (.dT (gx kvs k v))
theorem GJ.k {H:Hp}{a:Addr}{kvs:List (dQ×V)}{k:dQ}(e:H a=some (.dK kvs)):GJ H a (kV k) (ge kvs k):= .inl ⟨kvs,k,.inl e,rfl,rfl⟩
theorem GI.k {H:Hp}{a:Addr}{kvs:List (dQ×V)}{k:dQ}{v:V}(e:H a=some (.dK kvs))(hl:kvs.length<sizeLine):GI H a (kV k) v (upd H a (.dK (gx kvs k v))):= .inl ⟨kvs,k,e,rfl,hl,rfl⟩
section
variable {X:Cx}{pins:List ↑14}{σ:St}{H:Hp}{s:Shared}{a:Addr}{y v:V}{u r:Value}{o:Option V}{A:Around}{E:Value->Shared->Prop}
theorem aF.big (I:aF X pins σ H s):sysModules<s.heap.objs.size:=by
 have h:mainGlobals<s.heap.objs.size:=(I.mod.glob.keeps I.bk).lt;exact Nat.lt_trans ↑2 h
theorem QD {Q:Value->Shared->Prop}(hu:A.units+1<cLine)(I:aF X pins σ H s)(g:GJ H a y o)(ry:aQ y u)(h:∀s',aF X pins σ H s'->Q (.bool o.isSome) s'):
 wpAny ↑8 A (compareOp .In u (.ref a)) Q E s:=by
 rcases g with ⟨kvs,k,e,ey,l⟩|⟨kvs,k,b,e,ey,eb,l⟩
 ·subst ey;obtain ⟨z,hd,vs,rel,dd⟩:=JJ I.hok e;rwa[wpAny_in_of (A2 ry) hd dd.mapOf ?_];rw [<-(rel.val k).isSome_eq,<-l];exact h _ (I.tok _)
 ·subst ey;cases (show u=Value.ref b from ry);obtain ⟨z,hd,xs,rel,dd⟩:=JI I.hok e;rwa[wpAny_in_heap (tupleKind_room_in1 hu) (Ae I.hok eb) hd dd ?_];have q:=(rel.val k).isSome_eq;rw [Option.isSome_map] at q;rw [<-q,<-l];exact h _ (I.tok _)
theorem wZ {h':Heap}{t':Nat}{ob:HO}(I:aF X pins σ H s)(mu:OU (H a))(hs:Heap.SameBut a s.heap h')(he:∃q,h'.get? a=some q)(new:bE X.prog X.w (upd H a ob) h' a ob):
 aF X pins σ (upd H a ob) {s with heap:=h',toks:=t'}:=
 I.write (x:=a) (e:=a) mu (.inl rfl) (λb q hb z=>(hs.2 b hb).trans z) he new
theorem Aq {P:Program}{w:World}{H':Hp}{h':Heap}{kvs:List (dQ×V)}{vs:List (dQ×Value)}(z:kvs.length<=sizeLine)(hd:(a==sysModules)=false)(rel:KV kvs vs)(dd:h'.DictOf (cG P w) a vs):
 bE P w H' h' a (.dK kvs):=⟨z,hd,vs,rel,dd⟩
theorem CB {H':Hp}{Q:Unit->Shared->Prop}(hu:A.units+1<cLine)(I:aF X pins σ H s)(g:GI H a y v H')(ry:aQ y u)(rv:aQ v r)(h:∀s',aF X pins σ H' s'->Q () s'):
 wpAny ↑8 A (setItem (.ref a) u r) Q E s:=by
 rcases g with ⟨kvs,k,e,ey,l,eH⟩|⟨kvs,k,b,e,ey,eb,l,eH⟩
 ·subst ey eH;obtain ⟨z,hd,vs,rel,dd⟩:=JK I.hok e
  have hz:vs.length<=sizeLine:=by rw [<-rel.length];exact z
  have hl:(gx kvs k v).length<=sizeLine:=by have:=dI kvs k v;omega
  rwa[wpAny_setItem_pairs (hsz:=hz) (A2 ry) dd λh' dd' hs=>h _ ?_];have he:∃q,h'.get? a=some q:=let ⟨q,_,_,hq,_⟩:=dd';⟨q,hq⟩;exact wZ I (by rw [e];exact True.intro) hs he (Aq hl hd (rel.put k rv) dd')
 ·subst ey eH;cases (show u=Value.ref b from ry);obtain ⟨z,hd,xs,rel,dd⟩:=OD I.hok e
  have hz:xs.length<=sizeLine:=by rw [<-Paired.length rel];exact z
  have hl:(gx kvs k v).length<=sizeLine:=by have:=dI kvs k v;omega
  rwa[wpAny_setItem_heap (hsz:=hz) (tupleKind_room_in1 hu) (Ae I.hok eb) dd λh' dd' hs=>h _ ?_];obtain ⟨q,es,ep,hq,h2,h3,h4,_,h5⟩:=dd';rwa[wZ I (by rw [e];exact True.intro) hs ⟨q,hq⟩ ⟨hl,hd,_,(rel.put k eb rv).keeps λc ys ec=> ?_,q,es,ep,hq,h2,h3,h4,h5⟩];rw [ap (Ol ec e (λz=>nomatch z))];exact ec
end
def Qc (ty td:TE):TE:=λσ H Q=>ty σ H λy H1=>td σ H1 λx H2=>∃a o,x= .ref a/\GJ H2 a y o/\Q (.bl o.isSome) H2
def NP (td ty tv:TE):TS:=λD σ H=>tv σ H λv H1=>td σ H1 λx H2=>ty σ H2 λy H3=>∃a H4,x= .ref a/\GI H3 a y v H4/\D.nx σ H4
section
variable {X:Cx}{o i e value:Expr}{pos pos' tpos:Pos}{td ty tv:TE}
theorem Lg (hu:X.A.units+1<cLine)(hi:PE X i ty)(ho:PE X o td):PC X .In i o (Qc ty td):=by
 intro pins s σ H Q I h;rwa[bT (hi pins s σ H _ I h) λiv s1 ⟨y,H1,I1,ry,q1⟩=>bT (ho pins s1 σ H1 _ I1 q1) λu s2 ⟨x,H2,I2,rx,a,ov,ex,g,q2⟩=> ?_];subst ex;obtain rfl:u=Value.ref a:=rx;exact QD hu I2 g ry λs3 I3=>⟨.bl ov.isSome,H2,I3,rfl,q2⟩
theorem HG (hu:X.A.units+1<cLine)(ho:PE X o td)(hi:PE X i ty)(hv:PE X value tv)(hs:swapsWith value (some (.Subscript o i pos')) pos.line X.env=pure false):
 PS X (.Assign [.Subscript o i pos'] value pos) (NP td ty tv):=by
 intro pins s σ H D I h;rwa[wpAny_Assign_Subscript (bT (hv pins s σ H _ I h) λr s1 ⟨v,H1,I1,rv,q1⟩=>bT (ho pins s1 σ H1 _ I1 q1) λu s2 ⟨x,H2,I2,rx,q2⟩=>bT (hi pins s2 σ H2 _ I2 q2) λiv s3 ⟨y,H3,I3,ry,a,H4,ex,g,q3⟩=> ?_) hs];subst ex;obtain rfl:u=Value.ref a:=rx;exact CB hu I3 g ry rv λs4 I4=>⟨σ,H4,I4,q3⟩
end
structure M1 (X:Cx)(o:Expr)(m:Str)(apos:Pos)(e:Expr)(cpos:Pos):Prop where
 base:attributeBase o m X.env (eval o X.env)=eval o X.env
 few:((backTo cpos (starEach [e] X.env)).all (λx=> !x.1)&&(backToKw cpos (keywordEach [] X.env)).all (λx=>x.1.isSome)
  &&decide (([e]:List Expr).length+([]:List Keyword).length+(if ([]:List Keyword).isEmpty then 0 else 1)<30))=true
 line:(apos.endLine==cpos.line)=true
 trees:backTo cpos (starEach [e] X.env)=[(false,eval e X.env)]
structure M2 (X:Cx)(o:Expr)(m:Str)(apos:Pos)(e f:Expr)(cpos:Pos):Prop where
 base:attributeBase o m X.env (eval o X.env)=eval o X.env
 few:((backTo cpos (starEach [e,f] X.env)).all (λx=> !x.1)&&(backToKw cpos (keywordEach [] X.env)).all (λx=>x.1.isSome)
  &&decide (([e,f]:List Expr).length+([]:List Keyword).length+(if ([]:List Keyword).isEmpty then 0 else 1)<30))=true
 line:(apos.endLine==cpos.line)=true
 trees:backTo cpos (starEach [e,f] X.env)=[(false,eval e X.env),(false,eval f X.env)]
end L2
namespace PySem
namespace F
theorem lk_list_keys:typeLookup (.type "list") "keys"=pure none:=by rw [typeLookup_type,builtinLookup_eq_fast];kernel_rfl
theorem lk_list_hook:typeLookup (.type "list") "__getattr__"=pure none:=by rw [typeLookup_type,builtinLookup_eq_fast];kernel_rfl
theorem sub_attr_attr:isSubtype (.type "AttributeError") (.type "AttributeError")=pure true:=by rw [isSubtype_type];kernel_rfl
theorem attr_first:((Manifest.find? "AttributeError").elim false λt=>t.mro.contains "StopIteration"||t.mro.contains "SystemExit")=false:=by decide+kernel
end F
section
variable {α:Type}{prog:Program}{w:World}{A:Around}{E:Value->Shared->Prop}{s:Shared}
theorem Ca {e:Addr}{o name:Value}{vs:Array Value}{dct:Option Addr}{sl:Array (Option Value)}{Q:Unit->Shared->Prop}(he:s.heap.get? e=some ⟨.type "AttributeError",dct,.fields vs,sl⟩)(h6:vs[6]? =some unsetMember)(h7:vs[7]? =some unsetMember)
(hq:Q () {s with heap:=s.heap.update e (Obj.mapFields λvs=>vs.extract 0 6++ #[name,o])}):wpAny (model prog w) A (noteAttr (.ref e) o name) Q E s:=by
 have hT:s.TypeIs (.ref e) "AttributeError":=⟨_,he,rfl⟩;unfold noteAttr lacksNameAndObj;rwa[wpAny_bind ?_];rwa[wpAny_bind (wpAny_isInstance hT F.sub_attr_attr ?_)];simp only [Bool.not_true,Bool.false_eq_true,if_false];rwa[wpAny_bind (wpAny_load he ?_)];simp only [h6,h7];have e1:unsetMember=Value.int 0 0:=rfl;rw [e1];simp only [Bool.or_self,Bool.false_eq_true,if_false];rw [if_neg ↑2];rwa[wpAny_pure ?_];simp only [if_true];rwa[wpAny_bind (wpAny_rule ?_)];rwa[wpAny_bind (wpAny_typeOf hT ?_)];exact wpAny_layMembers he rfl hq
theorem zL {o:Value}{name msg:Str}{Q:α->Shared->Prop}(hh:A.handled=none)(hm:msg.length<=sizeLine)(hq:∀e h' t',(∀b ob,s.heap.get? b=some ob->h'.get? b=some ob)->(∃ob,h'.get? e=some ob/\ob.cls= .type "AttributeError")->E (.ref e) {s with heap:=h',toks:=t'}):
 wpAny (model prog w) A (raiseAttrError o name msg:Sem α) Q E s:=by
 unfold raiseAttrError;rwa[wpAny_bind (wpAny_mkStr ?_ hm)];rwa[wpAny_bind ?_];unfold newExc newTuple;rwa[wpAny_bind (wpAny_newObj_type ?_ (by show (1:Nat)<=sizeLine;exact L2.bx ↑2))];rwa[wpAny_bind (m:=firstArgMember _ _) (wpAny_of_eq (a:=Value.none) (by simp only [firstArgMember,F.attr_first];rfl) ?_)];rwa[wpAny_newObj_type ?_];rwa[wpAny_bind (wpAny_mkText ?_)];rwa[wpAny_bind ?_];generalize hh1:(s.heap.push {cls:= .type "tuple",data:= .seq #[Value.str msg s.toks]})=h1
 have k1:∀b ob,s.heap.get? b=some ob->h1.get? b=some ob:=λb ob z=>by rw [<-hh1];exact Heap.get?_push_of_some _ z
 show wpAny (model prog w) A (noteAttr (.ref h1.objs.size) o _) _ _ {s with heap:=h1.push {cls:= .type "AttributeError",data:= .fields #[Value.ref s.heap.objs.size,.none,.none,.none,.bool false,.none,unsetMember,unsetMember]},toks:=s.toks+1+1};rwa[Ca (vs:= #[Value.ref s.heap.objs.size,.none,.none,.none,.bool false,.none,unsetMember,unsetMember]) (Heap.get?_push_size _ rfl) rfl rfl ?_];rwa[wpAny_raiseNew_none hh ?_];have s1:=Heap.SameBut.update (h1.push {cls:= .type "AttributeError",data:= .fields #[Value.ref s.heap.objs.size,.none,.none,.none,.bool false,.none,unsetMember,unsetMember]}) h1.objs.size (Obj.mapFields λvs=>vs.extract 0 6++ #[Value.str name (s.toks+1),o]);rwa[hq h1.objs.size _ _ (λb ob z=> ?_) ?_]
 ·rw [s1.2 b (Nat.ne_of_lt (Heap.lt_size (k1 b ob z)))];exact Heap.get?_push_of_some _ (k1 b ob z)
 ·exact ⟨_,Heap.get?_update_self _ (Heap.get?_push_size _ rfl) rfl,rfl⟩
end
section
variable {prog:Program}{w:World}{A:Around}{E:Value->Shared->Prop}{h:Heap}{g:Array GenState}{d:Drawn}{t:Nat}{os:OsState}{a:Addr}{its:Array Value}{n:Nat}{sl:Array (Option Value)}
theorem pU {tk:Tok}{Q:Fin->Shared->Prop}(hh:A.handled=none)(hx:h.get? a=some ⟨.type "list",none,.seq its n,sl⟩)(hq:∀e h' t',(∀b ob,h.get? b=some ob->h'.get? b=some ob)->(∃ob,h'.get? e=some ob/\ob.cls= .type "AttributeError")->E (.ref e) ⟨h',g,d,t',os⟩):
 wpAny (model prog w) A (Builtin.«object.__getattribute__» ⟨[.ref a,.str "keys" tk],[]⟩) Q E ⟨h,g,d,t,os⟩:=by
 have hT:(⟨h,g,d,t,os⟩:Shared).TypeIs (.ref a) "list":=⟨_,hx,rfl⟩;have f4:=F.lk_list_keys
 repeat (any_goals (first|assumption|with_reducible refine zL hh ?_ ?_|wp_step))
 all_goals first|exact L2.bx (by decide+kernel)|exact hq
theorem rS {tk:Tok}{R:Result->Shared->Prop}(hh:A.handled=none)(hx:h.get? a=some ⟨.type "list",none,.seq its n,sl⟩)(hq:∀e h' t',(∀b ob,h.get? b=some ob->h'.get? b=some ob)->(∃ob,h'.get? e=some ob/\ob.cls= .type "AttributeError")->R (.error (.ref e)) ⟨h',g,d,t',os⟩):
 codeAny (model prog w) A (.call (.builtin "list.__getattribute__") ⟨[.ref a,.str "keys" tk],[]⟩) R ⟨h,g,d,t,os⟩:=
 codeAny_call_builtin F.slot_list_getattribute.plain F.entry_list_ga (F.slot_list_getattribute.check _ _ _ _ _ _ _ _ (show (⟨h,g,d,t,os⟩:Shared).TypeIs (.ref a) "list" from ⟨_,hx,rfl⟩) (F.args_list_getattribute_2 _ _) (pU hh hx hq))
theorem rT {Q:Option Value->Shared->Prop}(hh:A.handled=none)(hx:h.get? a=some ⟨.type "list",none,.seq its n,sl⟩)(hq:∀h' t',(∀b ob,h.get? b=some ob->h'.get? b=some ob)->Q none ⟨h',g,d,t',os⟩):wpAny (model prog w) A (getAttr? (.ref a) "keys") Q E ⟨h,g,d,t,os⟩:=by
 have hT:(⟨h,g,d,t,os⟩:Shared).TypeIs (.ref a) "list":=⟨_,hx,rfl⟩;have f2:=F.slot_list_getattribute.lookup;have f3:=F.slot_list_getattribute.bind (.ref a);have f5:=F.lk_list_hook;unfold getAttr? getAttrBy?
 repeat (any_goals (first|assumption|wp_step))
 rwa[rS hh hx (λe h' t' k x=> ?_)];have hE:(⟨h',g,d,t',os⟩:Shared).TypeIs (.ref e) "AttributeError":=x;have sb:=F.sub_attr_attr;have z:=hq h' t' k;show wpAny _ _ (getattributeRaised _ _ _ _ _ _ _) _ _ _;unfold getattributeRaised;rwa[wpAny_bind (wpAny_isInstance hE sb ?_)];simp only [if_true]
 have hk:hookBehind (.type "list") none=pure none:=by unfold hookBehind;rw [if_neg ↑2,f5]
 rwa[wpAny_bind ?_];show wpAny _ _ (hookBehind (.type "list") none) _ _ _;rw [hk];rwa[wpAny_pure ?_];unfold hookOrError attributeErrorLeaves;simp only [Bool.not_false,if_true];rwa[wpAny_throw ?_];rwa[wpAny_bind (wpAny_isInstance hE sb ?_)];simp only [if_true];exact wpAny_pure z
end
end PySem
namespace PySem
namespace F
theorem entry_dul:entryFor table "dict.update.loop"=some Builtin.«dict.update.loop»:=entryFor_of_tree (by kernel_rfl)
theorem plain_dul:plainId "dict.update.loop"=true:=by decide+kernel
end F
end PySem
namespace L2
open PySem PySem.Spec PyProof.Rows
def gE (kvs ps:List (dQ×V)):List (dQ×V):=ps.foldl (λa p=>gx a p.1 p.2) kvs
theorem IZ {X:Cx}{pins:List ↑14}{σ:St}{l It dd:Addr}{xs:List V}{R:Result->Shared->Prop}{A:Around}(hh:A.handled=none)
(hI0:X.s₀.heap.objs.size<=It)(hpI:∀p∈X.pn++pins,p.1≠It):
 ∀(r j:Nat) (s:Shared) (H:Hp) (kvs ps:List (dQ×V)) (t:Tok) (oI:Obj),xs.length - j=r->j<=xs.length->
  aF X ((It,oI)::pins) σ H s->H l=some (.lst xs)->s.heap.IsListIter It l j->H dd=some (.dK kvs)->Paired (λx (p:dQ×V)=>∃b,x=V.ref b/\H b=some (.tup [kV p.1,p.2])) (xs.drop j) ps->kvs.length+ps.length<sizeLine->
  (∀s',aF X pins σ (upd H dd (.dK (gE kvs ps))) s'->R (.ok (.ret .none)) s')->
  codeAny ↑8 A (.builtin "dict.update.loop" ⟨[.ref dd,.ref It,.int j t,.none],[]⟩) R s:=by
 intro r
 induction r with
 |zero=>
  intro j s H kvs ps t oI hr hj I hl hit hd hp hz hR
  have ej:j=xs.length:=by omega
  subst ej;rw [List.drop_length] at hp;cases hp;obtain ⟨us,rus,hls⟩:=jT I hl
  have hsz:us.toArray.size=xs.length:=by rw [List.size_toArray,rus.length]
  have nI:=I.pin (It,oI) (List.mem_append_right _ (.head _))
  have hlI:l≠It:=λz=>by have:=nI.2.1;rw [<-z,hl] at this;cases this
  have W:=Walks.list (prog:=X.prog) (w:=X.w) (A:=A.in1) hh It l hlI us.toArray;rwa[codeAny_builtin PySem.F.entry_dul ?_];rw [Around.under_plainId PySem.F.plain_dul _];show wpAny _ A.in1 (pyNext (.ref It)>>=_) _ _ _;rwa[wpAny_bind (W.done _ _ _ ⟨by rw [hsz];exact hit,hls⟩ λh1 tk1 hk1=> ?_)];have hk1:∀b u,b≠It->s.heap.get? b=some u->h1.get? b=some u:=λb u n e=>hk1 b u (by simpa using n) e;have I0:aF X pins σ H s:=I.sub λp hp=> .tail _ hp
  have cne:∀x c,X.env.cells.lookup x=some c->c≠It:=λx c e z=>by
   obtain ⟨v,oc,h1,h2⟩:=I.cell x c e;rw [z,nI.1] at h1;cases h1;exact nI.2.2.2.2 v h2
  have I1:aF X pins σ H {s with heap:=h1,toks:=tk1}:=I0.turned (it:=It) hk1 nI.2.1 nI.2.2.1 (.inr hI0) cne hpI
  have eH:upd H dd (.dK (gE kvs []))=H:=by
   funext b
   unfold upd gE;split
   ·rename_i e;rw [e,hd];rfl
   ·rfl
  rw [eH] at hR;exact wpAny_bind (wpAny_pure (wpAny_pure (hR _ I1)))
 |succ r ih=>
  intro j s H kvs ps t oI hr hj I hl hit hd hp hz hR
  have hlt:j<xs.length:=by omega
  obtain ⟨us,rus,hls⟩:=jT I hl
  have hsz:us.toArray.size=xs.length:=by rw [List.size_toArray,rus.length]
  have nI:=I.pin (It,oI) (List.mem_append_right _ (.head _))
  have hlI:l≠It:=λz=>by have:=nI.2.1;rw [<-z,hl] at this;cases this
  have W:=Walks.list (prog:=X.prog) (w:=X.w) (A:=A.in1) hh It l hlI us.toArray;rw [List.drop_eq_getElem_cons hlt] at hp
  obtain ⟨p0,ps',rfl,⟨b,eb,hb⟩,hp'⟩:∃p0 ps',ps=p0::ps'/\(∃b,xs[j]=V.ref b/\H b=some (.tup [kV p0.1,p0.2]))/\Paired (λx (p:dQ×V)=>∃b,x=V.ref b/\H b=some (.tup [kV p.1,p.2])) (xs.drop (j+1)) ps':=by
   cases hp with
   |cons a c=>exact ⟨_,_,rfl,a,c⟩
  rwa[codeAny_builtin PySem.F.entry_dul ?_];rw [Around.under_plainId PySem.F.plain_dul _];show wpAny _ A.in1 (pyNext (.ref It)>>=_) _ _ _;rwa[wpAny_bind (W.item j _ _ _ (by rw [hsz];exact hlt) ⟨hit,hls⟩ λu h1 tk1 hP hst1 hk1=> ?_)]
  have hu:us[j]? =some u:=by simpa using hP
  have ru:aQ (V.ref b) u:=by
   obtain ⟨u',hu',ru⟩:=rus.get (show xs[j]? =some (V.ref b) by rw [List.getElem?_eq_getElem hlt,eb]);rw [hu] at hu';cases hu';exact ru
  cases (show u=Value.ref b from ru);obtain ⟨oI1,hoI1,hoc,hod⟩:=id hst1.1;have hk1:∀b u,b≠It->s.heap.get? b=some u->h1.get? b=some u:=λb u n e=>hk1 b u (by simpa using n) e
  have I1:aF X ((It,oI1)::pins) σ H {s with heap:=h1,toks:=tk1}:=
   I.repin (t':=tk1) hI0 hpI hk1 hoI1 λv e=>by rw [hod] at e;cases e
  obtain ⟨its,rit,ht,hz'⟩:=I1.tuple (aP.of hb)
  obtain ⟨ku,vu,eits,rk,rv⟩:∃ku vu,its=[ku,vu]/\aQ (kV p0.1) ku/\aQ p0.2 vu:=by
   cases rit with|cons a t1=>cases t1 with|cons b t2=>cases t2;exact ⟨_,_,rfl,a,b⟩
  subst eits;show wpAny _ A.in1 (holding [Value.ref b] _>>=_) _ _ _;rwa[wpAny_bind (wpAny_holding ?_)];rwa[wpAny_bind (wpAny_tryCatch ?_)];unfold Builtin.Dict.pairItems;rwa[wpAny_bind (wpAny_typeOf ht.typeIs ?_)];rw [if_pos ↑2];obtain ⟨ot,hot,hoc',nt,hdt⟩:=id ht;rwa[wpAny_bind (wpAny_seqItems hot hdt (wpAny_pure ?_))];show wpAny _ A.in1 (holding [ku,vu] (dictSet dd ku vu)) _ _ _;rwa[wpAny_holding ?_];obtain ⟨zk,hdn,vs,rel,dd'⟩:=JK I1.hok hd
  have hz2:vs.length<=sizeLine:=by rw [<-rel.length];exact zk
  have hl2:(gx kvs p0.1 p0.2).length<=sizeLine:=by have:=dI kvs p0.1 p0.2;rw [List.length_cons] at hz;omega
  rwa[wpAny_dictSet_pairs (hsz:=hz2) (A2 rk) dd' λh2 dd2 hs2=> ?_];have he:∃q,h2.get? dd=some q:=let ⟨q,_,_,hq,_⟩:=dd2;⟨q,hq⟩;have I2:=wZ (t':=tk1+1) I1 (by rw [hd];exact True.intro) hs2 he (Aq hl2 hdn (rel.put p0.1 rv) dd2);have nI2:=I2.pin (It,oI1) (List.mem_append_right _ (.head _))
  have ldd:l≠dd:=λz=>by rw [z,hd] at hl;cases hl
  rwa[wpAny_pure ⟨plainId_quiet PySem.F.plain_dul _,?_⟩];rwa[ih (j+1) _ (upd H dd (.dK (gx kvs p0.1 p0.2))) (gx kvs p0.1 p0.2) ps' _ oI1 ↑6 ↑6 I2 (by rw [ap ldd];exact hl) ⟨oI1,nI2.1,hoc,hod⟩ ak (Paired.imp' (λx p ⟨c,ec,hc⟩=>⟨c,ec,by rw [ap (λz=>by rw [z,hd] at hc;cases hc)];exact hc⟩) hp') ?_ ?_]
  ·have:=dI kvs p0.1 p0.2;rw [List.length_cons] at hz;omega
  ·intro s' I';rw [AF] at I';exact hR s' I'
def JL (l:Addr)(H:Hp)(Q:VK):Prop:=∃(xs:List V) (ps:List (dQ×V)),H l=some (.lst xs)/\Paired (λx (p:dQ×V)=>∃b,x=V.ref b/\H b=some (.tup [kV p.1,p.2])) xs ps/\ps.length<sizeLine/\∀d,H d=none->Q (.ref d) (upd H d (.dK (gE [] ps)))
theorem CC {X:Cx}{pins:List ↑14}{σ:St}{H:Hp}{s:Shared}{l:Addr}{Q:VK}(hh:X.A.handled=none)(I:aF X pins σ H s)(hP:JL l H Q){E:Value->Shared->Prop}:
 wpAny ↑8 X.A (call (.type "dict") [.ref l]) (EP X pins σ Q) E s:=by
 obtain ⟨xs,ps,hl,hp,hz,q⟩:=hP;rwa[callType_codes (Q₁:=λobj s₁=>obj= .ref s.heap.objs.size/\s₁= {s with heap:=s.heap.push {cls:= .type "dict",data:= .dict #[]}}) PySem.F.kt_called_dict (PySem.F.kt_typeCall_dict_1 _) PySem.F.entry_dict_init (kt_code_dict_new _ ⟨rfl,rfl⟩) ?_];rintro obj s₁ ⟨rfl,rfl⟩;generalize hd:s.heap.objs.size=dd
 have nd:H dd=none:=by rw [<-hd];exact I.hok.fresh ↑13
 have hnew:(s.heap.push {cls:= .type "dict",data:= .dict #[]}).DictOf (cG X.prog X.w) dd []:=by rw [<-hd];exact Heap.DictOf.new s.heap
 have I1:aF X pins σ (upd H dd (.dK [])) {s with heap:=s.heap.push {cls:= .type "dict",data:= .dict #[]}}:=by
  have z:=I.laid (a:=s.heap.objs.size) (o:= .dK []) (t':=s.toks) (h':=s.heap.push {cls:= .type "dict",data:= .dict #[]}) (λb q hq=>Heap.get?_push_of_some _ hq) ↑13 (Aq (Nat.zero_le _) (beq_eq_false_iff_ne.mpr (Ne.symm (Nat.ne_of_lt I.big))) .nil (Heap.DictOf.new s.heap));rw [hd] at z;exact z
 rwa[⟨hnew.typeIs,PySem.F.args_dict_init_2 _ _,?_⟩];unfold Builtin.«dict.__init__»;rwa[wpAny_bind ?_];unfold Builtin.Dict.selfAndRest;rwa[wpAny_bind (wpAny_notOrdered_dict hnew.typeIs ?_)];show wpAny _ _ (pure (dd,[Value.ref l])) _ _ _;rwa[wpAny_pure ?_];show wpAny _ _ (Builtin.Dict.updateFrom "dict.__init__" dd (.ref l) [] .none) _ _ _;unfold Builtin.Dict.updateFrom
 have ldd:l≠dd:=λz=>by rw [z,nd] at hl;cases hl
 have hl1:upd H dd (.dK []) l=some (.lst xs):=by rw [ap ldd];exact hl
 obtain ⟨_,us,n,rus,hls⟩:=(show bE X.prog X.w _ _ l (.lst xs) from I1.hok l _ hl1);have hTl:({s with heap:=s.heap.push {cls:= .type "dict",data:= .dict #[]}}:Shared).TypeIs (.ref l) "list":=⟨_,hls,rfl⟩;rwa[wpAny_bind (wpAny_typeOf hTl ?_)];rw [if_pos ↑2];rwa[wpAny_bind (rT (by exact hh) hls λh' t' k=> ?_)];rw [if_pos (show (none:Option Value).isNone=true from rfl)];rwa[wpAny_bind (wpAny_rule ?_)];have I2:aF X pins σ (upd H dd (.dK [])) {s with heap:=h',toks:=t'}:=I1.kept (t':=t') k;obtain ⟨us2,rus2,hls2⟩:=jT I2 hl1;rwa[wpAny_bind (wpAny_pyIter_list hls2 ?_)]
 have I3:aF X ((h'.objs.size,{cls:= .type "list_iterator",data:= .fields #[.ref l,.int 0 0]})::pins) σ (upd H dd (.dK [])) {s with heap:=h'.push {cls:= .type "list_iterator",data:= .fields #[.ref l,.int 0 0]},toks:=t'}:=
  I2.pinNew (t':=t') (a:=h'.objs.size) ↑13 (λb u e=>Heap.get?_push_of_some _ e) (Heap.get?_push_size _ rfl) λv e=>by cases e
 rwa[wpAny_pure ⟨plainId_quiet PySem.F.plain_dul _,?_⟩];rwa[IZ (A:=X.A.in1) (xs:=xs) (l:=l) (It:=h'.objs.size) (dd:=dd) hh I2.sz (λp hp=>Nat.ne_of_lt (Heap.lt_size (I2.pin p hp).1)) _ 0 _ (upd H dd (.dK [])) [] ps _ _ rfl (Nat.zero_le _) I3 hl1 ⟨_,Heap.get?_push_size _ rfl,rfl,rfl⟩ ak ?_ ?_ ?_]
 ·exact Paired.imp' (λx p ⟨c,ec,hc⟩=>⟨c,ec,by rw [ap (λz=>by rw [z,nd] at hc;cases hc)];exact hc⟩) hp
 ·rw [List.length_nil,Nat.zero_add];exact hz
 ·intro s' I';rw [AF] at I';exact ⟨rfl,V.ref dd,_,I',rfl,q dd nd⟩
def Kk:List V->Hp->VK->Prop:=λxs H Q=>match xs with|[.ref l]=>JL l H Q|_=>False
theorem G0 {X:Cx}(hc:X.calm=true):bH X (.type "dict") Kk:=by
 intro pins s σ H xs us Q I r h
 match xs,h,r with
 |[.ref l],h,r=>
  cases r with
  |cons a t=>
   cases t;cases (show _=Value.ref l from a);exact CC (I.ok.hd hc) I h
open PySem.Calls PySem.W
def JD (K:Fg)(a:Addr)(c:V)(H:Hp)(Q:VK):Prop:=oQ K a c H Q\/∃xs cv b,aP K H a xs/\cV c=some cv/\W.kitOne K (.type "tuple") cv=some b/\Q (.bl b) H
def Nl (K:Fg):List V->Hp->VK->Prop:=λxs H Q=>match xs with
 |[.ref a,c]=>JD K a c H Q
 |xs=>Dl K xs H Q
theorem Mi {K:Fg}{H:Hp}{a:Addr}{c:V}{xs:List V}{cv:Value}{b:Bool}{Q:VK}(h:aP K H a xs)(h1:cV c=some cv)(h3:W.kitOne K (.type "tuple") cv=some b)(g:Q (.bl b) H):JD K a c H Q:= .inr ⟨xs,cv,b,h,h1,h3,g⟩
theorem GY {X:Cx}{K:Fg}(hK:X.K=K):bH X (.builtin "isinstance") (Nl K):=by
 intro pins s σ H xs us Q I r h;have old:Dl K xs H Q->wpAny ↑8 X.A (call (.builtin "isinstance") us) (EP X pins σ Q) X.xe s:=λh=>qp hK pins s σ H xs us Q I r h
 match xs,h with
 |[.ref a,c],h=>
  rcases h with h|⟨ys,cv,b,e,hc,hk,q⟩
  ·exact old h
  ·subst hK;obtain ⟨u,w',rfl,r1,r2⟩:=xE r;cases Gc hc r2;obtain rfl:u=Value.ref a:=r1;obtain ⟨its,_,p,_⟩:=I.tuple e;obtain ⟨o,h1,h2,_⟩:=p;exact W.kia_one W.kitx_tuple I.kIn ⟨o,h1,h2⟩ hk (λz=>nomatch z) λtk=>⟨.bl b,H,I.tok _,rfl,q⟩
 |[],h=>exact old h
 |[.non],h=>exact old h
 |[.bl _],h=>exact old h
 |[.int _],h=>exact old h
 |[.str _],h=>exact old h
 |[.byt _],h=>exact old h
 |[.flt _],h=>exact old h
 |[.ty _],h=>exact old h
 |[.ref _],h=>exact old h
 |[.non,c],h=>exact old h
 |[.bl _,c],h=>exact old h
 |[.int _,c],h=>exact old h
 |[.str _,c],h=>exact old h
 |[.byt _,c],h=>exact old h
 |[.flt _,c],h=>exact old h
 |[.ty _,c],h=>exact old h
 |x::y::z::r,h=>exact old (by cases x<;>exact h)
theorem lS.imp {P:Program}{w:World}{K:Frag}{mg:Str->Option Value}{base:Heap}{n m:Nat}{f:Addr}{sp sp':Sp}(c:lS P w K mg base n f sp)(hn:n<=m)(h:∀vs H Q E,sp' vs H Q E->sp vs H Q E):lS P w K mg base m f sp':=
 ⟨λA outer s H us vs Q E hr e0 r g=>c.run A outer s H us vs Q E (hr.mono hn) e0 r (h _ _ _ _ g),λvs H Q E hp g=>c.keep vs H Q E hp (h _ _ _ _ g)⟩
def NF (K:Frag)(x:Str)(st:Stmt)(f:Addr):Prop:=nsIn K mainGlobals x=some (some (.ref f))/\∃fd,bw K x x st f fd
def MF (K:Frag)(C:Addr)(x q:Str)(st:Stmt)(f:Addr):Prop:=Gr K C x f/\∃fd,bw K x q st f fd
theorem Oh {K:Frag}{x:Str}{st:Stmt}{f:Addr}{oc:Value}{od an:Option Addr}{osl:Array (Option Value)}{kV doc pm cdv ct:Value}(a:nsIn K mainGlobals x=some (some (.ref f)))(l:K.lookup f=some ⟨oc,od,.func (fnOf x x (cu st) (bK st) (ai st) .none kV doc pm an cdv ct),osl⟩)(c:codeIn K cdv x=true)(k:keepIn K (.ref f)=true):NF K x st f:=⟨a,_,wV l c k⟩
theorem Om {K:Frag}{C:Addr}{x q:Str}{st:Stmt}{f:Addr}{oc:Value}{od an:Option Addr}{osl:Array (Option Value)}{kV doc pm cdv ct:Value}(a:findIn K (.ref C) x=some (some (.ref f)))(l:K.lookup f=some ⟨oc,od,.func (fnOf x q (cu st) (bK st) (ai st) .none kV doc pm an cdv ct),osl⟩)(c:codeIn K cdv q=true)(k:keepIn K (.ref f)=true)(n:isFn K (.ref f)=true):MF K C x q st f:=⟨⟨a,n,k⟩,_,wV l c k⟩
structure pX (P:Program)(w:World)(K:Frag)(mg:Str->Option Value)(base:Heap)(h:Heap):Prop where
 X:K.In h
 G:h.Ns mainGlobals mg
def BA (x q:Str)(st:Stmt)(us:List Value)(ps:List Str):Prop:=∀(kV doc pm:Value) (an:Option Addr) (cdv ct:Value),bindArgs (fnOf x q (cu st) (bK st) (ai st) .none kV doc pm an cdv ct) ⟨us,[]⟩=pure (ps.zip us)
def MQ (x q:Str)(st:Stmt)(ps0:List Str):List Str->List Value->Prop
 |[],us=>BA x q st us ps0
 |_::ps,us=>∀a,MQ x q st ps0 ps (us++[a])
def BN (x q:Str)(st:Stmt)(ps:List Str):Prop:=MQ x q st ps ps []
theorem MQ.all {x q:Str}{st:Stmt}{ps0:List Str}:∀ {ps:List Str} {us vs:List Value},MQ x q st ps0 ps us->vs.length=ps.length->BA x q st (us++vs) ps0
 |[],us,[],h,_=>by rw [List.append_nil];exact h
 |_::ps,us,v::vs,h,hl=>by
  have z:=MQ.all (h v) (Nat.succ.inj hl);rw [List.append_assoc] at z;exact z
theorem BN.all {x q:Str}{st:Stmt}{ps:List Str}(h:BN x q st ps)(us:List Value)(hl:us.length=ps.length):BA x q st us ps:=MQ.all (us:=[]) h hl
section
variable {P:Program}{w:World}{K:Frag}{mg:Str->Option Value}{base h:Heap}{x q:Str}{st:Stmt}{f C:Addr}{fd:FuncData}{ps:List Str}{n:Nat}{sp:Sp}
theorem bw.bn (F:bw K x q st f fd)(b:BN x q st ps):fm K fd ps []:=F.binds λkV doc pm an cdv ct us hl=>b.all us hl kV doc pm an cdv ct
theorem pX.gl (T:pX P w K mg base h){v:Value}(a:nsIn K mainGlobals x=some (some v)):mg x=some v:=mg_of T.X T.G a
theorem pX.no (T:pX P w K mg base h)(a:nsIn K mainGlobals x=some none):mg x=none:=mg_none_of T.X T.G a
theorem pX.ok {CX:nJ}(T:pX P w K mg base h)(o:aD P w K mg base CX n f fd ps sp):aD P w K mg base CX n f fd ps sp:=o
theorem pX.cal (T:pX P w K mg base h)(a:nsIn K mainGlobals x=some (some (.ref f)))(F:bw K x x st f fd)(o:aD P w K mg base br n f fd ps sp)(b:BN x x st ps:=by (repeat intro _);rfl):bp P w K mg base n x ps sp:=⟨_,_,o,F.bn b,F.kp,T.gl a⟩
theorem pX.calX (T:pX P w K mg base h)(a:nsIn K mainGlobals x=some (some (.ref f)))(F:bw K x x st f fd)(o:aD P w K mg base (j4 P w) n f fd ps sp)(b:BN x x st ps:=by (repeat intro _);rfl):p9 P w K mg base n x ps sp:=⟨_,_,o,F.bn b,F.kp,T.gl a⟩
theorem Qr {CX:nJ}(F:bw K x q st f fd)(c:ut K C)(m:Gr K C x f)(o:aD P w K mg base CX n f fd ps sp)(b:BN x q st ps:=by (repeat intro _);rfl):iN P w K mg base CX n x C sp:=⟨_,_,_,c,m,o,F.bn b⟩
theorem pX.mkc {CX:nJ}{y:Str}(T:pX P w K mg base h)(F:bw K x q st f fd)(m:Mk K C f)(g:mg y=some (.ref C))(o:aD P w K mg base CX n f fd ps sp)(b:BN x q st ps:=by (repeat intro _);rfl):jJ P w K mg base CX n y C sp:=⟨_,_,_,m,o,F.bn b,g⟩
theorem pX.xmk {y fld:Str}(T:pX P w K mg base h)(F:bw K x q st f fd)(m:XI K C f)(g:mg y=some (.ref C))(o:aD P w K mg base br n f fd ps (zc C fld))(b:BN x q st ps:=by (repeat intro _);rfl):ML P w K mg base n y C fld:=⟨_,_,_,m,o,F.bn b,g⟩
theorem pX.cal' (T:pX P w K mg base h)(a:NF K x st f)(o:∀ {fd},bw K x x st f fd->aD P w K mg base br n f fd ps sp)(b:BN x x st ps:=by (repeat intro _);rfl):bp P w K mg base n x ps sp:=let ⟨a,_,F⟩:=a;T.cal a F (o F) b
theorem pX.calX' (T:pX P w K mg base h)(a:NF K x st f)(o:∀ {fd},bw K x x st f fd->aD P w K mg base (j4 P w) n f fd ps sp)(b:BN x x st ps:=by (repeat intro _);rfl):p9 P w K mg base n x ps sp:=let ⟨a,_,F⟩:=a;T.calX a F (o F) b
theorem pX.mcal' {D:Addr}{CX:nJ}(T:pX P w K mg base h)(a:MF K D x q st f)(c:ut K C)(m:Gr K C x f)(o:∀ {fd},bw K x q st f fd->aD P w K mg base CX n f fd ps sp)(b:BN x q st ps:=by (repeat intro _);rfl):iN P w K mg base CX n x C sp:=let ⟨_,_,F⟩:=a;Qr F c m (o F) b
theorem pX.mkc' {D:Addr}{CX:nJ}{y:Str}(T:pX P w K mg base h)(a:MF K D x q st f)(m:Mk K C f)(g:mg y=some (.ref C))(o:∀ {fd},bw K x q st f fd->aD P w K mg base CX n f fd ps sp)(b:BN x q st ps:=by (repeat intro _);rfl):jJ P w K mg base CX n y C sp:=let ⟨_,_,F⟩:=a;T.mkc F m g (o F) b
theorem pX.xmk' {D:Addr}{y fld:Str}(T:pX P w K mg base h)(a:MF K D x q st f)(m:XI K C f)(g:mg y=some (.ref C))(o:∀ {fd},bw K x q st f fd->aD P w K mg base br n f fd ps (zc C fld))(b:BN x q st ps:=by (repeat intro _);rfl):ML P w K mg base n y C fld:=let ⟨_,_,F⟩:=a;T.xmk F m g (o F) b
theorem bw.law {y:Str}(F:bw K x q st f fd)(b:BN x q st [y]:=by (repeat intro _);rfl)(s:Shared)(v:Value):BindsTo s fd ⟨[v],[]⟩ [(y,v)]:=by
 obtain ⟨oc,od,kV,doc,pm,an,cdv,ct,osl,rfl,lk,hcd⟩:=F.ex;exact .of_eq (b v kV doc pm an cdv ct)
end
theorem Q8 {p:Prop}(h:p):p:=h
end L2
namespace My
open PySem L2 PyProof.Rows
theorem Ji (a b:Nat):Builtin.bitAnd (a:Int) (b:Int)=((a&&&b:Nat):Int):=by
 unfold Builtin.bitAnd;simp
theorem Lh (a b:Nat):Builtin.bitOr (a:Int) (b:Int)=((a|||b:Nat):Int):=by
 unfold Builtin.bitOr Builtin.bitAnd Builtin.bitNot
 have h1: ¬(0:Int)<= -(a:Int) - 1:=by omega
 have h2: ¬(0:Int)<= -(b:Int) - 1:=by omega
 simp only [h1,h2,decide_false]
 have e1:(-(-(a:Int) - 1) - 1).toNat=a:=by omega
 have e2:(-(-(b:Int) - 1) - 1).toNat=b:=by omega
 rw [e1,e2];omega
theorem testBit_and (M k:Nat):decide (M&&&2^k=0)= !M.testBit k:=by
 have e:(M&&&2^k).testBit k=M.testBit k:=by rw [Nat.testBit_and,Nat.testBit_two_pow_self,Bool.and_true]
 cases h:M.testBit k with
 |true=>
  rw [h] at e;rwa[decide_eq_false λz=> ?_];rw [z] at e;simp at e
 |false=>
  rwa[decide_eq_true (Nat.eq_of_testBit_eq λi=> ?_)];rw [Nat.testBit_and,Nat.zero_testBit];by_cases hi:k=i
  ·subst hi;rw [h];rfl
  ·rw [Nat.testBit_two_pow_of_ne hi,Bool.and_false]
def kt (M n:Nat):List Nat:=(List.range n).filter λi=>M.testBit i
theorem lO (M n:Nat):kt M (n+1)=kt M n++if M.testBit n then [n] else []:=by
 unfold kt;rw [List.range_succ,List.filter_append];congr 1;cases h:M.testBit n<;>simp [h]
theorem uJ {M n i:Nat}:i∈kt M n↔i<n/\M.testBit i=true:=by
 unfold kt;rw [List.mem_filter,List.mem_range]
def L (M:Nat):Nat:=Builtin.Int.intBits (M:Int)
theorem Gs (M:Nat):L M=if M=0 then 0 else M.log2+1:=by
 unfold L Builtin.Int.intBits;by_cases h:M=0
 ·subst h;rfl
 ·have:((M:Int)==0)=false:=beq_eq_false_iff_ne.mpr ↑6;rw [this,if_neg h];simp
theorem OW (M:Nat):M<2^L M:=by
 rw [Gs];split
 ·rename_i h;subst h;decide
 ·exact Nat.lt_log2_self
theorem OX {M n:Nat}(h:M<2^n):L M<=n:=by
 rw [Gs];split
 ·omega
 ·rename_i h0;have:=(Nat.log2_lt h0).mpr h;omega
theorem AG {M:Nat}(h:M≠0):M.testBit (L M - 1)=true:=by
 rw [Gs,if_neg h];have h1:=Nat.log2_self_le h;have h2:=Nat.lt_log2_self (n:=M);rw [Nat.add_sub_cancel,Nat.testBit_eq_decide_div_mod_eq];rwa[decide_eq_true ?_]
 have e:M / 2^M.log2=1:=by
  rwa[Nat.div_eq_of_lt_le ↑6 ?_];rw [Nat.pow_succ] at h2;omega
 rw [e]
def ka (M:Nat):List Nat:=kt M (L M)
theorem mV {M i:Nat}:i∈ka M↔M.testBit i=true:=by
 unfold ka;rw [uJ];rwa[⟨λh=>h.2,λh=>⟨?_,h⟩⟩];rwa[Nat.lt_of_not_le λhle=> ?_];have:=Nat.testBit_lt_two_pow (Nat.lt_of_lt_of_le (OW M) (Nat.pow_le_pow_right ↑2 hle));rw [this] at h;cases h
theorem Bi {M n i:Nat}(h:M<2^n)(hi:i∈ka M):i<n:=by
 have:=(uJ.mp hi).1;have:=OX h;omega
theorem CP {M:Nat}(h:M≠0):∃l,ka M=l++[L M - 1]:=by
 have hL:L M=(L M - 1)+1:=by
  have:=Gs M;rw [if_neg h] at this;omega
 rwa[⟨kt M (L M - 1),?_⟩]
 have e:ka M=kt M ((L M - 1)+1):=by rw [<-hL];rfl
 rw [e,lO,AG h];rfl
theorem Ge {M:Nat}:ka M=[]↔M=0:=by
 constructor
 ·intro h;rwa[Classical.byContradiction λhM=> ?_];obtain ⟨l,e⟩:=CP hM;rw [h] at e;simp at e
 ·rintro rfl;rfl
def pJ (ks:List Nat):Nat:=ks.foldl (λacc k=>acc|||2^k) 0
theorem rE:∀(ks:List Nat) (acc i:Nat),(ks.foldl (λacc k=>acc|||2^k) acc).testBit i=(acc.testBit i||decide (i∈ks))
 |[],acc,i=>by simp
 |k::ks,acc,i=>by
  rw [List.foldl_cons,rE ks,Nat.testBit_or];by_cases h:k=i
  ·subst h;simp [Nat.testBit_two_pow_self]
  ·rw [Nat.testBit_two_pow_of_ne h];have h': ¬i=k:=λz=>h z.symm;simp [h']
end My
namespace My
open PySem L2 PyProof.Rows
def lk (fl:Nat):List Nat->Nat->Nat->Option Nat
 |[],_,lo=>some lo
 |k::ks,last,lo=>if last<k/\k<fl then lk fl ks k (lo+2^k) else none
structure iC where
 start:Int
 room:Int
 turns:Int
 kind:Str
def iC.ok (fl:Int)(l:iC):Bool:=decide (0<=l.start/\l.start<fl/\1<=l.room/\l.room<=6/\1<=l.turns/\l.turns<=4/\(l.kind=Str.ofString "plain"\/l.kind=Str.ofString "hasty"\/l.kind=Str.ofString "slow"))
def GL (fl:Int)(ls:List iC)(lo:Int)(so:Str):Bool:=decide (2<=fl/\fl<=8)&&decide (1<=ls.length/\ls.length<=3)&&ls.all (iC.ok fl)&&decide (0<=lo/\lo<2^fl.toNat/\lo% 2=0)&&decide (so=Str.ofString "free"\/so=Str.ofString "way")
theorem wz {fl:Int}{ls:List iC}{lo:Int}{so:Str}:GL fl ls lo so=true↔(2<=fl/\fl<=8)/\(1<=ls.length/\ls.length<=3)/\ls.all (iC.ok fl)=true/\(0<=lo/\lo<2^fl.toNat/\lo% 2=0)/\(so=Str.ofString "free"\/so=Str.ofString "way"):=by
 unfold GL;simp only [Bool.and_eq_true,decide_eq_true_eq,and_assoc]
end My
namespace My
open PySem L2 PyProof.Rows
def KO (bs:List Bool)(first:Int):Nat->Nat->Int
 |_,0=> -1
 |k,r+1=>if bs.getD ((first+k)% bs.length).toNat false=true then (first+k)% bs.length else KO bs first (k+1) r
def sf (bs:List Bool)(first:Int):Int:=KO bs first 0 bs.length
structure nE where
 pl:Int
 li:Int
 dr:Int
 mr:Int
 ab:List (Int×Int)
def nE.d (c:nE):D:= .tup [.int c.pl,.int c.li,.int c.dr,.int c.mr,.tup (c.ab.map λq=> .tup [.int q.1,.int q.2])]
def nE.srv (c:nE):Bool:=decide (c.mr=0)
structure Rd where
 t:Int
 s:Int
 g:Int
 l:Int
def Rd.d (r:Rd):D:= .tup [.int r.t,.int r.s,.int r.g,.int r.l]
end My
namespace L2
open PySem PySem.Spec PyProof.Rows
def j5 (bs:List Bool)(n:Nat):List Nat:=(List.range n).filter λi=>bs.getD i false
abbrev srv (bs:List Bool):List Nat:=j5 bs bs.length
theorem Bx {bs:List Bool}{n:Nat}:j5 bs (n+1)=j5 bs n++(if bs.getD n false=true then [n] else []):=by
 unfold j5;rw [List.range_succ,List.filter_append];congr 1;simp only [List.filter_cons,List.filter_nil]
theorem xQ {bs:List Bool}{n:Nat}:(j5 bs n).length<=n:=by
 unfold j5;rwa[Nat.le_trans (List.length_filter_le _ _) ?_];rw [List.length_range];exact Nat.le_refl _
theorem qc {bs:List Bool}{j:Nat}:j∈srv bs↔j<bs.length/\bs.getD j false=true:=by
 unfold srv j5;rw [List.mem_filter,List.mem_range]
theorem KJ {bs:List Bool}{i i' j j':Nat}(h:(srv bs)[i]? =some j)(h':(srv bs)[i']? =some j')(hj:j<j'):i<i':=by
 have pw:(srv bs).Pairwise (· < ·):=List.Pairwise.filter _ List.pairwise_lt_range;obtain ⟨l,e⟩:=List.getElem?_eq_some_iff.mp h;obtain ⟨l',e'⟩:=List.getElem?_eq_some_iff.mp h';have:=List.pairwise_iff_getElem.mp pw
 rcases Nat.lt_trichotomy i i' with z|z|z
 ·exact z
 ·subst z;rw [e] at e';omega
 ·have:=this i' i l' l z;rw [e,e'] at this;omega
def O3 (bs:List Bool)(ws:Nat->Int)(n:Nat)(r:Int):Prop:=(r= -1/\∀j,j<n->bs.getD j false=false)\/∃i:Nat,r=i/\i<n/\bs.getD i false=true/\∀j,j<n->bs.getD j false=true->ws i<=ws j/\(j<i->ws i<ws j)
abbrev fg (bs:List Bool)(ws:Nat->Int)(r:Int):Prop:=O3 bs ws bs.length r
theorem fg.uniq {bs:List Bool}{ws:Nat->Int}{r r':Int}(h:fg bs ws r)(h':fg bs ws r'):r=r':=by
 rcases h with ⟨rfl,h⟩|⟨i,rfl,hi,bi,h⟩<;>rcases h' with ⟨rfl,h'⟩|⟨i',rfl,hi',bi',h'⟩
 ·rfl
 ·rw [h i' hi'] at bi';cases bi'
 ·rw [h' i hi] at bi;cases bi
 ·have a:=h i' hi' bi';have b:=h' i hi bi
  rcases Nat.lt_trichotomy i i' with z|z|z
  ·have:=b.2 z;omega
  ·rw [z]
  ·have:=a.2 z;omega
theorem xg {bs:List Bool}{ws:Nat->Int}(h:srv bs=[]):fg bs ws (-1):= .inl ⟨rfl,λj hj=>by
 cases z:bs.getD j false with
 |false=>rfl
 |true=>
  have:=qc.mpr ⟨hj,z⟩
  rw [h] at this;cases this⟩
theorem xf {bs:List Bool}{ws:Nat->Int}{i j:Nat}(hi:(srv bs)[i]? =some j)(hb:∀i',i'<(srv bs).length->ws ((srv bs).getD i 0)<=ws ((srv bs).getD i' 0)/\(i'<i->ws ((srv bs).getD i 0)<ws ((srv bs).getD i' 0))):fg bs ws (j:Int):=by
 have gi:(srv bs).getD i 0=j:=by rw [List.getD_eq_getElem?_getD,hi];rfl
 have mj:=qc.mp (List.mem_of_getElem? hi);rwa[.inr ⟨j,rfl,mj.1,mj.2,λk hk bk=> ?_⟩];obtain ⟨i',hi'⟩:=List.mem_iff_getElem?.mp (qc.mpr ⟨hk,bk⟩)
 have gi':(srv bs).getD i' 0=k:=by rw [List.getD_eq_getElem?_getD,hi'];rfl
 have:=hb i' (List.getElem?_eq_some_iff.mp hi').1;rw [gi,gi'] at this;exact ⟨this.1,λz=>this.2 (KJ hi' hi z)⟩
def OQ (i:Int):Int:=if i<0 then -i else i
end L2
namespace My
open PySem L2
def Lb (cs:List nE)(i:Nat):Int:=match cs[i]? with|some c=>c.pl|none=>0
def Mz (cs:List nE)(i:Nat):Nat:=match cs[i]? with|some c=>c.ab.length|none=>0
def uH (cs:List nE)(s:Int)(i:Nat):Int:=OQ (Lb cs i - 2*s)
def gh (cs:List nE)(ls:List Int)(i:Nat):Int:=(Mz cs i:Int)+(ls.count (i:Int):Nat)
end My
namespace My
open PySem L2 PyProof.Rows
abbrev d0:Str:=Str.ofString "0"
abbrev d1:Str:=Str.ofString "1"
abbrev d2:Str:=Str.ofString "2"
abbrev NE:Str:=Str.ofString "near"
abbrev Kz:Str:=Str.ofString "least"
abbrev Kv:Str:=Str.ofString "turns"
abbrev Ny:Str:=Str.ofString "zone"
abbrev KC:Str:=Str.ofString "fixed"
inductive Kd where
 |near
 |least
 |turns
 |zone (is:List Int)
 |fixed (is:List Int)
def Kd.nm:Kd->Str
 | .near=>NE
 | .least=>Kz
 | .turns=>Kv
 | .zone _=>Ny
 | .fixed _=>KC
def Kd.is:Kd->List Int
 | .zone is=>is
 | .fixed is=>is
 |_=>[]
def Kd.ok (fl:Int)(n:Nat):Kd->Prop
 | .zone is=>(is.length:Int)=fl/\∀i∈is,0<=i/\i<(n:Int)
 | .fixed is=>1<=is.length/\is.length<=9/\∀i∈is,0<=i/\i<(n:Int)
 |_=>True
end My
namespace L2
open PySem PySem.Spec PyProof.Rows
def aU (H H':Hp):Prop:=∀b o,(∀xs,o≠ .lst xs)->(∀C dx fs,o≠ .ins C dx fs)->H b=some o->H' b=some o
theorem aU.refl (H:Hp):aU H H:=λ_ _ _ _ e=>e
theorem aU.trans {H H1 H2:Hp}(a:aU H H1)(b:aU H1 H2):aU H H2:=λc o n1 n2 e=>b c o n1 n2 (a c o n1 n2 e)
theorem av.st {H H':Hp}(s:av H H'):aU H H':=λb o _ _ e=>s b o e
theorem aU.updL {H:Hp}{a:Addr}{xs:List V}{o:HO}(h:H a=some (.lst xs)):aU H (upd H a o):=λb u n1 _ e=>by
 rw [ap (λz=>by rw [z,h] at e;cases e;exact n1 _ rfl)];exact e
theorem aU.updI {H:Hp}{a C dx:Addr}{fs:List (Str×V)}{o:HO}(h:H a=some (.ins C dx fs)):aU H (upd H a o):=λb u _ n2 e=>by
 rw [ap (λz=>by rw [z,h] at e;cases e;exact n2 _ _ _ rfl)];exact e
theorem aU.tup {H H':Hp}(s:aU H H'){a:Addr}{xs:List V}(h:H a=some (.tup xs)):H' a=some (.tup xs):=s a _ ↑28 (λ_ _ _ z=>by cases z) h
theorem aU.sqT {K:Fg}{H H':Hp}(s:aU H H'){a:Addr}{xs:List V}(h:aP K H a xs):aP K H' a xs:=by
 rcases h with (h|⟨u,h⟩)|h
 ·exact .inl (.inl (s.tup h))
 ·exact .inl (.inr ⟨u,s _ _ ↑28 (λ_ _ _ z=>by cases z) h⟩)
 ·exact .inr h
theorem aU.den {K:Fg}{H H':Hp}(s:aU H H'){x:V}{d:D}(h:cm K H x d)(hn:L2.noL d=true):cm K H' x d:=by
 induction h with
 |non=>exact .non
 |bl b=>exact .bl b
 |int i=>exact .int i
 |str z=>exact .str z
 |lst h hl hi ih=>rw [L2.noL] at hn;cases hn
 |tup h hl hi ih=>
  rw [L2.noL] at hn;exact .tup (s.sqT h) hl λi x d h1 h2=>ih i x d h1 h2 (gy hn h2)
theorem aU.dens {K:Fg}{H H':Hp}(s:aU H H'){xs:List V}{ds:List D}(h:aN K H xs ds)(hn:noLs ds=true):aN K H' xs ds:=
 PySem.Paired.of h.len λi x d h1 h2=>by
  obtain ⟨e,h3,r⟩:=h.get1 h1;rw [h2] at h3;cases h3;exact s.den r (gy hn h2)
theorem none_of {H H':Hp}(s:av H H'){a:Addr}(h:H' a=none):H a=none:=by
 cases y:H a with
 |none=>rfl
 |some o=>rw [s _ _ y] at h;cases h
theorem E8 {a b:List D}(h1:noLs a=true)(h2:noLs b=true):noLs (a++b)=true:=by
 induction a with
 |nil=>exact h2
 |cons d a ih=>
  rw [noLs,Bool.and_eq_true] at h1;rw [List.cons_append,noLs,h1.1,ih h1.2];rfl
theorem rC {α β:Type}{R:α->β->Prop}{xs:List α}{ys:List β}{i:Nat}{x:α}{y:β}(h:Paired R xs ys)(r:R x y):Paired R (xs.set i x) (ys.set i y):=by
 have hl:=h.len;rwa[PySem.Paired.of (by simp [hl]) λj a b e1 e2=> ?_];by_cases hj:i=j
 ·subst hj
  have hi:i<xs.length:=by
   have:=(List.getElem?_eq_some_iff.mp e1).1;rwa [List.length_set] at this
  rw [List.getElem?_set_self hi] at e1;rw [List.getElem?_set_self ↑6] at e2;cases e1;cases e2;exact r
 ·rw [List.getElem?_set_ne hj] at e1 e2;obtain ⟨b',h2,z⟩:=h.get1 e1;rw [e2] at h2;cases h2;exact z
theorem bB.sqT {K:Fg}{H H':Hp}(s:bB H H'){a:Addr}{xs:List V}(h:aP K H a xs):aP K H' a xs:=by
 rcases h with (h|⟨u,h⟩)|h
 ·exact .inl (.inl (s _ _ ↑28 h))
 ·exact .inl (.inr ⟨u,s _ _ ↑28 h⟩)
 ·exact .inr h
theorem bB.sqL {K:Fg}{H H':Hp}(s:bB H H'){a:Addr}{xs:List V}(h:aS K H a xs):aS K H' a xs:=by
 rcases h with (h|⟨u,h⟩)|h
 ·exact .inl (.inl (s _ _ ↑28 h))
 ·exact .inl (.inr ⟨u,s _ _ ↑28 h⟩)
 ·exact .inr h
theorem bB.den {K:Fg}{H H':Hp}(s:bB H H'){x:V}{d:D}(h:cm K H x d):cm K H' x d:=by
 induction h with
 |non=>exact .non
 |bl b=>exact .bl b
 |int i=>exact .int i
 |str z=>exact .str z
 |lst h hl hi ih=>exact .lst (s.sqL h) hl ih
 |tup h hl hi ih=>exact .tup (s.sqT h) hl ih
theorem bB.dens {K:Fg}{H H':Hp}(s:bB H H'){xs:List V}{ds:List D}(h:aN K H xs ds):aN K H' xs ds:=Paired.imp' (λ_ _ z=>s.den z) h
def d8 (H H':Hp):Prop:=∀b o,(∀xs,o≠ .lst xs)->(∀C dx fs,o≠ .ins C dx fs)->(∀ps,o≠ .tbl ps)->H b=some o->H' b=some o
theorem d8.refl (H:Hp):d8 H H:=λ_ _ _ _ _ e=>e
theorem d8.trans {H H1 H2:Hp}(a:d8 H H1)(b:d8 H1 H2):d8 H H2:=λc o n1 n2 n3 e=>b c o n1 n2 n3 (a c o n1 n2 n3 e)
theorem aU.sx {H H':Hp}(s:aU H H'):d8 H H':=λb o n1 n2 _ e=>s b o n1 n2 e
theorem bB.sx {H H':Hp}(s:bB H H'):d8 H H':=λb o _ _ n3 e=>s b o n3 e
theorem d8.sqT {K:Fg}{H H':Hp}(s:d8 H H'){a:Addr}{xs:List V}(h:aP K H a xs):aP K H' a xs:=by
 rcases h with (h|⟨u,h⟩)|h
 ·exact .inl (.inl (s _ _ ↑28 (λ_ _ _ z=>by cases z) ↑28 h))
 ·exact .inl (.inr ⟨u,s _ _ ↑28 (λ_ _ _ z=>by cases z) ↑28 h⟩)
 ·exact .inr h
theorem d8.den {K:Fg}{H H':Hp}(s:d8 H H'){x:V}{d:D}(h:cm K H x d)(hn:L2.noL d=true):cm K H' x d:=by
 induction h with
 |non=>exact .non
 |bl b=>exact .bl b
 |int i=>exact .int i
 |str z=>exact .str z
 |lst h hl hi ih=>rw [L2.noL] at hn;cases hn
 |tup h hl hi ih=>
  rw [L2.noL] at hn;exact .tup (s.sqT h) hl λi x d h1 h2=>ih i x d h1 h2 (gy hn h2)
def GT (G:Hp->Prop):Prop:=∀H H',aU H H'->G H->G H'
def NT (H:Hp):Prop:=∀b ps,H b≠some (.tbl ps)
def yX (H:Hp):Hp:=λb=>match H b with|some (.tbl _)=>none|o=>o
theorem E5 (H:Hp):NT (yX H):=λb ps h=>by
 unfold yX at h;split at h
 ·cases h
 ·rename_i x hx;rw [h] at hx;exact hx _ rfl
theorem rG (H:Hp):av (yX H) H:=λb o h=>by
 unfold yX at h;split at h
 ·cases h
 ·exact h
theorem rH {H:Hp}{b:Addr}{o:HO}(h:H b=some o)(n:∀ps,o≠ .tbl ps):yX H b=some o:=by
 unfold yX;rw [h]
 cases o<;>first|rfl|exact absurd rfl (n _)
theorem E6 (H:Hp):bB H (yX H):=λ_ _ n h=>rH h n
theorem LO {H H':Hp}(s:av (yX H) H'):bB H H':=λb o n h=>s _ _ (rH h n)
theorem bB.onto {H0 H H':Hp}(nt:NT H0)(s:av H0 H)(s':bB H H'):av H0 H':=λb o h=>s' b o (λps z=>nt b ps (by rw [h,z])) (s b o h)
theorem mU {H:Hp}{b:Addr}(h:H b=none):yX H b=none:=by unfold yX;rw [h]
theorem dP.st {H H':Hp}{P:Addr}{q:Str}(s:aU H H')(t:dP H P q):dP H' P q:=by
 obtain ⟨ps,h1,h2,h3⟩:=t;rwa[⟨ps,s _ _ ↑28 (λ_ _ _ z=>by cases z) h1,h2,λpos cv hc=> ?_⟩];obtain ⟨c',e,h⟩:=h3 pos cv hc;exact ⟨c',e,s _ _ ↑28 (λ_ _ _ z=>by cases z) h⟩
end L2
namespace My
open PySem L2 PyProof.Rows
seal PE PT PS uq PA PI PG Gq GM PW PO dD MM bH CZ yP JR Gp
seal uO iZ mx vJ Jd qD lC qB AN A3 Jg Jk yr Bt yw setL Br Al uj tK CS GK pH FI Ha yC
seal F7 oQ Af L2.pN L2.putAt L2.wD gz IU Mq IH Pa Je Jh Dx
def top (i:Nat):Stmt:=PySem.Challenge.pw_liftcourt_k60_choices.main.body.getD i (.Pass ⟨0,0,0,0⟩)
abbrev KZ:Stmt:=top 1
theorem NO:am ["k"] ["k"] (ai KZ):=↑0
abbrev KY:Stmt:=top 2
theorem NN:am ["mask","k"] ["mask","k"] (ai KY):=↑0
abbrev qO:Stmt:=top 3
theorem BD:am ["mask","k"] ["mask","k"] (ai qO):=↑0
abbrev qM:Stmt:=top 4
theorem BC:am ["mask","k"] ["mask","k"] (ai qM):=↑0
abbrev zH:Stmt:=top 5
theorem Hu:am ["mask","k"] ["mask","k"] (ai zH):=↑0
abbrev zI:Stmt:=top 6
theorem Hv:am ["mask","k"] ["mask","k"] (ai zI):=↑0
abbrev vW:Stmt:=top 7
theorem my:am ["numbers","mask","k"] ["numbers"] (ai vW):=↑0
abbrev vY:Stmt:=top 8
theorem D2:am ["mask"] ["mask"] (ai vY):=↑0
abbrev vX:Stmt:=top 9
theorem x6:am ["mask","numbers"] ["mask"] (ai vX):=↑0
abbrev q9:Stmt:=top 10
theorem BJ:am ["mask"] ["mask"] (ai q9):=↑0
abbrev rf:Stmt:=top 12
theorem BO:am ["lift"] ["lift"] (ai rf):=↑0
abbrev rb:Stmt:=top 13
theorem BK:am ["cabin"] ["cabin"] (ai rb):=↑0
abbrev hZ:Stmt:=top 14
theorem t6:am ["cabin"] ["cabin"] (ai hZ):=↑0
abbrev zC:Stmt:=top 15
theorem Hr:am ["start","goal"] ["start","goal"] (ai zC):=↑0
abbrev qQ:Stmt:=top 16
theorem uB:am ["room","cabin","riders","goals"] ["room","cabin","riders"] (ai qQ):=↑0
abbrev lr:Stmt:=top 17
theorem pI:am ["floor","light","riders","ways"] ["floor","light","riders"] (ai lr):=↑0
abbrev v6:Stmt:=top 18
theorem qJ:am ["sort","cabin","tasks","riders","floor","light"] ["sort","cabin","tasks","riders"] (ai v6):=↑0
abbrev Ec:Stmt:=top 19
theorem kP:am ["sort","room","cabin","riders","floor","tasks","next_up","next_down","up","down"] ["sort","room","cabin","riders"] (ai Ec):=↑0
abbrev vR:Stmt:=top 20
theorem qE:am ["sort","cabin","word","goals","light"] ["sort","cabin","word"] (ai vR):=↑0
abbrev rh:Stmt:=top 21
theorem BP:am ["floors","cabin","word"] ["floors","cabin","word"] (ai rh):=↑0
abbrev g9:Stmt:=top 22
theorem tU:am ["cabin","place","light","door"] ["cabin","place","light","door"] (ai g9):=↑0
abbrev qR:Stmt:=top 23
theorem gv:am ["sort","floors","turns","cabin","word","place","light","door","done"] ["sort","floors","turns","cabin","word"] (ai qR):=↑0
abbrev lh:Stmt:=top 24
theorem xZ:am ["sort","light","start","goal"] ["sort","light","start","goal"] (ai lh):=↑0
abbrev lv:Stmt:=top 25
theorem bN:am ["sort","room","cabin","riders","floor","light","outs","ins","aboard","tag","start","goal","lift"] ["sort","room","cabin","riders"] (ai lv):=↑0
abbrev lm:Stmt:=top 43
theorem x8:am ["cabin"] ["cabin"] (ai lm):=↑0
abbrev qT:Stmt:=top 44
theorem BG:am ["cabins"] ["cabins"] (ai qT):=↑0
abbrev hU:Stmt:=top 45
theorem eF:am ["cabins","first","many","step","lift"] ["cabins","first"] (ai hU):=↑0
abbrev fj:Stmt:=top 46
theorem DZ:am ["cabins","waiting","rider","last","place"] ["cabins","waiting","rider","last"] (ai fj):=↑0
abbrev du:Stmt:=top 47
theorem vM:am ["cabins","waiting","rider","last","dealt","fewest"] ["cabins","waiting","rider","last"] (ai du):=↑0
abbrev rg:Stmt:=top 48
theorem uE:am ["cabins","waiting","rider","last","lift"] ["cabins","waiting","rider","last"] (ai rg):=↑0
abbrev AQ:Stmt:=top 49
abbrev yd:Stmt:=top 50
abbrev qU:Stmt:=top 51
abbrev oF:Stmt:=top 52
theorem kU:am ["text","house","words","lifts"] ["text","house"] (ai oF):=↑0
abbrev k9:Stmt:=top 54
theorem xY:am ["house","floor"] ["house","floor"] (ai k9):=↑0
abbrev on:Stmt:=top 55
theorem zw:am ["house","lift"] ["house","lift"] (ai on):=↑0
abbrev om:Stmt:=top 56
theorem zv:am ["house","start","goal"] ["house","start","goal"] (ai om):=↑0
abbrev oo:Stmt:=top 57
theorem zx:am ["house","deed"] ["house","deed"] (ai oo):=↑0
abbrev v7:Stmt:=top 62
theorem D6:am ["kind","turns"] ["kind","turns"] (ai v7):=↑0
abbrev oA:Stmt:=top 71
theorem zz:am ["floors","start","room","turns","kind"] ["floors","start","room","turns","kind"] (ai oA):=↑0
abbrev lu:Stmt:=top 72
theorem ya:am ["floors","lifts"] ["floors","lifts"] (ai lu):=↑0
abbrev jb:Stmt:=top 73
theorem vP:am ["floors","locked"] ["floors","locked"] (ai jb):=↑0
abbrev lj:Stmt:=top 74
theorem x5:am ["floors","lifts","locked","sort"] ["floors","lifts","locked","sort"] (ai lj):=↑0
abbrev vV:Stmt:=top 75
theorem DY:am ["house","lift"] ["house","lift"] (ai vV):=↑0
abbrev qP:Stmt:=top 76
theorem BE:am ["house","lift"] ["house","lift"] (ai qP):=↑0
abbrev v4:Stmt:=top 77
theorem D4:am ["house","lift"] ["house","lift"] (ai v4):=↑0
abbrev qS:Stmt:=top 82
theorem BF:am ["moment"] ["moment"] (ai qS):=↑0
abbrev vS:Stmt:=top 83
theorem fA:am ["state","tags","place","light","door","marks","aboard"] ["state"] (ai vS):=↑0
abbrev le:Stmt:=top 84
theorem i7:am ["house","state","deeds","taken","deed"] ["house","state","deeds"] (ai le):=↑0
abbrev wa:Stmt:=top 85
theorem D8:am ["moment","tag","start","goal","key"] ["moment","tag","start","goal","key"] (ai wa):=↑0
abbrev rc:Stmt:=top 86
theorem BL:am ["rider","lift"] ["rider","lift"] (ai rc):=↑0
abbrev kW:Stmt:=top 87
theorem xU:am ["cabin","marks"] ["cabin","marks"] (ai kW):=↑0
abbrev qV:Stmt:=top 88
theorem uC:am ["moment","lift","mark","cabin"] ["moment","lift","mark"] (ai qV):=↑0
abbrev oq:Stmt:=top 89
theorem qH:am ["moment","lift","mark","cabin"] ["moment","lift","mark"] (ai oq):=↑0
abbrev v8:Stmt:=top 90
theorem D7:am ["moment"] ["moment"] (ai v8):=↑0
abbrev v5:Stmt:=top 91
theorem D5:am ["cabin"] ["cabin"] (ai v5):=↑0
abbrev wb:Stmt:=top 92
theorem D9:am ["moment"] ["moment"] (ai wb):=↑0
abbrev v9:Stmt:=top 93
theorem yb:am ["moment","deed","name"] ["moment","deed"] (ai v9):=↑0
abbrev AR:Stmt:=top 94
theorem Ea:am ["moment","dealer","place","rider","told"] ["moment","dealer","place","rider"] (ai AR):=↑0
abbrev mI:Stmt:=top 95
theorem nZ:am ["moment","dealer","place","rider"] ["moment","dealer"] (ai mI):=↑0
abbrev ou:Stmt:=top 96
theorem qI:am ["moment","word","tags","lift","floor"] ["moment","word","tags","lift"] (ai ou):=↑0
abbrev k7:Stmt:=top 97
theorem i6:am ["moment","lift","cabin","outs"] ["moment","lift"] (ai k7):=↑0
abbrev oy:Stmt:=top 98
theorem kQ:am ["moment","lift","cabin","count"] ["moment","lift"] (ai oy):=↑0
abbrev oB:Stmt:=top 99
theorem cU:am ["moment","lift","riders","house","told","cabin","outs","ins","door","count"] ["moment","lift","riders"] (ai oB):=↑0
abbrev oz:Stmt:=top 100
theorem g8:am ["moment","rule","lift","riders","house","cabin","word"] ["moment","rule","lift","riders"] (ai oz):=↑0
abbrev fB:Stmt:=top 101
theorem eS:am ["moment","rule","lift","cabin","riders"] ["moment","rule","lift"] (ai fB):=↑0
abbrev Qg:Stmt:=top 102
theorem Qf:am ["moment","rule","lift"] ["moment","rule","lift"] (ai Qg):=↑0
abbrev qW:Stmt:=top 106
theorem BH:am ["state","kind"] ["state","kind"] (ai qW):=↑0
abbrev re:Stmt:=top 107
theorem BM:am ["state","kinds"] ["state","kinds"] (ai re):=↑0
abbrev KS:Stmt:=top 108
theorem Jx:am ["court","kinds","state","choice","deeds"] ["court","kinds","state","choice"] (ai KS):=↑0
abbrev zD:Stmt:=top 113
theorem Ht:am ["light","here","up","down"] ["light","here","up","down"] (ai zD):=↑0
abbrev qY:Stmt:=top 114
theorem BI:am ["here","up","down"] ["here","up","down"] (ai qY):=↑0
abbrev oh:Stmt:=top 115
theorem qF:am ["top","floor","light","here","at_end"] ["top","floor","light","here"] (ai oh):=↑0
abbrev gf:Stmt:=top 116
theorem qG:am ["light","here","up","down"] ["light","here","up","down"] (ai gf):=↑0
abbrev vT:Stmt:=top 117
theorem DW:am ["place"] ["place"] (ai vT):=↑0
abbrev rn:Stmt:=top 123
theorem BQ:am ["rule"] ["rule"] (ai rn):=↑0
abbrev vU:Stmt:=top 124
theorem DX:am ["text","floors"] ["text","floors"] (ai vU):=↑0
abbrev zG:Stmt:=top 126
theorem vO:am ["_law_script","_law_k","_law_many","_law_cell"] ["_law_script","_law_k","_law_many"] (ai zG):=↑0
abbrev zF:Stmt:=top 127
theorem jR:am ["_law_script","_law_floors","_law_way","_law_letters","_law_at"] ["_law_script","_law_floors"] (ai zF):=↑0
abbrev v3:Stmt:=top 128
theorem eL:am ["_law_script","_law_floors","_law_lifts","_law_k","_law_door","_law_room","_law_locked"] ["_law_script"] (ai v3):=↑0
abbrev qZ:Stmt:=top 129
theorem jS:am ["_law_state","_law_kind","_law_tags","_law_cabin"] ["_law_state","_law_kind"] (ai qZ):=↑0
abbrev ow:Stmt:=top 130
theorem zy:am ["_law_state","_law_kinds_here"] ["_law_state","_law_kinds_here"] (ai ow):=↑0
abbrev vZ:Stmt:=top 131
theorem D3:am ["_law_thing"] ["_law_thing"] (ai vZ):=↑0
abbrev v0:Stmt:=top 132
theorem mE:am ["_law_script","_law_floors","_law_kinds_here","_law_k","_law_start"] ["_law_script","_law_floors"] (ai v0):=↑0
abbrev zE:Stmt:=top 133
theorem mz:am ["_law_state","_law_kinds_here","_law_due","_law_told_here","_law_kind","_law_found"] ["_law_state","_law_kinds_here"] (ai zE):=↑0
abbrev q8:Stmt:=top 134
theorem uD:am ["_law_court","_law_kinds_here","_law_state","_law_choice","_law_deeds"] ["_law_court","_law_kinds_here","_law_state","_law_choice"] (ai q8):=↑0
abbrev KU:Stmt:=top 135
theorem iI:am ["_law_script","_law_house_here","_law_dealer","_law_court","_law_kinds_here","_law_handed","_law_state","_law_k","_law_some","_law_choice","_law_other"] ["_law_script"] (ai KU):=↑0
abbrev hV:Stmt:=d7 (top 32) 0
theorem tY:am ["self","floor"] ["self","floor"] (ai hV):=↑0
abbrev i8:Stmt:=d7 (top 33) 0
theorem vK:am ["self","lift"] ["self","lift"] (ai i8):=↑0
abbrev kY:Stmt:=d7 (top 34) 0
theorem xV:am ["self","tag"] ["self","tag"] (ai kY):=↑0
abbrev oE:Stmt:=d7 (top 59) 0
theorem zB:am ["self","turns"] ["self","turns"] (ai oE):=↑0
abbrev oC:Stmt:=d7 (top 59) 1
theorem zA:am ["self","count","blocked","stepped"] ["self","count","blocked","stepped"] (ai oC):=↑0
abbrev lq:Stmt:=d7 (top 60) 0
theorem x9:am ["self","count","blocked","stepped"] ["self","count","blocked","stepped"] (ai lq):=↑0
abbrev og:Stmt:=d7 (top 61) 0
theorem zt:am ["self","count","blocked","stepped"] ["self","count","blocked","stepped"] (ai og):=↑0
abbrev i9:Stmt:=d7 (top 81) 0
theorem vL:am ["self","house","state"] ["self","house","state"] (ai i9):=↑0
abbrev lx:Stmt:=d7 (top 103) 0
theorem yc:am ["self","house","rule","dealer"] ["self","house","rule","dealer"] (ai lx):=↑0
abbrev jc:Stmt:=d7 (top 103) 1
theorem mG:am ["self","cabins"] ["self"] (ai jc):=↑0
abbrev ia:Stmt:=d7 (top 103) 2
theorem fX:am ["self","state","deeds","moment","deed","lift"] ["self","state","deeds"] (ai ia):=↑0
abbrev oj:Stmt:=d7 (top 118) 0
theorem zu:am ["self","seen"] ["self","seen"] (ai oj):=↑0
abbrev ja:Stmt:=d7 (top 119) 0
theorem mF:am ["self","seen","told"] ["self","seen"] (ai ja):=↑0
abbrev hX:Stmt:=d7 (top 120) 0
theorem tZ:am ["self","seen"] ["self","seen"] (ai hX):=↑0
abbrev hI:Stmt:=d7 (top 121) 0
theorem tW:am ["self","top"] ["self","top"] (ai hI):=↑0
abbrev hG:Stmt:=d7 (top 121) 1
theorem tV:am ["self","seen"] ["self","seen"] (ai hG):=↑0
abbrev k6:Stmt:=d7 (top 122) 0
theorem xX:am ["self","letters"] ["self","letters"] (ai k6):=↑0
abbrev kZ:Stmt:=d7 (top 122) 1
theorem xW:am ["self","seen"] ["self","seen"] (ai kZ):=↑0
section
variable {P:Program}{w:World}{K:Fg}{mg:Str->Option Value}{base:Heap}{f:Addr}{fd:FuncData}
theorem CT {n:Nat}(h:n<1000000):n<sizeLine:=by rw [sizeLine_eq];omega
inductive qz (K:Fg)(vs:List V)(H:Hp)(Q:VK)(_e:XK):Prop
 |mk (a ns k many:_) (_:vs=[.ref a,.int k,.int many]) (_:CW K H a ns) (_:0<=k) (_:k<100000) (_:0<many) (_:∀i:Int,0<=i->i<many->Q (.int i) H)
theorem Qo (F:bw K "_law_draw" "_law_draw" zG f fd)(bj:mg "len"=none):aD P w K mg base br 1 f fd ["_law_script","_law_k","_law_many"] (qz K):=by
 rwa[F.ok vO ↑4 ↑1]
 ·obtain ⟨a,ns,k,many,rfl,_⟩:=h;rfl
 obtain ⟨a,ns,k,many,rfl,⟨hS,h63⟩,hk0,hk1,hm,q⟩:=h;have b31:tK 31 k:=sE ↑2 ↑2;have b31k:tK (31*k) k:=F0 ↑6 ↑6;rwa[⟨_,(ag (aA (i:=3) vO.nd rfl ↑7 aa) (mL (aI (ax iP (aG (cI (K:=K) rfl) rfl bj PySem.boot_len (ae (wv 0) ac)) aa (au _)) (af (aA (i:=3) vO.nd rfl ↑7 (aH iG (ao ↑3 (wv 0) (aH iG (wv 1) (aG (cI (K:=K) rfl) rfl bj PySem.boot_len (ae (wv 0) ac))) ↑5) aa))) aC) (af (aq (aH iG (aH iG (aH lZ (aH iG (aH lZ (aH ↑25 (wv 3) aa) (aH ↑25 (aH lZ (aH lZ aa (wv 1)) (wv 1)) aa)) aa) aa) aa) (wv 2)))))),?_⟩];rwa[FU (λσ H'=>H'=H/\∃i:Int,σ=[some (.ref a),some (.int k),some (.int many),some (.int i)]/\0<=i/\i<2147483629) ?_ ?_]
 ·ext;erw[eE hS ?_];rw [List.length_map];rwa[oR (λhl=> ?_) (λhl=> ?_)]
  ·have hl':0<ns.length:=by omega
   have h1:=Int.emod_nonneg k (show (ns.length:Int)≠0 by omega);have h2:=Int.emod_lt_of_pos k (show (0:Int)<ns.length by omega);ext;erw[eE hS ?_];rw [List.length_map];rwa[⟨hl,cg hS (Gi h1 h2) ⟨by decide,rfl,_,rfl,Int.emod_nonneg _ ↑2,Int.emod_lt_of_pos _ ↑2⟩⟩]
  ·exact ⟨rfl,_,rfl,by decide,by decide⟩
 ·rintro σ' H' ⟨rfl,i,rfl,h0,h1⟩;rwa[⟨b31,b31k,sE ↑6 ↑6,by decide,F0 ↑2 ↑2,by decide,hm,?_⟩];exact q _ (Int.emod_nonneg _ ↑6) (Int.emod_lt_of_pos _ hm)
inductive vq (vs:List V)(H:Hp)(Q:VK)(_e:XK):Prop
 |mk (i:Int) (_:vs=[.int i]) (_:Q (.bl true) H)
theorem Ez (F:bw K "_law_whole" "_law_whole" vZ f fd)(bO:mg "isinstance"=none)(LW:mg "int"=none)(uK:mg "bool"=none):aD P w K mg base br 1 f fd ["_law_thing"] vq:=by
 rwa[F.ok D3 ↑4 ↑1]
 ·obtain ⟨i,rfl,_⟩:=h;rfl
 obtain ⟨i,rfl,q⟩:=h;rwa[⟨_,(af (aq (gQ (aG (qp (K:=K) rfl) rfl bO boot_isinstance (ae (wv 0) (ae (mR (v:= .ty "int") rfl LW boot_int rfl) ac))) (ii (C9 (K:=K) rfl (aG (qp (K:=K) rfl) rfl bO boot_isinstance (ae (wv 0) (ae (mR (v:= .ty "bool") rfl uK boot_bool rfl) ac)))))))),?_⟩];rwa[⟨rfl,cO rfl ⟨rfl,q⟩⟩]
def vN (ks:List Nat):List V:=ks.map λk:Nat=>V.int (k:Int)
def N3:Option Nat->V
 |none=> .non
 |some n=> .int (n:Int)
theorem HH (n:Nat):(1:Int)*2^((n:Int)).toNat=((2^n:Nat):Int):=by rw [Int.toNat_natCast,Int.natCast_pow];simp
inductive iY (vs:List V)(H:Hp)(Q:VK)(_e:XK):Prop
 |mk (n:Nat) (_:vs=[.int (n:Int)]) (_:n<=1000) (_:Q (.int ((2^n:Nat):Int)) H)
theorem LL (F:bw K "bit" "bit" KZ f fd):aD P w K mg base br 1 f fd ["k"] iY:=by
 rwa[F.ok NO ↑4 ↑1]
 ·obtain ⟨i,rfl,_⟩:=h;rfl
 obtain ⟨n,rfl,hn,q⟩:=h;rwa[⟨_,(af (aq (aH Js aa (wv 0)))),?_⟩];rwa[⟨JM ↑6 ↑6 ↑2,?_⟩];rw [<-HH] at q;exact q
inductive d3 (vs:List V)(H:Hp)(Q:VK)(_e:XK):Prop
 |mk (M n:Nat) (_:vs=[.int (M:Int),.int (n:Int)]) (_:n<=1000) (_:Q (.bl (M.testBit n)) H)
theorem LD (F:bw K "has" "has" KY f fd)(lN:bp P w K mg base 1 "bit" ["k"] iY):aD P w K mg base br 2 f fd ["mask","k"] d3:=by
 rwa[F.ok NN ↑4 ↑1]
 ·obtain ⟨M,n,rfl,_⟩:=h;rfl
 obtain ⟨M,n,rfl,hn,q⟩:=h;rwa[⟨_,(af (aq (gQ (bX GZ (wv 1) aa (au _)) (ii (bX (gq (K:=K) rfl hr) (aH M7 (wv 0) (aj lN hr ↑2 rfl ↑19)) aa (au _)))))),?_⟩];erw[m3 ↑6 ?_];rwa[iY.mk _ rfl hn ?_];show Q (.bl (!decide (Builtin.bitAnd (M:Int) ((2^n:Nat):Int)=0))) H;rw [Ji]
 have e:decide (((M&&&2^n:Nat):Int)=0)= !M.testBit n:=by
  rw [<-testBit_and];exact decide_eq_decide.mpr ↑6
 rw [e,Bool.not_not];exact q
inductive gS (vs:List V)(H:Hp)(Q:VK)(_e:XK):Prop
 |mk (M n:Nat) (_:vs=[.int (M:Int),.int (n:Int)]) (_:n<=1000) (_:Q (.int ((M|||2^n:Nat):Int)) H)
theorem Ey (F:bw K "with_bit" "with_bit" qO f fd)(lN:bp P w K mg base 1 "bit" ["k"] iY):aD P w K mg base br 2 f fd ["mask","k"] gS:=by
 rwa[F.ok BD ↑4 ↑1]
 ·obtain ⟨M,n,rfl,_⟩:=h;rfl
 obtain ⟨M,n,rfl,hn,q⟩:=h;erw[⟨_,(af (aq (aH Ps (wv 0) (aj lN hr ↑2 rfl ↑19)))),?_⟩];rwa[iY.mk _ rfl hn ?_];rw [<-Lh] at q;exact q
inductive ms (vs:List V)(H:Hp)(Q:VK)(_e:XK):Prop
 |mk (M n:Nat) (_:vs=[.int (M:Int),.int (n:Int)]) (_:n<=1000) (_:Q (.int ((M% 2^n:Nat):Int)) H)
theorem E1 (F:bw K "below" "below" zH f fd)(lN:bp P w K mg base 1 "bit" ["k"] iY):aD P w K mg base br 2 f fd ["mask","k"] ms:=by
 rwa[F.ok Hu ↑4 ↑1]
 ·obtain ⟨M,n,rfl,_⟩:=h;rfl
 obtain ⟨M,n,rfl,hn,q⟩:=h;rwa[⟨_,(ag (aI (ax w_lt (wv 1) aa (au _)) (af (aq aa)) aC) (af (aq (aH iG (wv 0) (aj lN hr ↑2 rfl ↑19))))),?_⟩];erw[cP ↑6 ?_];rwa[iY.mk _ rfl hn ⟨?_,?_⟩]
 ·have:=Nat.two_pow_pos n;omega
 ·rw [Int.natCast_emod] at q;exact q
inductive vG (vs:List V)(H:Hp)(Q:VK)(_e:XK):Prop
 |mk (M n:Nat) (_:vs=[.int (M:Int),.int (n:Int)]) (_:n<1000) (_:Q (.int ((M - M% 2^(n+1):Nat):Int)) H)
theorem E4 (F:bw K "above" "above" zI f fd)(pA:bp P w K mg base 2 "below" ["mask","k"] ms):aD P w K mg base br 3 f fd ["mask","k"] vG:=by
 rwa[F.ok Hv ↑4 ↑1]
 ·obtain ⟨M,n,rfl,_⟩:=h;rfl
 obtain ⟨M,n,rfl,hn,q⟩:=h;erw[⟨_,(af (aq (aH eK (wv 0) (aj pA hr ↑2 rfl (ae (wv 0) (ae (aH ↑25 (wv 1) aa) ac)))))),?_⟩];rwa[ms.mk _ (n+1) rfl hn ?_]
 have e:((M - M% 2^(n+1):Nat):Int)=(M:Int) - ((M% 2^(n+1):Nat):Int):=by
  have:=Nat.mod_le M (2^(n+1));omega
 rw [e] at q;exact q
inductive mi (K:Fg)(vs:List V)(H:Hp)(Q:VK)(_e:XK):Prop
 |mk (p:Addr) (ks:List Nat) (_:vs=[.ref p]) (_:aS K H p (vN ks)) (_:(∀k∈ks,k<=1000)) (_:Q (.int (pJ ks:Int)) H)
theorem Ko {ks:List Nat}{i:Nat}{x:V}(h:(vN ks)[i]? =some x):∃k,ks[i]? =some k/\x=V.int (k:Int):=by
 unfold vN at h;rw [List.getElem?_map] at h
 cases e:ks[i]? with
 |none=>rw [e] at h;cases h
 |some k=>rw [e] at h;exact ⟨k,rfl,(Option.some.inj h).symm⟩
theorem Dn (ks:List Nat):(vN ks).length=ks.length:=List.length_map _
theorem B3 (F:bw K "mask_of" "mask_of" vW f fd)(c7:bp P w K mg base 2 "with_bit" ["mask","k"] gS):aD P w K mg base br 3 f fd ["numbers"] (mi K):=by
 rwa[F.ok my ↑4 ↑1]
 ·obtain ⟨p,ks,rfl,_⟩:=h;rfl
 obtain ⟨p,ks,rfl,hS,hk,q⟩:=h;erw[⟨_,(ag (aA (i:=1) my.nd rfl ↑7 aa) (ag (d9 PassesOwn.never rfl (bF (K:=K) rfl (wv 0)) (az (i:=2) my.nd rfl ↑7) (af (aA (i:=1) my.nd rfl ↑7 (aj c7 hr ↑2 rfl (ae (wv 1) (ae (wv 2) ac)))))) (af (aq (wv 1))))),?_⟩];rwa[dA hS ?_];rwa[jX (xs:=vN ks) (λi σ H'=>H'=H/\∃o,σ=[some (.ref p),some (.int (pJ (ks.take i):Int)),o]) ⟨rfl,_,by rfl⟩ (λi σ H' _ h=>by rw [h.1];exact hS) ?_ ?_]
 ·rintro i x σ H' hx ⟨rfl,o,rfl⟩;obtain ⟨k,hk',rfl⟩:=Ko hx;ext;rwa[gS.mk _ _ rfl (hk k (List.mem_of_getElem? hk')) ⟨rfl,some (.int (k:Int)),?_⟩]
  have e:pJ (ks.take (i+1))=pJ (ks.take i)|||2^k:=by
   unfold pJ;rw [List.take_add_one,hk',List.foldl_append];rfl
  rw [e];rfl
 ·rintro σ H' ⟨rfl,o,rfl⟩;rw [Dn,List.take_of_length_le ↑13];exact q
inductive zh (vs:List V)(H:Hp)(Q:VK)(_e:XK):Prop
 |mk (M:Nat) (_:vs=[.int (M:Int)]) (_:M<2^200) (_:∀p,H p=none->Q (.ref p) (upd H p (.lst (vN (ka M)))))
theorem B5 (F:bw K "listed" "listed" vY f fd)(bg:mg "range"=none)(ft:bp P w K mg base 2 "has" ["mask","k"] d3):aD P w K mg base br 3 f fd ["mask"] zh:=by
 rwa[F.ok D2 ↑4 ↑1]
 ·obtain ⟨M,rfl,_⟩:=h;rfl
 obtain ⟨M,rfl,hM,q⟩:=h;have hL:=OX hM;have hsl:=sizeLine_eq;rwa[⟨_,(af (aq (bG rfl (aK (N':=["k","mask"]) (pk:=[none,some 0]) (by kernel_rfl)) (cy rfl bg (ae (Dc (K:=K) rfl PySem.F.plainAttrs_int PySem.F.slot_int_bit_length PySem.F.type_int_bit_length Dh (wv 0)) ac)) (λC s H ex=>(az (i:=0) (show List.Nodup (["k","mask"]:List Str) by decide+kernel) rfl ↑7)) (λC s H ex=>(eI (bZ (K:=K) rfl (aj ft hr ↑2 rfl (ae (wv 1) (ae (wv 0) ac)))))) (λC s H ex=>(wv 0))))),?_⟩];rwa[⟨rfl,⟨by show -4611686018427387904<=((L M:Nat):Int);omega,by show ((L M:Nat):Int)<4611686018427387904;omega⟩,?_⟩];show uj (Jo 0 (L M)) _ _ _ _ _ _ _
 refine fL (λi ys H'=>H'=H/\ys=vN (kt M i)) ↑6 (λi ys H' p=>by
  rw [p.2,Dn];unfold kt;exact Nat.le_trans (List.length_filter_le _ _) ↑17) ⟨rfl,rfl⟩ ?_ ?_
 ·rintro i ys H' hi ⟨rfl,rfl⟩;erw[⟨Qe,?_⟩];show d3 [.int (M:Int),.int (0+(i:Int))] _ _ _;rw [Int.zero_add];rwa[d3.mk _ _ rfl ↑6 ?_];show if M.testBit i=true then _ else _
  cases h:M.testBit i with
  |true=>
   rw [if_pos rfl];rwa[⟨rfl,?_⟩];rw [lO,h];unfold vN;rw [List.map_append];rfl
  |false=>
   rw [if_neg Bool.false_ne_true];rwa[⟨rfl,?_⟩];rw [lO,h];simp
 ·rintro ys H' ⟨rfl,rfl⟩ p hp;exact q p hp
inductive qw (vs:List V)(H:Hp)(Q:VK)(_e:XK):Prop
 |mk (M:Nat) (_:vs=[.int (M:Int)]) (_:M<2^200) (_:∀H',av H H'->Q (N3 (ka M)[0]?) H')
theorem Eb {H:Hp}{p:Addr}(h:H p=none)(o:HO):av H (upd H p o):=λb u q=>by rw [ap (bC q h)];exact q
theorem B4 (F:bw K "lowest" "lowest" vX f fd)(xc:bp P w K mg base 3 "listed" ["mask"] zh):aD P w K mg base br 4 f fd ["mask"] qw:=by
 rwa[F.ok x6 ↑4 ↑1]
 ·obtain ⟨M,rfl,_⟩:=h;rfl
 obtain ⟨M,rfl,hM,q⟩:=h;erw[⟨_,(ag (aA (i:=1) x6.nd rfl ↑7 (aj xc hr ↑2 rfl (ae (wv 0) ac))) (af (aq (cL (bZ (K:=K) rfl (wv 1)) ↑12 wt)))),?_⟩];erw[zh.mk _ rfl hM λp hp=> ?_];have z:=q _ (Eb hp (.lst (vN (ka M))));rwa[Hq (aS.of ak) ?_]
 cases hb:ka M with
 |nil=>
  rw [hb] at z;exact bP rfl z
 |cons k ks=>
  rw [hb] at z;erw[cO rfl ?_];exact cg (aS.of ak) (gb (j:=0) (v:=V.int (k:Int)) rfl) z
inductive nV (vs:List V)(H:Hp)(Q:VK)(_e:XK):Prop
 |mk (M:Nat) (_:vs=[.int (M:Int)]) (_:Q (N3 (if M=0 then none else some (L M - 1))) H)
theorem zY (F:bw K "highest" "highest" q9 f fd):aD P w K mg base br 1 f fd ["mask"] nV:=by
 rwa[F.ok BJ ↑4 ↑1]
 ·obtain ⟨M,rfl,_⟩:=h;rfl
 obtain ⟨M,rfl,q⟩:=h;rwa[⟨_,(af (aq (cL (ax iP (wv 0) aa (au _)) (aH eK (Dc (K:=K) rfl PySem.F.plainAttrs_int PySem.F.slot_int_bit_length PySem.F.type_int_bit_length Dh (wv 0)) aa) wt))),?_⟩];rwa[oR (λh=> ?_) (λh=> ?_)]
 ·rwa[⟨rfl,?_⟩]
  have h0:M≠0:=by omega
  rw [if_neg h0] at q
  have e:((L M - 1:Nat):Int)=((L M:Nat):Int) - 1:=by
   have:=Gs M;rw [if_neg h0] at this;omega
  show Q (.int (((L M:Nat):Int) - 1)) H;rw [<-e];exact q
 ·have h0:M=0:=by omega
  rw [if_pos h0] at q;exact q
def cZ (p:Int×Int):D:= .tup [.int p.1,.int p.2]
def JO (pl li dr mk:Int)(ps:List (Int×Int)):List D:=[.int pl,.int li,.int dr,.int mk,.tup (ps.map cZ)]
inductive bW (K:Fg)(H:Hp)(t:Addr)(pl li dr mk:Int)(ps:List (Int×Int)):Prop
 |mk (b xs:_) (_:H t=some (.tup [.int pl,.int li,.int dr,.int mk,.ref b])) (_:H b=some (.tup xs)) (_:aN K H xs (ps.map cZ))
theorem bW.same {H H':Hp}{t:Addr}{pl li dr mk:Int}{ps:List (Int×Int)}(h:bW K H t pl li dr mk ps)(s:av H H'):bW K H' t pl li dr mk ps:=by
 obtain ⟨b,xs,e1,e2,d⟩:=h;exact ⟨b,xs,s.get e1,s.get e2,aN.same d s⟩
theorem bW.den {H:Hp}{t:Addr}{pl li dr mk:Int}{ps:List (Int×Int)}(h:bW K H t pl li dr mk ps):cm K H (.ref t) (.tup (JO pl li dr mk ps)):=by
 obtain ⟨b,xs,e1,e2,d⟩:=h;exact gF (aP.of e1) (.cons (.int _) (.cons (.int _) (.cons (.int _) (.cons (.int _) (.cons (gF (aP.of e2) d) .nil)))))
theorem KH:5<=sizeLine:=by rw [sizeLine_eq];omega
def cB (so:Str)(pl li:Int)(ps:List (Int×Int))(wd:Str):Str:=
 if so=Str.ofString "free"\/ps=[] then wd else if ps.any (λp=>decide (2*p.2=pl))=true then Str.ofString "o" else if wd=Str.ofString "x" then Str.ofString "o" else
 if (wd=Str.ofString "u"/\li<0)\/(wd=Str.ofString "d"/\0<li) then Str.ofString "s" else wd
def eR:List Str:=[Str.ofString "o",Str.ofString "x",Str.ofString "u",Str.ofString "d",Str.ofString "s"]
theorem Oz {x:Str}(h:x∈eR):x=Str.ofString "o"\/x=Str.ofString "x"\/x=Str.ofString "u"\/x=Str.ofString "d"\/x=Str.ofString "s":=by
 simpa [eR] using h
theorem pF {so:Str}{pl li:Int}{ps:List (Int×Int)}{wd:Str}(h:wd∈eR):cB so pl li ps wd∈eR:=by
 unfold cB;split
 ·exact h
 split
 ·exact .head _
 split
 ·exact .head _
 split
 ·exact .tail _ (.tail _ (.tail _ (.tail _ (.head _))))
 ·exact h
def fJ (fl tu pl li dr:Int)(ps:List (Int×Int))(x:Str):Int×Int×Int:=
 if x=Str.ofString "o" then (pl,li,tu) else if x=Str.ofString "x" then (pl,0,tu) else if x=Str.ofString "u"/\pl / 2<fl - 1 then (pl+1,1,dr) else if x=Str.ofString "d"/\0<pl then (pl - 1,-1,dr) else (pl,if ps=[] then 0 else li,dr)
section
variable {fl tu pl li dr:Int}{ps:List (Int×Int)}
theorem JH:fJ fl tu pl li dr ps (Str.ofString "o")=(pl,li,tu):=if_pos rfl
theorem JG:fJ fl tu pl li dr ps (Str.ofString "x")=(pl,0,tu):=by unfold fJ;rw [if_neg ↑2,if_pos rfl]
theorem FN (h:pl / 2<fl - 1):fJ fl tu pl li dr ps (Str.ofString "u")=(pl+1,1,dr):=by unfold fJ;rw [if_neg ↑2,if_neg ↑2,if_pos ⟨rfl,h⟩]
theorem Ao (h: ¬pl / 2<fl - 1):fJ fl tu pl li dr ps (Str.ofString "u")=(pl,if ps=[] then 0 else li,dr):=by unfold fJ;rw [if_neg ↑2,if_neg ↑2,if_neg (λz=>h z.2),if_neg (λz=>absurd z.1 ↑2)]
theorem FP (h:0<pl):fJ fl tu pl li dr ps (Str.ofString "d")=(pl - 1,-1,dr):=by unfold fJ;rw [if_neg ↑2,if_neg ↑2,if_neg (λz=>absurd z.1 ↑2),if_pos ⟨rfl,h⟩]
theorem Ap (h: ¬0<pl):fJ fl tu pl li dr ps (Str.ofString "d")=(pl,if ps=[] then 0 else li,dr):=by unfold fJ;rw [if_neg ↑2,if_neg ↑2,if_neg (λz=>absurd z.1 ↑2),if_neg (λz=>h z.2)]
theorem FO:fJ fl tu pl li dr ps (Str.ofString "s")=(pl,if ps=[] then 0 else li,dr):=by unfold fJ;rw [if_neg ↑2,if_neg ↑2,if_neg (λz=>absurd z.1 ↑2),if_neg (λz=>absurd z.1 ↑2)]
end
def qk (ps:List (Int×Int)):Prop:=ps.length<=100/\∀p∈ps,0<=p.2/\p.2<100
theorem uW (ps:List (Int×Int)):deps (ps.map cZ)<=1:=by
 induction ps with
 |nil=>decide
 |cons p ps ih=>show max (oX (cZ p)) (deps (ps.map cZ))<=1;exact Nat.max_le.mpr ⟨(by show max 0 (max 0 0)+1<=1;omega),ih⟩
inductive cN (K:Fg)(vs:List V)(H:Hp)(Q:VK)(_e:XK):Prop
 |mk (c pl li dr mk ps:_) (_:vs=[.ref c]) (_:bW K H c pl li dr mk ps) (_:Q (.int (pl / 2)) H)
theorem ET (F:bw K "floor_of" "floor_of" rb f fd):aD P w K mg base br 1 f fd ["cabin"] (cN K):=by
 rwa[F.ok BK ↑4 ↑1]
 ·obtain ⟨c,pl,li,dr,mk,ps,rfl,_⟩:=h;rfl
 obtain ⟨c,pl,li,dr,mk,ps,rfl,hc,q⟩:=h;obtain ⟨b,xs,ec,eb,dx⟩:=id hc;rwa[⟨_,(af (aq (aH vk ↑16 aa))),?_⟩];left;exact q
def eh (ps:List (Int×Int)):List V:=ps.map λp=>V.int p.2
inductive gU (K:Fg)(vs:List V)(H:Hp)(Q:VK)(_e:XK):Prop
 |mk (c pl li dr mk ps:_) (_:vs=[.ref c]) (_:bW K H c pl li dr mk ps) (_:ps.length<=100) (_:∀p H',av H H'->H p=none->H' p=some (.lst (eh ps))->Q (.ref p) H')
theorem ES (F:bw K "goals_aboard" "goals_aboard" hZ f fd):aD P w K mg base br 1 f fd ["cabin"] (gU K):=by
 rwa[F.ok t6 ↑4 ↑1]
 ·obtain ⟨c,pl,li,dr,mk,ps,rfl,_⟩:=h;rfl
 obtain ⟨c,pl,li,dr,mk,ps,rfl,hc,hl,q⟩:=h;obtain ⟨b,xs,ec,eb,dx⟩:=id hc;have hx:=aL dx;rwa[⟨_,(af (aq (bG rfl (aK (N':=["tag","goal"]) (pk:=[none,none]) (by kernel_rfl)) (bF (K:=K) rfl ↑16) (λC s H ex=>(dE (K:=K) (n:=2) rfl rfl (aE (az (i:=0) (show List.Nodup (["tag","goal"]:List Str) by decide+kernel) rfl ↑7) (aE (az (i:=1) (show List.Nodup (["tag","goal"]:List Str) by decide+kernel) rfl ↑7) cA)))) (λC s H ex=>b5) (λC s H ex=>(wv 1))))),?_⟩];left;rwa[dW (by walk_at "l3sq") ?_];rwa[cJ (xs:=xs) (λi ys H'=>H'=H/\ys=(eh ps).take i) (bx ↑6) (λi ys H' p=>by rw [p.2,List.length_take];exact Nat.min_le_left _ _) ⟨rfl,rfl⟩ (λi ys H' _ p=>by rw [p.1];exact aP.of eb) (λi x ys H' hxi p=> ?_) (λys H' p l2 n2=> ?_)]
 ·obtain ⟨rfl,rfl⟩:=p;obtain ⟨pr,hpr,dp⟩:=bJ dx hxi;obtain ⟨u,us,rfl,hu,dus⟩:=dp.outT
  cases dus with|cons q0 t0=>cases t0 with|cons q1 t1=>
  cases t1;cases q0.isInt;cases q1.isInt;left;rwa[⟨gt,?_⟩];left;rwa[⟨rfl,?_⟩];rw [List.take_succ];congr 1;unfold eh;rw [List.getElem?_map,hpr];rfl
 ·obtain ⟨rfl,rfl⟩:=p;rwa[q l2 _ (.upd n2) n2 ?_];rw [ak,List.take_of_length_le (by unfold eh;rw [List.length_map];omega)]
structure bq where
 tag:Int
 start:Int
 goal:Int
 lift:Int
def bq.d (r:bq):D:= .tup [.int r.tag,.int r.start,.int r.goal,.int r.lift]
def MD (rs:List bq):Prop:=rs.length<=64/\∀r∈rs,r.start≠r.goal
theorem ib (rs:List bq):noLs (rs.map bq.d)=true:=by
 induction rs with
 |nil=>rfl
 |cons r rs ih=>rw [List.map_cons,noLs,ih];rfl
theorem fu (ps:List (Int×Int)):noLs (ps.map cZ)=true:=by
 induction ps with
 |nil=>rfl
 |cons r rs ih=>rw [List.map_cons,noLs,ih];rfl
theorem av.updF {H0 H1:Hp}{o:Addr}{x:HO}(s:av H0 H1)(h:H0 o=none):av H0 (upd H1 o x):=λb u z=>by
 rw [ap (λe=>by rw [e,h] at z;cases z)];exact s b u z
def vi (s g:Int):Int:=if s<g then 1 else -1
inductive qt (vs:List V)(H:Hp)(Q:VK)(_e:XK):Prop
 |mk (s g:Int) (_:vs=[.int s,.int g]) (_:Q (.int (vi s g)) H)
theorem Lr (F:bw K "way_of" "way_of" zC f fd):aD P w K mg base br 1 f fd ["start","goal"] qt:=by
 rwa[F.ok Hr ↑4 ↑1]
 ·obtain ⟨s,g,rfl,_⟩:=h;rfl
 obtain ⟨s,g,rfl,q⟩:=h;rwa[⟨_,(af (aq (cL (ax iP (wv 1) (wv 0) (au _)) aa (mP lY aa)))),?_⟩];unfold vi at q;by_cases h:s<g
 ·rw [if_pos h] at q;left;exact q
 ·rw [if_neg h] at q;left;exact q
def tk (room:Int)(ps:List (Int×Int))(rs:List bq)(f:Int):Bool:=ps.any (λp=>decide (p.2=f))||(decide ((ps.length:Int)<room)&&rs.any (λr=>decide (r.start=f)))
def yR (t:Int->Bool)(f u:Int):Prop:=(u=0/\∀j:Int,1<=j->j<=7->t (f+j)=false)\/(1<=u/\u<=7/\t (f+u)=true/\∀j:Int,1<=j->j<u->t (f+j)=false)
def yS (t:Int->Bool)(f d:Int):Prop:=(d=0/\∀j:Int,1<=j->j<=7->j<=f->t (f - j)=false)\/(1<=d/\d<=7/\d<=f/\t (f - d)=true/\∀j:Int,1<=j->j<d->t (f - j)=false)
theorem yR.uniq {t:Int->Bool}{f u v:Int}(h:yR t f u)(k:yR t f v):u=v:=by
 rcases h with ⟨h1,h2⟩|⟨h1,h2,h3,h4⟩<;>rcases k with ⟨k1,k2⟩|⟨k1,k2,k3,k4⟩
 ·omega
 ·rw [h2 v k1 k2] at k3;cases k3
 ·rw [k2 u h1 h2] at h3;cases h3
 ·rcases Int.lt_trichotomy u v with l|l|l
  ·rw [k4 u h1 l] at h3;cases h3
  ·exact l
  ·rw [h4 v k1 l] at k3;cases k3
theorem yS.uniq {t:Int->Bool}{f u v:Int}(h:yS t f u)(k:yS t f v):u=v:=by
 rcases h with ⟨h1,h2⟩|⟨h1,h2,h5,h3,h4⟩<;>rcases k with ⟨k1,k2⟩|⟨k1,k2,k5,k3,k4⟩
 ·omega
 ·rw [h2 v k1 k2 k5] at k3;cases k3
 ·rw [k2 u h1 h2 h5] at h3;cases h3
 ·rcases Int.lt_trichotomy u v with l|l|l
  ·rw [k4 u h1 l] at h3;cases h3
  ·exact l
  ·rw [h4 v k1 l] at k3;cases k3
def JQ (ps:List (Int×Int))(f:Int):Bool:=ps.any λp=>decide (p.2=f)
def Jl (rs:List bq)(f li:Int):Bool:=rs.any λr=>decide (r.start=f)&&decide (vi r.start r.goal=li)
def iJ (so:Str)(li:Int)(t0 ab al:Bool):Int:=if t0=false then 0 else if so=Str.ofString "free"\/li=0 then 2 else if ab=true\/al=true then 2 else 1
def Pe (ps:List (Int×Int))(rs:List bq):Prop:=(∀p∈ps,0<=p.2/\p.2<8)/\(∀r∈rs,0<=r.start/\r.start<8)/\ps.length<=64/\rs.length<=64
theorem oJ (ks:List Nat)(i:Nat):(pJ ks).testBit i=decide (i∈ks):=by
 unfold pJ;rw [rE];simp
theorem yj {ks:List Nat}(h:∀k∈ks,k<8):pJ ks<2^8:=Nat.lt_pow_two_of_testBit _ λi hi=>by
 rw [oJ]
 exact decide_eq_false λz=>by have:=h i z;omega
theorem Fu {ps:List (Int×Int)}(h:∀p∈ps,0<=p.2/\p.2<8):eh ps=vN (ps.map λp=>p.2.toNat):=by
 unfold eh vN;rw [List.map_map];rwa[List.map_congr_left λp hp=> ?_];show V.int p.2=V.int ((p.2.toNat:Nat):Int);rw [Int.toNat_of_nonneg (h p hp).1]
def dS (rs:List bq):List V:=rs.map λr=>V.int r.start
theorem Bv {rs:List bq}(h:∀r∈rs,0<=r.start/\r.start<8):dS rs=vN (rs.map λr=>r.start.toNat):=by
 unfold dS vN;rw [List.map_map];rwa[List.map_congr_left λp hp=> ?_];show V.int p.start=V.int ((p.start.toNat:Nat):Int);rw [Int.toNat_of_nonneg (h p hp).1]
theorem uI {ps:List (Int×Int)}(h:∀p∈ps,0<=p.2/\p.2<8)(i:Nat):decide (i∈ps.map λp=>p.2.toNat)=ps.any λp=>decide (p.2=(i:Int)):=by
 rw [Bool.eq_iff_iff,decide_eq_true_eq,List.mem_map,List.any_eq_true];constructor
 ·rintro ⟨p,hp,e⟩;exact ⟨p,hp,decide_eq_true (by have:=h p hp;omega)⟩
 ·rintro ⟨p,hp,e⟩;exact ⟨p,hp,by have:=of_decide_eq_true e;omega⟩
theorem z6 {rs:List bq}(h:∀r∈rs,0<=r.start/\r.start<8)(i:Nat):decide (i∈rs.map λr=>r.start.toNat)=rs.any λr=>decide (r.start=(i:Int)):=by
 rw [Bool.eq_iff_iff,decide_eq_true_eq,List.mem_map,List.any_eq_true];constructor
 ·rintro ⟨p,hp,e⟩;exact ⟨p,hp,decide_eq_true (by have:=h p hp;omega)⟩
 ·rintro ⟨p,hp,e⟩;exact ⟨p,hp,by have:=of_decide_eq_true e;omega⟩
theorem oS (ps:List (Int×Int)):(eh ps).length=ps.length:=by unfold eh;rw [List.length_map]
inductive vt (K:Fg)(vs:List V)(H:Hp)(Q:VK)(_e:XK):Prop
 |mk (room c p pl li dr mk ps xs:_) (rs:List bq) (_:vs=[.int room,.ref c,.ref p]) (_:bW K H c pl li dr mk ps) (_:H p=some (.lst xs)) (_:aN K H xs (rs.map bq.d)) (_:Pe ps rs) (_:∀(M:Nat) H',av H H'->(∀i:Nat,M.testBit i=tk room ps rs i)->M<2^8->Q (.int (M:Int)) H')
theorem ED (F:bw K "tasks_of" "tasks_of" qQ f fd)(bj:mg "len"=none)(bL:bp P w K mg base 1 "goals_aboard" ["cabin"] (gU K))(nj:bp P w K mg base 3 "mask_of" ["numbers"] (mi K)):aD P w K mg base br 4 f fd ["room","cabin","riders"] (vt K):=by
 rwa[F.ok uB ↑4 ↑1]
 ·obtain ⟨room,c,p,pl,li,dr,mk,ps,xs,rs,rfl,_⟩:=h;rfl
 obtain ⟨room,c,p,pl,li,dr,mk,ps,xs,rs,rfl,hc,ep,dp,hf,q⟩:=h;have xl:=aL dp;have l20:=hf.2.2.2;have g20:=hf.2.2.1;rwa[⟨_,(ag (aA (i:=3) uB.nd rfl ↑7 (aj bL hr ↑2 rfl ↑19)) (ag (aI (ax GZ (aG (cI (K:=K) rfl) rfl bj PySem.boot_len (ae (wv 3) ac)) (wv 0) (au _)) (af (aq (aj nj hr ↑2 rfl (ae (wv 3) ac)))) aC) (af (aq (aj nj hr ↑2 rfl (ae (aH ↑25 (wv 3) (bG rfl (aK (N':=["tag","start","goal","lift"]) (pk:=[none,none,none,none]) (by kernel_rfl)) (bF (K:=K) rfl (wv 2)) ↑18 (λC s H ex=>b5) (λC s H ex=>(wv 1)))) ac)))))),?_⟩];left;rwa[gU.mk _ _ _ _ _ _ rfl hc ↑6 λg H1 s1 n1 e1=> ?_];have ev:=Fu hf.1;left;rw [oS];rwa[oR (λh1=> ?_) (λh1=> ?_)]
 ·left
  refine mi.mk _ (ps.map λp=>p.2.toNat) rfl (aS.of (by rw [<-ev];exact e1)) (λk hk=>by
   obtain ⟨p,hp,rfl⟩:=List.mem_map.mp hk
   have:=hf.1 p hp;omega) ?_
  refine q _ H1 s1 (λi=> ?_) (yj λk hk=>by
   obtain ⟨p,hp,rfl⟩:=List.mem_map.mp hk
   have:=hf.1 p hp;omega)
  rw [oJ,uI hf.1];unfold tk;rw [decide_eq_false (show ¬(ps.length:Int)<room by omega),Bool.false_and,Bool.or_false]
 ·left;rwa[dA (by walk_at "l3sq") ?_];rwa[b6 (xs:=xs) (λi ys H'=>H'=H1/\ys=(dS rs).take i) (bx ↑6) (λi ys H' p=>by rw [p.2,List.length_take];exact Nat.min_le_left _ _) ⟨rfl,rfl⟩ (λi ys H' _ p=>by rw [p.1];exact s1.seq (aS.of ep)) (λi x ys H' hxi p=> ?_) (λys H' p l2 n2=> ?_)]
  ·obtain ⟨rfl,rfl⟩:=p;obtain ⟨r,hr',dr'⟩:=bJ dp hxi;obtain ⟨u,us,rfl,hu,dus⟩:=dr'.outT
   cases dus with|cons q0 r0=>cases r0 with|cons q1 r1=>cases r1 with|cons q2 r2=>cases r2 with|cons q3 r3=>
   cases r3;cases q0.isInt;cases q1.isInt;cases q2.isInt;cases q3.isInt;left;rwa[⟨iU,?_⟩];left;rwa[⟨rfl,?_⟩];rw [List.take_succ];congr 1;unfold dS;rw [List.getElem?_map,hr'];rfl
  ·obtain ⟨rfl,rfl⟩:=p
   have e2:upd H' l2 (.lst ((dS rs).take xs.length)) l2=some (.lst (dS rs)):=by rw [ak,List.take_of_length_le (by unfold dS;rw [List.length_map];omega)]
   have s2:av H' (upd H' l2 (.lst ((dS rs).take xs.length))):= .upd n2;generalize upd H' l2 (.lst ((dS rs).take xs.length))=H2 at e2 s2 ⊢
   have sl:(dS rs).length=rs.length:=by unfold dS;rw [List.length_map]
   ext;erw[Bf (s2.get e1) e2 (bx (by rw [oS,sl];omega)) λl3 H3 s3 n3 e3=> ?_];have ev2:=Bv hf.2.1
   refine mi.mk _ ((ps.map λp=>p.2.toNat)++rs.map λr=>r.start.toNat) rfl (aS.of (by rw [e3,ev,ev2];unfold vN;rw [List.map_append])) (λk hk=>by
    rcases List.mem_append.mp hk with hk|hk
    ·obtain ⟨p,hp,rfl⟩:=List.mem_map.mp hk;have:=hf.1 p hp;omega
    ·obtain ⟨p,hp,rfl⟩:=List.mem_map.mp hk
     have:=hf.2.1 p hp;omega) ?_
   refine q _ H3 ((s1.trans s2).trans s3) (λi=> ?_) (yj λk hk=>by
    rcases List.mem_append.mp hk with hk|hk
    ·obtain ⟨p,hp,rfl⟩:=List.mem_map.mp hk;have:=hf.1 p hp;omega
    ·obtain ⟨p,hp,rfl⟩:=List.mem_map.mp hk
     have:=hf.2.1 p hp;omega)
   rw [oJ];unfold tk;rw [decide_eq_true (show (ps.length:Int)<room by omega),Bool.true_and,<-uI hf.1,<-z6 hf.2.1,<-Bool.decide_or];exact decide_eq_decide.mpr List.mem_append
inductive vF (K:Fg)(vs:List V)(H:Hp)(Q:VK)(_e:XK):Prop
 |mk (f li p xs:_) (rs:List bq) (_:vs=[.int f,.int li,.ref p]) (_:H p=some (.lst xs)) (_:aN K H xs (rs.map bq.d)) (_:rs.length<=64) (_:∀H',av H H'->Q (.bl (Jl rs f li)) H')
def iO (rs:List bq)(f:Int):List V:=(rs.filter λr=>decide (r.start=f)).map λr=>V.int (vi r.start r.goal)
theorem IP {rs:List bq}{f li:Int}:uN (.int li) (iO rs f)=Jl rs f li:=by
 unfold uN iO Jl;rw [List.any_map,List.any_filter];rfl
theorem E3 (F:bw K "goes_along" "goes_along" lr f fd)(fq:bp P w K mg base 1 "way_of" ["start","goal"] qt):aD P w K mg base br 2 f fd ["floor","light","riders"] (vF K):=by
 rwa[F.ok pI ↑4 ↑1]
 ·obtain ⟨f,li,p,xs,rs,rfl,_⟩:=h;rfl
 obtain ⟨f,li,p,xs,rs,rfl,ep,dp,l20,q⟩:=h;have xl:=aL dp;erw[⟨_,(ag (jM (i:=3) rfl pI.nd rfl ↑7 (aK (N':=["tag","start","goal","lift","floor"]) (pk:=[none,none,none,none,some 0]) (by kernel_rfl)) (bF (K:=K) rfl (wv 2)) (λC s H ex=>(dE (K:=K) (n:=4) rfl rfl (aE (az (i:=0) (show List.Nodup (["tag","start","goal","lift","floor"]:List Str) by decide+kernel) rfl ↑7) (aE (az (i:=1) (show List.Nodup (["tag","start","goal","lift","floor"]:List Str) by decide+kernel) rfl ↑7) (aE (az (i:=2) (show List.Nodup (["tag","start","goal","lift","floor"]:List Str) by decide+kernel) rfl ↑7) (aE (az (i:=3) (show List.Nodup (["tag","start","goal","lift","floor"]:List Str) by decide+kernel) rfl ↑7) cA)))))) (λC s H ex=>(eI (ax ↑10 (wv 1) (wv 4) (au _)))) (λC s H ex=>(aj fq hr ↑2 rfl (ae (wv 1) (ae (wv 2) ac))))) (af (aq (bX (Bq (K:=K) rfl) (wv 1) (wv 3) (by with_unfolding_all rfl))))),?_⟩];rwa[dA (aS.of ep) ?_]
 refine b6 (xs:=xs) (λi ys H'=>H'=H/\ys=iO (rs.take i) f) (bx ↑6) (λi ys H' p=>by
  rw [p.2];unfold iO;rw [List.length_map];have:=List.length_filter_le (λr:bq=>decide (r.start=f)) (rs.take i);rw [List.length_take] at this;omega) ⟨rfl,rfl⟩ (λi ys H' _ p=>by rw [p.1];exact aS.of ep) (λi x ys H' hxi p=> ?_) (λys H' p l2 n2=> ?_)
 ·obtain ⟨rfl,rfl⟩:=p;obtain ⟨r,hr',dr'⟩:=bJ dp hxi;obtain ⟨u,us,rfl,hu,dus⟩:=dr'.outT
  cases dus with|cons q0 r0=>cases r0 with|cons q1 r1=>cases r1 with|cons q2 r2=>cases r2 with|cons q3 r3=>
  cases r3;cases q0.isInt;cases q1.isInt;cases q2.isInt;cases q3.isInt;left;rwa[⟨iU,?_⟩];show if decide (r.start=f)=true then _ else _
  have e:iO (rs.take (i+1)) f=iO (rs.take i) f++if decide (r.start=f)=true then [V.int (vi r.start r.goal)] else []:=by
   unfold iO;rw [List.take_succ,hr',List.filter_append,List.map_append];congr 1;cases z:decide (r.start=f)<;>simp [z]
  by_cases h1:r.start=f
  ·rw [if_pos (decide_eq_true h1)];ext;rwa[qt.mk _ _ rfl ?_];rw [e,if_pos (decide_eq_true h1)];exact ⟨rfl,rfl⟩
  ·rw [if_neg (by rw [decide_eq_false h1];decide),e,if_neg (by rw [decide_eq_false h1];decide),List.append_nil];exact ⟨rfl,rfl⟩
 ·obtain ⟨rfl,rfl⟩:=p
  have e2:upd H' l2 (.lst (iO (rs.take xs.length) f)) l2=some (.lst (iO rs f)):=by rw [ak,List.take_of_length_le ↑6]
  have s2:av H' (upd H' l2 (.lst (iO (rs.take xs.length) f))):= .upd n2;generalize upd H' l2 (.lst (iO (rs.take xs.length) f))=H2 at e2 s2 ⊢;ext;rwa[qC (aS.of e2) rfl ?_ ?_]
  ·rwa[List.all_eq_true.mpr λx hx=> ?_];obtain ⟨r,_,rfl⟩:=List.mem_map.mp hx;rfl
  ·rw [IP];exact q H2 s2
inductive nW (K:Fg)(vs:List V)(H:Hp)(Q:VK)(_e:XK):Prop
 |mk (so c p pl li dr mk ps xs:_) (rs:List bq) (M f0:Nat) (_:vs=[.str so,.ref c,.int (M:Int),.ref p]) (_:bW K H c pl li dr mk ps) (_:H p=some (.lst xs)) (_:aN K H xs (rs.map bq.d)) (_:Pe ps rs) (_:pl=2*(f0:Int)) (_:f0<8) (_:∀H',av H H'->Q (.int (iJ so li (M.testBit f0) (JQ ps f0) (Jl rs f0 li))) H')
theorem Fq {f:Int}{ps:List (Int×Int)}:uN (.int f) (eh ps)=JQ ps f:=by
 unfold uN eh JQ;rw [List.any_map];rfl
theorem sh (ps:List (Int×Int)):(eh ps).all dh=true:=by
 rwa[List.all_eq_true.mpr λx hx=> ?_];obtain ⟨p,_,rfl⟩:=List.mem_map.mp hx;rfl
theorem Iq (F:bw K "here_of" "here_of" v6 f fd)(bo:bp P w K mg base 1 "floor_of" ["cabin"] (cN K))(ft:bp P w K mg base 2 "has" ["mask","k"] d3)(bL:bp P w K mg base 1 "goals_aboard" ["cabin"] (gU K))(jC:bp P w K mg base 2 "goes_along" ["floor","light","riders"] (vF K)):aD P w K mg base br 3 f fd ["sort","cabin","tasks","riders"] (nW K):=by
 rwa[F.ok qJ ↑4 ↑1]
 ·obtain ⟨so,c,p,pl,li,dr,mk,ps,xs,rs,M,f0,rfl,_⟩:=h;rfl
 obtain ⟨so,c,p,pl,li,dr,mk,ps,xs,rs,M,f0,rfl,hc,ep,dp,hf,hpl,hf0,q⟩:=h;obtain ⟨b,bs,ec,eb,db⟩:=id hc;have l20:=hf.2.2.2;have g20:=hf.2.2.1;rwa[⟨_,(ag (aA (i:=4) qJ.nd rfl ↑7 (aj bo hr ↑2 rfl ↑19)) (ag (aA (i:=5) qJ.nd rfl ↑7 ↑12) (ag (aI (cW (bZ (K:=K) rfl (aj ft hr ↑2 rfl (ae (wv 2) (ae (wv 4) ac))))) (af (aq aa)) aC) (ag (aI (PW.pt (fU (ax ↑10 (wv 0) ay (au _)) (eU (ax ↑10 (wv 5) aa (au _))))) (af (aq aa)) aC) (af (aq (cL (PW.pt (fU (ax (Bq (K:=K) rfl) (wv 4) (aj bL hr ↑2 rfl ↑19) (by with_unfolding_all rfl)) (eU (bZ (K:=K) rfl (aj jC hr ↑2 rfl (ae (wv 4) (ae (wv 5) (ae (wv 3) ac)))))))) aa aa))))))),?_⟩]
 have e0:pl / 2=(f0:Int):=by omega
 left;rwa[cN.mk _ _ _ _ _ _ rfl hc ?_];rw [e0];left;rwa[d3.mk _ _ rfl ↑6 ?_];unfold iJ at q
 cases ht:M.testBit f0 with
 |false=>rw [ht,if_pos rfl] at q;left;exact q H (.refl _)
 |true=>
  rw [ht,if_neg ↑2] at q;left;by_cases h1:so=Str.ofString "free"
  ·rw [if_pos (.inl h1)] at q;left;exact q H (.refl _)
  ·by_cases h2:li=0
   ·rw [if_pos (.inr h2)] at q;left;exact q H (.refl _)
   ·rw [if_neg (λz=>z.elim h1 h2)] at q;left;erw[gU.mk _ _ _ _ _ _ rfl hc ↑6 λg H1 s1 n1 e1=> ?_];rwa[qC (aS.of e1) rfl (sh ps) ?_];rw [Fq]
    cases hab:JQ ps f0 with
    |true=>rw [hab,if_pos (.inl rfl)] at q;left;exact q H1 s1
    |false=>
     rw [hab] at q;left;rwa[vF.mk _ _ _ _ _ rfl (s1.get ep) (aN.same dp s1) ↑6 λH2 s2=> ?_]
     cases hal:Jl rs f0 li with
     |true=>rw [hal,if_pos (.inr rfl)] at q;left;exact q H2 (s1.trans s2)
     |false=>rw [hal,if_neg ↑2] at q;left;exact q H2 (s1.trans s2)
theorem yL (M:Nat):(ka M).Pairwise (· < ·):=List.Pairwise.filter _ List.pairwise_lt_range
theorem pD (M n i:Nat):(M - M% 2^(n+1)).testBit i=(M.testBit i&&decide (n<i)):=by
 have e:M - M% 2^(n+1)=2^(n+1)*(M / 2^(n+1)):=by have:=Nat.div_add_mod M (2^(n+1));omega
 rw [e,Nat.testBit_two_pow_mul,Nat.testBit_div_two_pow];by_cases h:n<i
 ·rw [decide_eq_true h,decide_eq_true (show i≥n+1 from h),Nat.sub_add_cancel h,Bool.true_and,Bool.and_true]
 ·rw [decide_eq_false h,decide_eq_false (show ¬i≥n+1 by omega),Bool.false_and,Bool.and_false]
theorem Nu {M n:Nat}{t:Int->Bool}(ht:∀i:Nat,M.testBit i=t i)(hM:M<2^8):yR t n (match ((ka (M - M% 2^(n+1)))[(0:Nat)]? :Option Nat) with|none=>0|some k=>(k:Int) - n):=by
 cases hb:ka (M - M% 2^(n+1)) with
 |nil=>
  rwa[.inl ⟨rfl,λj j1 j7=> ?_⟩];have h0:=Ge.mp hb;have:=pD M n (n+j.toNat);rw [h0,Nat.zero_testBit,decide_eq_true ↑6,Bool.and_true,ht] at this;rw [<-this.symm];congr 1;omega
 |cons k ks=>
  have hs:=yL (M - M% 2^(n+1));rw [hb] at hs
  have hk:k∈ka (M - M% 2^(n+1)):=by rw [hb];exact .head _
  have hk':=mV.mp hk;rw [pD,Bool.and_eq_true] at hk';have nk:=of_decide_eq_true hk'.2;have k8:k<8:=Bi (M:=M) hM (mV.mpr hk'.1);rwa[.inr ⟨by show 1<=(k:Int) - n;omega,by show (k:Int) - n<=7;omega,?_,λj j1 jk=> ?_⟩]
  ·show t ((n:Int)+((k:Int) - n))=true;rw [show (n:Int)+((k:Int) - n)=(k:Int) by omega,<-ht];exact hk'.1
  ·have jk:j<(k:Int) - n:=jk
   cases z:t ((n:Int)+j) with
   |false=>rfl
   |true=>
    have z':M.testBit (n+j.toNat)=true:=by rw [ht,<-z];congr 1;omega
    have hm:n+j.toNat∈ka (M - M% 2^(n+1)):=mV.mpr (by rw [pD,z',decide_eq_true ↑6];rfl);rw [hb] at hm
    rcases List.mem_cons.mp hm with e|hm
    ·omega
    ·have:=List.rel_of_pairwise_cons hs hm;omega
theorem OE {M n:Nat}{t:Int->Bool}(hn:n<8)(ht:∀i:Nat,M.testBit i=t i)(hM:M<2^8):yS t n (match (if M% 2^n=0 then none else some (L (M% 2^n) - 1):Option Nat) with|none=>0|some k=>(n:Int) - k):=by
 by_cases h0:M% 2^n=0
 ·rw [if_pos h0];rwa[.inl ⟨rfl,λj j1 j7 jn=> ?_⟩];have:=Nat.testBit_mod_two_pow M n (n - j.toNat);rw [h0,Nat.zero_testBit,decide_eq_true ↑6,Bool.true_and,ht] at this;rw [<-this.symm];congr 1;omega
 ·rw [if_neg h0];have hk:=AG h0;have hl:=OW (M% 2^n);rw [Nat.testBit_mod_two_pow,Bool.and_eq_true] at hk;have kn:=of_decide_eq_true hk.1;have k8:L (M% 2^n) - 1<8:=Bi (M:=M) hM (mV.mpr hk.2);rwa[.inr ⟨by show 1<=(n:Int) - ((L (M% 2^n) - 1:Nat):Int);omega,?_,by show (n:Int) - ((L (M% 2^n) - 1:Nat):Int)<=n;omega,?_,λj j1 jk=> ?_⟩]
  ·show (n:Int) - ((L (M% 2^n) - 1:Nat):Int)<=7;omega
  ·show t ((n:Int) - ((n:Int) - ((L (M% 2^n) - 1:Nat):Int)))=true;rw [show (n:Int) - ((n:Int) - ((L (M% 2^n) - 1:Nat):Int))=((L (M% 2^n) - 1:Nat):Int) by omega,<-ht];exact hk.2
  ·have jk:j<(n:Int) - ((L (M% 2^n) - 1:Nat):Int):=jk
   cases z:t ((n:Int) - j) with
   |false=>rfl
   |true=>
    have z':(M% 2^n).testBit (n - j.toNat)=true:=by rw [Nat.testBit_mod_two_pow,decide_eq_true ↑6,ht,Bool.true_and,<-z];congr 1;omega
    have:=Nat.testBit_lt_two_pow (Nat.lt_of_lt_of_le hl (Nat.pow_le_pow_right ↑2 (show L (M% 2^n)<=n - j.toNat by omega)));rw [z'] at this;cases this
def Nt (room:Int)(so:Str)(li:Int)(ps:List (Int×Int))(rs:List bq)(f0:Nat)(u d:Int):List V:=[.int (f0:Int),.int li,.int (iJ so li (tk room ps rs f0) (JQ ps f0) (Jl rs f0 li)),.int u,.int d]
inductive zd (K:Fg)(vs:List V)(H:Hp)(Q:VK)(_e:XK):Prop
 |mk (so room c p pl li dr mk ps xs:_) (rs:List bq) (f0:Nat) (_:vs=[.str so,.int room,.ref c,.ref p]) (_:bW K H c pl li dr mk ps) (_:H p=some (.lst xs)) (_:aN K H xs (rs.map bq.d)) (_:Pe ps rs) (_:pl=2*(f0:Int)) (_:f0<8) (_:∀r u d H',av H H'->yR (tk room ps rs) f0 u->yS (tk room ps rs) f0 d->H' r=some (.tup (Nt room so li ps rs f0 u d))->Q (.ref r) H')
theorem Oo {M n:Nat}(h:M<2^8):M - n<2^200:=Nat.lt_of_le_of_lt (Nat.sub_le _ _) (Nat.lt_trans h ↑2)
theorem Ia (F:bw K "view" "view" Ec f fd)(bo:bp P w K mg base 1 "floor_of" ["cabin"] (cN K))(pc:bp P w K mg base 4 "tasks_of" ["room","cabin","riders"] (vt K))(At:bp P w K mg base 3 "above" ["mask","k"] vG)(xb:bp P w K mg base 4 "lowest" ["mask"] qw)(pA:bp P w K mg base 2 "below" ["mask","k"] ms)(sR:bp P w K mg base 1 "highest" ["mask"] nV)(sS:bp P w K mg base 3 "here_of" ["sort","cabin","tasks","riders"] (nW K)):aD P w K mg base br 5 f fd ["sort","room","cabin","riders"] (zd K):=by
 rwa[F.ok kP ↑4 ↑1]
 ·obtain ⟨so,room,c,p,pl,li,dr,mk,ps,xs,rs,f0,rfl,_⟩:=h;rfl
 obtain ⟨so,room,c,p,pl,li,dr,mk,ps,xs,rs,f0,rfl,hc,ep,dp,hf,hpl,hf0,q⟩:=h;obtain ⟨b,bs,ec,eb,db⟩:=id hc;rwa[⟨_,(ag (aA (i:=4) kP.nd rfl ↑7 (aj bo hr ↑2 rfl (ae (wv 2) ac))) (ag (aA (i:=5) kP.nd rfl ↑7 (aj pc hr ↑2 rfl (ae (wv 1) (ae (wv 2) (ae (wv 3) ac))))) (ag (aA (i:=6) kP.nd rfl ↑7 (aj xb hr ↑2 rfl (ae (aj At hr ↑2 rfl (ae (wv 5) (ae (wv 4) ac))) ac))) (ag (aA (i:=7) kP.nd rfl ↑7 (aj sR hr ↑2 rfl (ae (aj pA hr ↑2 rfl (ae (wv 5) (ae (wv 4) ac))) ac))) (ag (aA (i:=8) kP.nd rfl ↑7 (cL (ax Jt (wv 6) wt (au _)) aa (aH eK (wv 6) (wv 4)))) (ag (aA (i:=9) kP.nd rfl ↑7 (cL (ax Jt (wv 7) wt (au _)) aa (aH eK (wv 4) (wv 7)))) (af (aq (bt (ae (wv 4) (ae ↑20 (ae (aj sS hr ↑2 rfl (ae (wv 0) (ae (wv 2) (ae (wv 5) (ae (wv 3) ac))))) (ae (wv 8) (ae (wv 9) ac)))))))))))))),?_⟩]
 have e0:pl / 2=(f0:Int):=by omega
 left;rwa[cN.mk _ _ _ _ _ _ rfl hc ?_];rw [e0];left;rwa[vt.mk _ _ _ _ _ _ _ _ _ _ rfl hc ep dp hf λM H1 s1 hM h8=> ?_];left;erw[vG.mk _ _ rfl ↑6 ?_];rwa[qw.mk _ rfl (Oo h8) λH2 s2=> ?_];left;erw[ms.mk _ _ rfl ↑6 ?_];rwa[nV.mk _ rfl ?_];have U:=Nu (n:=f0) hM h8;have D:=OE (n:=f0) hf0 hM h8;have sm:=s1.trans s2;have hc2:=hc.same sm
 cases hu:((ka (M - M% 2^(f0+1)))[(0:Nat)]? :Option Nat) with
 |none=>
  rw [hu] at U
  cases hd:(if M% 2^f0=0 then none else some (L (M% 2^f0) - 1):Option Nat) with
  |none=>
   rw [hd] at D;left;rwa[nW.mk _ _ _ _ _ _ _ _ _ _ _ _ rfl hc2 (sm.get ep) (aN.same dp sm) hf hpl hf0 λH5 s5=> ?_];rw [hM];left;exact cf KH λr H6 s6 _ e6=>q r _ _ H6 ((sm.trans s5).trans s6) U D e6
  |some k=>
   rw [hd] at D;left;rwa[nW.mk _ _ _ _ _ _ _ _ _ _ _ _ rfl hc2 (sm.get ep) (aN.same dp sm) hf hpl hf0 λH5 s5=> ?_];rw [hM];left;exact cf KH λr H6 s6 _ e6=>q r _ _ H6 ((sm.trans s5).trans s6) U D e6
 |some k'=>
  rw [hu] at U
  cases hd:(if M% 2^f0=0 then none else some (L (M% 2^f0) - 1):Option Nat) with
  |none=>
   rw [hd] at D;left;rwa[nW.mk _ _ _ _ _ _ _ _ _ _ _ _ rfl hc2 (sm.get ep) (aN.same dp sm) hf hpl hf0 λH5 s5=> ?_];rw [hM];left;exact cf KH λr H6 s6 _ e6=>q r _ _ H6 ((sm.trans s5).trans s6) U D e6
  |some k=>
   rw [hd] at D;left;rwa[nW.mk _ _ _ _ _ _ _ _ _ _ _ _ rfl hc2 (sm.get ep) (aN.same dp sm) hf hpl hf0 λH5 s5=> ?_];rw [hM];left;exact cf KH λr H6 s6 _ e6=>q r _ _ H6 ((sm.trans s5).trans s6) U D e6
theorem Cr {pl:Int}{f0:Int}{ps:List (Int×Int)}(h:pl=2*f0):uN (.int (pl / 2)) (eh ps)=ps.any (λp=>decide (2*p.2=pl)):=by
 unfold uN eh;rw [List.any_map];congr 1
 funext p
 show (p.2==pl / 2)=decide (2*p.2=pl);by_cases e:p.2=pl / 2
 ·rw [decide_eq_true ↑6,beq_iff_eq];exact e
 ·rw [decide_eq_false ↑6,beq_eq_false_iff_ne];exact e
inductive nQ (K:Fg)(vs:List V)(H:Hp)(Q:VK)(_e:XK):Prop
 |mk (so c wd pl li dr mk ps f0:_) (_:vs=[.str so,.ref c,.str wd]) (_:bW K H c pl li dr mk ps) (_:qk ps) (_:pl=2*f0) (_: -1<=li) (_:li<=1) (_:∀H',av H H'->Q (.str (cB so pl li ps wd)) H')
theorem zW (F:bw K "turned" "turned" vR f fd)(bj:mg "len"=none)(bo:bp P w K mg base 1 "floor_of" ["cabin"] (cN K))(bL:bp P w K mg base 1 "goals_aboard" ["cabin"] (gU K)):aD P w K mg base br 2 f fd ["sort","cabin","word"] (nQ K):=by
 rwa[F.ok qE ↑4 ↑1]
 ·obtain ⟨so,c,wd,pl,li,dr,mk,ps,f0,rfl,_⟩:=h;rfl
 obtain ⟨so,c,wd,pl,li,dr,mk,ps,f0,rfl,hc,hg,hpl,hl1,hl2,q⟩:=h;obtain ⟨b,xs,ec,eb,dx⟩:=id hc;rwa[⟨_,(ag (aA (i:=3) qE.nd rfl ↑7 (aj bL hr ↑2 rfl ↑19)) (ag (aA (i:=4) qE.nd rfl ↑7 ↑12) (ag (aI (PW.pt (fU (ax ↑10 (wv 0) ay (au _)) (eU (ax ↑10 (aG (cI (K:=K) rfl) rfl bj PySem.boot_len (ae (wv 3) ac)) aa (au _))))) (af (aq (wv 2))) aC) (ag (aI (PW.pt (fU (ax (Bq (K:=K) rfl) (aj bo hr ↑2 rfl ↑19) (wv 3) (by with_unfolding_all rfl)) (eU (ax ↑10 (wv 2) ay (au _))))) (af (aq ay)) aC) (ag (aI (PW.pt (fU (PW.pt (dj (ax ↑10 (wv 2) ay (au _)) (cF (ax ↑10 (wv 4) (mP lY aa) (au _))))) (eU (PW.pt (dj (ax ↑10 (wv 2) ay (au _)) (cF (ax ↑10 (wv 4) aa (au _)))))))) (af (aq ay)) aC) (af (aq (wv 2)))))))),?_⟩];unfold cB at q;left;rwa[gU.mk _ _ _ _ _ _ rfl hc hg.1 λp H1 s1 n1 e1=> ?_];left;rwa[oR (λh1=> ?_) (λh1=> ?_)]
 ·rw [if_pos (.inl h1)] at q;left;exact q H1 s1
 left;rw [oS];rwa[oR (λh2=> ?_) (λh2=> ?_)]
 ·rw [if_pos (.inr (List.length_eq_zero_iff.mp ↑6))] at q;left;exact q H1 s1
 rw [if_neg (λz=>z.elim h1 λz=>h2 (by rw [z];rfl))] at q;left;rwa[cN.mk _ _ _ _ _ _ rfl (hc.same s1) ?_];left;rwa[qC (aS.of e1) rfl (sh ps) ?_];rw [Cr hpl];rwa[rZ (λh3=> ?_) (λh3=> ?_)]
 ·rw [if_pos h3] at q;left;exact q H1 s1
 rw [if_neg (by rw [h3];decide)] at q;left;rwa[oR (λh4=> ?_) (λh4=> ?_)]
 ·rw [if_pos h4] at q;left;exact q H1 s1
 rw [if_neg h4] at q;by_cases h5:wd=Str.ofString "u"
 ·have h7: ¬wd=Str.ofString "d":=by rw [h5];decide
  by_cases h6:li= -1
  ·rw [if_pos (.inl ⟨h5,by omega⟩)] at q;left;exact q H1 s1
  ·rw [if_neg (λz=>z.elim (λz=>h6 ↑6) (λz=>h7 z.1))] at q;left;exact q H1 s1
 ·by_cases h7:wd=Str.ofString "d"
  ·by_cases h8:li=1
   ·rw [if_pos (.inr ⟨h7,by omega⟩)] at q;left;exact q H1 s1
   ·rw [if_neg (λz=>z.elim (λz=>h5 z.1) (λz=>h8 ↑6))] at q;left;exact q H1 s1
  ·rw [if_neg (λz=>z.elim (λz=>h5 z.1) (λz=>h7 z.1))] at q;left;exact q H1 s1
def bV (fl pl:Int)(x:Str):Str:=if x=Str.ofString "u"/\pl / 2=fl - 1 then Str.ofString "s" else if x=Str.ofString "d"/\pl / 2=0 then Str.ofString "s" else x
inductive nX (K:Fg)(vs:List V)(H:Hp)(Q:VK)(_e:XK):Prop
 |mk (fl c wd pl li dr mk ps:_) (_:vs=[.int fl,.ref c,.str wd]) (_:bW K H c pl li dr mk ps) (_:Q (.str (bV fl pl wd)) H)
theorem zZ (F:bw K "bounded" "bounded" rh f fd)(bo:bp P w K mg base 1 "floor_of" ["cabin"] (cN K)):aD P w K mg base br 2 f fd ["floors","cabin","word"] (nX K):=by
 rwa[F.ok BP ↑4 ↑1]
 ·obtain ⟨fl,c,wd,pl,li,dr,mk,ps,rfl,_⟩:=h;rfl
 obtain ⟨fl,c,wd,pl,li,dr,mk,ps,rfl,hc,q⟩:=h;rwa[⟨_,(ag (aI (PW.pt (dj (ax ↑10 (wv 2) ay (au _)) (cF (ax ↑10 (aj bo hr ↑2 rfl ↑19) (aH eK (wv 0) aa) (au _))))) (af (aq ay)) aC) (ag (aI (PW.pt (dj (ax ↑10 (wv 2) ay (au _)) (cF (ax ↑10 (aj bo hr ↑2 rfl ↑19) aa (au _))))) (af (aq ay)) aC) (af (aq (wv 2))))),?_⟩];unfold bV at q;by_cases h1:wd=Str.ofString "u"
 ·have h7: ¬wd=Str.ofString "d":=by rw [h1];decide
  left;erw[cN.mk _ _ _ _ _ _ rfl hc ?_];rwa[oR (λh2=> ?_) (λh2=> ?_)]
  ·rw [if_pos ⟨h1,h2⟩] at q;left;exact q
  ·rw [if_neg (λz=>h2 z.2),if_neg (λz=>h7 z.1)] at q;left;exact q
 ·by_cases h7:wd=Str.ofString "d"
  ·left;erw[cN.mk _ _ _ _ _ _ rfl hc ?_];rwa[oR (λh2=> ?_) (λh2=> ?_)]
   ·rw [if_neg (λz=>h1 z.1),if_pos ⟨h7,h2⟩] at q;left;exact q
   ·rw [if_neg (λz=>h1 z.1),if_neg (λz=>h2 z.2)] at q;left;exact q
  ·rw [if_neg (λz=>h1 z.1),if_neg (λz=>h7 z.1)] at q;left;exact q
inductive dq (K:Fg)(vs:List V)(H:Hp)(Q:VK)(_e:XK):Prop
 |mk (c p l d pl li dr mk ps:_) (_:vs=[.ref c,.int p,.int l,.int d]) (_:bW K H c pl li dr mk ps) (_:∀r H',av H H'->bW K H' r p l d mk ps->Q (.ref r) H')
theorem HW (F:bw K "with_changes" "with_changes" g9 f fd):aD P w K mg base br 1 f fd ["cabin","place","light","door"] (dq K):=by
 rwa[F.ok tU ↑4 ↑1]
 ·obtain ⟨c,p,l,d,pl,li,dr,mk,ps,rfl,_⟩:=h;rfl
 obtain ⟨c,p,l,d,pl,li,dr,mk,ps,rfl,hc,q⟩:=h;obtain ⟨b,xs,ec,eb,dx⟩:=id hc;rwa[⟨_,(af (aq (bt (ae (wv 1) (ae (wv 2) (ae (wv 3) (ae ↑16 (ae ↑16 ac)))))))),?_⟩];left;exact cf KH λr H1 s1 _ e1=>q r H1 s1 ⟨b,xs,e1,s1.get eb,aN.same dx s1⟩
theorem QI {fl pl:Int}:bV fl pl (Str.ofString "o")=Str.ofString "o":=by unfold bV;rw [if_neg (λz=>absurd z.1 ↑2),if_neg (λz=>absurd z.1 ↑2)]
theorem QG {fl pl:Int}:bV fl pl (Str.ofString "x")=Str.ofString "x":=by unfold bV;rw [if_neg (λz=>absurd z.1 ↑2),if_neg (λz=>absurd z.1 ↑2)]
theorem QH {fl pl:Int}:bV fl pl (Str.ofString "s")=Str.ofString "s":=by unfold bV;rw [if_neg (λz=>absurd z.1 ↑2),if_neg (λz=>absurd z.1 ↑2)]
theorem OL {fl pl:Int}(h:pl / 2=fl - 1):bV fl pl (Str.ofString "u")=Str.ofString "s":=by unfold bV;rw [if_pos ⟨rfl,h⟩]
theorem OM {fl pl:Int}(h: ¬pl / 2=fl - 1):bV fl pl (Str.ofString "u")=Str.ofString "u":=by unfold bV;rw [if_neg (λz=>h z.2),if_neg (λz=>absurd z.1 ↑2)]
theorem ON {fl pl:Int}(h:pl / 2=0):bV fl pl (Str.ofString "d")=Str.ofString "s":=by unfold bV;rw [if_neg (λz=>absurd z.1 ↑2),if_pos ⟨rfl,h⟩]
theorem OO {fl pl:Int}(h: ¬pl / 2=0):bV fl pl (Str.ofString "d")=Str.ofString "d":=by unfold bV;rw [if_neg (λz=>absurd z.1 ↑2),if_neg (λz=>h z.2)]
inductive nN (K:Fg)(vs:List V)(H:Hp)(Q:VK)(_e:XK):Prop
 |mk (so fl tu c wd pl li dr mk ps f0:_) (_:vs=[.str so,.int fl,.int tu,.ref c,.str wd]) (_:bW K H c pl li dr mk ps) (_:wd∈eR) (_:qk ps) (_:pl=2*f0) (_:0<=f0) (_:f0<fl) (_: -1<=li) (_:li<=1) (_:∀r H',av H H'->bW K H' r (fJ fl tu pl li dr ps (cB so pl li ps wd)).1 (fJ fl tu pl li dr ps (cB so pl li ps wd)).2.1 (fJ fl tu pl li dr ps (cB so pl li ps wd)).2.2 mk ps->Q (.ref r) H')
theorem DC {H:Hp}{so:Str}{fl tu:Int}{c:Addr}{wd:Str}{pl li dr mk:Int}{ps:List (Int×Int)}{f0:Int}{Q:VK}{E:XK}(h1:bW K H c pl li dr mk ps)(h2:wd∈eR)(h3:qk ps)(h4:pl=2*f0)(h5:0<=f0)(h6:f0<fl)(h7: -1<=li)(h8:li<=1)
(g:∀r H',av H H'->bW K H' r (fJ fl tu pl li dr ps (cB so pl li ps wd)).1 (fJ fl tu pl li dr ps (cB so pl li ps wd)).2.1 (fJ fl tu pl li dr ps (cB so pl li ps wd)).2.2 mk ps->Q (.ref r) H'):nN K [.str so,.int fl,.int tu,.ref c,.str wd] H Q E:=⟨so,fl,tu,c,wd,pl,li,dr,mk,ps,f0,rfl,h1,h2,h3,h4,h5,h6,h7,h8,g⟩
theorem zV (F:bw K "steered" "steered" qR f fd)(bj:mg "len"=none)(xa:bp P w K mg base 2 "turned" ["sort","cabin","word"] (nQ K))(tz:bp P w K mg base 2 "bounded" ["floors","cabin","word"] (nX K))(aR:bp P w K mg base 1 "with_changes" ["cabin","place","light","door"] (dq K)):aD P w K mg base br 3 f fd ["sort","floors","turns","cabin","word"] (nN K):=by
 rwa[F.ok gv ↑4 ↑1]
 ·obtain ⟨so,fl,tu,c,wd,pl,li,dr,mk,ps,f0,rfl,_⟩:=h;rfl
 obtain ⟨so,fl,tu,c,wd,pl,li,dr,mk,ps,f0,rfl,hc,hw,hg,hpl,hf0,hf1,hl1,hl2,q⟩:=h;obtain ⟨b,xs,ec,eb,dx⟩:=id hc;have hx:=aL dx;rwa[⟨_,(ag (aA (i:=5) gv.nd rfl ↑7 (ao ↑3 (wv 3) aa ↑5)) (ag (aA (i:=6) gv.nd rfl ↑7 (ao ↑3 (wv 3) aa ↑5)) (ag (aA (i:=7) gv.nd rfl ↑7 (ao ↑3 (wv 3) aa ↑5)) (ag (aA (i:=8) gv.nd rfl ↑7 (aj tz hr ↑2 rfl (ae (wv 1) (ae (wv 3) (ae (aj xa hr ↑2 rfl (ae (wv 0) (ae (wv 3) (ae (wv 4) ac)))) ac))))) (ag (aI (ax ↑10 (wv 8) ay (au _)) (af (aq (aj aR hr ↑2 rfl (ae (wv 3) (ae (wv 5) (ae (wv 6) (ae (wv 2) ac))))))) aC) (ag (aI (ax ↑10 (wv 8) ay (au _)) (af (aq (aj aR hr ↑2 rfl (ae (wv 3) (ae (wv 5) (ae aa (ae (wv 2) ac))))))) aC) (ag (aI (ax ↑10 (wv 8) ay (au _)) (af (aq (aj aR hr ↑2 rfl (ae (wv 3) (ae (aH ↑25 (wv 5) aa) (ae aa (ae (wv 7) ac))))))) aC) (ag (aI (ax ↑10 (wv 8) ay (au _)) (af (aq (aj aR hr ↑2 rfl (ae (wv 3) (ae (aH eK (wv 5) aa) (ae (mP lY aa) (ae (wv 7) ac))))))) aC) (af (aq (aj aR hr ↑2 rfl (ae (wv 3) (ae (wv 5) (ae (cL (ax iP (aG (cI (K:=K) rfl) rfl bj PySem.boot_len (ae (ao ↑3 (wv 3) aa ↑5) ac)) aa (au _)) (wv 6) aa) (ae (wv 7) ac))))))))))))))),?_⟩];left;erw[nQ.mk _ _ _ _ _ _ _ _ _ rfl hc hg hpl hl1 hl2 λH1 s1=> ?_];rwa[nX.mk _ _ _ _ _ _ _ _ rfl (hc.same s1) ?_];have hw':=pF (so:=so) (pl:=pl) (li:=li) (ps:=ps) hw;generalize cB so pl li ps wd=w' at hw' q ⊢
 have en:∀pl' li' dr',fJ fl tu pl li dr ps w'=(pl',li',dr')->∀r H',av H1 H'->bW K H' r pl' li' dr' mk ps->Q (.ref r) H':=λpl' li' dr' e r H' s2 er=>by
  rwa[q r H' (s1.trans s2) ?_];rw [e];exact er
 have st:∀(Z:VK) (E':XK),(∀r H',av H1 H'->bW K H' r pl (if ps=[] then 0 else li) dr mk ps->Z (.ref r) H')->∀l':Int,l'=(if ps=[] then 0 else li)->dq K [.ref c,.int pl,.int l',.int dr] H1 Z E':=λZ E' z l' e=>by
  subst e;exact dq.mk _ _ _ _ _ _ _ _ _ rfl (hc.same s1) z
 rcases Oz hw' with rfl|rfl|rfl|rfl|rfl
 ·rw [QI];left;exact dq.mk _ _ _ _ _ _ _ _ _ rfl (hc.same s1) (en _ _ _ JH)
 ·rw [QG];left;exact dq.mk _ _ _ _ _ _ _ _ _ rfl (hc.same s1) (en _ _ _ JG)
 ·by_cases h1:pl / 2=fl - 1
  ·rw [OL h1];left;rwa[oR (λh2=> ?_) (λh2=> ?_)]
   ·left;exact st _ _ (en _ _ _ (Ao ↑6)) _ (by rw [if_neg (λz=>by rw [z] at hx;simp at hx;rw [hx] at h2;exact absurd h2 ↑2)])
   ·left;exact st _ _ (en _ _ _ (Ao ↑6)) _ (by rw [if_pos (List.length_eq_zero_iff.mp ↑6)])
  ·rw [OM h1];left;exact dq.mk _ _ _ _ _ _ _ _ _ rfl (hc.same s1) (en _ _ _ (FN ↑6))
 ·by_cases h1:pl / 2=0
  ·rw [ON h1];left;rwa[oR (λh2=> ?_) (λh2=> ?_)]
   ·left;exact st _ _ (en _ _ _ (Ap ↑6)) _ (by rw [if_neg (λz=>by rw [z] at hx;simp at hx;rw [hx] at h2;exact absurd h2 ↑2)])
   ·left;exact st _ _ (en _ _ _ (Ap ↑6)) _ (by rw [if_pos (List.length_eq_zero_iff.mp ↑6)])
  ·rw [OO h1];left;exact dq.mk _ _ _ _ _ _ _ _ _ rfl (hc.same s1) (en _ _ _ (FP ↑6))
 ·rw [QH];left;rwa[oR (λh2=> ?_) (λh2=> ?_)]
  ·left;exact st _ _ (en _ _ _ FO) _ (by rw [if_neg (λz=>by rw [z] at hx;simp at hx;rw [hx] at h2;exact absurd h2 ↑2)])
  ·left;exact st _ _ (en _ _ _ FO) _ (by rw [if_pos (List.length_eq_zero_iff.mp ↑6)])
def xC (r:bq):Int:=if r.start<r.goal then 1 else -1
structure CV where
 light:Int
 kept:List (Int×Int)
 ins:List Int
def iq (so:Str)(room pl:Int)(s:CV)(r:bq):Bool:=decide (2*r.start=pl)&&decide ((s.kept.length:Int)<room)&&decide (so=Str.ofString "free"\/s.light=0\/s.light=xC r)
def dZ (so:Str)(room pl:Int)(s:CV)(r:bq):CV:=if iq so room pl s r=true then ⟨if so=Str.ofString "way" then xC r else s.light,s.kept++[(r.tag,r.goal)],s.ins++[r.tag]⟩ else s
def cq (so:Str)(room pl:Int)(s:CV)(rs:List bq):CV:=rs.foldl (dZ so room pl) s
theorem dR {so:Str}{room pl:Int}{s:CV}{rs:List bq}{i:Nat}{r:bq}(h:rs[i]? =some r):cq so room pl s (rs.take (i+1))=dZ so room pl (cq so room pl s (rs.take i)) r:=by
 rw [List.take_succ,h];unfold cq;rw [List.foldl_append];rfl
theorem DB {so:Str}{room pl:Int}(s:CV)(r:bq):(dZ so room pl s r).kept.length<=s.kept.length+1/\(dZ so room pl s r).ins.length<=s.ins.length+1:=by
 unfold dZ;split<;>simp
theorem nL {so:Str}{room pl:Int}:∀(rs:List bq) (s:CV),(cq so room pl s rs).kept.length<=s.kept.length+rs.length/\(cq so room pl s rs).ins.length<=s.ins.length+rs.length
 |[],s=>⟨Nat.le_refl _,Nat.le_refl _⟩
 |r::rs,s=>by
  have h1:=nL (so:=so) (room:=room) (pl:=pl) rs (dZ so room pl s r);have h2:=DB (so:=so) (room:=room) (pl:=pl) s r;show (cq so room pl (dZ so room pl s r) rs).kept.length<=_/\(cq so room pl (dZ so room pl s r) rs).ins.length<=_;rw [List.length_cons];omega
def fY (pl:Int)(ps:List (Int×Int)):List (Int×Int):=ps.filter λp=> !decide (2*p.2=pl)
def d5 (pl:Int)(ps:List (Int×Int)):List Int:=(ps.filter λp=>decide (2*p.2=pl)).map (·.1)
def wX (so:Str)(room pl li:Int)(ps:List (Int×Int))(rs:List bq):CV:=cq so room pl ⟨li,fY pl ps,[]⟩ rs
theorem jY {α:Type}(f:α->Bool){xs:List α}{i:Nat}{x:α}(h:xs[i]? =some x):(xs.take (i+1)).filter f=(xs.take i).filter f++if f x=true then [x] else []:=by
 rw [List.take_succ,h,List.filter_append];congr 1;cases e:f x<;>simp [e]
def ur (K:Fg)(H0 H:Hp)(n k:Addr)(ins:List Int)(kept:List (Int×Int)):Prop:=av H0 H/\H0 n=none/\H0 k=none/\n≠k/\H n=some (.lst (ins.map V.int))/\∃ks,H k=some (.lst ks)/\aN K H ks (kept.map cZ)
theorem ur.pushN {H0 H:Hp}{n k:Addr}{ins:List Int}{kept:List (Int×Int)}(g:ur K H0 H n k ins kept)(t:Int):ur K H0 (upd H n (.lst (ins.map V.int++[.int t]))) n k (ins++[t]) kept:=by
 obtain ⟨s,hn,hk,ne,en,ks,ek,dk⟩:=g;rwa[⟨av.updF s hn,hn,hk,ne,by rw [ak,List.map_append];rfl,ks,by rw [ap (Ne.symm ne)];exact ek,m9 dk (fu kept) en⟩]
theorem ur.same {H0 H H':Hp}{n k:Addr}{ins:List Int}{kept:List (Int×Int)}(g:ur K H0 H n k ins kept)(s':av H H'):ur K H0 H' n k ins kept:=by
 obtain ⟨s,hn,hk,ne,en,ks,ek,dk⟩:=g;exact ⟨s.trans s',hn,hk,ne,s'.get en,ks,s'.get ek,aN.same dk s'⟩
theorem ur.pushK {H0 H:Hp}{n k l:Addr}{ins:List Int}{kept:List (Int×Int)}{ks:List V}{t g:Int}(G:ur K H0 H n k ins kept)(ek:H k=some (.lst ks))(el:H l=some (.tup [.int t,.int g])):ur K H0 (upd H k (.lst (ks++[.ref l]))) n k ins (kept++[(t,g)]):=by
 obtain ⟨s,hn,hk,ne,en,ks',ek',dk⟩:=G;rw [ek] at ek';cases ek';rwa[⟨av.updF s hk,hn,hk,ne,by rw [ap ne];exact en,_,ak,?_⟩];rw [List.map_append];exact Paired.app (m9 dk (fu kept) ek) (.cons (cm.noL (d:=cZ (t,g)) (gF (aP.of el) (.cons (.int _) (.cons (.int _) .nil))) rfl ek) .nil)
def Gm (K:Fg)(H0 H:Hp)(r:Addr)(pl li dr mk:Int)(kept:List (Int×Int))(outs ins:List Int):Prop:=∃c o n,H r=some (.tup [.ref c,.ref o,.ref n])/\bW K H c pl li dr mk kept/\H o=some (.lst (outs.map V.int))/\H n=some (.lst (ins.map V.int))/\H0 o=none/\H0 n=none/\o≠n
inductive DI (vs:List V)(H:Hp)(Q:VK)(_e:XK):Prop
 |mk (so:_) (li s g:Int) (_:vs=[.str so,.int li,.int s,.int g]) (_:Q (.bl (decide (so=Str.ofString "free"\/li=0\/li=vi s g))) H)
theorem Lx (F:bw K "may_step_in" "may_step_in" lh f fd)(fq:bp P w K mg base 1 "way_of" ["start","goal"] qt):aD P w K mg base br 2 f fd ["sort","light","start","goal"] DI:=by
 rwa[F.ok xZ ↑4 ↑1]
 ·obtain ⟨so,li,s,g,rfl,_⟩:=h;rfl
 obtain ⟨so,li,s,g,rfl,q⟩:=h;rwa[⟨_,(af (aq (C8 (bX ↑10 (wv 0) ay (au _)) (C8 (bX ↑10 (wv 1) aa (au _)) (ii (bX ↑10 (aj fq hr ↑2 rfl (ae (wv 2) (ae (wv 3) ac))) (wv 1) (au _))))))),?_⟩];by_cases h1:so=Str.ofString "free"
 ·rw [decide_eq_true (.inl h1)] at q;left;exact q
 ·by_cases h2:li=0
  ·rw [decide_eq_true (.inr (.inl h2))] at q;left;exact q
  ·left;rwa[qt.mk _ _ rfl ?_];have e:decide (so=Str.ofString "free"\/li=0\/li=vi s g)=decide (vi s g=li):=decide_eq_decide.mpr ⟨λz=>by rcases z with z|z|z;exact absurd z h1;exact absurd z h2;exact z.symm,λz=> .inr (.inr z.symm)⟩;rw [e] at q;exact q
inductive zo (K:Fg)(vs:List V)(H:Hp)(Q:VK)(_e:XK):Prop
 |mk (so room c p pl li dr mk ps xs:_) (rs:List bq) (f0:Int) (_:vs=[.str so,.int room,.ref c,.ref p]) (_:bW K H c pl li dr mk ps) (_:ps.length<=64) (_:H p=some (.lst xs)) (_:aN K H xs (rs.map bq.d)) (_:MD rs) (_:pl=2*f0) (_:∀r H',av H H'->Gm K H H' r pl (wX so room pl li ps rs).light dr mk (wX so room pl li ps rs).kept (d5 pl ps) (wX so room pl li ps rs).ins->Q (.ref r) H')
theorem OA {H:Hp}{so:Str}{room:Int}{c p:Addr}{pl li dr mk:Int}{ps:List (Int×Int)}{xs:List V}{rs:List bq}{f0:Int}{Q:VK}{E:XK}(h1:bW K H c pl li dr mk ps)(h2:ps.length<=64)(h3:H p=some (.lst xs))(h4:aN K H xs (rs.map bq.d))(h5:MD rs)(h6:pl=2*f0)
(g:∀r H',av H H'->Gm K H H' r pl (wX so room pl li ps rs).light dr mk (wX so room pl li ps rs).kept (d5 pl ps) (wX so room pl li ps rs).ins->Q (.ref r) H'):zo K [.str so,.int room,.ref c,.ref p] H Q E:=⟨so,room,c,p,pl,li,dr,mk,ps,xs,rs,f0,rfl,h1,h2,h3,h4,h5,h6,g⟩
theorem Iw (F:bw K "exchanged" "exchanged" lv f fd)(bj:mg "len"=none)(b2:mg "tuple"=none)(bo:bp P w K mg base 1 "floor_of" ["cabin"] (cN K))(fq:bp P w K mg base 1 "way_of" ["start","goal"] qt)(iw:bp P w K mg base 2 "may_step_in" ["sort","light","start","goal"] DI):aD P w K mg base br 3 f fd ["sort","room","cabin","riders"] (zo K):=by
 rwa[F.ok bN ↑4 ↑1]
 ·obtain ⟨so,room,c,p,pl,li,dr,mk,ps,xs,rs,f0,rfl,_⟩:=h;rfl
 obtain ⟨so,room,c,p,pl,li,dr,mk,ps,xs,rs,f0,rfl,hc,hpl,ep,dp,hrs,hf,q⟩:=h;obtain ⟨b,bs,ec,eb,db⟩:=id hc;have bl:=aL db;have xl:=aL dp;rwa[⟨_,(ag (aA (i:=4) bN.nd rfl (Or.inr rfl) (aj bo hr ↑2 rfl (ae (wv 2) ac))) (ag (aA (i:=5) bN.nd rfl ↑7 ↑20) (ag (jM (i:=6) rfl bN.nd rfl ↑7 (aK (N':=["tag","goal","floor"]) (pk:=[none,none,some 4]) (by kernel_rfl)) (bF (K:=K) rfl ↑20) (λC s H ex=>(dE (K:=K) (n:=2) rfl rfl (aE (az (i:=0) (show List.Nodup (["tag","goal","floor"]:List Str) by decide+kernel) rfl ↑7) (aE (az (i:=1) (show List.Nodup (["tag","goal","floor"]:List Str) by decide+kernel) rfl ↑7) cA)))) (λC s H ex=>(eI (ax ↑10 (wv 1) (wv 2) (au _)))) (λC s H ex=>(wv 0))) (ag (aA (i:=7) bN.nd rfl ↑7 (dF ac)) (ag (jM (i:=8) rfl bN.nd rfl ↑7 (aK (N':=["tag","goal","floor"]) (pk:=[none,none,some 4]) (by kernel_rfl)) (bF (K:=K) rfl ↑20) (λC s H ex=>(dE (K:=K) (n:=2) rfl rfl (aE (az (i:=0) (show List.Nodup (["tag","goal","floor"]:List Str) by decide+kernel) rfl ↑7) (aE (az (i:=1) (show List.Nodup (["tag","goal","floor"]:List Str) by decide+kernel) rfl ↑7) cA)))) (λC s H ex=>(eI (ax (gq (K:=K) rfl hr) (wv 1) (wv 2) (au _)))) (λC s H ex=>(bt (ae (wv 0) ↑19)))) (ag (d9 PassesOwn.never rfl (bF (K:=K) rfl (wv 3)) (dE (K:=K) (n:=4) rfl rfl (aE (az (i:=9) bN.nd rfl ↑7) (aE (az (i:=10) bN.nd rfl ↑7) (aE (az (i:=11) bN.nd rfl ↑7) (aE (az (i:=12) bN.nd rfl ↑7) cA))))) (af (aI (PW.pt (dj (ax ↑10 (wv 10) (wv 4) (au _)) (dj (ax w_lt (aG (cI (K:=K) rfl) rfl bj PySem.boot_len (ae (wv 8) ac)) (wv 1) (au _)) (cF (bZ (K:=K) rfl (aj iw hr ↑2 rfl (ae (wv 0) (ae (wv 5) (ae (wv 10) (ae (wv 11) ac)))))))))) (ag (aO (dY (K:=K) rfl PySem.F.plainAttrs_list PySem.F.slot_list_append PySem.F.type_list_append dB (wv 7) (ae (wv 9) ac))) (ag (aO (dY (K:=K) rfl PySem.F.plainAttrs_list PySem.F.slot_list_append PySem.F.type_list_append dB (wv 8) (ae (bt (ae (wv 9) (ae (wv 11) ac))) ac))) (af (aA (i:=5) bN.nd rfl ↑7 (cL (ax ↑10 (wv 0) ay (au _)) (aj fq hr ↑2 rfl (ae (wv 10) (ae (wv 11) ac))) (wv 5)))))) aC))) (af (aq (bt (ae (bt (ae ↑20 (ae (wv 5) (ae ↑20 (ae ↑20 (ae (bU (gR (K:=K) rfl) rfl b2 boot_tuple (ae (wv 8) ac)) ac)))))) (ae (wv 6) (ae (wv 7) ac)))))))))))),?_⟩];left;rwa[cN.mk _ _ _ _ _ _ rfl hc ?_];left;rwa[dW (by walk_at "l3sq") ?_]
 refine cJ (xs:=bs) (λi ys H'=>H'=H/\ys=(d5 pl (ps.take i)).map V.int) (bx ↑6) (λi ys H' p=>by
  rw [p.2,List.length_map];unfold d5;rw [List.length_map];have:=List.length_filter_le (λp=>decide (2*p.2=pl)) (ps.take i);rw [List.length_take] at this;omega) ⟨rfl,rfl⟩ (λi ys H' _ p=>by rw [p.1];exact aP.of eb) (λi x ys H' hxi p=> ?_) (λys H' p o n1=> ?_)
 ·obtain ⟨rfl,rfl⟩:=p;obtain ⟨pr,hpr,dpr⟩:=bJ db hxi;obtain ⟨u,us,rfl,hu,dus⟩:=dpr.outT
  cases dus with|cons q0 r0=>cases r0 with|cons q1 r1=>
  cases r1;cases q0.isInt;cases q1.isInt;left;rwa[⟨gt,?_⟩];show if decide (pr.2=pl / 2)=true then _ else _;unfold d5;rw [jY _ hpr];by_cases h1:pr.2=pl / 2
  ·rw [if_pos (decide_eq_true h1),if_pos (decide_eq_true (show 2*pr.2=pl by omega)),List.map_append,List.map_append];exact ⟨rfl,rfl⟩
  ·rw [if_neg (by rw [decide_eq_false h1];decide),if_neg (by rw [decide_eq_false (show ¬2*pr.2=pl by omega)];decide),List.append_nil];exact ⟨rfl,rfl⟩
 obtain ⟨rfl,rfl⟩:=p;rw [List.take_of_length_le (show ps.length<=bs.length by omega)];have e1:upd H' o (.lst ((d5 pl ps).map V.int)) o=some (.lst ((d5 pl ps).map V.int)):=ak;have s1:av H' (upd H' o (.lst ((d5 pl ps).map V.int))):= .upd n1;generalize upd H' o (.lst ((d5 pl ps).map V.int))=H1 at e1 s1 ⊢;left;rwa[ly (bx (by first|decide|simp)) λn H2 s2 n2 e2=> ?_]
 have no:n≠o:=λz=>by rw [z,e1] at n2;cases n2
 have nH:H' n=none:=s1.free n2;left;rwa[dW (by walk_at "l3sq") ?_]
 refine cJ (xs:=bs) (λi ys HX=>av H2 HX/\aN K HX ys ((fY pl (ps.take i)).map cZ)) (bx ↑6) (λi ys HX p=>by
  rw [aL p.2];unfold fY;have:=List.length_filter_le (λp=> !decide (2*p.2=pl)) (ps.take i);rw [List.length_take] at this;omega) ⟨.refl _,.nil⟩ (λi ys HX _ p=>p.1.seqT (s2.seqT (s1.seqT (aP.of eb)))) (λi x ys HX hxi p=> ?_) (λys HX p k n3=> ?_)
 ·obtain ⟨sx,dy⟩:=p;obtain ⟨pr,hpr,dpr⟩:=bJ db hxi;obtain ⟨u,us,rfl,hu,dus⟩:=dpr.outT
  cases dus with|cons q0 r0=>cases r0 with|cons q1 r1=>
  cases r1;cases q0.isInt;cases q1.isInt;left;rwa[⟨gt,?_⟩];show if (!decide (pr.2=pl / 2))=true then _ else _;unfold fY;rw [jY _ hpr];by_cases h1:pr.2=pl / 2
  ·rw [if_neg (by rw [decide_eq_true h1];decide),if_neg (by rw [decide_eq_true (show 2*pr.2=pl by omega)];decide),List.append_nil];exact ⟨sx,dy⟩
  ·rw [if_pos (by rw [decide_eq_false h1];rfl),if_pos (by rw [decide_eq_false (show ¬2*pr.2=pl by omega)];rfl)];rwa[cf (bx (by first|decide|simp)) λl HY sy ny ey=> ?_];rwa[⟨sx.trans sy,?_⟩];rw [List.map_append];exact Paired.app (aN.same dy sy) (.cons (gF (aP.of ey) (.cons (.int _) (.cons (.int _) .nil))) .nil)
 obtain ⟨sx,dy⟩:=p;rw [List.take_of_length_le (show ps.length<=bs.length by omega)] at dy
 have nk:n≠k:=λz=>by rw [<-z,sx.get e2] at n3;cases n3
 have ok:o≠k:=λz=>by rw [<-z,sx.get (s2.get e1)] at n3;cases n3
 have kH:H' k=none:=s1.free (s2.free (sx.free n3));have sm3:av H' (upd HX k (.lst ys)):=((s1.trans s2).trans sx).trans (.upd n3);have e3:upd HX k (.lst ys) n=some (.lst []):=(av.upd n3).get (sx.get e2);have eo:upd HX k (.lst ys) o=some (.lst ((d5 pl ps).map V.int)):=(av.upd n3).get (sx.get (s2.get e1));have ek3:upd HX k (.lst ys) k=some (.lst ys):=ak;have dk3:aN K (upd HX k (.lst ys)) ys ((fY pl ps).map cZ):=aN.same dy (.upd n3);generalize upd HX k (.lst ys)=H3 at sm3 e3 eo ek3 dk3 ⊢;left;rwa[dA (sm3.seq (aS.of ep)) ?_];rwa[jX (xs:=xs) (λi σ HX=>ur K H' HX n k (cq so room pl ⟨li,fY pl ps,[]⟩ (rs.take i)).ins (cq so room pl ⟨li,fY pl ps,[]⟩ (rs.take i)).kept/\HX o=some (.lst ((d5 pl ps).map V.int))/\∃t1 t2 t3 t4,σ=[some (.str so),some (.int room),some (.ref c),some (.ref p),some (.int (pl / 2)),some (.int (cq so room pl ⟨li,fY pl ps,[]⟩ (rs.take i)).light),some (.ref o),some (.ref n),some (.ref k),t1,t2,t3,t4]) ⟨⟨sm3,nH,kH,nk,e3,ys,ek3,dk3⟩,eo,_,_,_,_,rfl⟩ (λi σ HX _ pv=>by obtain ⟨⟨sm,_⟩,_⟩:=pv;exact sm.seq (aS.of ep)) (λi x σ HX hx pv=> ?_) (λσ HX pv=> ?_)]
 ·obtain ⟨G,eo,t1,t2,t3,t4,rfl⟩:=pv;obtain ⟨r,hri,dri⟩:=bJ dp hx;obtain ⟨u,us,rfl,hu,dus⟩:=dri.outT
  cases dus with|cons q0 r0=>cases r0 with|cons q1 r1=>cases r1 with|cons q2 r2=>cases r2 with|cons q3 r3=>
  cases r3;cases q0.isInt;cases q1.isInt;cases q2.isInt;cases q3.isInt;have sm:=G.1
  have lp:i<rs.length:=by have:=(List.getElem?_eq_some_iff.mp hri).1;omega
  have ll:=nL (so:=so) (room:=room) (pl:=pl) (rs.take i) ⟨li,fY pl ps,[]⟩;rw [List.length_take] at ll;have l20:=hrs.1;have kp:(fY pl ps).length<=ps.length:=List.length_filter_le _ _;generalize hS:cq so room pl ⟨li,fY pl ps,[]⟩ (rs.take i)=S at *;simp only [List.length_nil] at ll
  have nope:iq so room pl S r=false->dZ so room pl S r=S:=λe=>by unfold dZ;rw [e];rfl
  obtain ⟨ks,ek,dk⟩:=G.2.2.2.2.2;have kl:=aL dk;left;rwa[oR (λh1=> ?_) (λh1=> ?_)]
  ·have h1':2*r.start=pl:=by omega
   left;rw [kl];rwa[oR (λh2=> ?_) (λh2=> ?_)]
   ·left;rwa[DI.mk _ _ _ _ rfl ?_]
    have yes:(so=Str.ofString "free"\/S.light=0\/S.light=vi r.start r.goal)->dZ so room pl S r=⟨if so=Str.ofString "way" then xC r else S.light,S.kept++[(r.tag,r.goal)],S.ins++[r.tag]⟩:=λz=>by
     unfold dZ iq;rw [if_pos (by rw [decide_eq_true h1',decide_eq_true h2,decide_eq_true (show so=Str.ofString "free"\/S.light=0\/S.light=xC r from z)];rfl)]
    have en0:=G.2.2.2.2.1;rwa[oR (λh4=> ?_) (λh4=> ?_)]
    ·left;rwa[iK G.2.2.2.2.1 (AM (by rw [List.length_map];omega)) ?_];have GB:=G.pushN r.tag
     have eoB:upd HX n (.lst (S.ins.map V.int++[.int r.tag])) o=some (.lst ((d5 pl ps).map V.int)):=by rw [ap (Ne.symm no)];exact eo
     generalize upd HX n (.lst (S.ins.map V.int++[.int r.tag]))=HB at GB eoB ⊢;obtain ⟨ksB,ekB,dkB⟩:=GB.2.2.2.2.2;left;erw[cf (bx (by first|decide|simp)) λlA HA sA nA eA=> ?_];have GA:=GB.same sA;obtain ⟨ksA,ekA,dkA⟩:=GA.2.2.2.2.2;rwa[iK ekA (AM (by rw [aL dkA];omega)) ?_];have GC:=GA.pushK ekA eA
     have eoC:upd HA k (.lst (ksA++[.ref lA])) o=some (.lst ((d5 pl ps).map V.int)):=by rw [ap ok];exact sA.get eoB
     generalize upd HA k (.lst (ksA++[.ref lA]))=HC at GC eoC ⊢;ext;by_cases h5:so=Str.ofString "way"
     ·left;erw[qt.mk _ _ rfl ?_];rw [dR hri,hS,yes h4,if_pos h5];exact ⟨GC,eoC,_,_,_,_,rfl⟩
     ·left;rw [dR hri,hS,yes h4,if_neg h5];exact ⟨GC,eoC,_,_,_,_,rfl⟩
    ·left;rw [dR hri,hS,nope (by unfold iq;rw [decide_eq_false (show ¬(so=Str.ofString "free"\/S.light=0\/S.light=xC r) from h4),Bool.and_false])];exact ⟨G,eo,_,_,_,_,rfl⟩
   ·left;rw [dR hri,hS,nope (by unfold iq;rw [decide_eq_false h2,Bool.and_false];rfl)];exact ⟨G,eo,_,_,_,_,rfl⟩
  ·left;rw [dR hri,hS,nope (by unfold iq;rw [decide_eq_false (show ¬2*r.start=pl by omega)];rfl)];exact ⟨G,eo,_,_,_,_,rfl⟩
 ·obtain ⟨G,eo,t1,t2,t3,t4,rfl⟩:=pv;rw [List.take_of_length_le (show rs.length<=xs.length by omega)] at G ⊢;obtain ⟨ks,ek,dk⟩:=G.2.2.2.2.2;have sm:=G.1;left;rwa[kK (aS.of ek) λl HA sA nA eA=> ?_];left;rwa[cf KH λc' HB sB nB eB=> ?_];left;rwa[cf (bx (by first|decide|simp)) λr' HC sC nC eC=> ?_];exact q r' HC (((G.1.trans sA).trans sB).trans sC) ⟨c',o,n,eC,⟨l,ks,sC.get eB,sC.get (sB.get eA),by walk_at "l3sq"⟩,by walk_at "l3sq",sC.get (sB.get (sA.get G.2.2.2.2.1)),n1,nH,Ne.symm no⟩
abbrev La:Str:=Str.ofString "plain"
abbrev hst:Str:=Str.ofString "hasty"
abbrev Hl:Str:=Str.ofString "slow"
def rR (k:Str):Prop:=k=La\/k=hst\/k=Hl
def kc (kD kH kS:Addr)(k:Str):Addr:=if k=hst then kH else if k=Hl then kS else kD
theorem Md {kD kH kS:Addr}:kc kD kH kS La=kD:=by unfold kc;rw [if_neg ↑2,if_neg ↑2]
theorem Me {kD kH kS:Addr}:kc kD kH kS hst=kH:=by unfold kc;rw [if_pos rfl]
theorem Mc {kD kH kS:Addr}:kc kD kH kS Hl=kS:=by unfold kc;rw [if_neg ↑2,if_pos rfl]
def iM (k:Str)(t n:Int)(b s:Bool):Int:=if (k=La/\b=true)\/(k=Hl/\(b=true\/s=true)) then t else if k=hst/\b=true then n else n - 1
abbrev I9 (C dx:Addr)(t:Int):HO:= .ins C dx [(Str.ofString "turns",.int t)]
inductive kO (K:Fg)(vs:List V)(H:Hp)(Q:VK)(_e:XK):Prop
 |mk (a t C dx:_) (_:vs=[.ref a,.int t]) (_:H a=some (.ins C dx [])) (_:ut K C) (_:aZ K C "turns") (_:Q .non (upd H a (I9 C dx t)))
theorem Io (F:bw K "__init__" "Door.__init__" oE f fd):aD P w K mg base br 1 f fd ["self","turns"] (kO K):=by
 rwa[F.ok zB ↑4 ↑1]
 ·obtain ⟨a,t,C,dx,rfl,_⟩:=h;rfl
 obtain ⟨a,t,C,dx,rfl,ea,cl,na,q⟩:=h;erw[⟨_,(af (cx (K:=K) rfl (wv 0) (wv 1))),?_⟩];exact cz ea cl na ↑2 q
inductive iX (K:Fg)(k:Str)(vs:List V)(H:Hp)(Q:VK)(_e:XK):Prop
 |mk (a n b s t C dx:_) (_:vs=[.ref a,.int n,.bl b,.bl s]) (_:H a=some (I9 C dx t)) (_:ut K C) (_:aZ K C "turns") (_:Q (.int (iM k t n b s)) H)
theorem EO (F:bw K "left" "Door.left" oC f fd):aD P w K mg base br 1 f fd ["self","count","blocked","stepped"] (iX K La):=by
 rwa[F.ok zA ↑4 ↑1]
 ·obtain ⟨a,n,b,s,t,C,dx,rfl,_⟩:=h;rfl
 obtain ⟨a,n,b,s,t,C,dx,rfl,ea,cl,na,q⟩:=h;rwa[⟨_,(af (aq (cL (bZ (K:=K) rfl (wv 2)) ↑11 (aH eK (wv 1) aa)))),?_⟩];cases b
 ·rw [show iM La t n false s=n - 1 from by unfold iM;rw [if_neg (by cases s<;>decide),if_neg ↑2]] at q;left;exact q
 ·rw [show iM La t n true s=t from by unfold iM;rw [if_pos (.inl ⟨rfl,rfl⟩)]] at q;left;exact fc ea cl na rfl q
theorem EN (F:bw K "left" "Hasty.left" lq f fd):aD P w K mg base br 1 f fd ["self","count","blocked","stepped"] (iX K hst):=by
 rwa[F.ok x9 ↑4 ↑1]
 ·obtain ⟨a,n,b,s,t,C,dx,rfl,_⟩:=h;rfl
 obtain ⟨a,n,b,s,t,C,dx,rfl,ea,cl,na,q⟩:=h;rwa[⟨_,(af (aq (cL (bZ (K:=K) rfl (wv 2)) (wv 1) (aH eK (wv 1) aa)))),?_⟩];cases b
 ·rw [show iM hst t n false s=n - 1 from by unfold iM;rw [if_neg (by cases s<;>decide),if_neg ↑2]] at q;left;exact q
 ·rw [show iM hst t n true s=n from by unfold iM;rw [if_neg (by cases s<;>decide),if_pos ⟨rfl,rfl⟩]] at q;left;exact q
theorem EM (F:bw K "left" "Slow.left" og f fd):aD P w K mg base br 1 f fd ["self","count","blocked","stepped"] (iX K Hl):=by
 rwa[F.ok zt ↑4 ↑1]
 ·obtain ⟨a,n,b,s,t,C,dx,rfl,_⟩:=h;rfl
 obtain ⟨a,n,b,s,t,C,dx,rfl,ea,cl,na,q⟩:=h;rwa[⟨_,(af (aq (cL (PW.pt (fU (bZ (K:=K) rfl (wv 2)) (eU (bZ (K:=K) rfl (wv 3))))) ↑11 (aH eK (wv 1) aa)))),?_⟩];cases b
 ·cases s
  ·rw [show iM Hl t n false false=n - 1 from by unfold iM;rw [if_neg ↑2,if_neg ↑2]] at q;left;exact q
  ·rw [show iM Hl t n false true=t from by unfold iM;rw [if_pos (.inr ⟨rfl,.inr rfl⟩)]] at q;left;exact fc ea cl na rfl q
 ·rw [show iM Hl t n true s=t from by unfold iM;rw [if_pos (.inr ⟨rfl,.inl rfl⟩)]] at q;left;exact fc ea cl na rfl q
structure JY (K:Fg)(C:Addr):Prop where
 i:gN K C
 n:aZ K C "turns"
unseal gz in
theorem LP {C:Addr}{E:XK}{t:Int}{H:Hp}{Q:VK}(c:JY K C)(g:∀a dx H',av H H'->H a=none->H' a=some (I9 C dx t)->Q (.ref a) H'):gz C (kO K) E [.int t] H Q:=by
 show ∀a dx,H a=none->H dx=none->dx≠a->kO K (.ref a::([.int t]++[])) (upd (upd H dx (.own a)) a (.ins C dx [])) (λv H2=>v= .non/\Q (.ref a) H2) E;intro a dx h1 h2 h3;rwa[kO.mk _ _ _ _ rfl ak c.i.cl c.n ⟨rfl,g a dx _ ?_ h1 ak⟩];intro b u z;rw [ap (λe=>by rw [e,h1] at z;cases z)];exact eg h1 h2 b u z
inductive qx (K:Fg)(kD kH kS:Addr)(vs:List V)(H:Hp)(Q:VK)(_e:XK):Prop
 |mk (k t:_) (_:vs=[.str k,.int t]) (_:rR k) (_:∀a dx H',av H H'->H a=none->H' a=some (I9 (kc kD kH kS k) dx t)->Q (.ref a) H')
theorem B7 (F:bw K "door_of" "door_of" v7 f fd)(cD:JY K ug)(cH:JY K mX)(cS:JY K wJ)(Fi:jJ P w K mg base br 1 "Door" ug (kO K))(Ab:jJ P w K mg base br 1 "Hasty" mX (kO K))(Fh:jJ P w K mg base br 1 "Slow" wJ (kO K)):aD P w K mg base br 3 f fd ["kind","turns"] (qx K ug mX wJ):=by
 rwa[F.ok D6 ↑4 ↑1]
 ·obtain ⟨k,t,rfl,_⟩:=h;rfl
 obtain ⟨k,t,rfl,hk,q⟩:=h;rwa[⟨_,(ag (aI (ax ↑10 (wv 0) ay (au _)) (af (aq (gP Ab jh hr ↑2 rfl ↑19))) aC) (ag (aI (ax ↑10 (wv 0) ay (au _)) (af (aq (gP Fh jh hr ↑2 rfl ↑19))) aC) (af (aq (gP Fi jh hr ↑2 rfl ↑19))))),?_⟩]
 rcases hk with rfl|rfl|rfl
 ·rw [Md] at q;left;exact LP cD q
 ·rw [Me] at q;left;exact LP cH q
 ·rw [Mc] at q;left;exact LP cS q
seal Hn rY qm
structure Lf where
 st:Int
 rm:Int
 tn:Int
 kd:Str
structure Hs where
 fl:Int
 ls:List Lf
 lo:Nat
 so:Str
structure Hs.ok (h:Hs):Prop where
 f2:2<=h.fl
 f8:h.fl<=8
 l1:1<=h.ls.length
 l3:h.ls.length<=3
 lf:∀l∈h.ls,1<=l.rm/\l.rm<=6/\1<=l.tn/\l.tn<=4/\rR l.kd
 so:h.so=Str.ofString "free"\/h.so=Str.ofString "way"
def ME (K:Fg)(H:Hp)(x:V)(l:Lf):Prop:=∃b,x= .ref b/\aP K H b [.int l.st,.int l.rm,.int l.tn,.str l.kd]
def nG (K:Fg)(H:Hp)(a:Addr)(h:Hs):Prop:=h.ok/\∃p xs,aP K H a [.int h.fl,.ref p,.int (h.lo:Int),.str h.so]/\aP K H p xs/\Paired (ME K H) xs h.ls
theorem nG.keep {H H':Hp}{a:Addr}{h:Hs}(c:nG K H a h)(s:aU H H'):nG K H' a h:=by
 obtain ⟨o,p,xs,h1,h2,h3⟩:=c;exact ⟨o,p,xs,s.sqT h1,s.sqT h2,Paired.imp' (λx l ⟨b,e,z⟩=>⟨b,e,s.sqT z⟩) h3⟩
theorem nG.same {H H':Hp}{a:Addr}{h:Hs}(c:nG K H a h)(s:av H H'):nG K H' a h:=c.keep s.st
theorem nG.at {H:Hp}{a:Addr}{h:Hs}(c:nG K H a h){i:Int}{l:Lf}(h0:0<=i)(hl:h.ls[i.toNat]? =some l):∃p xs b,aP K H a [.int h.fl,.ref p,.int (h.lo:Int),.str h.so]/\aP K H p xs/\xs.length=h.ls.length/\pW xs i=some (.ref b)/\aP K H b [.int l.st,.int l.rm,.int l.tn,.str l.kd]:=by
 obtain ⟨o,p,xs,h1,h2,h3⟩:=c;obtain ⟨j,rfl⟩:=Int.eq_ofNat_of_zero_le h0;rw [show ((j:Int)).toNat=j by omega] at hl
 have hj:j<xs.length:=by rw [h3.len];exact (List.getElem?_eq_some_iff.mp hl).1
 obtain ⟨l',hl',b,eb,z⟩:=h3.get1 (List.getElem?_eq_getElem hj);rw [hl] at hl';cases hl';exact ⟨p,xs,b,h1,h2,h3.len,by rw [gb (List.getElem?_eq_getElem hj),eb],z⟩
inductive j6 (K:Fg)(g:Lf->V)(vs:List V)(H:Hp)(Q:VK)(_e:XK):Prop
 |mk (a h i l:_) (_:vs=[.ref a,.int i]) (_:nG K H a h) (_:0<=i) (_:h.ls[i.toNat]? =some l) (_:Q (g l) H)
theorem Ie (F:bw K "room_of" "room_of" vV f fd):aD P w K mg base br 1 f fd ["house","lift"] (j6 K λl=> .int l.rm):=by
 rwa[F.ok DY ↑4 ↑1]
 ·obtain ⟨a,h,i,l,rfl,_⟩:=h;rfl
 obtain ⟨a,h,i,l,rfl,hH,i0,hl,q⟩:=h;obtain ⟨p,xs,b,h1,h2,h3,h4,h5⟩:=hH.at i0 hl;erw[⟨_,(af (aq (ao ↑3 (ao ↑3 ↑16 (wv 1) ↑5) aa ↑5))),?_⟩];erw[ar h1 rfl ?_];erw[ar h2 h4 ?_];exact ar h5 rfl q
theorem zU (F:bw K "turns_of" "turns_of" qP f fd):aD P w K mg base br 1 f fd ["house","lift"] (j6 K λl=> .int l.tn):=by
 rwa[F.ok BE ↑4 ↑1]
 ·obtain ⟨a,h,i,l,rfl,_⟩:=h;rfl
 obtain ⟨a,h,i,l,rfl,hH,i0,hl,q⟩:=h;obtain ⟨p,xs,b,h1,h2,h3,h4,h5⟩:=hH.at i0 hl;erw[⟨_,(af (aq (ao ↑3 (ao ↑3 ↑16 (wv 1) ↑5) aa ↑5))),?_⟩];erw[ar h1 rfl ?_];erw[ar h2 h4 ?_];exact ar h5 rfl q
theorem B6 (F:bw K "kind_of" "kind_of" v4 f fd):aD P w K mg base br 1 f fd ["house","lift"] (j6 K λl=> .str l.kd):=by
 rwa[F.ok D4 ↑4 ↑1]
 ·obtain ⟨a,h,i,l,rfl,_⟩:=h;rfl
 obtain ⟨a,h,i,l,rfl,hH,i0,hl,q⟩:=h;obtain ⟨p,xs,b,h1,h2,h3,h4,h5⟩:=hH.at i0 hl;erw[⟨_,(af (aq (ao ↑3 (ao ↑3 ↑16 (wv 1) ↑5) aa ↑5))),?_⟩];erw[ar h1 rfl ?_];erw[ar h2 h4 ?_];exact ar h5 rfl q
structure Cb where
 pl:Int
 li:Int
 dr:Int
 mr:Int
 ps:List (Int×Int)
def fh (K:Fg)(H:Hp)(x:V)(c:Cb):Prop:=∃t,x= .ref t/\bW K H t c.pl c.li c.dr c.mr c.ps
theorem bW.keep {H H':Hp}{t:Addr}{pl li dr mk:Int}{ps:List (Int×Int)}(h:bW K H t pl li dr mk ps)(s:aU H H'):bW K H' t pl li dr mk ps:=by
 obtain ⟨b,xs,e1,e2,d⟩:=h;exact ⟨b,xs,s.tup e1,s.tup e2,s.dens d (fu ps)⟩
theorem fh.keep {H H':Hp}{x:V}{c:Cb}(h:fh K H x c)(s:aU H H'):fh K H' x c:=let ⟨t,e,z⟩:=h;⟨t,e,z.keep s⟩
structure MS where
 cs:List Cb
 ws:List bq
 last:Int
 fire:Bool
 bl:Nat
 log:List D
abbrev oK (h lc lw:Addr)(last:Int)(fire:Bool)(bl:Nat)(ll:Addr):List (Str×V):=[(Str.ofString "house",.ref h),(Str.ofString "cabins",.ref lc),(Str.ofString "waiting",.ref lw),(Str.ofString "last",.int last),(Str.ofString "fire",.bl fire),(Str.ofString "blocked",.int (bl:Int)),(Str.ofString "log",.ref ll)]
structure tJ (K:Fg)(C:Addr):Prop where
 i:gN K C
 house:aZ K C "house"
 cabins:aZ K C "cabins"
 waiting:aZ K C "waiting"
 last:aZ K C "last"
 fire:aZ K C "fire"
 blocked:aZ K C "blocked"
 log:aZ K C "log"
structure dH (K:Fg)(C:Addr)(H0 H:Hp)(m h dx lc lw ll:Addr)(xs ys zs:List V)(M:MS):Prop where
 s:av H0 H
 nm:H0 m=none
 nc:H0 lc=none
 nw:H0 lw=none
 nl:H0 ll=none
 cw:lc≠lw
 cl:lc≠ll
 wl:lw≠ll
 em:H m=some (.ins C dx (oK h lc lw M.last M.fire M.bl ll))
 ec:H lc=some (.lst xs)
 ew:H lw=some (.lst ys)
 el:H ll=some (.lst zs)
 dc:Paired (fh K H) xs M.cs
 dw:aN K H ys (M.ws.map bq.d)
 dl:aN K H zs M.log
 ln:noLs M.log=true
inductive ff (K:Fg)(C:Addr)(H0 H:Hp)(m h:Addr)(M:MS):Prop
 |mk (dx lc lw ll xs ys zs:_) (_:dH K C H0 H m h dx lc lw ll xs ys zs M)
section
variable {C:Addr}{H0 H H':Hp}{m h dx lc lw ll:Addr}{xs ys zs:List V}{M:MS}
theorem dH.same (a:dH K C H0 H m h dx lc lw ll xs ys zs M)(s':av H H'):dH K C H0 H' m h dx lc lw ll xs ys zs M:=
 ⟨a.s.trans s',a.nm,a.nc,a.nw,a.nl,a.cw,a.cl,a.wl,s' _ _ a.em,s' _ _ a.ec,s' _ _ a.ew,s' _ _ a.el,Paired.imp' (λx c z=>fh.keep z s'.st) a.dc,aN.same a.dw s',aN.same a.dl s',a.ln⟩
theorem ff.same (a:ff K C H0 H m h M)(s':av H H'):ff K C H0 H' m h M:=let ⟨dx,lc,lw,ll,xs,ys,zs,z⟩:=a;⟨dx,lc,lw,ll,xs,ys,zs,z.same s'⟩
theorem fh.nt {H H':Hp}(s:bB H H'){v:V}{c:Cb}(h:fh K H v c):fh K H' v c:=by
 obtain ⟨t,e,b,bs,h1,h2,h3⟩:=h;exact ⟨t,e,b,bs,s _ _ ↑28 h1,s _ _ ↑28 h2,s.dens h3⟩
theorem dH.sameN (a:dH K C H0 H m h dx lc lw ll xs ys zs M)(nt:NT H0)(s':bB H H'):dH K C H0 H' m h dx lc lw ll xs ys zs M:=
 ⟨bB.onto nt a.s s',a.nm,a.nc,a.nw,a.nl,a.cw,a.cl,a.wl,s' _ _ ↑28 a.em,s' _ _ ↑28 a.ec,s' _ _ ↑28 a.ew,s' _ _ ↑28 a.el,Paired.imp' (λx c z=>fh.nt s' z) a.dc,s'.dens a.dw,s'.dens a.dl,a.ln⟩
theorem dH.setC (a:dH K C H0 H m h dx lc lw ll xs ys zs M){i:Nat}{v:V}{c:Cb}(hv:fh K H v c):dH K C H0 (upd H lc (.lst (xs.set i v))) m h dx lc lw ll (xs.set i v) ys zs {M with cs:=M.cs.set i c}:=by
 have st:aU H (upd H lc (.lst (xs.set i v))):= .updL a.ec;rwa[⟨λb u z=> ?_,a.nm,a.nc,a.nw,a.nl,a.cw,a.cl,a.wl,?_,ak,?_,?_,rC (Paired.imp' (λx c z=>fh.keep z st) a.dc) (hv.keep st),st.dens a.dw (ib _),st.dens a.dl a.ln,a.ln⟩]
 ·rw [ap (λe=>by rw [e,a.nc] at z;cases z)];exact a.s b u z
 ·rw [ap (λe=>by have:=a.em;rw [e,a.ec] at this;cases this)];exact a.em
 ·rw [ap a.cw.symm];exact a.ew
 ·rw [ap a.cl.symm];exact a.el
theorem dH.setL (a:dH K C H0 H m h dx lc lw ll xs ys zs M){vs:List V}{ds:List D}(hv:aN K H vs ds)(hn:noLs ds=true):dH K C H0 (upd H ll (.lst (zs++vs))) m h dx lc lw ll xs ys (zs++vs) {M with log:=M.log++ds}:=by
 have st:aU H (upd H ll (.lst (zs++vs))):= .updL a.el;rwa[⟨λb u z=> ?_,a.nm,a.nc,a.nw,a.nl,a.cw,a.cl,a.wl,?_,?_,?_,ak,Paired.imp' (λx c z=>fh.keep z st) a.dc,st.dens a.dw (ib _),Paired.app (st.dens a.dl a.ln) (st.dens hv hn),E8 a.ln hn⟩]
 ·rw [ap (λe=>by rw [e,a.nl] at z;cases z)];exact a.s b u z
 ·rw [ap (λe=>by have:=a.em;rw [e,a.el] at this;cases this)];exact a.em
 ·rw [ap a.cl];exact a.ec
 ·rw [ap a.wl];exact a.ew
theorem dH.setW (a:dH K C H0 H m h dx lc lw ll xs ys zs M){vs:List V}{rs:List bq}(hv:aN K H vs (rs.map bq.d)):dH K C H0 (upd H lw (.lst vs)) m h dx lc lw ll xs vs zs {M with ws:=rs}:=by
 have st:aU H (upd H lw (.lst vs)):= .updL a.ew;rwa[⟨λb u z=> ?_,a.nm,a.nc,a.nw,a.nl,a.cw,a.cl,a.wl,?_,?_,ak,?_,Paired.imp' (λx c z=>fh.keep z st) a.dc,st.dens hv (ib _),st.dens a.dl a.ln,a.ln⟩]
 ·rw [ap (λe=>by rw [e,a.nw] at z;cases z)];exact a.s b u z
 ·rw [ap (λe=>by have:=a.em;rw [e,a.ew] at this;cases this)];exact a.em
 ·rw [ap a.cw];exact a.ec
 ·rw [ap a.wl.symm];exact a.el
theorem dH.putW (a:dH K C H0 H m h dx lc lw ll xs ys zs M){l:Addr}{vs:List V}{rs:List bq}(nl0:H0 l=none)(ncl:lc≠l)(nll:l≠ll)(e:H l=some (.lst vs))(hv:aN K H vs (rs.map bq.d)):dH K C H0 (upd H m (.ins C dx (oK h lc l M.last M.fire M.bl ll))) m h dx lc l ll xs vs zs {M with ws:=rs}:=by
 have st:aU H (upd H m (.ins C dx (oK h lc l M.last M.fire M.bl ll))):= .updI a.em
 have nm:∀ {p:Addr} {us:List V},H p=some (.lst us)->p≠m:=λ{p us} e z=>by rw [z,a.em] at e;cases e
 rwa[⟨λb u z=> ?_,a.nm,a.nc,nl0,a.nl,ncl,a.cl,nll,ak,?_,?_,?_,Paired.imp' (λx c z=>fh.keep z st) a.dc,st.dens hv (ib _),st.dens a.dl a.ln,a.ln⟩]
 ·rw [ap (λe=>by rw [e,a.nm] at z;cases z)];exact a.s b u z
 ·rw [ap (nm a.ec)];exact a.ec
 ·rw [ap (nm e)];exact e
 ·rw [ap (nm a.el)];exact a.el
theorem dH.putF (a:dH K C H0 H m h dx lc lw ll xs ys zs M)(last:Int)(fire:Bool)(bl:Nat):dH K C H0 (upd H m (.ins C dx (oK h lc lw last fire bl ll))) m h dx lc lw ll xs ys zs {M with last:=last,fire:=fire,bl:=bl}:=by
 have st:aU H (upd H m (.ins C dx (oK h lc lw last fire bl ll))):= .updI a.em
 have nm:∀ {p:Addr} {us:List V},H p=some (.lst us)->p≠m:=λ{p us} e z=>by rw [z,a.em] at e;cases e
 rwa[⟨λb u z=> ?_,a.nm,a.nc,a.nw,a.nl,a.cw,a.cl,a.wl,ak,?_,?_,?_,Paired.imp' (λx c z=>fh.keep z st) a.dc,st.dens a.dw (ib _),st.dens a.dl a.ln,a.ln⟩]
 ·rw [ap (λe=>by rw [e,a.nm] at z;cases z)];exact a.s b u z
 ·rw [ap (nm a.ec)];exact a.ec
 ·rw [ap (nm a.ew)];exact a.ew
 ·rw [ap (nm a.el)];exact a.el
end
inductive Dd where
 |come (t s g:Int) (k:Bool)
 |lf (x:Str) (n:Int)
 |sg (x:Str)
abbrev pG:Str:=Str.ofString "come"
def Dd.v:Dd->List V
 | .come t s g k=>[.str pG,.int t,.int s,.int g,.bl k]
 | .lf x n=>[.str x,.int n]
 | .sg x=>[.str x]
def Dd.ok:Dd->Prop
 | .come _ _ _ _=>True
 | .lf x _=>x=Str.ofString "block"\/x=Str.ofString "stick"\/x=Str.ofString "free"\/x=Str.ofString "goods"\/x=Str.ofString "back"
 | .sg x=>x=Str.ofString "fire"\/x=Str.ofString "calm"
def xp (H:Hp)(a:Addr)(d:Dd):Prop:=H a=some (.tup d.v)/\d.ok
theorem xp.keep {H H':Hp}{a:Addr}{d:Dd}(h:xp H a d)(s:aU H H'):xp H' a d:=⟨s.tup h.1,h.2⟩
theorem xp.same {H H':Hp}{a:Addr}{d:Dd}(h:xp H a d)(s:av H H'):xp H' a d:=⟨s _ _ h.1,h.2⟩
def NR (t:Int):D:= .tup [.str (Str.ofString "barred"),.int t]
def BR (t:Int):D:= .tup [.str (Str.ofString "sent"),.int t]
def jx (lo:Nat)(M:MS)(t s g:Int)(k:Bool):MS:=if lo.testBit g.toNat=true/\k=false then {M with log:=M.log++[NR t]} else if M.fire=true then {M with log:=M.log++[BR t]} else {M with ws:=M.ws++[⟨t,s,g,-1⟩]}
theorem bQ {C:Addr}{H0 H:Hp}{m h dx lc lw ll:Addr}{xs ys zs:List V}{M:MS}{fn:Str}{v:V}{Q:VK}(a:dH K C H0 H m h dx lc lw ll xs ys zs M)(c:ut K C)(n:aZ K C fn)(e:(oK h lc lw M.last M.fire M.bl ll).lookup fn=some v)(g:Q v H):pN K fn m H Q:=fc a.em c n e g
inductive zp (K:Fg)(C:Addr)(vs:List V)(H:Hp)(Q:VK)(_e:XK):Prop
 |mk (m t s g k h hs H0 M:_) (_:vs=[.ref m,.int t,.int s,.int g,.bl k]) (_:nG K H h hs) (_:ff K C H0 H m h M) (_:M.ws.length<=1000) (_:M.log.length<=1000) (_:0<=g) (_:g<1000) (_:∀H',aU H H'->ff K C H0 H' m h (jx hs.lo M t s g k)->Q .non H')
theorem Ix {C:Addr}{t1:Tok}(F:bw K "do_come" "do_come" wa f fd)(cM:tJ K C)(aW:mg "NO_LIFT"=some (.int (-1) t1))(ft:bp P w K mg base 2 "has" ["mask","k"] d3):aD P w K mg base br 3 f fd ["moment","tag","start","goal","key"] (zp K C):=by
 have b1:aQ (.int (-1)) (.int (-1) t1):=⟨_,rfl⟩;rwa[F.ok D8 ↑4 ↑1]
 ·obtain ⟨m,t,s,g,k,h,hs,H0,M,rfl,_⟩:=h;rfl
 obtain ⟨m,t,s,g,k,h,hs,H0,M,rfl,hH,hM,wl,ll',g0,g1,q⟩:=h;obtain ⟨dx,lc,lw,ll,xs,ys,zs,a⟩:=hM;obtain ⟨o,p,ps,h1,h2,h3⟩:=hH;obtain ⟨gn,rfl⟩:=Int.eq_ofNat_of_zero_le g0;have yl:=aL a.dw;have zl:zs.length=M.log.length:=a.dl.len;have cl:=cM.i.cl;erw[⟨_,(af (aI (PW.pt (dj (bZ (K:=K) rfl (aj ft hr ↑2 rfl (ae (ao ↑3 ↑11 aa ↑5) (ae (wv 3) ac)))) (cF (cW (bZ (K:=K) rfl (wv 4)))))) (af (aO (dY (K:=K) rfl PySem.F.plainAttrs_list PySem.F.slot_list_append PySem.F.type_list_append dB ↑11 (ae (bt (ae ay ↑19)) ac)))) (af (aI (bZ (K:=K) rfl ↑11) (af (aO (dY (K:=K) rfl PySem.F.plainAttrs_list PySem.F.slot_list_append PySem.F.type_list_append dB ↑11 (ae (bt (ae ay ↑19)) ac)))) (af (aO (dY (K:=K) rfl PySem.F.plainAttrs_list PySem.F.slot_list_append PySem.F.type_list_append dB ↑11 (ae (bt (ae (wv 1) (ae (wv 2) (ae (wv 3) (ae (bh rfl aW b1) ac))))) ac)))))))),?_⟩];erw[bQ a cl cM.house rfl ?_];erw[ar h1 rfl ?_];rwa[d3.mk _ _ rfl ↑6 ?_];unfold jx at q;rw [show ((gn:Int)).toNat=gn by omega] at q;ext;by_cases hb:hs.lo.testBit gn=true
 ·rwa[cO hb ?_]
  cases k with
  |false=>
   rw [if_pos ⟨hb,rfl⟩] at q;ext;erw[cO rfl ?_];erw[bQ a cl cM.log (v:= .ref ll) rfl ?_];erw[⟨.inl ⟨rfl,_,aS.of a.el⟩,?_⟩];erw[cf ↑23 λr H1 s1 n1 e1=> ?_];rwa[iK (s1 _ _ a.el) (CT ↑6) ?_];exact q _ (s1.st.trans (.updL (s1 _ _ a.el))) ⟨dx,lc,lw,ll,xs,ys,_,(a.same s1).setL (ds:=[NR t]) (.cons (gF (aP.of e1) (.cons (.str _) (.cons (.int _) .nil))) .nil) rfl⟩
  |true=>
   rw [if_neg (λz=>by cases z.2)] at q;ext;erw[bP rfl ?_];erw[bQ a cl cM.fire (v:= .bl M.fire) rfl ?_]
   cases hf:M.fire with
   |true=>
    rw [if_pos hf] at q;erw[cO rfl ?_];erw[bQ a cl cM.log (v:= .ref ll) rfl ?_];erw[⟨.inl ⟨rfl,_,aS.of a.el⟩,?_⟩];erw[cf ↑23 λr H1 s1 n1 e1=> ?_];rwa[iK (s1 _ _ a.el) (CT ↑6) ?_];exact q _ (s1.st.trans (.updL (s1 _ _ a.el))) ⟨dx,lc,lw,ll,xs,ys,_,(a.same s1).setL (ds:=[BR t]) (.cons (gF (aP.of e1) (.cons (.str _) (.cons (.int _) .nil))) .nil) rfl⟩
   |false=>
    rw [if_neg (by rw [hf];decide)] at q;erw[bP rfl ?_];erw[bQ a cl cM.waiting (v:= .ref lw) rfl ?_];erw[⟨.inl ⟨rfl,_,aS.of a.ew⟩,?_⟩];erw[cf (bx (by show 4<=1000000;decide)) λr H1 s1 n1 e1=> ?_];rwa[iK (s1 _ _ a.ew) (CT ↑6) ?_];rwa[q _ (s1.st.trans (.updL (s1 _ _ a.ew))) ⟨dx,lc,lw,ll,xs,_,zs,(a.same s1).setW (rs:=M.ws++[⟨t,s,(gn:Int),-1⟩]) ?_⟩];rw [List.map_append];exact Paired.app (aN.same a.dw s1) (.cons (gF (aP.of e1) (.cons (.int _) (.cons (.int _) (.cons (.int _) (.cons (.int _) .nil))))) .nil)
 ·erw[bP (by simpa using hb) ?_];rwa[bP rfl ?_];rw [if_neg (λz=>hb z.1)] at q;ext;erw[bQ a cl cM.fire (v:= .bl M.fire) rfl ?_]
  cases hf:M.fire with
  |true=>
   rw [if_pos hf] at q;erw[cO rfl ?_];erw[bQ a cl cM.log (v:= .ref ll) rfl ?_];erw[⟨.inl ⟨rfl,_,aS.of a.el⟩,?_⟩];erw[cf ↑23 λr H1 s1 n1 e1=> ?_];rwa[iK (s1 _ _ a.el) (CT ↑6) ?_];exact q _ (s1.st.trans (.updL (s1 _ _ a.el))) ⟨dx,lc,lw,ll,xs,ys,_,(a.same s1).setL (ds:=[BR t]) (.cons (gF (aP.of e1) (.cons (.str _) (.cons (.int _) .nil))) .nil) rfl⟩
  |false=>
   rw [if_neg (by rw [hf];decide)] at q;erw[bP rfl ?_];erw[bQ a cl cM.waiting (v:= .ref lw) rfl ?_];erw[⟨.inl ⟨rfl,_,aS.of a.ew⟩,?_⟩];erw[cf (bx (by show 4<=1000000;decide)) λr H1 s1 n1 e1=> ?_];rwa[iK (s1 _ _ a.ew) (CT ↑6) ?_];rwa[q _ (s1.st.trans (.updL (s1 _ _ a.ew))) ⟨dx,lc,lw,ll,xs,_,zs,(a.same s1).setW (rs:=M.ws++[⟨t,s,(gn:Int),-1⟩]) ?_⟩];rw [List.map_append];exact Paired.app (aN.same a.dw s1) (.cons (gF (aP.of e1) (.cons (.int _) (.cons (.int _) (.cons (.int _) (.cons (.int _) .nil))))) .nil)
theorem eG {H:Hp}{x:V}{r:bq}(h:cm K H x r.d):∃a,x= .ref a/\aP K H a [.int r.tag,.int r.start,.int r.goal,.int r.lift]:=by
 obtain ⟨a,xs,rfl,h1,h2⟩:=h.outT
 cases h2 with|cons q0 t0=>cases t0 with|cons q1 t1=>cases t1 with|cons q2 t2=>cases t2 with|cons q3 t3=>
 cases t3;cases q0.isInt;cases q1.isInt;cases q2.isInt;cases q3.isInt;exact ⟨a,rfl,h1⟩
inductive jQ (K:Fg)(vs:List V)(H:Hp)(Q:VK)(_e:XK):Prop
 |mk (x r i:_) (_:vs=[x,.int i]) (_:cm K H x (bq.d r)) (_:∀v H',av H H'->cm K H' v (bq.d {r with lift:=i})->Q v H')
theorem EW (F:bw K "dealt_to" "dealt_to" rc f fd):aD P w K mg base br 1 f fd ["rider","lift"] (jQ K):=by
 rwa[F.ok BL ↑4 ↑1]
 ·obtain ⟨x,r,i,rfl,_⟩:=h;rfl
 obtain ⟨x,r,i,rfl,hd,q⟩:=h;obtain ⟨a,rfl,hT⟩:=eG hd;erw[⟨_,(af (aq (bt (ae ↑16 (ae ↑16 (ae ↑16 ↑19)))))),?_⟩];erw[ar hT rfl ?_];erw[ar hT rfl ?_];erw[ar hT rfl ?_];exact cf (bx (by show 4<=1000000;decide)) λb H2 s2 n2 e2=>q _ H2 s2 (gF (aP.of e2) (.cons (.int _) (.cons (.int _) (.cons (.int _) (.cons (.int _) .nil)))))
inductive xR (K:Fg)(vs:List V)(H:Hp)(Q:VK)(_e:XK):Prop
 |mk (c i pl li dr mk ps:_) (_:vs=[.ref c,.int i]) (_:bW K H c pl li dr mk ps) (_:∀r H',av H H'->bW K H' r pl li dr i ps->Q (.ref r) H')
theorem Lq (F:bw K "with_marks" "with_marks" kW f fd):aD P w K mg base br 1 f fd ["cabin","marks"] (xR K):=by
 rwa[F.ok xU ↑4 ↑1]
 ·obtain ⟨c,i,pl,li,dr,mk,ps,rfl,_⟩:=h;rfl
 obtain ⟨c,i,pl,li,dr,mk,ps,rfl,⟨b,xs,ec,eb,dx⟩,q⟩:=h;rwa[⟨_,(af (aq (bt (ae ↑16 (ae ↑16 (ae ↑16 (ae (wv 1) (ae ↑16 ac)))))))),?_⟩];have hT:=aP.of (K:=K) ec;ext;erw[ar hT rfl ?_];erw[ar hT rfl ?_];erw[ar hT rfl ?_];erw[ar hT rfl ?_];exact cf (bx (by show 5<=1000000;decide)) λr H2 s2 n2 e2=>q r H2 s2 ⟨b,xs,e2,s2 _ _ eb,aN.same dx s2⟩
def yt (M n:Nat):Nat:=if M.testBit n=true then M - 2^n else M
theorem Mv {M n:Nat}(h:M.testBit n=true):2^n<=M:=Nat.ge_two_pow_of_testBit h
inductive nM (vs:List V)(H:Hp)(Q:VK)(_e:XK):Prop
 |mk (M n:Nat) (_:vs=[.int (M:Int),.int (n:Int)]) (_:n<=1000) (_:Q (.int ((yt M n:Nat):Int)) H)
theorem zS (F:bw K "without" "without" qM f fd)(lN:bp P w K mg base 1 "bit" ["k"] iY)(ft:bp P w K mg base 2 "has" ["mask","k"] d3):aD P w K mg base br 3 f fd ["mask","k"] nM:=by
 rwa[F.ok BC ↑4 ↑1]
 ·obtain ⟨M,n,rfl,_⟩:=h;rfl
 obtain ⟨M,n,rfl,hn,q⟩:=h;erw[⟨_,(ag (aI (bZ (K:=K) rfl (aj ft hr ↑2 rfl (ae (wv 0) ↑19))) (af (aq (aH eK (wv 0) (aj lN hr ↑2 rfl ↑19)))) aC) (af (aq (wv 0)))),?_⟩];erw[d3.mk _ _ rfl hn ?_];unfold yt at q;by_cases hb:M.testBit n=true
 ·rw [if_pos hb] at q;erw[cO hb ?_];rwa[iY.mk _ rfl hn ?_];have:=Mv hb;rw [show ((M - 2^n:Nat):Int)=(M:Int) - ((2^n:Nat):Int) by omega] at q;exact q
 ·rw [if_neg hb] at q;rwa[bP (by simpa using hb) ?_];exact q
def atC (M:MS)(i:Int)(c:Cb):Prop:=0<=i/\M.cs[i.toNat]? =some c
theorem dH.atC {C:Addr}{H0 H:Hp}{m h dx lc lw ll:Addr}{xs ys zs:List V}{M:MS}(a:dH K C H0 H m h dx lc lw ll xs ys zs M){i:Int}{c:Cb}(hc:atC M i c):∃t,xs[i.toNat]? =some (.ref t)/\pW xs i=some (.ref t)/\bW K H t c.pl c.li c.dr c.mr c.ps/\i.toNat<xs.length:=by
 obtain ⟨i0,hc⟩:=hc;obtain ⟨j,rfl⟩:=Int.eq_ofNat_of_zero_le i0;rw [show ((j:Int)).toNat=j by omega] at hc ⊢
 have hj:j<xs.length:=by rw [a.dc.len];exact (List.getElem?_eq_some_iff.mp hc).1
 obtain ⟨c',hc',t,et,ht⟩:=a.dc.get1 (List.getElem?_eq_getElem hj);rw [hc] at hc';cases hc';exact ⟨t,by rw [List.getElem?_eq_getElem hj,et],by rw [gb (List.getElem?_eq_getElem hj),et],ht,hj⟩
theorem pM {xs:List V}{i:Int}(h0:0<=i)(h1:i.toNat<xs.length):Co xs.length i=some i.toNat:=by
 unfold Co;rw [if_pos ↑6,if_pos ↑6]
def kj (i:Int)(ws:List bq):List bq:=ws.map λr=>if r.lift=i then {r with lift:= -1} else r
def rq (i:Int)(k:Nat)(c:Cb)(M:MS):MS:= {M with cs:=M.cs.set i.toNat {c with mr:=((c.mr.toNat|||2^k:Nat):Int)},ws:=kj i M.ws}
def lz (i:Int)(k:Nat)(c:Cb)(M:MS):MS:= {M with cs:=M.cs.set i.toNat {c with mr:=((yt c.mr.toNat k:Nat):Int)}}
inductive vv (K:Fg)(C:Addr)(vs:List V)(H:Hp)(Q:VK)(_e:XK):Prop
 |mk (m i h H0 M c:_) (k:Nat) (_:vs=[.ref m,.int i,.int (k:Int)]) (_:k<=1000) (_:ff K C H0 H m h M) (_:M.ws.length<=1000) (_:atC M i c) (_:0<=c.mr) (_:∀H',aU H H'->ff K C H0 H' m h (rq i k c M)->Q .non H')
theorem Ig {C:Addr}{t1:Tok}(F:bw K "put_mark" "put_mark" qV f fd)(cM:tJ K C)(aW:mg "NO_LIFT"=some (.int (-1) t1))(c7:bp P w K mg base 2 "with_bit" ["mask","k"] gS)(dL:bp P w K mg base 1 "with_marks" ["cabin","marks"] (xR K))(de:bp P w K mg base 1 "dealt_to" ["rider","lift"] (jQ K)):aD P w K mg base br 3 f fd ["moment","lift","mark"] (vv K C):=by
 have b1:aQ (.int (-1)) (.int (-1) t1):=⟨_,rfl⟩;rwa[F.ok uC ↑4 ↑1]
 ·obtain ⟨m,i,h,H0,M,c,k,rfl,_⟩:=h;rfl
 obtain ⟨m,i,h,H0,M,c,k,rfl,k1,⟨dx,lc,lw,ll,xs,ys,zs,a⟩,wl,hc,m0,q⟩:=h;obtain ⟨t,hx,hi,ht,hlt⟩:=a.atC hc;obtain ⟨mn,hmn⟩:=Int.eq_ofNat_of_zero_le m0;have cl:=cM.i.cl;erw[⟨_,(ag (aA (i:=3) uC.nd rfl ↑7 (ao ↑3 ↑11 (wv 1) ↑5)) (ag (ie (aj dL hr ↑2 rfl (ae (wv 3) (ae (aj c7 hr ↑2 rfl (ae (ao ↑3 (wv 3) aa ↑5) (ae (wv 2) ac))) ac))) (ig ↑11 (wv 1) lX)) (af (cx (K:=K) rfl (wv 0) (bG rfl (aK (N':=["rider","lift"]) (pk:=[none,some 1]) (by kernel_rfl)) (bF (K:=K) rfl ↑11) (λC s H ex=>(az (i:=0) (show List.Nodup (["rider","lift"]:List Str) by decide+kernel) rfl ↑7)) (λC s H ex=>b5) (λC s H ex=>(cL (ax ↑10 ↑16 (wv 1) (au _)) (aj de hr ↑2 rfl (ae (wv 0) (ae (bh rfl aW b1) ac))) (wv 0)))))))),?_⟩];erw[bQ a cl cM.cabins (v:= .ref lc) rfl ?_];erw[cg (aS.of a.ec) hi ?_];obtain ⟨b,bs,et,eb,db⟩:=id ht;rwa[ar (aP.of et) rfl ?_];rw [hmn] at ht ⊢;ext;erw[gS.mk _ _ rfl k1 ?_];erw[xR.mk _ _ _ _ _ _ _ rfl ht λt2 H1 s1 ht2=> ?_];have a1:=a.same s1;erw[bQ a1 cl cM.cabins (v:= .ref lc) rfl ?_];rwa[mw (j:=i.toNat) a1.ec (pM hc.1 hlt) ?_];have a2:=a1.setC (i:=i.toNat) (c:= {c with mr:=((mn|||2^k:Nat):Int)}) ⟨t2,rfl,ht2⟩;generalize hH2:upd H1 lc (.lst (xs.set i.toNat (.ref t2)))=H2 at a2
 have st2:aU H H2:=by rw [<-hH2];exact s1.st.trans (.updL a1.ec)
 clear hH2;ext;erw[bQ a2 cl cM.waiting (v:= .ref lw) rfl ?_];rwa[dA (aS.of a2.ew) ?_];have yl:ys.length=M.ws.length:=aL a.dw;rwa[b6 (xs:=ys) (λj us HX=>av H2 HX/\us.length=j/\aN K HX us ((kj i (M.ws.take j)).map bq.d)) (bx ↑6) (λj us HX h=>Nat.le_of_eq h.2.1) ⟨.refl _,rfl,.nil⟩ (λj us HX _ h=>h.1.seq (aS.of a2.ew)) (λj y us HX hy hP=> ?_) (λus HX hP l n=> ?_)]
 ·obtain ⟨sx,hul,hd⟩:=hP;obtain ⟨r,hr',dr⟩:=bJ (f:=bq.d) a2.dw hy;have hr':M.ws[j]? =some r:=hr';obtain ⟨ra,rfl,hT⟩:=eG (cm.same dr sx)
  have nx:kj i (M.ws.take (j+1))=kj i (M.ws.take j)++[if r.lift=i then {r with lift:= -1} else r]:=by
   unfold kj;rw [List.take_add_one,hr',List.map_append];rfl
  erw[⟨cE,?_⟩];erw[ar hT rfl ?_];rwa[oR (λz=> ?_) (λz=> ?_)]
  ·ext;rwa[jQ.mk _ _ _ rfl (cm.same dr sx) λv H3 s3 dv=>⟨sx.trans s3,by simp [hul],?_⟩];rw [nx,if_pos z,List.map_append];exact Paired.app (aN.same hd s3) (.cons dv .nil)
  ·ext;rwa[⟨sx,by simp [hul],?_⟩];rw [nx,if_neg z,List.map_append];exact Paired.app hd (.cons (cm.same dr sx) .nil)
 obtain ⟨sx,hul,hd⟩:=hP;rw [yl,List.take_of_length_le ↑13] at hd;have aX:=a2.same sx;have s3:av HX (upd HX l (.lst us)):= .upd n;have a3:=aX.same s3;have e3:upd HX l (.lst us) l=some (.lst us):=ak;generalize hH3:upd HX l (.lst us)=H3 at s3 a3 e3 ⊢
 have nlc:lc≠l:=λz=>by rw [<-z,aX.ec] at n;cases n
 have nll:l≠ll:=λz=>by rw [z,aX.el] at n;cases n
 ext;rwa[cz a3.em cl cM.waiting (by show 7<1000;decide) ?_];have a4:=a3.putW (rs:=kj i M.ws) (none_of aX.s n) nlc nll e3 (aN.same hd s3);rwa[q _ ((st2.trans (sx.trans s3).st).trans (.updI a3.em)) ⟨dx,lc,l,ll,xs.set i.toNat (.ref t2),us,zs,?_⟩]
 have ec:rq i k c M= {M with cs:=M.cs.set i.toNat {c with mr:=((mn|||2^k:Nat):Int)},ws:=kj i M.ws}:=by
  unfold rq;rw [hmn];rfl
 rw [ec];exact a4
inductive qe (K:Fg)(C:Addr)(vs:List V)(H:Hp)(Q:VK)(_e:XK):Prop
 |mk (m i h H0 M c:_) (k:Nat) (_:vs=[.ref m,.int i,.int (k:Int)]) (_:k<=1000) (_:ff K C H0 H m h M) (_:atC M i c) (_:0<=c.mr) (_:∀H',aU H H'->ff K C H0 H' m h (lz i k c M)->Q .non H')
theorem EL {C:Addr}(F:bw K "lose_mark" "lose_mark" oq f fd)(cM:tJ K C)(sJ:bp P w K mg base 3 "without" ["mask","k"] nM)(dL:bp P w K mg base 1 "with_marks" ["cabin","marks"] (xR K)):aD P w K mg base br 4 f fd ["moment","lift","mark"] (qe K C):=by
 rwa[F.ok qH ↑4 ↑1]
 ·obtain ⟨m,i,h,H0,M,c,k,rfl,_⟩:=h;rfl
 obtain ⟨m,i,h,H0,M,c,k,rfl,k1,⟨dx,lc,lw,ll,xs,ys,zs,a⟩,hc,m0,q⟩:=h;obtain ⟨t,hx,hi,ht,hlt⟩:=a.atC hc;obtain ⟨mn,hmn⟩:=Int.eq_ofNat_of_zero_le m0;have cl:=cM.i.cl;erw[⟨_,(ag (aA (i:=3) qH.nd rfl ↑7 (ao ↑3 ↑11 (wv 1) ↑5)) (af (ie (aj dL hr ↑2 rfl (ae (wv 3) (ae (aj sJ hr ↑2 rfl (ae (ao ↑3 (wv 3) aa ↑5) (ae (wv 2) ac))) ac))) (ig ↑11 (wv 1) lX)))),?_⟩];erw[bQ a cl cM.cabins (v:= .ref lc) rfl ?_];erw[cg (aS.of a.ec) hi ?_];obtain ⟨b,bs,et,eb,db⟩:=id ht;rwa[ar (aP.of et) rfl ?_];rw [hmn] at ht ⊢;ext;erw[nM.mk _ _ rfl k1 ?_];erw[xR.mk _ _ _ _ _ _ _ rfl ht λt2 H1 s1 ht2=> ?_];have a1:=a.same s1;erw[bQ a1 cl cM.cabins (v:= .ref lc) rfl ?_];rwa[mw (j:=i.toNat) a1.ec (pM hc.1 hlt) ?_];have a2:=a1.setC (i:=i.toNat) (c:= {c with mr:=((yt mn k:Nat):Int)}) ⟨t2,rfl,ht2⟩;rwa[q _ (s1.st.trans (.updL a1.ec)) ⟨dx,lc,lw,ll,xs.set i.toNat (.ref t2),ys,zs,?_⟩]
 have ec:lz i k c M= {M with cs:=M.cs.set i.toNat {c with mr:=((yt mn k:Nat):Int)}}:=by
  unfold lz;rw [hmn];rfl
 rw [ec];exact a2
def FH (M:MS):MS:= {M with fire:=true,log:=M.log++M.ws.map λr=>BR r.tag,ws:=[]}
theorem Ef (rs:List bq):noLs (rs.map λr=>BR r.tag)=true:=by
 induction rs with
 |nil=>rfl
 |cons r rs ih=>rw [List.map_cons,noLs,ih];rfl
inductive zn (K:Fg)(C:Addr)(vs:List V)(H:Hp)(Q:VK)(_e:XK):Prop
 |mk (m h H0 M:_) (_:vs=[.ref m]) (_:ff K C H0 H m h M) (_:M.ws.length<=1000) (_:M.log.length<=1000) (_:∀H',aU H H'->ff K C H0 H' m h (FH M)->Q .non H')
theorem Iv {C:Addr}(F:bw K "do_fire" "do_fire" v8 f fd)(cM:tJ K C):aD P w K mg base br 1 f fd ["moment"] (zn K C):=by
 rwa[F.ok D7 ↑4 ↑1]
 ·obtain ⟨m,h,H0,M,rfl,_⟩:=h;rfl
 obtain ⟨m,h,H0,M,rfl,⟨dx,lc,lw,ll,xs,ys,zs,a⟩,wl,gl,q⟩:=h;have cl:=cM.i.cl;have yl:ys.length=M.ws.length:=aL a.dw;have zl:zs.length=M.log.length:=a.dl.len;erw[⟨_,(ag (cx (K:=K) rfl (wv 0) fD) (ag (aO (dY (K:=K) rfl PySem.F.plainAttrs_list PySem.F.slot_list_extend PySem.F.type_list_extend qq ↑11 (ae (bG rfl (aK (N':=["tag","start","goal","lift"]) (pk:=[none,none,none,none]) (by kernel_rfl)) (bF (K:=K) rfl ↑11) ↑18 (λC s H ex=>b5) (λC s H ex=>(bt (ae ay (ae (wv 0) ac))))) ac))) (af (cx (K:=K) rfl (wv 0) (dF ac))))),?_⟩];rwa[cz a.em cl cM.fire (by show 7<1000;decide) ?_];have a1:=a.putF M.last true M.bl;generalize hH1:upd H m (.ins C dx (oK h lc lw M.last true M.bl ll))=H1 at a1
 have st1:aU H H1:=by rw [<-hH1];exact .updI a.em
 have e0:putF (Str.ofString "fire") (.bl true) (oK h lc lw M.last M.fire M.bl ll)=oK h lc lw M.last true M.bl ll:=rfl;rw [e0,hH1];clear hH1 e0;ext;erw[bQ a1 cl cM.log (v:= .ref ll) rfl ?_];erw[⟨.inl ⟨rfl,_,aS.of a1.el⟩,?_⟩];erw[bQ a1 cl cM.waiting (v:= .ref lw) rfl ?_];rwa[dA (aS.of a1.ew) ?_];rwa[b6 (xs:=ys) (λj us HX=>av H1 HX/\us.length=j/\aN K HX us ((M.ws.take j).map λr=>BR r.tag)) (bx ↑6) (λj us HX h=>Nat.le_of_eq h.2.1) ⟨.refl _,rfl,.nil⟩ (λj us HX _ h=>h.1.seq (aS.of a1.ew)) (λj y us HX hy hP=> ?_) (λus HX hP l n=> ?_)]
 ·obtain ⟨sx,hul,hd⟩:=hP;obtain ⟨r,hr',dr⟩:=bJ (f:=bq.d) a1.dw hy;have hr':M.ws[j]? =some r:=hr';obtain ⟨ra,rfl,hT⟩:=eG (cm.same dr sx);ext;erw[iQ hT rfl ?_];erw[⟨iU,?_⟩];rwa[cf ↑23 λv H3 s3 n3 e3=>⟨sx.trans s3,by simp [hul],?_⟩];rw [List.take_add_one,hr',List.map_append];exact Paired.app (aN.same hd s3) (.cons (gF (aP.of e3) (.cons (.str _) (.cons (.int _) .nil))) .nil)
 obtain ⟨sx,hul,hd⟩:=hP;rw [yl,List.take_of_length_le ↑13] at hd;have aX:=a1.same sx;have s3:av HX (upd HX l (.lst us)):= .upd n;have a3:=aX.same s3;have e3:upd HX l (.lst us) l=some (.lst us):=ak;generalize hH3:upd HX l (.lst us)=H3 at s3 a3 e3 ⊢;ext;rwa[FJ a3.el e3 (bx ↑6) ?_];have a4:=a3.setL (aN.same hd s3) (Ef M.ws);generalize hH4:upd H3 ll (.lst (zs++us))=H4 at a4
 have st4:aU H H4:=by rw [<-hH4];exact st1.trans ((sx.trans s3).st.trans (.updL a3.el))
 clear hH4;ext;rwa[ly (bx (by show 0<=1000000;decide)) λl5 H5 s5 n5 e5=> ?_];have a5:=a4.same s5
 have nlc:lc≠l5:=λz=>by rw [<-z,a4.ec] at n5;cases n5
 have nll:l5≠ll:=λz=>by rw [z,a4.el] at n5;cases n5
 ext;rwa[cz a5.em cl cM.waiting (by show 7<1000;decide) ?_];have a6:=a5.putW (rs:=[]) (none_of a4.s n5) nlc nll e5 .nil;exact q _ ((st4.trans s5.st).trans (.updI a5.em)) ⟨dx,lc,l5,ll,xs,[],_,a6⟩
def kh (c:Cb):Bool:=decide (c.pl=0)&&decide (0<c.dr)&&decide (c.ps=[])
inductive vB (K:Fg)(vs:List V)(H:Hp)(Q:VK)(_e:XK):Prop
 |mk (t c:_) (_:vs=[.ref t]) (_:bW K H t (Cb.pl c) (Cb.li c) (Cb.dr c) (Cb.mr c) (Cb.ps c)) (_:Q (.bl (kh c)) H)
theorem EQ (F:bw K "is_left" "is_left" v5 f fd)(bj:mg "len"=none):aD P w K mg base br 1 f fd ["cabin"] (vB K):=by
 rwa[F.ok D5 ↑4 ↑1]
 ·obtain ⟨t,c,rfl,_⟩:=h;rfl
 obtain ⟨t,c,rfl,⟨b,bs,et,eb,db⟩,q⟩:=h;have hT:=aP.of (K:=K) et;have bl:=aL db;rwa[⟨_,(af (aq (gQ (bX ↑10 ↑16 aa (au _)) (gQ (bX iP ↑16 aa (au _)) (ii (bX ↑10 (aG (cI (K:=K) rfl) rfl bj PySem.boot_len (ae ↑16 ac)) aa (au _))))))),?_⟩];unfold kh at q;ext;erw[ar hT rfl ?_];rwa[oR (λz=> ?_) (λz=> ?_)]
 ·rw [decide_eq_true z] at q;ext;erw[ar hT rfl ?_];rwa[oR (λz2=> ?_) (λz2=> ?_)]
  ·rw [decide_eq_true (show 0<c.dr from z2)] at q;ext;erw[ar hT rfl ?_];erw[fW (aP.of eb) ?_];have e:decide (((bs.length:Nat):Int)=0)=decide (c.ps=[]):=decide_eq_decide.mpr ⟨λy=>List.length_eq_zero_iff.mp ↑6,λy=>by rw [bl,y];rfl⟩;show Q (.bl (decide (((bs.length:Nat):Int)=0))) H;rw [e];exact q
  ·rw [decide_eq_false (show ¬0<c.dr from z2)] at q;exact q
 ·rw [decide_eq_false z] at q;exact q
def yG (M:MS):MS:=if M.cs.all kh=true then {M with fire:=false} else M
inductive zq (K:Fg)(C:Addr)(vs:List V)(H:Hp)(Q:VK)(_e:XK):Prop
 |mk (m h H0 M:_) (_:vs=[.ref m]) (_:ff K C H0 H m h M) (_:M.cs.length<=10) (_:∀H',aU H H'->ff K C H0 H' m h (yG M)->Q .non H')
theorem Iy {C:Addr}(F:bw K "do_calm" "do_calm" wb f fd)(cM:tJ K C)(Cg:mg "all"=none)(sQ:bp P w K mg base 1 "is_left" ["cabin"] (vB K)):aD P w K mg base br 2 f fd ["moment"] (zq K C):=by
 rwa[F.ok D9 ↑4 ↑1]
 ·obtain ⟨m,h,H0,M,rfl,_⟩:=h;rfl
 obtain ⟨m,h,H0,M,rfl,⟨dx,lc,lw,ll,xs,ys,zs,a⟩,c10,q⟩:=h;have cl:=cM.i.cl;have xl:xs.length=M.cs.length:=a.dc.len;erw[⟨_,(af (aI (bZ (K:=K) rfl (aG (Ju (K:=K) rfl rfl) rfl Cg boot_all (ae (bG rfl (aK (N':=["cabin"]) (pk:=[none]) (by kernel_rfl)) (bF (K:=K) rfl ↑11) (λC s H ex=>(az (i:=0) (show List.Nodup (["cabin"]:List Str) by decide+kernel) rfl ↑7)) (λC s H ex=>b5) (λC s H ex=>(aj sQ hr ↑2 rfl (ae (wv 0) ac)))) ac))) (af (cx (K:=K) rfl (wv 0) fD)) aC)),?_⟩];erw[bQ a cl cM.cabins (v:= .ref lc) rfl ?_];rwa[dA (aS.of a.ec) ?_];rwa[b6 (xs:=xs) (λj us HX=>HX=H/\us=((M.cs.take j).map kh).map V.bl) (bx ↑6) ↑22 ⟨rfl,rfl⟩ (λj us HX _ h=>by rw [h.1];exact aS.of a.ec) (λj y us HX hy hP=> ?_) (λus HX hP l n=> ?_)]
 ·obtain ⟨rfl,rfl⟩:=hP;obtain ⟨c,hc,t,rfl,ht⟩:=a.dc.get1 hy;erw[⟨cE,?_⟩];rwa[vB.mk _ _ rfl ht ⟨rfl,?_⟩];rw [List.take_add_one,hc,List.map_append,List.map_append];rfl
 obtain ⟨rfl,rfl⟩:=hP;rw [xl,List.take_of_length_le ↑13];have s3:av HX (upd HX l (.lst ((M.cs.map kh).map V.bl))):= .upd n;have a3:=a.same s3;have e3:upd HX l (.lst ((M.cs.map kh).map V.bl)) l=some (.lst ((M.cs.map kh).map V.bl)):=ak;generalize hH3:upd HX l (.lst ((M.cs.map kh).map V.bl))=H3 at s3 a3 e3 ⊢;clear hH3;ext;rwa[JP (bs:=M.cs.map kh) (aS.of e3) ?_];rw [List.all_map];ext;unfold yG at q;by_cases z:M.cs.all kh=true
 ·rw [if_pos z] at q;erw[cO z ?_];rwa[cz a3.em cl cM.fire (by show 7<1000;decide) ?_];exact q _ (s3.st.trans (.updI a3.em)) ⟨dx,lc,lw,ll,xs,ys,zs,a3.putF M.last false M.bl⟩
 ·rw [if_neg z] at q;rwa[bP (by simpa using z) ?_];exact q _ s3.st ⟨dx,lc,lw,ll,xs,ys,zs,a3⟩
def oU (M:MS)(i:Int):Cb:=M.cs.getD i.toNat ⟨0,0,0,0,[]⟩
def d6 (lo:Nat)(M:MS):Dd->MS
 | .come t s g k=>jx lo M t s g k
 | .lf x i=>if x=Str.ofString "block" then {M with bl:=M.bl|||2^i.toNat} else if x=Str.ofString "stick" then rq i 0 (oU M i) M else if x=Str.ofString "goods" then rq i 1 (oU M i) M else if x=Str.ofString "free" then lz i 0 (oU M i) M else lz i 1 (oU M i) M
 | .sg x=>if x=Str.ofString "fire" then FH M else yG M
section
variable {lo:Nat}{M:MS}{i:Int}
theorem sr:d6 lo M (.lf (Str.ofString "block") i)= {M with bl:=M.bl|||2^i.toNat}:=by unfold d6;dsimp only;rw [if_pos rfl]
theorem sk:d6 lo M (.lf (Str.ofString "stick") i)=rq i 0 (oU M i) M:=by unfold d6;dsimp only;rw [if_neg (by decide+kernel),if_pos rfl]
theorem sq:d6 lo M (.lf (Str.ofString "goods") i)=rq i 1 (oU M i) M:=by unfold d6;dsimp only;rw [if_neg (by decide+kernel),if_neg (by decide+kernel),if_pos rfl]
theorem uX:d6 lo M (.lf (Str.ofString "free") i)=lz i 0 (oU M i) M:=by unfold d6;dsimp only;rw [if_neg (by decide+kernel),if_neg (by decide+kernel),if_neg (by decide+kernel),if_pos rfl]
theorem u4:d6 lo M (.lf (Str.ofString "back") i)=lz i 1 (oU M i) M:=by unfold d6;dsimp only;rw [if_neg (by decide+kernel),if_neg (by decide+kernel),if_neg (by decide+kernel),if_neg (by decide+kernel)]
theorem uY:d6 lo M (.sg (Str.ofString "fire"))=FH M:=by unfold d6;dsimp only;rw [if_pos rfl]
theorem uZ:d6 lo M (.sg (Str.ofString "calm"))=yG M:=by unfold d6;dsimp only;rw [if_neg (by decide+kernel)]
end
def Dd.fit (fl:Int)(n:Nat):Dd->Prop
 | .come _ s g _=>0<=s/\s<fl/\0<=g/\g<fl/\s≠g
 | .lf _ i=>0<=i/\i<(n:Int)
 | .sg _=>True
inductive Hj (K:Fg)(C:Addr)(vs:List V)(H:Hp)(Q:VK)(_e:XK):Prop
 |mk (m a d h hs H0 M:_) (_:vs=[.ref m,.ref a]) (_:nG K H h hs) (_:xp H a d) (_:d.fit hs.fl hs.ls.length) (_:ff K C H0 H m h M) (_:M.ws.length<=1000) (_:M.log.length<=1000) (_:M.cs.length=hs.ls.length) (_:(∀c∈M.cs,0<=c.mr)) (_:∀H',aU H H'->ff K C H0 H' m h (d6 hs.lo M d)->Q .non H')
theorem Oe {C:Addr}{t1 t2:Tok}(F:bw K "do_deed" "do_deed" v9 f fd)(cM:tJ K C)(lD:mg "STUCK"=some (.int 0 t1))(wR:mg "TAKEN"=some (.int 1 t2))(sW:bp P w K mg base 3 "do_come" ["moment","tag","start","goal","key"] (zp K C))(c7:bp P w K mg base 2 "with_bit" ["mask","k"] gS)(jZ:bp P w K mg base 3 "put_mark" ["moment","lift","mark"] (vv K C))(iy:bp P w K mg base 4 "lose_mark" ["moment","lift","mark"] (qe K C))(sV:bp P w K mg base 1 "do_fire" ["moment"] (zn K C))(tm:bp P w K mg base 2 "do_calm" ["moment"] (zq K C)):aD P w K mg base br 5 f fd ["moment","deed"] (Hj K C):=by
 have we:aQ (.int 0) (.int 0 t1):=⟨_,rfl⟩;have Ej:aQ (.int 1) (.int 1 t2):=⟨_,rfl⟩;rwa[F.ok yb ↑4 ↑1]
 ·obtain ⟨m,a,d,h,hs,H0,M,rfl,_⟩:=h;rfl
 obtain ⟨m,da,d,h,hs,H0,M,rfl,hH,⟨hd,ok⟩,fit,hM,wl,gl,cn,mr0,q⟩:=h;have f8:=hH.1.f8;have l3:=hH.1.l3;rwa[⟨_,(ag (aA (i:=2) yb.nd rfl ↑7 ↑12) (af (aI (ax ↑10 (wv 2) ay (au _)) (af (aO (aj sW hr ↑2 rfl (ae (wv 0) (ae ↑12 (ae ↑12 (ae ↑12 (ae ↑12 ac)))))))) (af (aI (ax ↑10 (wv 2) ay (au _)) (af (cx (K:=K) rfl (wv 0) (aj c7 hr ↑2 rfl (ae ↑11 (ae ↑12 ac))))) (af (aI (ax ↑10 (wv 2) ay (au _)) (af (aO (aj jZ hr ↑2 rfl (ae (wv 0) (ae ↑12 (ae (bh rfl lD we) ac)))))) (af (aI (ax ↑10 (wv 2) ay (au _)) (af (aO (aj jZ hr ↑2 rfl (ae (wv 0) (ae ↑12 (ae (bh rfl wR Ej) ac)))))) (af (aI (ax ↑10 (wv 2) ay (au _)) (af (aO (aj iy hr ↑2 rfl (ae (wv 0) (ae ↑12 (ae (bh rfl lD we) ac)))))) (af (aI (ax ↑10 (wv 2) ay (au _)) (af (aO (aj iy hr ↑2 rfl (ae (wv 0) (ae ↑12 (ae (bh rfl wR Ej) ac)))))) (af (aI (ax ↑10 (wv 2) ay (au _)) (af (aO (aj sV hr ↑2 rfl (ae (wv 0) ac)))) (af (aO (aj tm hr ↑2 rfl (ae (wv 0) ac))))))))))))))))))),?_⟩]
 cases d with
 |come t s' g k=>
  have hT:aP K H da [.str pG,.int t,.int s',.int g,.bl k]:=aP.of hd;have f8:=hH.1.f8;obtain ⟨_,_,g0,g1,_⟩:=fit;ext;erw[ar hT rfl ?_];erw[cO rfl ?_];erw[ar hT rfl ?_];erw[ar hT rfl ?_];erw[ar hT rfl ?_];erw[ar hT rfl ?_];exact zp.mk _ _ _ _ _ _ _ _ _ rfl hH hM wl gl g0 ↑6 λH' st hM'=>q H' st hM'
 |lf x i=>
  obtain ⟨i0,i1⟩:=fit;obtain ⟨j,rfl⟩:=Int.eq_ofNat_of_zero_le i0;have hT:aP K H da [.str x,.int (j:Int)]:=aP.of hd
  have hj:j<M.cs.length:=by omega
  have hc:atC M (j:Int) (oU M (j:Int)):=⟨i0,by
   show M.cs[((j:Int)).toNat]? =some (M.cs.getD ((j:Int)).toNat _)
   rw [show ((j:Int)).toNat=j by omega,List.getD_eq_getElem?_getD,List.getElem?_eq_getElem hj];rfl⟩
  have m0:0<=(oU M (j:Int)).mr:=mr0 _ (List.mem_of_getElem? hc.2);have ne:∀y z:Str,y≠z-> ¬y=z:=λ_ _ h=>h;ext;rwa[ar hT rfl ?_]
  rcases ok with hx|hx|hx|hx|hx
  ·rw [hx,sr,show ((j:Int)).toNat=j by omega] at q;ext;erw[cP ↑15 ?_];rwa[m3 hx ?_];obtain ⟨dx,lc,lw,ll,xs,ys,zs,a⟩:=hM;ext;erw[bQ a cM.i.cl cM.blocked (v:= .int (M.bl:Int)) rfl ?_];erw[ar hT rfl ?_];erw[gS.mk _ _ rfl ↑6 ?_];rwa[cz a.em cM.i.cl cM.blocked (by show 7<1000;decide) ?_];exact q _ (.updI a.em) ⟨dx,lc,lw,ll,xs,ys,zs,a.putF M.last M.fire (M.bl|||2^j)⟩
  ·ext;erw[cP ↑15 ?_];erw[cP ↑15 ?_];erw[m3 hx ?_];erw[ar hT rfl ?_];rw [hx,sk] at q;exact vv.mk _ _ _ _ _ _ 0 rfl ↑2 hM wl hc m0 λH' st hM'=>q H' st hM'
  ·ext;erw[cP ↑15 ?_];erw[cP ↑15 ?_];erw[cP ↑15 ?_];erw[cP ↑15 ?_];erw[m3 hx ?_];erw[ar hT rfl ?_];rw [hx,uX] at q;exact qe.mk _ _ _ _ _ _ 0 rfl ↑2 hM hc m0 λH' st hM'=>q H' st hM'
  ·ext;erw[cP ↑15 ?_];erw[cP ↑15 ?_];erw[cP ↑15 ?_];erw[m3 hx ?_];erw[ar hT rfl ?_];rw [hx,sq] at q;exact vv.mk _ _ _ _ _ _ 1 rfl ↑2 hM wl hc m0 λH' st hM'=>q H' st hM'
  ·ext;erw[cP ↑15 ?_];erw[cP ↑15 ?_];erw[cP ↑15 ?_];erw[cP ↑15 ?_];erw[cP ↑15 ?_];erw[m3 hx ?_];erw[ar hT rfl ?_];rw [hx,u4] at q;exact qe.mk _ _ _ _ _ _ 1 rfl ↑2 hM hc m0 λH' st hM'=>q H' st hM'
 |sg x=>
  have hT:aP K H da [.str x]:=aP.of hd;ext;rwa[ar hT rfl ?_]
  rcases ok with hx|hx
  ·ext;erw[cP ↑15 ?_];erw[cP ↑15 ?_];erw[cP ↑15 ?_];erw[cP ↑15 ?_];erw[cP ↑15 ?_];erw[cP ↑15 ?_];erw[m3 hx ?_];rw [hx,uY] at q;exact zn.mk _ _ _ _ rfl hM wl gl λH' st hM'=>q H' st hM'
  ·ext;erw[cP ↑15 ?_];erw[cP ↑15 ?_];erw[cP ↑15 ?_];erw[cP ↑15 ?_];erw[cP ↑15 ?_];erw[cP ↑15 ?_];erw[cP ↑15 ?_];rw [hx,uZ] at q;exact zq.mk _ _ _ _ rfl hM ↑6 λH' st hM'=>q H' st hM'
abbrev y0:=List Cb->List bq->bq->Int->Int×Int
inductive qy (K:Fg)(GG:Hp->Prop)(pre:List Cb->List bq->bq->Int->Prop)(dl:y0)(vs:List V)(H:Hp)(Q:VK)(_e:XK):Prop
 |mk (tc tw x cs ws r last xs ys:_) (_:vs=[.ref tc,.ref tw,x,.int last]) (_:H tc=some (.tup xs)) (_:Paired (fh K H) xs cs) (_:H tw=some (.tup ys)) (_:aN K H ys (ws.map bq.d)) (_:cm K H x (bq.d r)) (_:GG H) (_:pre cs ws r last) (_:∀t H',bB H H'->GG H'->H' t=some (.tup [.int (dl cs ws r last).1,.int (dl cs ws r last).2])->Q (.ref t) H')
def NQ (t i:Int):D:= .tup [.str (Str.ofString "deal"),.int t,.int i]
def jw (dl:y0)(M:MS)(p:Nat)(r:bq):MS:=if (dl M.cs M.ws r M.last).1= -1 then {M with last:=(dl M.cs M.ws r M.last).2} else {M with last:=(dl M.cs M.ws r M.last).2,ws:=M.ws.set p {r with lift:=(dl M.cs M.ws r M.last).1},log:=M.log++[NQ r.tag (dl M.cs M.ws r M.last).1]}
inductive vD (P:Program)(w:World)(K:Fg)(mg:Str->Option Value)(base:Heap)(C:Addr)(GG:Hp->Prop)(pre:List Cb->List bq->bq->Int->Prop)(dl:y0)(vs:List V)(H:Hp)(Q:VK)(_e:XK):Prop
 |mk (m df x h H0 M r:_) (p:Nat) (_:vs=[.ref m,.ref df,.int (p:Int),x]) (_:lS P w K mg base 5 df (qy K GG pre dl)) (_:GG H) (_:NT H0) (_:ff K C H0 H m h M) (_:cm K H x (bq.d r)) (_:p<M.ws.length) (_:M.ws.length<=1000) (_:M.log.length<=1000) (_:M.cs.length<=10) (_:pre M.cs M.ws r M.last) (_:∀H',d8 H H'->GG H'->ff K C H0 H' m h (jw dl M p r)->Q .non H')
theorem AW {C:Addr}{GG:Hp->Prop}{pre:List Cb->List bq->bq->Int->Prop}{dl:y0}{t1:Tok}(F:bw K "deal" "deal" AR f fd)(gT:GT GG)(cM:tJ K C)(b2:mg "tuple"=none)(aW:mg "NO_LIFT"=some (.int (-1) t1))(de:bp P w K mg base 1 "dealt_to" ["rider","lift"] (jQ K)):aD P w K mg base br 6 f fd ["moment","dealer","place","rider"] (vD P w K mg base C GG pre dl):=by
 have b1:aQ (.int (-1)) (.int (-1) t1):=⟨_,rfl⟩;rwa[F.ok Ea ↑4 ↑1]
 ·obtain ⟨m,df,x,h,H0,M,r,p,rfl,_⟩:=h;rfl
 obtain ⟨m,df,x,h,H0,M,r,p,rfl,hcal,hg,nt,⟨dx,lc,lw,ll,xs,ys,zs,a⟩,hx,pw,wl,gl,c10,hpre,q⟩:=h;have cl:=cM.i.cl;have yl:ys.length=M.ws.length:=aL a.dw;have zl:zs.length=M.log.length:=a.dl.len;obtain ⟨ra,rfl,hT⟩:=eG hx;erw[⟨_,(ag (aA (i:=4) Ea.nd rfl ↑7 (Ev 1 hr rfl ↑7 (ae (bU (gR (K:=K) rfl) rfl b2 boot_tuple (ae ↑11 ac)) (ae (bU (gR (K:=K) rfl) rfl b2 boot_tuple (ae ↑11 ac)) (ae (wv 3) (ae ↑11 ac)))))) (ag (cx (K:=K) rfl (wv 0) (ao ↑3 (wv 4) aa ↑5)) (af (aI (ax (gq (K:=K) rfl hr) (ao ↑3 (wv 4) aa ↑5) (bh rfl aW b1) (au _)) (ag (ie (aj de hr ↑2 rfl (ae (wv 3) (ae (ao ↑3 (wv 4) aa ↑5) ac))) (ig ↑11 (wv 2) lX)) (af (aO (dY (K:=K) rfl PySem.F.plainAttrs_list PySem.F.slot_list_append PySem.F.type_list_append dB ↑11 (ae (bt (ae ay (ae (ao ↑3 (wv 3) aa ↑5) (ae (ao ↑3 (wv 4) aa ↑5) ac)))) ac))))) aC)))),?_⟩];erw[⟨df,5,_,rfl,by decide,hcal,?_⟩];erw[bQ a cl cM.cabins (v:= .ref lc) rfl ?_];rwa[kK (aS.of a.ec) λtc H1 s1 n1 e1=> ?_];have a1:=a.same s1;ext;erw[bQ a1 cl cM.waiting (v:= .ref lw) rfl ?_];rwa[kK (aS.of a1.ew) λtw H2 s2 n2 e2=> ?_];have a2:=a1.same s2;have s02:=s1.trans s2;ext;rwa[bQ a2 cl cM.last (v:= .int M.last) rfl ?_];rwa[⟨tc,tw,.ref ra,M.cs,M.ws,r,M.last,xs,ys,rfl,s2 _ _ e1,a2.dc,e2,a2.dw,cm.same hx s02,gT _ _ s02.st hg,hpre,λt H3 s3 g3 e3=> ?_⟩];have a3:=a2.sameN nt s3;have s03:d8 H H3:=s02.st.sx.trans s3.sx;unfold jw at q;generalize hd1:(dl M.cs M.ws r M.last).1=d1 at *;generalize hd2:(dl M.cs M.ws r M.last).2=d2 at *;ext;erw[ar (aP.of e3) rfl ?_];rwa[cz a3.em cl cM.last (by show 7<1000;decide) ?_];have a4:=a3.putF d2 M.fire M.bl;have e0:putF (Str.ofString "last") (.int d2) (oK h lc lw M.last M.fire M.bl ll)=oK h lc lw d2 M.fire M.bl ll:=rfl;rw [e0];generalize hH4:upd H3 m (.ins C dx (oK h lc lw d2 M.fire M.bl ll))=H4 at a4 ⊢
 have st4:d8 H H4:=by rw [<-hH4];exact s03.trans (aU.updI a3.em).sx
 have g4:GG H4:=by rw [<-hH4];exact gT _ _ (aU.updI a3.em) g3
 have e34:aP K H4 t [.int d1,.int d2]:=by rw [<-hH4];exact (aU.updI a3.em).sqT (aP.of e3)
 clear hH4;ext;erw[ar e34 rfl ?_];by_cases z:d1= -1
 ·rw [if_pos z] at q;rwa[bP (by simp [z]) ?_];exact q _ st4 g4 ⟨dx,lc,lw,ll,xs,ys,zs,a4⟩
 ·rw [if_neg z] at q;erw[cO (by simp [z]) ?_];erw[ar e34 rfl ?_];rwa[jQ.mk _ _ _ rfl (st4.den hx rfl) λv H5 s5 dv=> ?_];have a5:=a4.same s5;ext;erw[bQ a5 cl cM.waiting (v:= .ref lw) rfl ?_];rwa[mw (j:=p) a5.ew (by unfold Co;rw [if_pos ↑6,if_pos ↑6];congr 1) ?_]
  have dw5:aN K H5 (ys.set p v) ((M.ws.set p {r with lift:=d1}).map bq.d):=by
   rw [List.map_set];exact rC a5.dw dv
  have a6:=a5.setW dw5;generalize hH6:upd H5 lw (.lst (ys.set p v))=H6 at a6 ⊢
  have st6:d8 H H6:=by rw [<-hH6];exact (st4.trans s5.st.sx).trans (aU.updL a5.ew).sx
  have g6:GG H6:=by rw [<-hH6];exact gT _ _ (s5.st.trans (.updL a5.ew)) g4
  have e36:aP K H6 t [.int d1,.int d2]:=by rw [<-hH6];exact (aU.updL a5.ew).sqT (s5.seqT e34)
  clear hH6;ext;erw[bQ a6 cl cM.log (v:= .ref ll) rfl ?_];erw[⟨.inl ⟨rfl,_,aS.of a6.el⟩,?_⟩];erw[ar (st6.sqT hT) rfl ?_];erw[ar e36 rfl ?_];rwa[cf (bx (by show 3<=1000000;decide)) λg7 H7 s7 n7 e7=> ?_];have a7:=a6.same s7;ext;rwa[iK a7.el (CT ↑6) ?_];exact q _ ((st6.trans s7.st.sx).trans (aU.updL a7.el).sx) (gT _ _ (s7.st.trans (.updL a7.el)) g6) ⟨dx,lc,lw,ll,xs,_,_,a7.setL (ds:=[NQ r.tag d1]) (.cons (gF (aP.of e7) (.cons (.str _) (.cons (.int _) (.cons (.int _) .nil)))) .nil) rfl⟩
def bD (dl:y0)(W:List bq):Nat->MS->MS
 |0,M=>M
 |i+1,M=>match W[i]? with
  |some r=>if r.lift= -1 then jw dl (bD dl W i M) i r else bD dl W i M
  |none=>bD dl W i M
inductive mq (P:Program)(w:World)(K:Fg)(mg:Str->Option Value)(base:Heap)(C:Addr)(GG:Hp->Prop)(pre:List Cb->List bq->bq->Int->Prop)(dl:y0)(vs:List V)(H:Hp)(Q:VK)(_e:XK):Prop
 |mk (m df h H0 M:_) (_:vs=[.ref m,.ref df]) (_:lS P w K mg base 5 df (qy K GG pre dl)) (_:GG H) (_:NT H0) (_:ff K C H0 H m h M) (_:M.ws.length<=500) (_:M.log.length<=400) (_:M.cs.length<=10) (_:(∀i r,M.ws[i]? =some r->r.lift= -1->pre (bD dl M.ws i M).cs (bD dl M.ws i M).ws r (bD dl M.ws i M).last)) (_:∀H',d8 H H'->GG H'->ff K C H0 H' m h (bD dl M.ws M.ws.length M)->Q .non H')
theorem CA {dl:y0}{M:MS}{p:Nat}{r:bq}:(jw dl M p r).ws.length=M.ws.length/\(jw dl M p r).cs=M.cs/\(jw dl M p r).log.length<=M.log.length+1:=by
 unfold jw;split
 ·exact ⟨rfl,rfl,Nat.le_succ _⟩
 ·exact ⟨List.length_set,rfl,by simp⟩
theorem fK {dl:y0}{W:List bq}{M:MS}:∀i,(bD dl W i M).ws.length=M.ws.length/\(bD dl W i M).cs=M.cs/\(bD dl W i M).log.length<=M.log.length+i
 |0=>⟨rfl,rfl,by simp [bD]⟩
 |i+1=>by
  have h:=fK (dl:=dl) (W:=W) (M:=M) i;unfold bD;split
  ·rename_i r _;split
   ·have g:=CA (dl:=dl) (M:=bD dl W i M) (p:=i) (r:=r);exact ⟨g.1.trans h.1,g.2.1.trans h.2.1,by have:=g.2.2;omega⟩
   ·exact ⟨h.1,h.2.1,by omega⟩
  ·exact ⟨h.1,h.2.1,by omega⟩
def gG (H:Hp)(m lc lw ll:Addr):Hp:=λb=>if b=m\/b=lc\/b=lw\/b=ll then none else H b
theorem CD {H:Hp}{m lc lw ll:Addr}:av (gG H m lc lw ll) H:=λb u z=>by
 unfold gG at z;split at z
 ·cases z
 ·exact z
theorem fZ {H:Hp}{m lc lw ll b:Addr}{u:HO}(h:H b=some u)(h1:b≠m)(h2:b≠lc)(h3:b≠lw)(h4:b≠ll):gG H m lc lw ll b=some u:=by
 unfold gG;rw [if_neg (λz=>by rcases z with z|z|z|z;exact h1 z;exact h2 z;exact h3 z;exact h4 z)];exact h
theorem dH.wide {C:Addr}{H0 H:Hp}{m h dx lc lw ll:Addr}{xs ys zs:List V}{M:MS}(a:dH K C H0 H m h dx lc lw ll xs ys zs M):dH K C (gG H m lc lw ll) H m h dx lc lw ll xs ys zs M/\av H0 (gG H m lc lw ll):=by
 rwa[⟨⟨CD,if_pos (.inl rfl),if_pos (.inr (.inl rfl)),if_pos (.inr (.inr (.inl rfl))),if_pos (.inr (.inr (.inr rfl))),a.cw,a.cl,a.wl,a.em,a.ec,a.ew,a.el,a.dc,a.dw,a.dl,a.ln⟩,λb u z=> ?_⟩];exact fZ (a.s _ _ z) (λe=>by rw [e,a.nm] at z;cases z) (λe=>by rw [e,a.nc] at z;cases z) (λe=>by rw [e,a.nw] at z;cases z) (λe=>by rw [e,a.nl] at z;cases z)
theorem dH.wideN {C:Addr}{H0 H:Hp}{m h dx lc lw ll:Addr}{xs ys zs:List V}{M:MS}(nt:NT H0)(a:dH K C H0 H m h dx lc lw ll xs ys zs M):dH K C (yX (gG H m lc lw ll)) H m h dx lc lw ll xs ys zs M/\av H0 (yX (gG H m lc lw ll)):=by
 obtain ⟨b,s⟩:=a.wide;rwa[⟨⟨(rG _).trans b.s,mU b.nm,mU b.nc,mU b.nw,mU b.nl,a.cw,a.cl,a.wl,a.em,a.ec,a.ew,a.el,a.dc,a.dw,a.dl,a.ln⟩,λx u z=> ?_⟩];exact rH (s _ _ z) (λps e=>nt x ps (by rw [z,e]))
theorem ff.onto {C:Addr}{H0 Hc H:Hp}{m h:Addr}{M:MS}(s:av H0 Hc)(z:ff K C Hc H m h M):ff K C H0 H m h M:=by
 obtain ⟨dx,lc,lw,ll,xs,ys,zs,a⟩:=z;exact ⟨dx,lc,lw,ll,xs,ys,zs,s.trans a.s,none_of s a.nm,none_of s a.nc,none_of s a.nw,none_of s a.nl,a.cw,a.cl,a.wl,a.em,a.ec,a.ew,a.el,a.dc,a.dw,a.dl,a.ln⟩
theorem ff.s {C:Addr}{H0 H:Hp}{m h:Addr}{M:MS}(z:ff K C H0 H m h M):av H0 H:=let ⟨_,_,_,_,_,_,_,a⟩:=z;a.s
theorem EY {C:Addr}{GG:Hp->Prop}{pre:List Cb->List bq->bq->Int->Prop}{dl:y0}{t1:Tok}(F:bw K "deal_all" "deal_all" mI f fd)(gT:GT GG)(cM:tJ K C)(fE:mg "list"=none)(c4:mg "enumerate"=none)(aW:mg "NO_LIFT"=some (.int (-1) t1))(yJ:bp P w K mg base 6 "deal" ["moment","dealer","place","rider"] (vD P w K mg base C GG pre dl)):aD P w K mg base br 7 f fd ["moment","dealer"] (mq P w K mg base C GG pre dl):=by
 have b1:aQ (.int (-1)) (.int (-1) t1):=⟨_,rfl⟩;rwa[F.ok nZ ↑4 ↑1]
 ·obtain ⟨m,df,h,H0,M,rfl,_⟩:=h;rfl
 obtain ⟨m,df,h,H0,M,rfl,hcal,hg,nt,⟨dx,lc,lw,ll,xs,ys,zs,a⟩,wl,gl,c10,hpre,q⟩:=h;have cl:=cM.i.cl;have yl:ys.length=M.ws.length:=aL a.dw;erw[⟨_,(af (d9 PassesOwn.never rfl (AC (K:=K) rfl rfl c4 (bU (vj (K:=K) rfl) rfl fE boot_list (ae ↑11 ac))) (dE (K:=K) (n:=2) rfl rfl (aE (az (i:=2) nZ.nd rfl ↑7) (aE (az (i:=3) nZ.nd rfl ↑7) cA))) (af (aI (ax ↑10 (ao ↑3 (wv 3) aa ↑5) (bh rfl aW b1) (au _)) (af (aO (aj yJ hr ↑2 rfl (ae (wv 0) (ae (wv 1) (ae (wv 2) (ae (wv 3) ac))))))) aC)))),?_⟩];erw[bQ a cl cM.waiting (v:= .ref lw) rfl ?_];rwa[qg (.inl (aS.of a.ew)) λlk H1 s1 n1 e1=> ?_];have a1:=a.same s1;have nk0:H0 lk=none:=none_of a.s n1;ext;erw[.inl ⟨ys,aS.of e1,?_⟩];obtain ⟨aw,sw⟩:=a1.wideN nt;have ntc:NT (yX (gG H1 m lc lw ll)):=E5 _;generalize hHc:yX (gG H1 m lc lw ll)=Hc at aw sw ntc
 have kk:∀ {p:Addr} {us:List V},H1 p=some (.lst us)->p≠m:=λ{p us} e z=>by rw [z,a1.em] at e;cases e
 have nlk:∀ {p:Addr} {o:HO},H p=some o->lk≠p:=λ{p o} e z=>by rw [<-z,n1] at e;cases e
 have ek:Hc lk=some (.lst ys):=by rw [<-hHc];exact rH (fZ e1 (kk e1) (nlk a.ec) (nlk a.ew) (nlk a.el)) ↑28
 have dy:∀ {i:Nat} {x:V},ys[i]? =some x->∃r b,M.ws[i]? =some r/\x= .ref b/\cm K H1 (.ref b) r.d:=λ{i x} hxi=>by
  obtain ⟨r,hr',dr⟩:=bJ (f:=bq.d) a1.dw hxi;obtain ⟨b,rfl,_⟩:=eG dr;exact ⟨r,b,hr',rfl,dr⟩
 rwa[FC (xs:=ys) (λi σ HX=>d8 H1 HX/\ff K C Hc HX m h (bD dl M.ws i M)/\GG HX/\∃o2 o3,σ=[some (.ref m),some (.ref df),o2,o3]) ⟨.refl _,⟨dx,lc,lw,ll,xs,ys,zs,aw⟩,gT _ _ s1.st hg,_,_,rfl⟩ (λi σ HX _ pv=>aS.of (pv.2.1.s _ _ ek)) (λi x σ HX T HY hxi pv sT eT=> ?_) (λσ HX pv=> ?_)]
 ·obtain ⟨st,hM,gX,o2,o3,rfl⟩:=pv;have gY:=gT _ _ sT.st gX;obtain ⟨r,b,hr',rfl,dr⟩:=dy hxi;have hi:i<M.ws.length:=(List.getElem?_eq_some_iff.mp hr').1;have hl:=fK (dl:=dl) (W:=M.ws) (M:=M) i;have stY:=st.trans sT.st.sx;have hMY:=hM.same sT;have drY:cm K HY (.ref b) r.d:=stY.den dr rfl;obtain ⟨b',eb',hT⟩:=eG drY;cases eb'
  have nx:bD dl M.ws (i+1) M=if r.lift= -1 then jw dl (bD dl M.ws i M) i r else bD dl M.ws i M:=by
   show (match M.ws[i]? with|some r=>_|none=>_)=_;rw [hr']
  ext;erw[iQ (aP.of eT) rfl ?_];erw[ar hT rfl ?_];by_cases z:r.lift= -1
  ·rw [if_pos z] at nx;erw[cO (decide_eq_true z) ?_];rwa[vD.mk _ _ _ _ _ _ _ _ rfl hcal gY ntc hMY drY ↑6 ↑6 ↑6 (by rw [hl.2.1];omega) (hpre i r hr' z) λHZ stZ gZ hMZ=> ?_];rw [<-nx] at hMZ;exact ⟨stY.trans stZ,hMZ,gZ,_,_,rfl⟩
  ·rw [if_neg z] at nx;rwa[bP (decide_eq_false z) ?_];rw [<-nx] at hMY;exact ⟨stY,hMY,gY,_,_,rfl⟩
 ·obtain ⟨st,hM,gX,o2,o3,rfl⟩:=pv;rw [yl] at hM;exact q _ (s1.st.sx.trans st) gX (hM.onto sw)
def K1 (wd:Str)(t i fl:Int):D:= .tup [.str wd,.int t,.int i,.int fl]
theorem Eg (wd:Str)(i fl:Int)(ts:List Int):noLs (ts.map λt=>K1 wd t i fl)=true:=by
 induction ts with
 |nil=>rfl
 |cons r rs ih=>rw [List.map_cons,noLs,ih];rfl
def wH (M:MS)(wd:Str)(ts:List Int)(i:Int)(c:Cb):MS:= {M with log:=M.log++ts.map λt=>K1 wd t i (c.pl / 2)}
inductive vA (K:Fg)(C:Addr)(vs:List V)(H:Hp)(Q:VK)(_e:XK):Prop
 |mk (m wd tg i h H0 M c:_) (ts:List Int) (_:vs=[.ref m,.str wd,.ref tg,.int i]) (_:ff K C H0 H m h M) (_:atC M i c) (_:(∃us,aS K H0 tg us/\us=ts.map V.int)) (_:ts.length<=1000) (_:M.log.length<=3000) (_:∀H',aU H H'->ff K C H0 H' m h (wH M wd ts i c)->Q .non H')
theorem AY {C:Addr}{H H0:Hp}{m tg h:Addr}{wd:Str}{i:Int}{M:MS}{c:Cb}{ts:List Int}{Q:VK}{E:XK}(h1:ff K C H0 H m h M)(h2:atC M i c)(h3:aS K H0 tg (ts.map V.int))(h4:ts.length<=1000)(h5:M.log.length<=3000)(q:∀H',aU H H'->ff K C H0 H' m h (wH M wd ts i c)->Q .non H'):vA K C [.ref m,.str wd,.ref tg,.int i] H Q E:=⟨m,wd,tg,i,h,H0,M,c,ts,rfl,h1,h2,⟨_,h3,rfl⟩,h4,h5,q⟩
theorem Im {C:Addr}(F:bw K "log_steps" "log_steps" ou f fd)(cM:tJ K C)(bo:bp P w K mg base 1 "floor_of" ["cabin"] (cN K)):aD P w K mg base br 2 f fd ["moment","word","tags","lift"] (vA K C):=by
 rwa[F.ok qI ↑4 ↑1]
 ·obtain ⟨m,wd,tg,i,h,H0,M,c,ts,rfl,_⟩:=h;rfl
 obtain ⟨m,wd,tg,i,h,H0,M,c,ts,rfl,⟨dx,lc,lw,ll,xs,ys,zs,a⟩,hc,⟨us,hts,rfl⟩,tl,gl,q⟩:=h;obtain ⟨t,hx,hi,ht,hlt⟩:=a.atC hc;have cl:=cM.i.cl;have zl:zs.length=M.log.length:=a.dl.len;erw[⟨_,(ag (aA (i:=4) qI.nd rfl (Or.inr rfl) (aj bo hr ↑2 rfl (ae (ao ↑3 ↑11 (wv 3) ↑5) ac))) (af (aO (dY (K:=K) rfl PySem.F.plainAttrs_list PySem.F.slot_list_extend PySem.F.type_list_extend qq ↑11 (ae (bG rfl (aK (N':=["tag","word","lift","floor"]) (pk:=[none,some 1,some 3,some 4]) (by kernel_rfl)) (bF (K:=K) rfl (wv 2)) (λC s H ex=>(az (i:=0) (show List.Nodup (["tag","word","lift","floor"]:List Str) by decide+kernel) rfl ↑7)) (λC s H ex=>b5) (λC s H ex=>(bt (ae (wv 1) (ae (wv 0) (ae (wv 2) (ae (wv 3) ac))))))) ac))))),?_⟩];erw[bQ a cl cM.cabins (v:= .ref lc) rfl ?_];erw[cg (aS.of a.ec) hi ?_];erw[cN.mk _ _ _ _ _ _ rfl ht ?_];erw[bQ a cl cM.log (v:= .ref ll) rfl ?_];erw[⟨.inl ⟨rfl,_,aS.of a.el⟩,?_⟩];have hL:=a.s.seq hts;rwa[dA hL ?_];rwa[b6 (xs:=ts.map V.int) (λj us HX=>av H HX/\us.length=j/\aN K HX us ((ts.take j).map λt=>K1 wd t i (c.pl / 2))) (bx (by rw [List.length_map];omega)) (λj us HX h=>Nat.le_of_eq h.2.1) ⟨.refl _,rfl,.nil⟩ (λj us HX _ h=>h.1.seq hL) (λj y us HX hy hP=> ?_) (λus HX hP l n=> ?_)]
 ·obtain ⟨sx,hul,hd⟩:=hP;rw [List.getElem?_map] at hy;obtain ⟨v,hv,rfl⟩:=Option.map_eq_some_iff.mp hy;erw[⟨cE,?_⟩];rwa[cf (bx (by show 4<=1000000;decide)) λb H3 s3 n3 e3=>⟨sx.trans s3,by simp [hul],?_⟩];rw [List.take_add_one,hv,List.map_append];exact Paired.app (aN.same hd s3) (.cons (gF (aP.of e3) (.cons (.str _) (.cons (.int _) (.cons (.int _) (.cons (.int _) .nil))))) .nil)
 obtain ⟨sx,hul,hd⟩:=hP;rw [List.length_map,List.take_of_length_le ↑13] at hd;rw [List.length_map] at hul;have aX:=a.same sx;have s3:av HX (upd HX l (.lst us)):= .upd n;have a3:=aX.same s3;have e3:upd HX l (.lst us) l=some (.lst us):=ak;generalize hH3:upd HX l (.lst us)=H3 at s3 a3 e3 ⊢;ext;rwa[FJ a3.el e3 (bx ↑6) ?_];exact q _ ((sx.trans s3).st.trans (.updL a3.el)) ⟨dx,lc,lw,ll,xs,ys,_,a3.setL (aN.same hd s3) (Eg wd i _ ts)⟩
def fi (M:MS)(i:Int)(c:Cb):MS:= {M with cs:=M.cs.set i.toNat c}
def bA (c:Cb):List (Int×Int):=if 0<c.dr then c.ps else []
theorem mT (c:Cb):(bA c).length<=c.ps.length:=by
 unfold bA;split
 ·exact Nat.le_refl _
 ·exact Nat.zero_le _
def AV (M:MS)(i:Int)(c:Cb)(l:Lf):MS:=fi (wH M (Str.ofString "out") ((bA c).map (·.1)) i c) i ⟨0,0,l.tn,c.mr,c.ps.drop (bA c).length⟩
inductive zf (K:Fg)(C:Addr)(vs:List V)(H:Hp)(Q:VK)(_e:XK):Prop
 |mk (m i h hs l H0 M c:_) (_:vs=[.ref m,.int i]) (_:nG K H0 h hs) (_:hs.ls[i.toNat]? =some l) (_:ff K C H0 H m h M) (_:atC M i c) (_:c.ps.length<=64) (_:M.log.length<=3000) (_:∀H',aU H H'->ff K C H0 H' m h (AV M i c l)->Q .non H')
theorem ji {H:Hp}{bs:List V}{ps:List (Int×Int)}(d:aN K H bs (ps.map cZ)){j:Nat}{y:V}(hy:bs[j]? =some y):∃p t,ps[j]? =some p/\y= .ref t/\aP K H t [.int p.1,.int p.2]:=by
 obtain ⟨p,hp,dp⟩:=bJ (f:=cZ) d hy;obtain ⟨t,xs,rfl,h1,h2⟩:=dp.outT
 cases h2 with|cons q0 t0=>cases t0 with|cons q1 t1=>
 cases t1;cases q0.isInt;cases q1.isInt;exact ⟨p,t,hp,rfl,h1⟩
theorem Paired.drop' {α β:Type}{R:α->β->Prop}:∀ {n:Nat} {xs:List α} {ys:List β},Paired R xs ys->Paired R (xs.drop n) (ys.drop n)
 |0,_,_,h=>h
 |n+1,[],_,h=>by cases h;exact .nil
 |n+1,x::xs,_,h=>by
  cases h with
  |cons _ t=>exact Paired.drop' (n:=n) t
theorem Ii {C:Addr}(F:bw K "open_below" "open_below" k7 f fd)(cM:tJ K C)(bj:mg "len"=none)(dG:bp P w K mg base 2 "log_steps" ["moment","word","tags","lift"] (vA K C))(c8:bp P w K mg base 1 "turns_of" ["house","lift"] (j6 K λl=> .int l.tn)):aD P w K mg base br 3 f fd ["moment","lift"] (zf K C):=by
 rwa[F.ok i6 ↑4 ↑1]
 ·obtain ⟨m,i,h,hs,l,H0,M,c,rfl,_⟩:=h;rfl
 obtain ⟨m,i,h,hs,l,H0,M,c,rfl,hH,hl,hM,hc,pl64,gl,q⟩:=h;have hM0:=hM;obtain ⟨dx,lc,lw,ll,xs,ys,zs,a⟩:=hM;obtain ⟨t,hx,hi,ht,hlt⟩:=a.atC hc;obtain ⟨b,bs,et,eb,db⟩:=id ht;have hT:=aP.of (K:=K) et;have bl:bs.length=c.ps.length:=aL db;have cl:=cM.i.cl;erw[⟨_,(ag (aA (i:=2) i6.nd rfl ↑7 (ao ↑3 ↑11 (wv 1) ↑5)) (ag (aA (i:=3) i6.nd rfl ↑7 (cL (ax iP ↑20 aa (au _)) ↑20 (bt ac))) (ag (aO (aj dG hr ↑2 rfl (ae (wv 0) (ae ay (ae (bG rfl (aK (N':=["tag","goal"]) (pk:=[none,none]) (by kernel_rfl)) (bF (K:=K) rfl (wv 3)) (λC s H ex=>(dE (K:=K) (n:=2) rfl rfl (aE (az (i:=0) (show List.Nodup (["tag","goal"]:List Str) by decide+kernel) rfl ↑7) (aE (az (i:=1) (show List.Nodup (["tag","goal"]:List Str) by decide+kernel) rfl ↑7) cA)))) (λC s H ex=>b5) (λC s H ex=>(wv 0))) ↑19))))) (af (ie (bt (ae aa (ae aa (ae (aj c8 hr ↑2 rfl (ae ↑11 ↑19)) (ae ↑20 (ae (jf (MZ (K:=K) rfl) ↑20 (lV (aG (cI (K:=K) rfl) rfl bj PySem.boot_len (ae (wv 3) ac))) mM) ac)))))) (ig ↑11 (wv 1) lX)))))),?_⟩];erw[bQ a cl cM.cabins (v:= .ref lc) rfl ?_];erw[cg (aS.of a.ec) hi ?_];erw[ar hT rfl ?_];by_cases hd:0<c.dr
 ·erw[cO (decide_eq_true hd) ?_];rwa[ar hT rfl ?_];have eo:bA c=c.ps:=if_pos hd;obtain ⟨os,hO,dO⟩:∃os,aP K H b os/\aN K H os ((bA c).map cZ):=⟨bs,aP.of eb,by rw [eo];exact db⟩;have s1:av H H:= .refl _;ext;rwa[dW hO ?_];have ol:os.length=(bA c).length:=aL dO;have o64:(bA c).length<=64:=Nat.le_trans (mT c) pl64;rwa[cJ (xs:=os) (λj us HX=>av H HX/\us=((bA c).take j).map λp=>V.int p.1) (bx ↑6) (λj us HX h=>by rw [h.2,List.length_map,List.length_take];exact Nat.min_le_left _ _) ⟨.refl _,rfl⟩ (λj us HX _ h=>h.1.seqT hO) (λj y us HX hy hP=> ?_) (λus HX hP l2 n2=> ?_)]
  ·obtain ⟨sx,rfl⟩:=hP;obtain ⟨p,pt,hp,rfl,hpT⟩:=ji dO hy;ext;erw[iQ (sx.seqT hpT) rfl ?_];erw[⟨gt,?_⟩];rwa[⟨sx,?_⟩];rw [List.take_add_one,hp,List.map_append];rfl
  obtain ⟨sx,rfl⟩:=hP;rw [ol,List.take_of_length_le ↑13];have s2:av HX (upd HX l2 (.lst ((bA c).map λp=>V.int p.1))):= .upd n2;have e2:upd HX l2 (.lst ((bA c).map λp=>V.int p.1)) l2=some (.lst ((bA c).map λp=>V.int p.1)):=ak;generalize hH2:upd HX l2 (.lst ((bA c).map λp=>V.int p.1))=H2 at s2 e2 ⊢;have s02:=s1.trans (sx.trans s2);have a2:=a.same s02;obtain ⟨aw,sw⟩:=a2.wide
  have nk:∀ {p:Addr} {o:HO},HX p=some o->l2≠p:=λ{p o} e z=>by rw [<-z,n2] at e;cases e
  have s0X:=s1.trans sx;have ek:gG H2 m lc lw ll l2=some (.lst ((bA c).map λp=>V.int p.1)):=fZ e2 (nk (s0X _ _ a.em)) (nk (s0X _ _ a.ec)) (nk (s0X _ _ a.ew)) (nk (s0X _ _ a.el));generalize hHc:gG H2 m lc lw ll=Hc at aw sw ek;ext;rwa[AY (ts:=(bA c).map (·.1)) ⟨dx,lc,lw,ll,xs,ys,zs,aw⟩ hc (by rw [List.map_map];exact aS.of ek) (by rw [List.length_map];omega) gl λH3 st3 hM3=> ?_];obtain ⟨dx3,lc3,lw3,ll3,xs3,ys3,zs3,a3⟩:=hM3;have st03:=s02.st.trans st3;ext;erw[bQ a3 cl cM.house (v:= .ref h) rfl ?_];erw[j6.mk (g:=λl=> .int l.tn) _ _ _ _ rfl ((hH.same (sw.trans a3.s))) hc.1 hl ?_];erw[ar (st03.sqT hT) rfl ?_];erw[ar (st03.sqT hT) rfl ?_];rwa[fW ((sx.trans s2).st.trans st3 |>.sqT hO) ?_];rw [ol];ext;have db3:=st03.dens db (fu c.ps)
  have fin:∀(b':Addr) (bs':List V) H4,av H3 H4->H4 b'=some (.tup bs')->aN K H4 bs' ((c.ps.drop (bA c).length).map cZ)->IH [.int 0,.int 0,.int l.tn,.int c.mr,.ref b'] H4 λv H5=>pN K "cabins" m H5 λo H6=>G4 o (.int i) v H6 λH7=>Q .non H7:=by
   intro b' bs' H4 s4 e4 d4;rwa[cf (bx (by show 5<=1000000;decide)) λr H5 s5 n5 e5=> ?_];have a5:=a3.same (s4.trans s5);rwa[bQ a5 cl cM.cabins (v:= .ref lc3) rfl ?_];obtain ⟨t3,_,_,_,hlt3⟩:=a3.atC (c:=c) hc;rwa[mw (j:=i.toNat) a5.ec (pM hc.1 hlt3) ?_];have a6:=a5.setC (i:=i.toNat) (c:=⟨0,0,l.tn,c.mr,c.ps.drop (bA c).length⟩) ⟨r,rfl,b',bs',e5,s5 _ _ e4,aN.same d4 s5⟩;exact q _ ((st03.trans (s4.trans s5).st).trans (.updL a5.ec)) (ff.onto sw ⟨dx3,lc3,lw3,ll3,_,ys3,zs3,a6⟩)
  have hcut:j9 bs (some ((bA c).length:Int)) none=bs.drop (bA c).length:=by
   unfold j9;rw [show HT.sIx bs.length 0 (some ((bA c).length:Int))=min (bA c).length bs.length from HT.sIx_nat _ _ _]
   have:(bA c).length<=bs.length:=by rw [bl];exact mT c
   rw [Nat.min_eq_left this,HT.sIx_none,List.take_of_length_le (by rw [List.length_drop];exact Nat.le_refl _)]
  rwa[Jw (st03.sqT (aP.of eb)) (λe=> ?_) (λl4 H4 s4 e4=> ?_)]
  ·rw [hcut] at e;exact fin b bs H3 (.refl _) (st03.tup eb) (by rw [List.map_drop,<-e];exact Paired.drop' db3)
  ·rw [hcut] at e4;exact fin l4 _ H4 s4 e4 (by rw [List.map_drop];exact Paired.drop' (aN.same db3 s4))
 ·erw[bP (decide_eq_false hd) ?_];rwa[cf (bx (by show 0<=1000000;decide)) λob H1 s1 n1 e1=> ?_];have eo:bA c=[]:=if_neg hd;obtain ⟨os,hO,dO⟩:∃os,aP K H1 ob os/\aN K H1 os ((bA c).map cZ):=⟨[],aP.of e1,by rw [eo];exact .nil⟩;ext;rwa[dW hO ?_];have ol:os.length=(bA c).length:=aL dO;have o64:(bA c).length<=64:=Nat.le_trans (mT c) pl64;rwa[cJ (xs:=os) (λj us HX=>av H1 HX/\us=((bA c).take j).map λp=>V.int p.1) (bx ↑6) (λj us HX h=>by rw [h.2,List.length_map,List.length_take];exact Nat.min_le_left _ _) ⟨.refl _,rfl⟩ (λj us HX _ h=>h.1.seqT hO) (λj y us HX hy hP=> ?_) (λus HX hP l2 n2=> ?_)]
  ·obtain ⟨sx,rfl⟩:=hP;obtain ⟨p,pt,hp,rfl,hpT⟩:=ji dO hy;ext;erw[iQ (sx.seqT hpT) rfl ?_];erw[⟨gt,?_⟩];rwa[⟨sx,?_⟩];rw [List.take_add_one,hp,List.map_append];rfl
  obtain ⟨sx,rfl⟩:=hP;rw [ol,List.take_of_length_le ↑13];have s2:av HX (upd HX l2 (.lst ((bA c).map λp=>V.int p.1))):= .upd n2;have e2:upd HX l2 (.lst ((bA c).map λp=>V.int p.1)) l2=some (.lst ((bA c).map λp=>V.int p.1)):=ak;generalize hH2:upd HX l2 (.lst ((bA c).map λp=>V.int p.1))=H2 at s2 e2 ⊢;have s02:=s1.trans (sx.trans s2);have a2:=a.same s02;obtain ⟨aw,sw⟩:=a2.wide
  have nk:∀ {p:Addr} {o:HO},HX p=some o->l2≠p:=λ{p o} e z=>by rw [<-z,n2] at e;cases e
  have s0X:=s1.trans sx;have ek:gG H2 m lc lw ll l2=some (.lst ((bA c).map λp=>V.int p.1)):=fZ e2 (nk (s0X _ _ a.em)) (nk (s0X _ _ a.ec)) (nk (s0X _ _ a.ew)) (nk (s0X _ _ a.el));generalize hHc:gG H2 m lc lw ll=Hc at aw sw ek;ext;rwa[AY (ts:=(bA c).map (·.1)) ⟨dx,lc,lw,ll,xs,ys,zs,aw⟩ hc (by rw [List.map_map];exact aS.of ek) (by rw [List.length_map];omega) gl λH3 st3 hM3=> ?_];obtain ⟨dx3,lc3,lw3,ll3,xs3,ys3,zs3,a3⟩:=hM3;have st03:=s02.st.trans st3;ext;erw[bQ a3 cl cM.house (v:= .ref h) rfl ?_];erw[j6.mk (g:=λl=> .int l.tn) _ _ _ _ rfl ((hH.same (sw.trans a3.s))) hc.1 hl ?_];erw[ar (st03.sqT hT) rfl ?_];erw[ar (st03.sqT hT) rfl ?_];rwa[fW ((sx.trans s2).st.trans st3 |>.sqT hO) ?_];rw [ol];ext;have db3:=st03.dens db (fu c.ps)
  have fin:∀(b':Addr) (bs':List V) H4,av H3 H4->H4 b'=some (.tup bs')->aN K H4 bs' ((c.ps.drop (bA c).length).map cZ)->IH [.int 0,.int 0,.int l.tn,.int c.mr,.ref b'] H4 λv H5=>pN K "cabins" m H5 λo H6=>G4 o (.int i) v H6 λH7=>Q .non H7:=by
   intro b' bs' H4 s4 e4 d4;rwa[cf (bx (by show 5<=1000000;decide)) λr H5 s5 n5 e5=> ?_];have a5:=a3.same (s4.trans s5);rwa[bQ a5 cl cM.cabins (v:= .ref lc3) rfl ?_];obtain ⟨t3,_,_,_,hlt3⟩:=a3.atC (c:=c) hc;rwa[mw (j:=i.toNat) a5.ec (pM hc.1 hlt3) ?_];have a6:=a5.setC (i:=i.toNat) (c:=⟨0,0,l.tn,c.mr,c.ps.drop (bA c).length⟩) ⟨r,rfl,b',bs',e5,s5 _ _ e4,aN.same d4 s5⟩;exact q _ ((st03.trans (s4.trans s5).st).trans (.updL a5.ec)) (ff.onto sw ⟨dx3,lc3,lw3,ll3,_,ys3,zs3,a6⟩)
  have hcut:j9 bs (some ((bA c).length:Int)) none=bs.drop (bA c).length:=by
   unfold j9;rw [show HT.sIx bs.length 0 (some ((bA c).length:Int))=min (bA c).length bs.length from HT.sIx_nat _ _ _]
   have:(bA c).length<=bs.length:=by rw [bl];exact mT c
   rw [Nat.min_eq_left this,HT.sIx_none,List.take_of_length_le (by rw [List.length_drop];exact Nat.le_refl _)]
  rwa[Jw (st03.sqT (aP.of eb)) (λe=> ?_) (λl4 H4 s4 e4=> ?_)]
  ·rw [hcut] at e;exact fin b bs H3 (.refl _) (st03.tup eb) (by rw [List.map_drop,<-e];exact Paired.drop' db3)
  ·rw [hcut] at e4;exact fin l4 _ H4 s4 e4 (by rw [List.map_drop];exact Paired.drop' (aN.same db3 s4))
def m5 (M:MS)(i:Int)(c:Cb)(l:Lf):MS:=if c.pl=0 then AV M i c l else if 0<c.dr then fi M i ⟨c.pl,c.li,if M.bl.testBit i.toNat=true then c.dr else 0,c.mr,c.ps⟩ else fi M i ⟨c.pl - 1,-1,0,c.mr,c.ps⟩
inductive DM (K:Fg)(C:Addr)(vs:List V)(H:Hp)(Q:VK)(_e:XK):Prop
 |mk (m i h hs l H0 M c:_) (_:vs=[.ref m,.int i]) (_:nG K H0 h hs) (_:hs.ls[i.toNat]? =some l) (_:ff K C H0 H m h M) (_:atC M i c) (_:i<1000) (_:c.ps.length<=64) (_:M.log.length<=3000) (_:∀H',aU H H'->ff K C H0 H' m h (m5 M i c l)->Q .non H')
theorem LF {C:Addr}(F:bw K "go_in_fire" "go_in_fire" oy f fd)(cM:tJ K C)(jz:bp P w K mg base 3 "open_below" ["moment","lift"] (zf K C))(ft:bp P w K mg base 2 "has" ["mask","k"] d3)(aR:bp P w K mg base 1 "with_changes" ["cabin","place","light","door"] (dq K)):aD P w K mg base br 4 f fd ["moment","lift"] (DM K C):=by
 rwa[F.ok kQ ↑4 ↑1]
 ·obtain ⟨m,i,h,hs,l,H0,M,c,rfl,_⟩:=h;rfl
 obtain ⟨m,i,h,hs,l,H0,M,c,rfl,hH,hl,hM,hc,i1,pl64,gl,q⟩:=h;have hM0:=hM;obtain ⟨dx,lc,lw,ll,xs,ys,zs,a⟩:=hM;obtain ⟨t,hx,hi,ht,hlt⟩:=a.atC hc;obtain ⟨b,bs,et,eb,db⟩:=id ht;have hT:=aP.of (K:=K) et;have cl:=cM.i.cl;obtain ⟨j,hj⟩:=Int.eq_ofNat_of_zero_le hc.1;rwa[⟨_,(ag (aA (i:=2) kQ.nd rfl ↑7 (ao ↑3 ↑11 (wv 1) ↑5)) (af (aI (ax ↑10 ↑20 aa (au _)) (af (aO (aj jz hr ↑2 rfl (ae (wv 0) ↑19)))) (af (aI (ax iP ↑20 aa (au _)) (ag (aA (i:=3) kQ.nd rfl ↑7 (cL (bZ (K:=K) rfl (aj ft hr ↑2 rfl (ae ↑11 ↑19))) ↑20 aa)) (af (ie (aj aR hr ↑2 rfl (ae (wv 2) (ae ↑20 (ae ↑20 (ae (wv 3) ac))))) (ig ↑11 (wv 1) lX)))) (af (ie (aj aR hr ↑2 rfl (ae (wv 2) (ae (aH eK ↑20 aa) (ae (mP lY aa) (ae aa ac))))) (ig ↑11 (wv 1) lX)))))))),?_⟩]
 have put:∀(r:Addr) (c':Cb) H1,av H H1->bW K H1 r c'.pl c'.li c'.dr c'.mr c'.ps->m5 M i c l=fi M i c'->pN K "cabins" m H1 λo H6=>G4 o (.int i) (.ref r) H6 λH7=>Q .non H7:=by
  intro r c' H1 s1 hr' e;have a1:=a.same s1;rwa[bQ a1 cl cM.cabins (v:= .ref lc) rfl ?_];rwa[mw (j:=i.toNat) a1.ec (pM hc.1 hlt) ?_];rw [e] at q;exact q _ (s1.st.trans (.updL a1.ec)) ⟨dx,lc,lw,ll,_,ys,zs,a1.setC (i:=i.toNat) (c:=c') ⟨r,rfl,hr'⟩⟩
 ext;erw[bQ a cl cM.cabins (v:= .ref lc) rfl ?_];erw[cg (aS.of a.ec) hi ?_];erw[ar hT rfl ?_];rwa[oR (λz=> ?_) (λz=> ?_)]
 ·ext;have e:m5 M i c l=AV M i c l:=if_pos z;rw [e] at q;exact zf.mk _ _ _ _ _ _ _ _ rfl hH hl hM0 hc pl64 gl λH' st hM'=>q H' st hM'
 ext;erw[ar hT rfl ?_];rwa[oR (λz2=> ?_) (λz2=> ?_)]
 ·have z2:0<c.dr:=z2
  have e:m5 M i c l=fi M i ⟨c.pl,c.li,if M.bl.testBit i.toNat=true then c.dr else 0,c.mr,c.ps⟩:=by unfold m5;rw [if_neg z,if_pos z2]
  ext;erw[bQ a cl cM.blocked (v:= .int (M.bl:Int)) rfl ?_];rw [hj];rwa[d3.mk _ _ rfl ↑6 ?_];rw [hj,show ((j:Int)).toNat=j by omega] at e;rw [hj] at put;ext;by_cases hb:M.bl.testBit j=true
  ·rw [if_pos hb] at e;erw[cO hb ?_];erw[ar hT rfl ?_];erw[ar hT rfl ?_];erw[ar hT rfl ?_];rwa[dq.mk _ _ _ _ _ _ _ _ _ rfl ht λr H1 s1 hr'=> ?_];exact put r ⟨c.pl,c.li,c.dr,c.mr,c.ps⟩ H1 s1 hr' e
  ·rw [if_neg hb] at e;erw[bP (by simpa using hb) ?_];erw[ar hT rfl ?_];erw[ar hT rfl ?_];rwa[dq.mk _ _ _ _ _ _ _ _ _ rfl ht λr H1 s1 hr'=> ?_];exact put r ⟨c.pl,c.li,0,c.mr,c.ps⟩ H1 s1 hr' e
 ·have z2: ¬0<c.dr:=z2
  have e:m5 M i c l=fi M i ⟨c.pl - 1,-1,0,c.mr,c.ps⟩:=by unfold m5;rw [if_neg z,if_neg z2]
  ext;erw[ar hT rfl ?_];rwa[dq.mk _ _ _ _ _ _ _ _ _ rfl ht λr H1 s1 hr'=> ?_];exact put r ⟨c.pl - 1,-1,0,c.mr,c.ps⟩ H1 s1 hr' e
theorem wO {a:Int}{bs:List Int}:uN (.int a) (bs.map V.int)=decide (a∈bs):=by
 unfold uN;rw [List.any_map,Bool.eq_iff_iff,List.any_eq_true,decide_eq_true_eq];constructor
 ·rintro ⟨x,hx,z⟩;have z:(x==a)=true:=z;rw [<-eq_of_beq z];exact hx
 ·intro h;exact ⟨a,h,beq_self_eq_true a⟩
theorem oW (bs:List Int):(bs.map V.int).all dh=true:=by
 rw [List.all_map,List.all_eq_true];intro x _;rfl
def m8 (hs:Hs)(c:Cb)(l:Lf)(rs:List bq):CV:=wX hs.so l.rm c.pl c.li c.ps rs
def uS (hs:Hs)(M:MS)(i:Int)(c:Cb)(l:Lf)(rs:List bq):MS:=
 {fi (wH (wH M (Str.ofString "out") (d5 c.pl c.ps) i c) (Str.ofString "in") (m8 hs c l rs).ins i c) i ⟨c.pl,(m8 hs c l rs).light,iM l.kd l.tn c.dr (M.bl.testBit i.toNat) (decide (((d5 c.pl c.ps).length:Int)+((m8 hs c l rs).ins.length:Int)>0)),c.mr,(m8 hs c l rs).kept⟩ with ws:=M.ws.filter λr=> !decide (r.tag∈(m8 hs c l rs).ins)}
structure JX (P:Program)(w:World)(K:Fg)(mg:Str->Option Value)(base:Heap)(kD kH kS:Addr):Prop where
 c:∀k,rR k->JY K (kc kD kH kS k)
 m:∀k,rR k->iN P w K mg base br 1 "left" (kc kD kH kS k) (iX K k)
theorem yD {hs:Hs}{c:Cb}{l:Lf}{rs:List bq}:(m8 hs c l rs).ins.length<=rs.length:=by
 have:=(nL (so:=hs.so) (room:=l.rm) (pl:=c.pl) rs ⟨c.li,fY c.pl c.ps,[]⟩).2;simpa [m8,wX] using this
theorem yi {pl:Int}{ps:List (Int×Int)}:(d5 pl ps).length<=ps.length:=by
 unfold d5;rw [List.length_map];exact List.length_filter_le _ _
inductive DN (K:Fg)(C:Addr)(vs:List V)(H:Hp)(Q:VK)(_e:XK):Prop
 |mk (m i rl h hs l H0 M c xr rs:_) (_:vs=[.ref m,.int i,.ref rl]) (_:nG K H0 h hs) (_:hs.ls[i.toNat]? =some l) (_:ff K C H0 H m h M) (_:atC M i c) (_:i<1000) (_:c.ps.length<=64) (_:M.log.length<=2000) (_:M.ws.length<=1000) (_:(∃f0,c.pl=2*f0)) (_:H0 rl=some (.lst xr)) (_:aN K H0 xr (rs.map bq.d)) (_:MD rs) (_:∀H',aU H H'->ff K C H0 H' m h (uS hs M i c l rs)->Q .non H')
theorem LG {C kD kH kS:Addr}(F:bw K "exchange" "exchange" oB f fd)(cM:tJ K C)(D:JX P w K mg base kD kH kS)(bj:mg "len"=none)(gK:bp P w K mg base 1 "room_of" ["house","lift"] (j6 K λl=> .int l.rm))(c8:bp P w K mg base 1 "turns_of" ["house","lift"] (j6 K λl=> .int l.tn))(sO:bp P w K mg base 1 "kind_of" ["house","lift"] (j6 K λl=> .str l.kd))(lK:bp P w K mg base 3 "exchanged" ["sort","room","cabin","riders"] (zo K))(dG:bp P w K mg base 2 "log_steps" ["moment","word","tags","lift"] (vA K C))(sU:bp P w K mg base 3 "door_of" ["kind","turns"] (qx K kD kH kS))(ft:bp P w K mg base 2 "has" ["mask","k"] d3)(aR:bp P w K mg base 1 "with_changes" ["cabin","place","light","door"] (dq K)):aD P w K mg base br 4 f fd ["moment","lift","riders"] (DN K C):=by
 rwa[F.ok cU ↑4 ↑1]
 ·obtain ⟨m,i,rl,h,hs,l,H0,M,c,xr,rs,rfl,_⟩:=h;rfl
 obtain ⟨m,i,rl,h,hs,l,H0,M,c,xr,rs,rfl,hH,hl,⟨dx,lc,lw,ll,xs,ys,zs,a⟩,hc,i1,pl64,gl,wl,⟨f0,hf0⟩,er,dr,hrs,q⟩:=h;obtain ⟨t,hx,hi,ht,hlt⟩:=a.atC hc;have cl:=cM.i.cl;obtain ⟨j,hj⟩:=Int.eq_ofNat_of_zero_le hc.1;obtain ⟨ph,phs,pb,hh1,hh2,hh3,hh4,hh5⟩:=(hH.same a.s).at hc.1 hl;have kok:rR l.kd:=(hH.1.lf l (List.mem_of_getElem? hl)).2.2.2.2;erw[⟨_,(ag (aA (i:=3) cU.nd rfl ↑7 ↑11) (ag (aA (i:=4) cU.nd rfl ↑7 (aj lK hr ↑2 rfl (ae (ao ↑3 (wv 3) aa ↑5) (ae (aj gK hr ↑2 rfl (ae (wv 3) ↑19)) (ae (ao ↑3 ↑11 (wv 1) ↑5) (ae (wv 2) ac)))))) (ag (aA (i:=5) cU.nd rfl ↑7 (ao ↑3 (wv 4) aa ↑5)) (ag (aA (i:=6) cU.nd rfl ↑7 (ao ↑3 (wv 4) aa ↑5)) (ag (aA (i:=7) cU.nd rfl (Or.inr rfl) (ao ↑3 (wv 4) aa ↑5)) (ag (aO (aj dG hr ↑2 rfl (ae (wv 0) (ae ay (ae (wv 6) ↑19))))) (ag (aO (aj dG hr ↑2 rfl (ae (wv 0) (ae ay (ae (wv 7) ↑19))))) (ag (aA (i:=8) cU.nd rfl ↑7 (aj sU hr ↑2 rfl (ae (aj sO hr ↑2 rfl (ae (wv 3) ↑19)) (ae (aj c8 hr ↑2 rfl (ae (wv 3) ↑19)) ac)))) (ag (aA (i:=9) cU.nd rfl ↑7 (lW (n:=1) jh hr ↑2 (wv 8) (ae (ao ↑3 (wv 5) aa ↑5) (ae (aj ft hr ↑2 rfl (ae ↑11 ↑19)) (ae (bX iP (aH ↑25 (aG (cI (K:=K) rfl) rfl bj PySem.boot_len (ae (wv 6) ac)) (aG (cI (K:=K) rfl) rfl bj PySem.boot_len (ae (wv 7) ac))) aa (au _)) ac))))) (ag (ie (aj aR hr ↑2 rfl (ae (wv 5) (ae (ao ↑3 (wv 5) aa ↑5) (ae (ao ↑3 (wv 5) aa ↑5) (ae (wv 9) ac))))) (ig ↑11 (wv 1) lX)) (af (cx (K:=K) rfl (wv 0) (bG rfl (aK (N':=["rider","ins"]) (pk:=[none,some 7]) (by kernel_rfl)) (bF (K:=K) rfl ↑11) (λC s H ex=>(az (i:=0) (show List.Nodup (["rider","ins"]:List Str) by decide+kernel) rfl ↑7)) (λC s H ex=>(eI (ax (qa (K:=K) rfl) ↑16 (wv 1) (by with_unfolding_all rfl)))) (λC s H ex=>(wv 0))))))))))))))),?_⟩];erw[bQ a cl cM.house (v:= .ref h) rfl ?_];erw[ar hh1 rfl ?_];erw[j6.mk (g:=λl=> .int l.rm) _ _ _ _ rfl (hH.same a.s) hc.1 hl ?_];erw[bQ a cl cM.cabins (v:= .ref lc) rfl ?_];erw[cg (aS.of a.ec) hi ?_];rwa[OA ht pl64 (a.s _ _ er) (aN.same dr a.s) hrs hf0 λr H1 s1 told=> ?_];obtain ⟨cn,co,ci,er1,hcn,eo,ei,no,ni,noi⟩:=told;have e1:wX hs.so l.rm c.pl c.li c.ps rs=m8 hs c l rs:=rfl;rw [e1] at hcn ei;generalize hE:m8 hs c l rs=E' at *;generalize hO:d5 c.pl c.ps=O at *
 have el:E'.ins.length<=rs.length:=by rw [<-hE];exact yD
 have ol:O.length<=64:=by rw [<-hO];exact Nat.le_trans yi pl64
 have rl64:rs.length<=64:=hrs.1;have a1:=a.same s1;obtain ⟨aw,sw⟩:=a1.wide
 have nk:∀ {p q:Addr} {o:HO},H p=none->H q=some o->p≠q:=λ{p q o} h1 h2 z=>by rw [z,h2] at h1;cases h1
 have eoC:gG H1 m lc lw ll co=some (.lst (O.map V.int)):=fZ eo (nk no a.em) (nk no a.ec) (nk no a.ew) (nk no a.el);have eiC:gG H1 m lc lw ll ci=some (.lst (E'.ins.map V.int)):=fZ ei (nk ni a.em) (nk ni a.ec) (nk ni a.ew) (nk ni a.el);generalize hHc:gG H1 m lc lw ll=Hc at aw sw eoC eiC;have er1T:=aP.of (K:=K) er1;ext;erw[ar er1T rfl ?_];erw[ar er1T rfl ?_];erw[ar er1T rfl ?_];have hM1:ff K C Hc H1 m h M:=⟨dx,lc,lw,ll,xs,ys,zs,aw⟩;erw[AY (ts:=O) hM1 hc (aS.of eoC) ↑6 ↑6 λH2 st2 hM2=> ?_];rwa[AY (ts:=E'.ins) (c:=c) hM2 hc (aS.of eiC) ↑6 (by show (M.log++_).length<=_;rw [List.length_append,List.length_map];omega) λH3 st3 hM3=> ?_];have st13:=st2.trans st3;obtain ⟨dx3,lc3,lw3,ll3,xs3,ys3,zs3,a3⟩:=hM3;have hH3:=hH.same (sw.trans a3.s);ext;erw[j6.mk (g:=λl=> .str l.kd) _ _ _ _ rfl hH3 hc.1 hl ?_];erw[j6.mk (g:=λl=> .int l.tn) _ _ _ _ rfl hH3 hc.1 hl ?_];rwa[qx.mk _ _ rfl kok λda ddx H4 s4 n4 e4=> ?_];have a4:=a3.same s4;have st14:=st13.trans s4.st;have hcn4:bW K H4 cn c.pl E'.light c.dr c.mr E'.kept:=hcn.keep st14;obtain ⟨nb,nbs,ecn,enb,dnb⟩:=id hcn4;have hcT:=aP.of (K:=K) ecn;ext;erw[ij e4 rfl (D.m _ kok) ?_];erw[ar hcT rfl ?_];erw[bQ a4 cl cM.blocked (v:= .int (M.bl:Int)) rfl ?_];rw [hj];erw[d3.mk _ _ rfl ↑6 ?_];rwa[eE (aS.of (a4.s _ _ eoC)) ?_];rw [List.length_map];ext;rwa[eE (aS.of (a4.s _ _ eiC)) ?_];rw [List.length_map];ext;erw[iX.mk _ _ _ _ _ _ _ rfl e4 (D.c _ kok).i.cl (D.c _ kok).n ?_];erw[ar hcT rfl ?_];erw[ar hcT rfl ?_];rwa[dq.mk _ _ _ _ _ _ _ _ _ rfl hcn4 λt5 H5 s5 ht5=> ?_];have a5:=a4.same s5;obtain ⟨_,_,_,_,hlt3⟩:=a3.atC (c:=c) hc;ext;erw[bQ a5 cl cM.cabins (v:= .ref lc3) rfl ?_];rw [<-hj];rwa[mw (j:=i.toNat) a5.ec (pM hc.1 hlt3) ?_];have a6:=a5.setC (i:=i.toNat) (c:=⟨c.pl,E'.light,iM l.kd l.tn c.dr (M.bl.testBit j) (decide ((O.length:Int)+(E'.ins.length:Int)>0)),c.mr,E'.kept⟩) ⟨t5,rfl,ht5⟩;generalize hH6:upd H5 lc3 (.lst (xs3.set i.toNat (.ref t5)))=H6 at a6 ⊢
 have st16:aU H1 H6:=by rw [<-hH6];exact (st14.trans s5.st).trans (.updL a5.ec)
 clear hH6;have yl:ys3.length=M.ws.length:=aL a3.dw;ext;erw[bQ a6 cl cM.waiting (v:= .ref lw3) rfl ?_];rwa[dA (aS.of a6.ew) ?_];rwa[b6 (xs:=ys3) (λj us HX=>av H6 HX/\us.length<=j/\aN K HX us (((M.ws.take j).filter λr=> !decide (r.tag∈E'.ins)).map bq.d)) (bx ↑6) (λj us HX h=>h.2.1) ⟨.refl _,Nat.le_refl _,.nil⟩ (λj us HX _ h=>h.1.seq (aS.of a6.ew)) (λj y us HX hy hP=> ?_) (λus HX hP l7 n7=> ?_)]
 ·obtain ⟨sx,hul,hd⟩:=hP;obtain ⟨r,hr',dr'⟩:=bJ (f:=bq.d) a6.dw hy;have hr':M.ws[j]? =some r:=hr';obtain ⟨ra,rfl,hT⟩:=eG (cm.same dr' sx);have nx:=jY (λr:bq=> !decide (r.tag∈E'.ins)) hr';erw[⟨cE,?_⟩];erw[ar hT rfl ?_];rwa[By (aS.of (sx _ _ (a6.s _ _ eiC))) rfl (oW _) ?_];rw [wO];show if (!decide (r.tag∈E'.ins))=true then _ else _
  cases hb:(!decide (r.tag∈E'.ins)) with
  |true=>
   rw [if_pos rfl];ext;rwa[⟨sx,by rw [List.length_append];show _+1<=_;omega,?_⟩];rw [nx,hb,if_pos rfl,List.map_append];exact Paired.app hd (.cons (cm.same dr' sx) .nil)
  |false=>
   rw [if_neg ↑2];rwa[⟨sx,by omega,?_⟩];rw [nx,hb,if_neg ↑2,List.append_nil];exact hd
 obtain ⟨sx,hul,hd⟩:=hP;rw [yl,List.take_of_length_le ↑13] at hd;have aX:=a6.same sx;have s8:av HX (upd HX l7 (.lst us)):= .upd n7;have a8:=aX.same s8;have e8:upd HX l7 (.lst us) l7=some (.lst us):=ak;generalize hH8:upd HX l7 (.lst us)=H8 at s8 a8 e8 ⊢
 have nlc:lc3≠l7:=λz=>by rw [<-z,aX.ec] at n7;cases n7
 have nll:l7≠ll3:=λz=>by rw [z,aX.el] at n7;cases n7
 ext;rwa[cz a8.em cl cM.waiting (by show 7<1000;decide) ?_];have a9:=a8.putW (rs:=M.ws.filter λr=> !decide (r.tag∈E'.ins)) (none_of aX.s n7) nlc nll e8 (aN.same hd s8);rwa[q _ ((s1.st.trans st16).trans (((sx.trans s8).st).trans (.updI a8.em))) (ff.onto sw ⟨dx3,lc3,l7,ll3,xs3.set i.toNat (.ref t5),us,zs3,?_⟩)]
 have ee:uS hs M i c l rs= {fi (wH (wH M (Str.ofString "out") O i c) (Str.ofString "in") E'.ins i c) i ⟨c.pl,E'.light,iM l.kd l.tn c.dr (M.bl.testBit j) (decide ((O.length:Int)+(E'.ins.length:Int)>0)),c.mr,E'.kept⟩ with ws:=M.ws.filter λr=> !decide (r.tag∈E'.ins)}:=by
  unfold uS;rw [hE,hO,hj,show ((j:Int)).toNat=j by omega]
 rw [ee];exact a9
structure lP (li he up dn:Int):Prop where
 l0: -1<=li
 l1:li<=1
 h0:0<=he
 h1:he<=2
 u0:0<=up
 d0:0<=dn
abbrev Wf:=Int->Int->Int->Int->Int->Str
inductive CY (P:Program)(w:World)(K:Fg)(mg:Str->Option Value)(base:Heap)(H:Hp)(a:Addr)(wf:Wf):Prop
 |mk (C dx fs sp:_) (_:H a=some (.ins C dx fs)) (_:fs.lookup (Str.ofString "word")=none) (_:iN P w K mg base br 2 "word" C sp) (_:(∀fl li he up dn,lP li he up dn->wf fl li he up dn∈eR)) (_:∀(H':Hp) (sa:Addr) (fl li he up dn:Int) (Q:VK) (E:XK),H' a=some (.ins C dx fs)->aP K H' sa [.int fl,.int li,.int he,.int up,.int dn]->lP li he up dn->Q (.str (wf fl li he up dn)) H'->sp [.ref a,.ref sa] H' Q E)
theorem CY.same {H H':Hp}{a:Addr}{wf:Wf}(r:CY P w K mg base H a wf)(s:av H H'):CY P w K mg base H' a wf:=by
 obtain ⟨C,dx,fs,sp,h1,h2,h3,h4,h5⟩:=r;exact ⟨C,dx,fs,sp,s _ _ h1,h2,h3,h4,h5⟩
def xP (hs:Hs)(l:Lf)(c:Cb)(wd:Str):Cb:=⟨(fJ hs.fl l.tn c.pl c.li c.dr c.ps (cB hs.so c.pl c.li c.ps wd)).1,(fJ hs.fl l.tn c.pl c.li c.dr c.ps (cB hs.so c.pl c.li c.ps wd)).2.1,(fJ hs.fl l.tn c.pl c.li c.dr c.ps (cB hs.so c.pl c.li c.ps wd)).2.2,c.mr,c.ps⟩
def MP (hs:Hs)(wf:Wf)(M:MS)(i:Int)(c:Cb)(l:Lf)(rs:List bq)(M':MS):Prop:=∃(f0:Nat) (u d:Int),c.pl=2*(f0:Int)/\yR (tk l.rm c.ps rs) f0 u/\yS (tk l.rm c.ps rs) f0 d/\M'=fi M i (xP hs l c (wf f0 c.li (iJ hs.so c.li (tk l.rm c.ps rs f0) (JQ c.ps f0) (Jl rs f0 c.li)) u d))
structure lR (fl:Int)(c:Cb):Prop where
 p0:0<=c.pl
 p1:c.pl<=2*(fl - 1)
 l0: -1<=c.li
 l1:c.li<=1
 m0:0<=c.mr
 ev:0<c.dr->c.pl% 2=0
 len:c.ps.length<=64
 gs:∀p∈c.ps,0<=p.2/\p.2<fl
structure iA (fl:Int)(r:bq):Prop where
 s0:0<=r.start
 s1:r.start<fl
 g0:0<=r.goal
 g1:r.goal<fl
 ne:r.start≠r.goal
theorem A8 {so:Str}{li:Int}{a b c:Bool}:0<=iJ so li a b c/\iJ so li a b c<=2:=by
 unfold iJ;split
 ·decide
 split
 ·decide
 split
 ·decide
 ·decide
theorem yR.nn {t:Int->Bool}{f u:Int}(h:yR t f u):0<=u:=by rcases h with ⟨h,_⟩|⟨h,_⟩<;>omega
theorem yS.nn {t:Int->Bool}{f u:Int}(h:yS t f u):0<=u:=by rcases h with ⟨h,_⟩|⟨h,_⟩<;>omega
inductive DQ (P:Program)(w:World)(K:Fg)(mg:Str->Option Value)(base:Heap)(C:Addr)(vs:List V)(H:Hp)(Q:VK)(_e:XK):Prop
 |mk (m ru i rl h hs l H0 M c xr rs wf:_) (_:vs=[.ref m,.ref ru,.int i,.ref rl]) (_:nG K H0 h hs) (_:hs.ls[i.toNat]? =some l) (_:CY P w K mg base H0 ru wf) (_:ff K C H0 H m h M) (_:atC M i c) (_:lR hs.fl c) (_:c.pl% 2=0) (_:H0 rl=some (.lst xr)) (_:aN K H0 xr (rs.map bq.d)) (_:(∀r∈rs,iA hs.fl r)) (_:rs.length<=64) (_:∀M' H',MP hs wf M i c l rs M'->aU H H'->ff K C H0 H' m h M'->Q .non H')
theorem LK {C:Addr}(F:bw K "go_by_rule" "go_by_rule" oz f fd)(cM:tJ K C)(gK:bp P w K mg base 1 "room_of" ["house","lift"] (j6 K λl=> .int l.rm))(c8:bp P w K mg base 1 "turns_of" ["house","lift"] (j6 K λl=> .int l.tn))(Ga:bp P w K mg base 5 "view" ["sort","room","cabin","riders"] (zd K))(sK:bp P w K mg base 3 "steered" ["sort","floors","turns","cabin","word"] (nN K)):aD P w K mg base br 6 f fd ["moment","rule","lift","riders"] (DQ P w K mg base C):=by
 rwa[F.ok g8 ↑4 ↑1]
 ·obtain ⟨m,ru,i,rl,h,hs,l,H0,M,c,xr,rs,wf,rfl,_⟩:=h;rfl
 obtain ⟨m,ru,i,rl,h,hs,l,H0,M,c,xr,rs,wf,rfl,hH,hl,hru,⟨dx,lc,lw,ll,xs,ys,zs,a⟩,hc,ok,ev,er,dr,hrs,rl64,q⟩:=h;obtain ⟨t,hx,hi,ht,hlt⟩:=a.atC hc;have cl:=cM.i.cl;have f8:=hH.1.f8;obtain ⟨ph,phs,pb,hh1,hh2,hh3,hh4,hh5⟩:=(hH.same a.s).at hc.1 hl;obtain ⟨kC,kdx,kfs,ksp,kr,klk,kM,kw,ks⟩:=hru;obtain ⟨f0,hf0⟩:∃f0:Nat,c.pl=2*(f0:Int):=⟨(c.pl / 2).toNat,by have:=ok.p0;omega⟩
 have f0l:(f0:Int)<hs.fl:=by have:=ok.p1;omega
 have fls:Pe c.ps rs:=⟨λp hp=>⟨(ok.gs p hp).1,by have:=(ok.gs p hp).2;omega⟩,λr hr=>⟨(hrs r hr).s0,by have:=(hrs r hr).s1;omega⟩,ok.len,rl64⟩;have gok:qk c.ps:=⟨by have:=ok.len;omega,λp hp=>⟨(ok.gs p hp).1,by have:=(ok.gs p hp).2;omega⟩⟩;erw[⟨_,(ag (aA (i:=4) g8.nd rfl ↑7 ↑11) (ag (aA (i:=5) g8.nd rfl ↑7 (ao ↑3 ↑11 (wv 2) ↑5)) (ag (aA (i:=6) g8.nd rfl ↑7 (lW (n:=2) jh hr ↑2 (wv 1) (ae (aj Ga hr ↑2 rfl (ae (ao ↑3 (wv 4) aa ↑5) (ae (aj gK hr ↑2 rfl (ae (wv 4) (ae (wv 2) ac))) (ae (wv 5) (ae (wv 3) ac))))) ac))) (af (ie (aj sK hr ↑2 rfl (ae (ao ↑3 (wv 4) aa ↑5) (ae (ao ↑3 (wv 4) aa ↑5) (ae (aj c8 hr ↑2 rfl (ae (wv 4) (ae (wv 2) ac))) (ae (wv 5) (ae (wv 6) ac)))))) (ig ↑11 (wv 2) lX)))))),?_⟩];erw[bQ a cl cM.house (v:= .ref h) rfl ?_];erw[bQ a cl cM.cabins (v:= .ref lc) rfl ?_];erw[cg (aS.of a.ec) hi ?_];erw[ij (a.s _ _ kr) klk kM ?_];erw[ar hh1 rfl ?_];erw[j6.mk (g:=λl=> .int l.rm) _ _ _ _ rfl (hH.same a.s) hc.1 hl ?_];rwa[zd.mk _ _ _ _ _ _ _ _ _ _ _ _ rfl ht (a.s _ _ er) (aN.same dr a.s) fls hf0 ↑6 λv u d H1 s1 hu hd ev1=> ?_];have a1:=a.same s1;have sn:lP c.li (iJ hs.so c.li (tk l.rm c.ps rs f0) (JQ c.ps f0) (Jl rs f0 c.li)) u d:=⟨ok.l0,ok.l1,A8.1,A8.2,hu.nn,hd.nn⟩;ext;rwa[ks H1 v f0 c.li _ u d _ _ (a1.s _ _ kr) (aP.of ev1) sn ?_];have hwd:=kw f0 _ _ _ _ sn;generalize hwd':wf f0 c.li (iJ hs.so c.li (tk l.rm c.ps rs f0) (JQ c.ps f0) (Jl rs f0 c.li)) u d=wd at hwd ⊢;ext;erw[ar (s1.seqT hh1) rfl ?_];erw[ar (s1.seqT hh1) rfl ?_];erw[j6.mk (g:=λl=> .int l.tn) _ _ _ _ rfl (hH.same a1.s) hc.1 hl ?_];rwa[DC (f0:=(f0:Int)) (ht.same s1) hwd gok hf0 ↑6 f0l ok.l0 ok.l1 λr H2 s2 hr'=> ?_];have a2:=a1.same s2;ext;erw[bQ a2 cl cM.cabins (v:= .ref lc) rfl ?_];rwa[mw (j:=i.toNat) a2.ec (pM hc.1 hlt) ?_];rwa[q (fi M i (xP hs l c wd)) _ ⟨f0,u,d,hf0,hu,hd,by rw [hwd']⟩ ((s1.trans s2).st.trans (.updL a2.ec)) ⟨dx,lc,lw,ll,_,ys,zs,a2.setC (i:=i.toNat) (c:=xP hs l c wd) ⟨r,rfl,hr'⟩⟩]
def eV (i:Int)(M:MS):List bq:=M.ws.filter λr=>decide (r.lift=i)
def Bn (hs:Hs)(wf:Wf)(M:MS)(i:Int)(c:Cb)(l:Lf)(M':MS):Prop:=if 0<c.dr then M'=uS hs M i c l (eV i M) else if c.pl% 2=1 then M'=fi M i ⟨c.pl+c.li,c.li,0,c.mr,c.ps⟩ else MP hs wf M i c l (eV i M) M'
section
variable {hs:Hs}{wf:Wf}{M M':MS}{i:Int}{c:Cb}{l:Lf}
theorem Rf (z:0<c.dr):Bn hs wf M i c l (uS hs M i c l (eV i M)):=by unfold Bn;rw [if_pos z]
theorem Re (z: ¬0<c.dr)(z2:c.pl% 2=1):Bn hs wf M i c l (fi M i ⟨c.pl+c.li,c.li,0,c.mr,c.ps⟩):=by unfold Bn;rw [if_neg z,if_pos z2]
theorem Rc (z: ¬0<c.dr)(z2: ¬c.pl% 2=1)(h:MP hs wf M i c l (eV i M) M'):Bn hs wf M i c l M':=by unfold Bn;rw [if_neg z,if_neg z2];exact h
end
inductive DL (P:Program)(w:World)(K:Fg)(mg:Str->Option Value)(base:Heap)(C:Addr)(vs:List V)(H:Hp)(Q:VK)(_e:XK):Prop
 |mk (m ru i h hs l H0 M c wf:_) (_:vs=[.ref m,.ref ru,.int i]) (_:nG K H0 h hs) (_:hs.ls[i.toNat]? =some l) (_:CY P w K mg base H0 ru wf) (_:ff K C H0 H m h M) (_:atC M i c) (_:lR hs.fl c) (_:i<1000) (_:(∀r∈M.ws,iA hs.fl r)) (_:M.ws.length<=64) (_:M.log.length<=2000) (_:∀M' H',Bn hs wf M i c l M'->aU H H'->ff K C H0 H' m h M'->Q .non H')
theorem LE {C:Addr}(F:bw K "go_without_fire" "go_without_fire" fB f fd)(cM:tJ K C)(pq:bp P w K mg base 4 "exchange" ["moment","lift","riders"] (DN K C))(aR:bp P w K mg base 1 "with_changes" ["cabin","place","light","door"] (dq K))(jE:bp P w K mg base 6 "go_by_rule" ["moment","rule","lift","riders"] (DQ P w K mg base C)):aD P w K mg base br 7 f fd ["moment","rule","lift"] (DL P w K mg base C):=by
 rwa[F.ok eS ↑4 ↑1]
 ·obtain ⟨m,ru,i,h,hs,l,H0,M,c,wf,rfl,_⟩:=h;rfl
 obtain ⟨m,ru,i,h,hs,l,H0,M,c,wf,rfl,hH,hl,hru,⟨dx,lc,lw,ll,xs,ys,zs,a⟩,hc,ok,i1,hws,wl,gl,q⟩:=h;obtain ⟨t,hx,hi,ht,hlt⟩:=a.atC hc;obtain ⟨b,bs,et,eb,db⟩:=id ht;have hT:=aP.of (K:=K) et;have cl:=cM.i.cl;have yl:ys.length=M.ws.length:=aL a.dw;erw[⟨_,(ag (aA (i:=3) eS.nd rfl ↑7 (ao ↑3 ↑11 (wv 2) ↑5)) (ag (jM (i:=4) rfl eS.nd rfl ↑7 (aK (N':=["rider","lift"]) (pk:=[none,some 2]) (by kernel_rfl)) (bF (K:=K) rfl ↑11) (λC s H ex=>(az (i:=0) (show List.Nodup (["rider","lift"]:List Str) by decide+kernel) rfl ↑7)) (λC s H ex=>(eI (ax ↑10 ↑16 (wv 1) (au _)))) (λC s H ex=>(wv 0))) (af (aI (ax iP (ao ↑3 (wv 3) aa ↑5) aa (au _)) (af (aO (aj pq hr ↑2 rfl (ae (wv 0) (ae (wv 2) (ae (wv 4) ac)))))) (af (aI (ax ↑10 (aH iG (ao ↑3 (wv 3) aa ↑5) aa) aa (au _)) (af (ie (aj aR hr ↑2 rfl (ae (wv 3) (ae (aH ↑25 (ao ↑3 (wv 3) aa ↑5) (ao ↑3 (wv 3) aa ↑5)) (ae (ao ↑3 (wv 3) aa ↑5) (ae aa ac))))) (ig ↑11 (wv 2) lX))) (af (aO (aj jE hr ↑2 rfl (ae (wv 0) (ae (wv 1) (ae (wv 2) (ae (wv 4) ac))))))))))))),?_⟩];erw[bQ a cl cM.cabins (v:= .ref lc) rfl ?_];erw[cg (aS.of a.ec) hi ?_];erw[bQ a cl cM.waiting (v:= .ref lw) rfl ?_];rwa[dA (aS.of a.ew) ?_];rwa[b6 (xs:=ys) (λj us HX=>av H HX/\us.length<=j/\aN K HX us (((M.ws.take j).filter λr=>decide (r.lift=i)).map bq.d)) (bx ↑6) (λj us HX h=>h.2.1) ⟨.refl _,Nat.le_refl _,.nil⟩ (λj us HX _ h=>h.1.seq (aS.of a.ew)) (λj y us HX hy hP=> ?_) (λus HX hP rl n1=> ?_)]
 ·obtain ⟨sx,hul,hd⟩:=hP;obtain ⟨r,hr',dr'⟩:=bJ (f:=bq.d) a.dw hy;obtain ⟨ra,rfl,hT'⟩:=eG (cm.same dr' sx);have nx:=jY (λr:bq=>decide (r.lift=i)) hr';erw[⟨cE,?_⟩];rwa[ar hT' rfl ?_];show if decide (r.lift=i)=true then _ else _
  cases hb:decide (r.lift=i) with
  |true=>
   rw [if_pos rfl];ext;rwa[⟨sx,by rw [List.length_append];show _+1<=_;omega,?_⟩];rw [nx,hb,if_pos rfl,List.map_append];exact Paired.app hd (.cons (cm.same dr' sx) .nil)
  |false=>
   rw [if_neg ↑2];rwa[⟨sx,by omega,?_⟩];rw [nx,hb,if_neg ↑2,List.append_nil];exact hd
 obtain ⟨sx,hul,hd⟩:=hP;rw [yl,List.take_of_length_le ↑13] at hd;have s2':av HX (upd HX rl (.lst us)):= .upd n1;have e2:upd HX rl (.lst us) rl=some (.lst us):=ak;have d2:=aN.same hd s2';generalize hH2:upd HX rl (.lst us)=H2 at s2' e2 d2 ⊢;have s2:=sx.trans s2';have a2:=a.same s2;obtain ⟨aw,sw⟩:=a2.wide
 have nk:∀ {p:Addr} {o:HO},H p=some o->rl≠p:=λ{p o} e z=>by rw [<-z] at e;rw [sx _ _ e] at n1;cases n1
 have erC:gG H2 m lc lw ll rl=some (.lst us):=fZ e2 (nk a.em) (nk a.ec) (nk a.ew) (nk a.el)
 have dC:aN K (gG H2 m lc lw ll) us ((eV i M).map bq.d):=by
  rwa[aU.dens (λb o z1 z2 e=> ?_) d2 (ib _)];exact fZ e (λz=>by rw [z,a2.em] at e;cases e;exact z2 _ _ _ rfl) (λz=>by rw [z,a2.ec] at e;cases e;exact z1 _ rfl) (λz=>by rw [z,a2.ew] at e;cases e;exact z1 _ rfl) (λz=>by rw [z,a2.el] at e;cases e;exact z1 _ rfl)
 generalize hHc:gG H2 m lc lw ll=Hc at aw sw erC dC;have hM2:ff K C Hc H2 m h M:=⟨dx,lc,lw,ll,xs,ys,zs,aw⟩;have hrs:∀r∈eV i M,iA hs.fl r:=λr hr=>hws r ((List.mem_filter.mp hr).1);have rl64:(eV i M).length<=64:=Nat.le_trans (List.length_filter_le _ _) wl;ext;erw[ar (s2.seqT hT) rfl ?_];rwa[oR (λz=> ?_) (λz=> ?_)]
 ·have z:0<c.dr:=z;ext;exact DN.mk _ _ _ _ _ _ _ _ _ _ _ rfl (hH.same sw) hl hM2 hc i1 ok.len gl ↑6 ⟨c.pl / 2,by have:=ok.ev z;omega⟩ erC dC ⟨rl64,λr hr=>(hrs r hr).ne⟩ λH' st hM'=>q _ H' (Rf z) (s2.st.trans st) (hM'.onto sw)
 have z: ¬0<c.dr:=z;ext;erw[ar (s2.seqT hT) rfl ?_];erw[⟨by decide,?_⟩];rwa[oR (λz2=> ?_) (λz2=> ?_)]
 ·have z2:c.pl% 2=1:=z2;ext;erw[ar (s2.seqT hT) rfl ?_];erw[ar (s2.seqT hT) rfl ?_];erw[ar (s2.seqT hT) rfl ?_];rwa[dq.mk _ _ _ _ _ _ _ _ _ rfl (ht.same s2) λr H3 s3 hr'=> ?_];have a3:=a2.same s3;ext;erw[bQ a3 cl cM.cabins (v:= .ref lc) rfl ?_];rwa[mw (j:=i.toNat) a3.ec (pM hc.1 hlt) ?_];exact q _ _ (Re z z2) ((s2.trans s3).st.trans (.updL a3.ec)) ⟨dx,lc,lw,ll,_,ys,zs,a3.setC (i:=i.toNat) (c:=⟨c.pl+c.li,c.li,0,c.mr,c.ps⟩) ⟨r,rfl,hr'⟩⟩
 ·have z2: ¬c.pl% 2=1:=z2;ext;exact DQ.mk _ _ _ _ _ _ _ _ _ _ _ _ _ rfl (hH.same sw) hl (hru.same sw) hM2 hc ok ↑6 erC dC hrs rl64 λM' H' hby st hM'=>q M' H' (Rc z z2 hby) (s2.st.trans st) (hM'.onto sw)
def JW (hs:Hs)(wf:Wf)(M:MS)(i:Int)(c:Cb)(l:Lf)(M':MS):Prop:=(c.mr.toNat.testBit 0=true/\M'=M)\/(c.mr.toNat.testBit 0=false/\M.fire=true/\M'=m5 M i c l)\/(c.mr.toNat.testBit 0=false/\M.fire=false/\Bn hs wf M i c l M')
inductive Hi (P:Program)(w:World)(K:Fg)(mg:Str->Option Value)(base:Heap)(C:Addr)(vs:List V)(H:Hp)(Q:VK)(_e:XK):Prop
 |mk (m ru i h hs l H0 M c wf:_) (_:vs=[.ref m,.ref ru,.int i]) (_:nG K H0 h hs) (_:hs.ls[i.toNat]? =some l) (_:CY P w K mg base H0 ru wf) (_:ff K C H0 H m h M) (_:atC M i c) (_:lR hs.fl c) (_:i<1000) (_:(∀r∈M.ws,iA hs.fl r)) (_:M.ws.length<=64) (_:M.log.length<=2000) (_:∀M' H',JW hs wf M i c l M'->aU H H'->ff K C H0 H' m h M'->Q .non H')
theorem Od {C:Addr}{t1:Tok}(F:bw K "go" "go" Qg f fd)(cM:tJ K C)(lD:mg "STUCK"=some (.int 0 t1))(ft:bp P w K mg base 2 "has" ["mask","k"] d3)(jD:bp P w K mg base 4 "go_in_fire" ["moment","lift"] (DM K C))(ez:bp P w K mg base 7 "go_without_fire" ["moment","rule","lift"] (DL P w K mg base C)):aD P w K mg base br 8 f fd ["moment","rule","lift"] (Hi P w K mg base C):=by
 have we:aQ (.int 0) (.int 0 t1):=⟨_,rfl⟩;rwa[F.ok Qf ↑4 ↑1]
 ·obtain ⟨m,ru,i,h,hs,l,H0,M,c,wf,rfl,_⟩:=h;rfl
 obtain ⟨m,ru,i,h,hs,l,H0,M,c,wf,rfl,hH,hl,hru,hM,hc,ok,i1,hws,wl,gl,q⟩:=h;have hM0:=hM;obtain ⟨dx,lc,lw,ll,xs,ys,zs,a⟩:=hM;obtain ⟨t,hx,hi,ht,hlt⟩:=a.atC hc;obtain ⟨b,bs,et,eb,db⟩:=id ht;have cl:=cM.i.cl;obtain ⟨mn,hmn⟩:=Int.eq_ofNat_of_zero_le ok.m0;erw[⟨_,(ag (aI (bZ (K:=K) rfl (aj ft hr ↑2 rfl (ae (ao ↑3 (ao ↑3 ↑11 (wv 2) ↑5) aa ↑5) (ae (bh rfl lD we) ac)))) (af HF) aC) (af (aI (bZ (K:=K) rfl ↑11) (af (aO (aj jD hr ↑2 rfl (ae (wv 0) (ae (wv 2) ac))))) (af (aO (aj ez hr ↑2 rfl (ae (wv 0) (ae (wv 1) (ae (wv 2) ac))))))))),?_⟩];erw[bQ a cl cM.cabins (v:= .ref lc) rfl ?_];erw[cg (aS.of a.ec) hi ?_];rwa[ar (aP.of et) rfl ?_];rw [hmn]
 have em:c.mr.toNat=mn:=by rw [hmn];rfl
 ext;erw[d3.mk _ 0 rfl ↑2 ?_];by_cases hb:mn.testBit 0=true
 ·erw[cO hb ?_];exact q M H (.inl ⟨by rw [em];exact hb,rfl⟩) (.refl _) hM0
 ·have hb':mn.testBit 0=false:=by simpa using hb
  erw[bP hb' ?_];erw[bQ a cl cM.fire (v:= .bl M.fire) rfl ?_]
  cases hf:M.fire with
  |true=>
   erw[cO rfl ?_];exact DM.mk _ _ _ _ _ _ _ _ rfl hH hl hM0 hc i1 ok.len ↑6 λH' st hM'=>q _ H' (.inr (.inl ⟨by rw [em];exact hb',hf,rfl⟩)) st hM'
  |false=>
   erw[bP rfl ?_];exact DL.mk _ _ _ _ _ _ _ _ _ _ rfl hH hl hru hM0 hc ok i1 hws wl gl λM' H' hg st hM'=>q M' H' (.inr (.inr ⟨by rw [em];exact hb',hf,hg⟩)) st hM'
inductive nu (K:Fg)(H:Hp)(st:Addr)(cs:List Cb)(ws:List bq)(last:Int)(fire:Bool):Prop
 |mk (tc tw xs ys:_) (_:aP K H st [.ref tc,.ref tw,.int last,.bl fire]) (_:aP K H tc xs) (_:aP K H tw ys) (_:Paired (fh K H) xs cs) (_:aN K H ys (ws.map bq.d))
theorem nu.keep {H H':Hp}{st:Addr}{cs:List Cb}{ws:List bq}{last:Int}{fire:Bool}(h:nu K H st cs ws last fire)(s:aU H H'):nu K H' st cs ws last fire:=by
 obtain ⟨tc,tw,xs,ys,h1,h2,h3,h4,h5⟩:=h;exact ⟨tc,tw,xs,ys,s.sqT h1,s.sqT h2,s.sqT h3,Paired.imp' (λx c z=>fh.keep z s) h4,s.dens h5 (ib _)⟩
inductive DJ (K:Fg)(vs:List V)(H:Hp)(Q:VK)(_e:XK):Prop
 |mk (a h st C dx tc tw xs ys last fire:_) (_:vs=[.ref a,.ref h,.ref st]) (_:H a=some (.ins C dx [])) (_:tJ K C) (_:aP K H st [.ref tc,.ref tw,.int last,.bl fire]) (_:aP K H tc xs) (_:aP K H tw ys) (_:∀lc lw ll H',fM a H H'->H lc=none->H lw=none->H ll=none->lc≠lw->lc≠ll->lw≠ll->H' a=some (.ins C dx (oK h lc lw last fire 0 ll))->H' lc=some (.lst xs)->H' lw=some (.lst ys)->H' ll=some (.lst [])->Q .non H')
theorem gw {a:Addr}{H H':Hp}{C dx:Addr}{fs:List (Str×V)}(s:fM a H H')(e:H a=some (.ins C dx fs)){p:Addr}{xs:List V}(h:aP K H p xs):aP K H' p xs:=by
 rcases h with (h|⟨u,h⟩)|h
 ·exact .inl (.inl (s _ _ (λz=>by rw [z,e] at h;cases h) h))
 ·exact .inl (.inr ⟨u,s _ _ (λz=>by rw [z,e] at h;cases h) h⟩)
 ·exact .inr h
theorem EK (F:bw K "__init__" "Moment.__init__" i9 f fd)(fE:mg "list"=none):aD P w K mg base br 1 f fd ["self","house","state"] (DJ K):=by
 rwa[F.ok vL ↑4 ↑1]
 ·obtain ⟨a,h,st,C,dx,tc,tw,xs,ys,last,fire,rfl,_⟩:=h;rfl
 obtain ⟨a,h,st,C,dx,tc,tw,xs,ys,last,fire,rfl,ea,cM,h1,h2,h3,q⟩:=h;have cl:=cM.i.cl;erw[⟨_,(ag (cx (K:=K) rfl (wv 0) (wv 1)) (ag (cx (K:=K) rfl (wv 0) (bU (vj (K:=K) rfl) rfl fE boot_list (ae ↑20 ac))) (ag (cx (K:=K) rfl (wv 0) (bU (vj (K:=K) rfl) rfl fE boot_list (ae ↑20 ac))) (ag (cx (K:=K) rfl (wv 0) ↑20) (ag (cx (K:=K) rfl (wv 0) ↑20) (ag (cx (K:=K) rfl (wv 0) aa) (af (cx (K:=K) rfl (wv 0) (dF ac))))))))),?_⟩];rwa[cz ea cl cM.house ↑2 ?_];generalize hH1:upd H a _=H1
 have p1:fM a H H1:=by rw [<-hH1];exact λb o n e=>by rw [ap n];exact e
 have ea1:H1 a=some (.ins C dx [(Str.ofString "house",.ref h)]):=by rw [<-hH1];exact ak
 clear hH1;ext;erw[ar (gw p1 ea h1) rfl ?_];rwa[qg (.inr (gw p1 ea h2)) λlc H2 s2 n2 e2=> ?_];have ea2:=s2 _ _ ea1;ext;rwa[cz ea2 cl cM.cabins (by show 1<1000;decide) ?_];generalize hH3:upd H2 a _=H3
 have p3:fM a H H3:=by rw [<-hH3];exact λb o n e=>by rw [ap n];exact s2 _ _ (p1 b o n e)
 have ea3:H3 a=some (.ins C dx [(Str.ofString "house",.ref h),(Str.ofString "cabins",.ref lc)]):=by rw [<-hH3];exact ak
 have nlc:lc≠a:=λz=>by rw [z,ea1] at n2;cases n2
 have e3:H3 lc=some (.lst xs):=by rw [<-hH3,ap nlc];exact e2
 have lc0:H lc=none:=by
  cases y:H lc with
  |none=>rfl
  |some o=>rw [p1 _ _ nlc y] at n2;cases n2
 clear hH3;ext;erw[ar (gw p3 ea h1) rfl ?_];rwa[qg (.inr (gw p3 ea h3)) λlw H4 s4 n4 e4=> ?_];have ea4:=s4 _ _ ea3;ext;rwa[cz ea4 cl cM.waiting (by show 2<1000;decide) ?_];generalize hH5:upd H4 a _=H5
 have p5:fM a H H5:=by rw [<-hH5];exact λb o n e=>by rw [ap n];exact s4 _ _ (p3 b o n e)
 have ea5:H5 a=some (.ins C dx [(Str.ofString "house",.ref h),(Str.ofString "cabins",.ref lc),(Str.ofString "waiting",.ref lw)]):=by rw [<-hH5];exact ak
 have nlw:lw≠a:=λz=>by rw [z,ea3] at n4;cases n4
 have ncw:lc≠lw:=λz=>by rw [<-z,e3] at n4;cases n4
 have e5:H5 lw=some (.lst ys):=by rw [<-hH5,ap nlw];exact e4
 have e5c:H5 lc=some (.lst xs):=by rw [<-hH5,ap nlc];exact s4 _ _ e3
 have lw0:H lw=none:=by
  cases y:H lw with
  |none=>rfl
  |some o=>rw [p3 _ _ nlw y] at n4;cases n4
 clear hH5;ext;erw[ar (gw p5 ea h1) rfl ?_];rwa[cz ea5 cl cM.last (by show 3<1000;decide) ?_];generalize hH6:upd H5 a _=H6
 have p6:fM a H H6:=by rw [<-hH6];exact λb o n e=>by rw [ap n];exact p5 b o n e
 have ea6:H6 a=some (.ins C dx [(Str.ofString "house",.ref h),(Str.ofString "cabins",.ref lc),(Str.ofString "waiting",.ref lw),(Str.ofString "last",.int last)]):=by rw [<-hH6];exact ak
 have e6:H6 lw=some (.lst ys):=by rw [<-hH6,ap nlw];exact e5
 have e6c:H6 lc=some (.lst xs):=by rw [<-hH6,ap nlc];exact e5c
 clear hH6;ext;erw[ar (gw p6 ea h1) rfl ?_];rwa[cz ea6 cl cM.fire (by show 4<1000;decide) ?_];generalize hH7:upd H6 a _=H7
 have p7:fM a H H7:=by rw [<-hH7];exact λb o n e=>by rw [ap n];exact p6 b o n e
 have ea7:H7 a=some (.ins C dx [(Str.ofString "house",.ref h),(Str.ofString "cabins",.ref lc),(Str.ofString "waiting",.ref lw),(Str.ofString "last",.int last),(Str.ofString "fire",.bl fire)]):=by rw [<-hH7];exact ak
 have e7:H7 lw=some (.lst ys):=by rw [<-hH7,ap nlw];exact e6
 have e7c:H7 lc=some (.lst xs):=by rw [<-hH7,ap nlc];exact e6c
 clear hH7;ext;rwa[cz ea7 cl cM.blocked (by show 5<1000;decide) ?_];generalize hH8:upd H7 a _=H8
 have p8:fM a H H8:=by rw [<-hH8];exact λb o n e=>by rw [ap n];exact p7 b o n e
 have ea8:H8 a=some (.ins C dx [(Str.ofString "house",.ref h),(Str.ofString "cabins",.ref lc),(Str.ofString "waiting",.ref lw),(Str.ofString "last",.int last),(Str.ofString "fire",.bl fire),(Str.ofString "blocked",.int 0)]):=by rw [<-hH8];exact ak
 have e8:H8 lw=some (.lst ys):=by rw [<-hH8,ap nlw];exact e7
 have e8c:H8 lc=some (.lst xs):=by rw [<-hH8,ap nlc];exact e7c
 clear hH8;ext;rwa[ly (bx (by show 0<=1000000;decide)) λll H9 s9 n9 e9=> ?_];have ea9:=s9 _ _ ea8;ext;rwa[cz ea9 cl cM.log (by show 6<1000;decide) ?_]
 have nll:ll≠a:=λz=>by rw [z,ea8] at n9;cases n9
 have ncl:lc≠ll:=λz=>by rw [<-z,e8c] at n9;cases n9
 have nwl:lw≠ll:=λz=>by rw [<-z,e8] at n9;cases n9
 rwa[q lc lw ll _ (λb o n e=> ?_) lc0 lw0 ?_ ncw ncl nwl ak ?_ ?_ ?_]
 ·rw [ap n];exact s9 _ _ (p8 b o n e)
 ·cases y:H ll with
  |none=>rfl
  |some o=>rw [p8 _ _ nll y] at n9;cases n9
 ·rw [ap nlc];exact s9 _ _ e8c
 ·rw [ap nlw];exact s9 _ _ e8
 ·rw [ap nll];exact e9
unseal gz in
theorem Qp {C:Addr}{E:XK}{H:Hp}{h st:Addr}{cs:List Cb}{ws:List bq}{last:Int}{fire:Bool}{Q:VK}(cM:tJ K C)(hs:nu K H st cs ws last fire)(g:∀m H',ff K C H H' m h ⟨cs,ws,last,fire,0,[]⟩->Q (.ref m) H'):gz C (DJ K) E [.ref h,.ref st] H Q:=by
 show ∀a dx,H a=none->H dx=none->dx≠a->DJ K (.ref a::([.ref h,.ref st]++[])) (upd (upd H dx (.own a)) a (.ins C dx [])) (λv H2=>v= .non/\Q (.ref a) H2) E;intro a dx h1 h2 h3;have sm:av H (upd (upd H dx (.own a)) a (.ins C dx [])):=eg h1 h2;obtain ⟨tc,tw,xs,ys,i1,i2,i3,i4,i5⟩:=hs;rwa[⟨a,h,st,C,dx,tc,tw,xs,ys,last,fire,rfl,ak,cM,sm.seqT i1,sm.seqT i2,sm.seqT i3,λlc lw ll H' sp nc nw nl cw c_l wl em ec ew el=>⟨rfl,g a H' ?_⟩⟩];have sH:av H H':=λb o e=>sp b o (λz=>by rw [z,h1] at e;cases e) (sm b o e);exact ⟨dx,lc,lw,ll,xs,ys,[],sH,h1,none_of sm nc,none_of sm nw,none_of sm nl,cw,c_l,wl,em,ec,ew,el,Paired.imp' (λx c z=>fh.keep z sH.st) i4,aN.same i5 sH,.nil,rfl⟩
inductive AJ (K:Fg)(C:Addr)(vs:List V)(H:Hp)(Q:VK)(_e:XK):Prop
 |mk (m h H0 M:_) (_:vs=[.ref m]) (_:ff K C H0 H m h M) (_:∀st H',av H H'->nu K H' st M.cs M.ws M.last M.fire->Q (.ref st) H')
theorem Lu {C:Addr}(F:bw K "state_of" "state_of" qS f fd)(cM:tJ K C)(b2:mg "tuple"=none):aD P w K mg base br 1 f fd ["moment"] (AJ K C):=by
 rwa[F.ok BF ↑4 ↑1]
 ·obtain ⟨m,h,H0,M,rfl,_⟩:=h;rfl
 obtain ⟨m,h,H0,M,rfl,⟨dx,lc,lw,ll,xs,ys,zs,a⟩,q⟩:=h;have cl:=cM.i.cl;erw[⟨_,(af (aq (bt (ae (bU (gR (K:=K) rfl) rfl b2 boot_tuple (ae ↑11 ac)) (ae (bU (gR (K:=K) rfl) rfl b2 boot_tuple (ae ↑11 ac)) (ae ↑11 (ae ↑11 ac))))))),?_⟩];erw[bQ a cl cM.cabins (v:= .ref lc) rfl ?_];rwa[kK (aS.of a.ec) λtc H1 s1 n1 e1=> ?_];have a1:=a.same s1;ext;erw[bQ a1 cl cM.waiting (v:= .ref lw) rfl ?_];rwa[kK (aS.of a1.ew) λtw H2 s2 n2 e2=> ?_];have a2:=a1.same s2;ext;erw[bQ a2 cl cM.last (v:= .int M.last) rfl ?_];erw[bQ a2 cl cM.fire (v:= .bl M.fire) rfl ?_];rwa[cf (bx (by show 4<=1000000;decide)) λst H3 s3 n3 e3=> ?_];have a3:=a2.same s3;exact q st H3 (s1.trans (s2.trans s3)) ⟨tc,tw,xs,ys,aP.of e3,aP.of (s3 _ _ (s2 _ _ e1)),aP.of (s3 _ _ e2),a3.dc,a3.dw⟩
structure pY (hs:Hs)(n:Nat)(M:MS):Prop where
 len:M.cs.length=hs.ls.length
 cs:∀c∈M.cs,lR hs.fl c
 ws:∀r∈M.ws,iA hs.fl r
 sum:M.log.length+M.ws.length<=n
theorem wE {α:Type}{l:List α}{i:Nat}{x y:α}(h:y∈l.set i x):y∈l\/y=x:=List.mem_or_eq_of_mem_set h
theorem lR.mk' {fl:Int}{c:Cb}(o:lR fl c){k:Int}(h:0<=k):lR fl {c with mr:=k}:=⟨o.p0,o.p1,o.l0,o.l1,h,o.ev,o.len,o.gs⟩
theorem Fw {M:MS}{i:Int}(h:i.toNat<M.cs.length):oU M i∈M.cs:=by
 unfold oU;rw [List.getD_eq_getElem?_getD,List.getElem?_eq_getElem h];exact List.getElem_mem h
theorem pY.setMk {hs:Hs}{n:Nat}{M:MS}(o:pY hs n M){i:Int}{k:Int}(hi:i.toNat<M.cs.length)(h:0<=k){ws:List bq}(hw:∀r∈ws,iA hs.fl r)(hl:ws.length<=M.ws.length):pY hs n {M with cs:=M.cs.set i.toNat {oU M i with mr:=k},ws:=ws}:=by
 rwa[⟨by rw [List.length_set];exact o.len,λc hc=> ?_,hw,by have:=o.sum;show M.log.length+ws.length<=n;omega⟩]
 rcases wE hc with z|z
 ·exact o.cs c z
 ·rw [z];exact (o.cs _ (Fw hi)).mk' h
theorem yz {hs:Hs}{i:Int}{ws:List bq}(h:∀r∈ws,iA hs.fl r):∀r∈kj i ws,iA hs.fl r:=λr hr=>by
 obtain ⟨s,hs',rfl⟩:=List.mem_map.mp hr;have o:=h s hs';split
 ·exact ⟨o.s0,o.s1,o.g0,o.g1,o.ne⟩
 ·exact o
theorem pY.deed {hs:Hs}{n:Nat}{M:MS}(o:pY hs n M){d:Dd}(hd:d.ok)(hf:d.fit hs.fl hs.ls.length):pY hs (n+1) (d6 hs.lo M d):=by
 have up:∀ {M':MS},pY hs n M'->pY hs (n+1) M':=λz=>⟨z.len,z.cs,z.ws,by have:=z.sum;omega⟩
 cases d with
 |come t s g k=>
  obtain ⟨s0,s1,g0,g1,ne⟩:=hf;show pY hs (n+1) (jx hs.lo M t s g k);unfold jx;have sm:=o.sum;split
  ·exact ⟨o.len,o.cs,o.ws,by show (M.log++_).length+M.ws.length<=_;rw [List.length_append];simp;omega⟩
  split
  ·exact ⟨o.len,o.cs,o.ws,by show (M.log++_).length+M.ws.length<=_;rw [List.length_append];simp;omega⟩
  ·rwa[⟨o.len,o.cs,λr hr=> ?_,by show M.log.length+(M.ws++_).length<=_;rw [List.length_append];simp;omega⟩]
   rcases List.mem_append.mp hr with z|z
   ·exact o.ws r z
   ·rw [List.mem_singleton.mp z];exact ⟨s0,s1,g0,g1,ne⟩
 |lf x i=>
  obtain ⟨i0,i1⟩:=hf
  have hi:i.toNat<M.cs.length:=by rw [o.len];omega
  have fr:(kj i M.ws).length<=M.ws.length:=by unfold kj;rw [List.length_map];exact Nat.le_refl _
  rcases hd with rfl|rfl|rfl|rfl|rfl
  ·rw [sr];exact up ⟨o.len,o.cs,o.ws,o.sum⟩
  ·rw [sk];exact up (o.setMk hi ↑6 (yz o.ws) fr)
  ·rw [uX];exact up (o.setMk hi ↑6 o.ws ↑13)
  ·rw [sq];exact up (o.setMk hi ↑6 (yz o.ws) fr)
  ·rw [u4];exact up (o.setMk hi ↑6 o.ws ↑13)
 |sg x=>
  rcases hd with rfl|rfl
  ·rw [uY];have sm:=o.sum;exact up ⟨o.len,o.cs,λr hr=>(by have hr:r∈([]:List bq):=hr;cases hr),by show (M.log++_).length+0<=_;rw [List.length_append,List.length_map];omega⟩
  ·rw [uZ];unfold yG;split
   ·exact up ⟨o.len,o.cs,o.ws,o.sum⟩
   ·exact up o
theorem pY.dealt {hs:Hs}{n:Nat}{M:MS}(o:pY hs n M){dl:y0}{p:Nat}{r:bq}(hr:iA hs.fl r):pY hs (n+1) (jw dl M p r):=by
 unfold jw;have sm:=o.sum;split
 ·exact ⟨o.len,o.cs,o.ws,by show M.log.length+M.ws.length<=_;omega⟩
 ·rwa[⟨o.len,o.cs,λs hs'=> ?_,by show (M.log++_).length+(M.ws.set _ _).length<=_;rw [List.length_append,List.length_set];simp;omega⟩]
  rcases wE hs' with z|z
  ·exact o.ws s z
  ·rw [z];exact ⟨hr.s0,hr.s1,hr.g0,hr.g1,hr.ne⟩
theorem pY.deals {hs:Hs}{n:Nat}{M:MS}(o:pY hs n M){dl:y0}{W:List bq}(hW:∀r∈W,iA hs.fl r):∀i,pY hs (n+i) (bD dl W i M)
 |0=>o
 |i+1=>by
  have h:=pY.deals (dl:=dl) o hW i;unfold bD;split
  ·rename_i r hr;split
   ·exact h.dealt (hW r (List.mem_of_getElem? hr))
   ·exact ⟨h.len,h.cs,h.ws,by have:=h.sum;omega⟩
  ·exact ⟨h.len,h.cs,h.ws,by have:=h.sum;omega⟩
def GH (hs:Hs)(wf:Wf):Nat->MS->MS->Prop
 |0,M,M'=>M'=M
 |i+1,M,M''=>∃M' c l,GH hs wf i M M'/\atC M' (i:Int) c/\hs.ls[i]? =some l/\JW hs wf M' (i:Int) c l M''
structure kA (hs:Hs)(M0:MS)(i:Nat)(M:MS):Prop where
 len:M.cs.length=M0.cs.length
 cs:∀j,i<=j->M.cs[j]? =M0.cs[j]?
 ws:∀r∈M.ws,r∈M0.ws
 wl:M.ws.length<=M0.ws.length
 log:M.log.length<=M0.log.length+128*i
theorem kA.set {hs:Hs}{M0 M:MS}{i:Nat}(o:kA hs M0 i M){c:Cb}{lg:List D}{ws:List bq}(hw:∀r∈ws,r∈M.ws)(hl:ws.length<=M.ws.length)(hg:lg.length<=M.log.length+128):kA hs M0 (i+1) {M with cs:=M.cs.set i c,ws:=ws,log:=lg}:=by
 rwa[⟨by rw [List.length_set];exact o.len,λj hj=> ?_,λr hr=>o.ws r (hw r hr),Nat.le_trans hl o.wl,by have:=o.log;show lg.length<=_;omega⟩];rw [List.getElem?_set_ne ↑6];exact o.cs j ↑6
theorem kA.go {hs:Hs}{wf:Wf}{M0 M M':MS}{i:Nat}{c:Cb}{l:Lf}(o:kA hs M0 i M)(p64:c.ps.length<=64)(w64:M.ws.length<=64)(h:JW hs wf M (i:Int) c l M'):kA hs M0 (i+1) M':=by
 have stay:kA hs M0 (i+1) M:=⟨o.len,λj hj=>o.cs j ↑6,o.ws,o.wl,by have:=o.log;omega⟩
 have e:((i:Int)).toNat=i:=by omega
 have put:∀c',kA hs M0 (i+1) (fi M (i:Int) c'):=λc'=>by
  have:=o.set (c:=c') (lg:=M.log) (ws:=M.ws) (λr h=>h) ↑13 ↑6;unfold fi;rw [e];exact this
 rcases h with ⟨_,rfl⟩|⟨_,_,rfl⟩|⟨_,_,h⟩
 ·exact stay
 ·unfold m5;split
  ·unfold AV fi wH;rw [e];rwa[o.set (λr h=>h) ↑13 ?_];rw [List.length_append,List.length_map,List.length_map];have:=mT c;omega
  split
  ·exact put _
  ·exact put _
 ·unfold Bn at h;split at h
  ·rw [h];unfold uS fi wH;rw [e];rwa[o.set (λr h=>(List.mem_filter.mp h).1) (List.length_filter_le _ _) ?_];rw [List.length_append,List.length_append,List.length_map,List.length_map];have h1:=yi (pl:=c.pl) (ps:=c.ps);have h2:=yD (hs:=hs) (c:=c) (l:=l) (rs:=eV (i:Int) M);have h3:(eV (i:Int) M).length<=M.ws.length:=List.length_filter_le _ _;omega
  split at h
  ·rw [h];exact put _
  ·obtain ⟨f0,u,d,_,_,_,rfl⟩:=h;exact put _
inductive Dw where
 |good
 |floor (i:Int)
 |lift (i:Int)
 |ride
 |twice (t:Int)
def km (fl:Int)(n:Nat):Dd->Dw
 | .come _ s g _=>if s<0\/fl<=s then .floor s else if g<0\/fl<=g then .floor g else if s=g then .ride else .good
 | .lf _ i=>if i<0\/(n:Int)<=i then .lift i else .good
 | .sg _=> .good
def cc (fl:Int)(n:Nat)(ts:List Int):List Dd->Dw
 |[]=> .good
 |d::ds=>match km fl n d with
  | .good=>match d with
    | .come t _ _ _=>if t∈ts then .twice t else cc fl n (ts++[t]) ds
    |_=>cc fl n ts ds
  |u=>u
theorem IY {fl:Int}{n:Nat}{d:Dd}(h:km fl n d= .good):d.fit fl n:=by
 cases d with
 |come t s g k=>
  unfold km at h;dsimp only at h;split at h
  ·cases h
  split at h
  ·cases h
  split at h
  ·cases h
  ·rename_i h1 h2 h3;exact ⟨by omega,by omega,by omega,by omega,h3⟩
 |lf x i=>
  unfold km at h;dsimp only at h;split at h
  ·cases h
  ·rename_i h1;exact ⟨by omega,by omega⟩
 |sg x=>trivial
theorem Bk {fl:Int}{n:Nat}:∀ {ds:List Dd} {ts:List Int},cc fl n ts ds= .good->∀d∈ds,d.fit fl n
 |[],_,_,d,hd=>by cases hd
 |e::ds,ts,h,d,hd=>by
  unfold cc at h;split at h
  ·rename_i hg
   have cK:∃ts',cc fl n ts' ds= .good:=by
    split at h
    ·split at h
     ·cases h
     ·exact ⟨_,h⟩
    ·exact ⟨_,h⟩
   obtain ⟨ts',h'⟩:=cK
   rcases List.mem_cons.mp hd with rfl|hd
   ·exact IY hg
   ·exact Bk h' d hd
  ·rename_i hu;exact absurd h hu
def Gn (kF kL kR kT:Addr)(H:Hp)(Q:VK)(E:XK):Dw->Prop
 | .good=>∀H',av H H'->Q .non H'
 | .floor i=>∀d H',av H H'->H' d=some (.xd [(Str.ofString "floor",.int i)])->E (.ref kF) (some d) H'
 | .lift i=>∀d H',av H H'->H' d=some (.xd [(Str.ofString "lift",.int i)])->E (.ref kL) (some d) H'
 | .ride=>∀H',av H H'->E (.ref kR) none H'
 | .twice t=>∀d H',av H H'->H' d=some (.xd [(Str.ofString "tag",.int t)])->E (.ref kT) (some d) H'
def be (cs:List Cb)(ws:List bq):List Int:=ws.map (·.tag)++cs.flatMap λc=>c.ps.map (·.1)
def vd (K:Fg)(H:Hp)(p:Addr)(ds:List Dd):Prop:=∃xs,aS K H p xs/\Paired (λx d=>∃a,x=V.ref a/\xp H a d) xs ds
inductive AK (K:Fg)(kF kL kR kT:Addr)(vs:List V)(H:Hp)(Q:VK)(E:XK):Prop
 |mk (h st dl hs cs ws last fire ds:_) (_:vs=[.ref h,.ref st,.ref dl]) (_:nG K H h hs) (_:nu K H st cs ws last fire) (_:vd K H dl ds) (_:ws.length<=64) (_:(∀c∈cs,c.ps.length<=64)) (_:cs.length<=10) (_:ds.length<=100) (_:Gn kF kL kR kT H Q E (cc hs.fl hs.ls.length (be cs ws) ds))
structure Jp (K:Fg)(C:Addr):Prop where
 i:gN K C
 house:aZ K C "house"
 rule:aZ K C "rule"
 dealer:aZ K C "dealer"
abbrev oY (h ru df:Addr):List (Str×V):=[(Str.ofString "house",.ref h),(Str.ofString "rule",.ref ru),(Str.ofString "dealer",.ref df)]
def bb (lo:Nat)(M:MS)(ds:List Dd):MS:=ds.foldl (d6 lo) M
def rM (dl:y0)(M:MS):MS:=if M.fire=true then M else bD dl M.ws M.ws.length M
inductive ze (P:Program)(w:World)(K:Fg)(mg:Str->Option Value)(base:Heap)(kF kL kR kT:Addr)(GG:Hp->Prop)(pre:List Cb->List bq->bq->Int->Prop)(dl:y0)(vs:List V)(H:Hp)(Q:VK)(E:XK):Prop
 |mk (a st dp C dx h ru df hs wf cs ws last fire ds:_) (_:vs=[.ref a,.ref st,.ref dp]) (_:H a=some (.ins C dx (oY h ru df))) (_:Jp K C) (_:nG K H h hs) (_:CY P w K mg base H ru wf) (_:lS P w K mg base 5 df (qy K GG pre dl)) (_:GG H) (_:nu K H st cs ws last fire) (_:vd K H dp ds) (_:pY hs ws.length ⟨cs,ws,last,fire,0,[]⟩) (_:ws.length+ds.length<=64) (_:(cc hs.fl hs.ls.length (be cs ws) ds= .good->(bb hs.lo ⟨cs,ws,last,fire,0,[]⟩ ds).fire=false->∀i r,(bb hs.lo ⟨cs,ws,last,fire,0,[]⟩ ds).ws[i]? =some r->r.lift= -1->pre (bD dl (bb hs.lo ⟨cs,ws,last,fire,0,[]⟩ ds).ws i (bb hs.lo ⟨cs,ws,last,fire,0,[]⟩ ds)).cs (bD dl (bb hs.lo ⟨cs,ws,last,fire,0,[]⟩ ds).ws i (bb hs.lo ⟨cs,ws,last,fire,0,[]⟩ ds)).ws r (bD dl (bb hs.lo ⟨cs,ws,last,fire,0,[]⟩ ds).ws i (bb hs.lo ⟨cs,ws,last,fire,0,[]⟩ ds)).last)) (_:(cc hs.fl hs.ls.length (be cs ws) ds= .good->∀r st' ll zs M' H',bB H H'->GG H'->H' r=some (.tup [.ref st',.ref ll])->nu K H' st' M'.cs M'.ws M'.last M'.fire->H' ll=some (.lst zs)->aN K H' zs M'.log->noLs M'.log=true->GH hs wf hs.ls.length (rM dl (bb hs.lo ⟨cs,ws,last,fire,0,[]⟩ ds)) M'->Q (.ref r) H')) (_:(cc hs.fl hs.ls.length (be cs ws) ds≠ .good->Gn kF kL kR kT H (λ_ _=>False) E (cc hs.fl hs.ls.length (be cs ws) ds)))
theorem sj {lo:Nat}{M:MS}{ds:List Dd}{i:Nat}{d:Dd}(h:ds[i]? =some d):bb lo M (ds.take (i+1))=d6 lo (bb lo M (ds.take i)) d:=by
 unfold bb;rw [List.take_add_one,h,List.foldl_append];rfl
theorem pY.deeds {hs:Hs}{n:Nat}{M:MS}(o:pY hs n M):∀ {ds:List Dd},(∀d∈ds,d.ok/\d.fit hs.fl hs.ls.length)->∀i,pY hs (n+i) (bb hs.lo M (ds.take i))
 |ds,h,0=>by
  rw [List.take_zero];exact o
 |ds,h,i+1=>by
  have z:=pY.deeds o h i
  cases e:ds[i]? with
  |none=>
   rw [List.take_add_one,e];simp only [Option.toList_none,List.append_nil];exact ⟨z.len,z.cs,z.ws,by have:=z.sum;omega⟩
  |some d=>
   rw [sj e];have:=h d (List.mem_of_getElem? e);exact z.deed this.1 this.2
theorem JF {H H':Hp}(s:bB H H'){a:Addr}{h:Hs}(c:nG K H a h):nG K H' a h:=by
 obtain ⟨o,p,xs,h1,h2,h3⟩:=c;exact ⟨o,p,xs,s.sqT h1,s.sqT h2,Paired.imp' (λx l ⟨b,e,z⟩=>⟨b,e,s.sqT z⟩) h3⟩
theorem Jy {H H':Hp}(s:bB H H'){a:Addr}{wf:Wf}(r:CY P w K mg base H a wf):CY P w K mg base H' a wf:=by
 obtain ⟨C,dx,fs,sp,h1,h2,h3,h4,h5⟩:=r;exact ⟨C,dx,fs,sp,s _ _ ↑28 h1,h2,h3,h4,h5⟩
theorem NM {H H':Hp}(s:bB H H'){st:Addr}{cs:List Cb}{ws:List bq}{last:Int}{fire:Bool}(h:nu K H st cs ws last fire):nu K H' st cs ws last fire:=by
 obtain ⟨tc,tw,xs,ys,h1,h2,h3,h4,h5⟩:=h;exact ⟨tc,tw,xs,ys,s.sqT h1,s.sqT h2,s.sqT h3,Paired.imp' (λx c z=>fh.nt s z) h4,s.dens h5⟩
theorem Ib {kM kF kL kR kT:Addr}{GG:Hp->Prop}{pre:List Cb->List bq->bq->Int->Prop}{dl:y0}(gT:GT GG)(F:bw K "turn" "Court.turn" ia f fd)(cM:tJ K kM)(bj:mg "len"=none)(bg:mg "range"=none)(eJ:p9 P w K mg base 7 "need_deeds" ["house","state","deeds"] (AK K kF kL kR kT))(mW:jJ P w K mg base br 1 "Moment" kM (DJ K))(jG:bp P w K mg base 5 "do_deed" ["moment","deed"] (Hj K kM))(gM:bp P w K mg base 7 "deal_all" ["moment","dealer"] (mq P w K mg base kM GG pre dl))(c_go:bp P w K mg base 8 "go" ["moment","rule","lift"] (Hi P w K mg base kM))(gI:bp P w K mg base 1 "state_of" ["moment"] (AJ K kM)):aD P w K mg base (j4 P w) 9 f fd ["self","state","deeds"] (ze P w K mg base kF kL kR kT GG pre dl):=by
 rwa[F.okX fX ↑4 ↑1]
 ·obtain ⟨a,st,dp,C,dx,h,ru,df,hs,wf,cs,ws,last,fire,ds,rfl,_⟩:=h;rfl
 obtain ⟨a,st,dp,C,dx,h,ru,df,hs,wf,cs,ws,last,fire,ds,rfl,ea,cC,hH,hru,hcal,hgg,hst,hds,hok,n64,hpre,q,qb⟩:=h;have clc:=cC.i.cl;have cl:=cM.i.cl;have l3:=hH.1.l3
 have cl10:cs.length<=10:=by have:=hok.len;have:cs.length=hs.ls.length:=this;omega
 have cs64:∀c∈cs,c.ps.length<=64:=λc hc=>(hok.cs c hc).len;erw[⟨_,(ag (aO (jg bS eJ hr ↑2 rfl (ae ↑11 (ae (wv 1) (ae (wv 2) ac))))) (ag (aA (i:=3) fX.nd rfl ↑7 (gP mW jh hr ↑2 rfl (ae ↑11 ↑19))) (ag (d9 rD rfl (bF (K:=K) rfl (wv 2)) (az (i:=4) fX.nd rfl ↑7) (af (aO (aj jG hr ↑2 rfl (ae (wv 3) (ae (wv 4) ac)))))) (mL (aI (cW (bZ (K:=K) rfl (aJ (K:=K) rfl (wv 3)))) (af (aO (aj gM hr ↑2 rfl (ae (wv 3) (ae ↑11 ac))))) aC) (ag (d9 rD rfl (cy rfl bg (ae (aG (cI (K:=K) rfl) rfl bj PySem.boot_len (ae (ao ↑3 ↑11 aa ↑5) ac)) ac)) (az (i:=5) fX.nd rfl ↑7) (af (aO (aj c_go hr ↑2 rfl (ae (wv 3) (ae ↑11 (ae (wv 5) ac))))))) (af (aq (bt (ae (aj gI hr ↑2 rfl (ae (wv 3) ac)) (ae (aJ (K:=K) rfl (wv 3)) ac)))))))))),?_⟩];erw[fc ea clc cC.house (v:= .ref h) rfl ?_];rwa[AK.mk _ _ _ _ _ _ _ _ _ rfl hH hst hds ↑6 cs64 cl10 ↑6 ?_]
 cases hb:cc hs.fl hs.ls.length (be cs ws) ds with
 |floor i=>have z:=qb (by rw [hb];intro z;cases z);rw [hb] at z;exact λd H' sm ed=>z d H' sm ed
 |lift i=>have z:=qb (by rw [hb];intro z;cases z);rw [hb] at z;exact λd H' sm ed=>z d H' sm ed
 |ride=>have z:=qb (by rw [hb];intro z;cases z);rw [hb] at z;exact λH' sm=>z H' sm
 |twice t=>have z:=qb (by rw [hb];intro z;cases z);rw [hb] at z;exact λd H' sm ed=>z d H' sm ed
 |good=>
 intro H1 s1;have q:=q hb;have hpre:=hpre hb;clear qb;have fit:=Bk hb;obtain ⟨xd,hxd,pd⟩:=hds
 have okd:∀d∈ds,d.ok/\d.fit hs.fl hs.ls.length:=λd hd=>by
  obtain ⟨i,hi⟩:=List.mem_iff_getElem?.mp hd;obtain ⟨x,hx,ad,_,hdd⟩:=pd.get2 hi;exact ⟨hdd.2,fit d hd⟩
 have ea1:=s1 _ _ ea;ext;erw[fc ea1 clc cC.house (v:= .ref h) rfl ?_];rwa[Qp cM (hst.keep s1.st) λm H2 hM2=> ?_];have hg2:=gT _ _ (s1.trans hM2.s).st hgg;have s2x:=hM2.s.st;have hM2:=hM2.onto (rG H1);have ntb:=E5 H1;have s2:=hM2.s;have ea1:=rH ea1 ↑28;generalize hM0:(⟨cs,ws,last,fire,0,[]⟩:MS)=M0 at hM2 hok hpre q
 have hl0:M0.ws.length=ws.length:=by rw [<-hM0]
 have dl1:=(E6 H1).sqL (s1.seq hxd);ext;rwa[dA (s2.seq dl1) ?_];have xl:xd.length=ds.length:=pd.len;have HH1:=JF (E6 H1) (hH.same s1);have hru1:=Jy (E6 H1) (hru.same s1);have st1:aU (yX H1) H1:=(rG H1).st;generalize hHb:yX H1=Hb at hM2 ntb s2 ea1 dl1 HH1 hru1 st1;have mid:∀i,pY hs (ws.length+i) (bb hs.lo M0 (ds.take i)):=λi=>hok.deeds okd i;rwa[jX (xs:=xd) (λi σ HX=>ff K kM Hb HX m h (bb hs.lo M0 (ds.take i))/\aU H1 HX/\GG HX/\∃o4 o5,σ=[some (.ref a),some (.ref st),some (.ref dp),some (.ref m),o4,o5]) ⟨by rw [List.take_zero];exact hM2,s2x,hg2,_,_,rfl⟩ (λi σ HX _ pv=>pv.1.s.seq dl1) (λi x σ HX hx pv=> ?_) (λσ HX pv=> ?_)]
 ·obtain ⟨hM,stx,gX,o4,o5,rfl⟩:=pv;obtain ⟨d,hd,ad,rfl,hdd⟩:=pd.get1 hx;have il:i<ds.length:=(List.getElem?_eq_some_iff.mp hd).1;have mo:=mid i;have sm:=mo.sum;ext;rwa[Hj.mk _ _ _ _ _ _ _ rfl ((hH.same s1).keep stx) ((hdd.same s1).keep stx) (okd d (List.mem_of_getElem? hd)).2 hM ↑6 ↑6 mo.len (λc hc=>(mo.cs c hc).m0) λH' st' hM'=> ?_];rw [<-sj hd] at hM';exact ⟨hM',stx.trans st',gT _ _ st' gX,_,_,rfl⟩
 obtain ⟨hM,stx,gX,o4,o5,rfl⟩:=pv;rw [xl,List.take_of_length_le ↑13] at hM;have mo:=mid ds.length;rw [List.take_of_length_le ↑13] at mo;generalize hM1:bb hs.lo M0 ds=M1 at hM mo hpre q;have smo:=mo.sum;have hMx:=hM;obtain ⟨mdx,mlc,mlw,mll,mxs,mys,mzs,ma⟩:=hM;ext;rwa[FU (λσ H3=>ff K kM Hb H3 m h (rM dl M1)/\GG H3/\∃o4 o5,σ=[some (.ref a),some (.ref st),some (.ref dp),some (.ref m),o4,o5]) ?_ ?_]
 ·ext;erw[bQ ma cl cM.fire (v:= .bl M1.fire) rfl ?_]
  cases hf:M1.fire with
  |true=>
   rwa[bP rfl ?_];rwa[⟨?_,gX,_,_,rfl⟩];unfold rM;rw [if_pos hf];exact hMx
  |false=>
   erw[cO rfl ?_];erw[fc (hMx.s _ _ ea1) clc cC.dealer (v:= .ref df) rfl ?_];rwa[mq.mk _ _ _ _ _ rfl hcal gX ntb hMx ↑6 ↑6 (by rw [mo.len];omega) (hpre hf) λH' st' gY hM'=>⟨?_,gY,_,_,rfl⟩];unfold rM;rw [if_neg (by rw [hf];decide)];exact hM'
 rintro σ' H3 ⟨hM3,g3,o4,o5,rfl⟩
 have mo2:pY hs (ws.length+ds.length+M1.ws.length) (rM dl M1):=by
  unfold rM;split
  ·exact ⟨mo.len,mo.cs,mo.ws,by have:=mo.sum;omega⟩
  ·exact mo.deals mo.ws M1.ws.length
 generalize hM2':rM dl M1=M2 at hM3 mo2 q
 have wl2:M2.ws.length<=64:=by
  have h1:M2.ws.length=M1.ws.length:=by
   rw [<-hM2'];unfold rM;split
   ·rfl
   ·exact (fK _).1
  omega
 have sm2:=mo2.sum;have s3:=hM3.s;ext;rwa[fc (s3 _ _ ea1) clc cC.house (v:= .ref h) rfl ?_];obtain ⟨_,ph,phs,hh1,hh2,hh3⟩:=HH1.same s3;ext;erw[ar hh1 rfl ?_];rwa[fW hh2 ?_];rw [hh3.len];ext;rwa[⟨⟨by omega,by omega⟩,?_⟩];rwa[eu (λi σ HX=>∃M',ff K kM Hb HX m h M'/\GH hs wf i M2 M'/\kA hs M2 i M'/\GG HX/\∃o4 o5,σ=[some (.ref a),some (.ref st),some (.ref dp),some (.ref m),o4,o5]) ⟨M2,hM3,rfl,⟨rfl,λ_ _=>rfl,λ_ h=>h,Nat.le_refl _,by omega⟩,g3,_,_,rfl⟩ (λi σ HX hi pv=> ?_) (λσ HX pv=> ?_)]
 ·obtain ⟨M',hM',hg,ah,gX',o4,o5,rfl⟩:=pv
  have i0:(0:Int)+(i:Nat)=((i:Nat):Int):=by omega
  rw [i0]
  have il:i<hs.ls.length:=by omega
  have hl:hs.ls[i]? =some hs.ls[i]:=List.getElem?_eq_getElem il
  have ic:i<M2.cs.length:=by rw [mo2.len];exact il
  have hc:M'.cs[i]? =some M2.cs[i]:=by rw [ah.cs i ↑13];exact List.getElem?_eq_getElem ic
  have hcok:lR hs.fl M2.cs[i]:=mo2.cs _ (List.getElem_mem ic);have hcA:atC M' (i:Int) M2.cs[i]:=⟨by omega,by rw [show ((i:Int)).toNat=i by omega];exact hc⟩
  have wl':M'.ws.length<=64:=by have:=ah.wl;omega
  ext;erw[fc (hM'.s _ _ ea1) clc cC.rule (v:= .ref ru) rfl ?_];rwa[Hi.mk _ _ _ _ _ _ _ _ _ _ rfl HH1 (by rw [show ((i:Int)).toNat=i by omega];exact hl) hru1 hM' hcA hcok ↑6 (λr hr=>mo2.ws r (ah.ws r hr)) wl' (by have:=ah.log;omega) λM'' H' hgo st' hM''=> ?_];exact ⟨M'',hM'',⟨M',_,_,hg,hcA,hl,hgo⟩,ah.go hcok.len wl' hgo,gT _ _ st' gX',_,_,rfl⟩
 obtain ⟨M',hM',hg,ah,gX',o4,o5,rfl⟩:=pv;rw [show ((hs.ls.length:Int)).toNat=hs.ls.length by omega] at hg;obtain ⟨fdx,flc,flw,fll,fxs,fys,fzs,fa⟩:=hM';ext;rwa[AJ.mk _ _ _ _ rfl ⟨fdx,flc,flw,fll,fxs,fys,fzs,fa⟩ λst' H4 s4 hst'=> ?_];have fa4:=fa.same s4;ext;erw[bQ fa4 cl cM.log (v:= .ref fll) rfl ?_];rwa[cf ↑23 λr H5 s5 n5 e5=> ?_];have fa5:=fa4.same s5;exact q r st' fll fzs M' H5 (s1.nt.trans (LO (by rw [hHb];exact fa5.s))) (gT _ _ (s4.trans s5).st gX') e5 (hst'.keep s5.st) fa5.el fa5.dl fa5.ln hg
def yT (K:Fg)(H:Hp)(a:Addr)(fl:Int)(n:Nat):Prop:=∃p c0 so ls,aP K H a [.int fl,.ref p,c0,so]/\aP K H p ls/\ls.length=n/\2<=fl/\fl<=8/\1<=n/\n<=3
theorem yT.same {H H':Hp}{a:Addr}{fl:Int}{n:Nat}(h:yT K H a fl n)(s:av H H'):yT K H' a fl n:=by
 obtain ⟨p,c0,so,ls,h1,h2,r⟩:=h;exact ⟨p,c0,so,ls,s.seqT h1,s.seqT h2,r⟩
abbrev zb:Str:=Str.ofString "floor"
abbrev Dy:Str:=Str.ofString "lift"
abbrev NB:Str:=Str.ofString "ride"
abbrev NK:Str:=Str.ofString "good"
inductive Du where
 |floor (i:Int)
 |lift (i:Int)
 |ride
 |good
def Du.v:Du->List V
 | .floor i=>[.str zb,.int i]
 | .lift i=>[.str Dy,.int i]
 | .ride=>[.str NB,.int 0]
 | .good=>[.str NK,.int 0]
def CU (fl:Int)(n:Nat):Dd->Du
 | .come _ s g _=>if s<0\/fl<=s then .floor s else if g<0\/fl<=g then .floor g else if s=g then .ride else .good
 | .lf _ i=>if i<0\/(n:Int)<=i then .lift i else .good
 | .sg _=> .good
unseal rY in
theorem wN {K:Fg}{a:Addr}{v:V}{C:Addr}{H:Hp}{R:Hp->Prop}(h1:H a=some (fG a (.ref C) none))(h2:jv K C yY "ValueError.__new__"=true)(g:R H):rY K [.ref a,v] H R:=⟨a,v,C,rfl,h1,h2,g⟩
unseal qm in
theorem C5 {K:Fg}{fl:Str}{a C:Addr}{y:V}{H:Hp}{R:Hp->Prop}(h1:H a=some (fG a (.ref C) none))(h2:jv K C yY "ValueError.__new__"=true)(h3:W.findIn K (.ref C) "__setattr__"=some ↑29)(h4:W.findIn K (.ref C) fl=some none)(h5:W.mroIn K C (.type "object")=some true)
(g:∀d,H d=none->d≠a->R (upd (upd H a (fG a (.ref C) (some d))) d (.xd [(fl,y)]))):qm K fl a y H R:=⟨C,h1,h2,h3,h4,h5,g⟩
theorem BY {bv b3:Addr}(F:bw K "__init__" "NoFloor.__init__" hV f fd)(ce:yU K b3)(b9:mg "CourtError"=some (.ref b3))(mY:jv K bv yY "ValueError.__new__"=true)(oa:W.findIn K (.ref bv) "__setattr__"=some ↑29)(fP:W.findIn K (.ref bv) "floor"=some none)(oN:W.mroIn K bv (.type "object")=some true):aD P w K mg base br 1 f fd ["self","floor"] (zc bv "floor"):=by
 rwa[F.ok tY ↑4 ↑1]
 ·obtain ⟨a,v,rfl,_⟩:=h;rfl
 obtain ⟨a,v,rfl,ea,q⟩:=h;erw[⟨_,(ag (aO (rB (K:=K) rfl ce rfl b9 (ae (wv 0) (ae ay ac)))) (af (wk (K:=K) rfl (wv 0) (wv 1)))),?_⟩];erw[wN ea mY ?_];exact C5 ea mY oa fP oN λd nd ne=>q d nd ne
theorem Ex {bI b3:Addr}(F:bw K "__init__" "NoLift.__init__" i8 f fd)(ce:yU K b3)(b9:mg "CourtError"=some (.ref b3))(qh:jv K bI yY "ValueError.__new__"=true)(qK:W.findIn K (.ref bI) "__setattr__"=some ↑29)(iF:W.findIn K (.ref bI) "lift"=some none)(rQ:W.mroIn K bI (.type "object")=some true):aD P w K mg base br 1 f fd ["self","lift"] (zc bI "lift"):=by
 rwa[F.ok vK ↑4 ↑1]
 ·obtain ⟨a,v,rfl,_⟩:=h;rfl
 obtain ⟨a,v,rfl,ea,q⟩:=h;erw[⟨_,(ag (aO (rB (K:=K) rfl ce rfl b9 (ae (wv 0) (ae ay ac)))) (af (wk (K:=K) rfl (wv 0) (wv 1)))),?_⟩];erw[wN ea qh ?_];exact C5 ea qh qK iF rQ λd nd ne=>q d nd ne
inductive mh (K:Fg)(C:Addr)(vs:List V)(H:Hp)(Q:VK)(E:XK):Prop
 |mk (h fl n i:_) (_:vs=[.ref h,.int i]) (_:yT K H h fl n) (_:(¬(i<0\/fl<=i)->Q .non H)) (_:((i<0\/fl<=i)->∀d H',av H H'->H' d=some (.xd [(zb,.int i)])->E (.ref C) (some d) H'))
theorem B2 {bv:Addr}(F:bw K "need_floor" "need_floor" k9 f fd)(ql:ML P w K mg base 1 "NoFloor" bv "floor"):aD P w K mg base (j4 P w) 3 f fd ["house","floor"] (mh K bv):=by
 rwa[F.okX xY ↑4 ↑1]
 ·obtain ⟨h,fl,n,i,rfl,_⟩:=h;rfl
 obtain ⟨h,fl,n,i,rfl,⟨p,c0,so,ls,hh,hp,hl,f2,f8,n1,n3⟩,q,qb⟩:=h;rwa[⟨_,(af (aI (cW (gp l8 w_lt aa (wv 1) ↑16)) (af (oG bS rfl ql hr ↑2 rfl ↑19)) aC)),?_⟩];by_cases z1:i<0
 ·left;exact ⟨_,rfl,λd nd=>qb (.inl z1) d _ (.upd nd) ak⟩
 by_cases z2:fl<=i
 ·left;exact ⟨_,rfl,λd nd=>qb (.inr z2) d _ (.upd nd) ak⟩
 ·left;exact q λz=>z.elim z1 z2
inductive vz (K:Fg)(C:Addr)(vs:List V)(H:Hp)(Q:VK)(E:XK):Prop
 |mk (h fl n i:_) (_:vs=[.ref h,.int i]) (_:yT K H h fl n) (_:(¬(i<0\/(n:Int)<=i)->Q .non H)) (_:((i<0\/(n:Int)<=i)->∀d H',av H H'->H' d=some (.xd [(Dy,.int i)])->E (.ref C) (some d) H'))
theorem EJ {bI:Addr}(F:bw K "need_lift" "need_lift" on f fd)(bj:mg "len"=none)(vh:ML P w K mg base 1 "NoLift" bI "lift"):aD P w K mg base (j4 P w) 3 f fd ["house","lift"] (vz K bI):=by
 rwa[F.okX zw ↑4 ↑1]
 ·obtain ⟨h,fl,n,i,rfl,_⟩:=h;rfl
 obtain ⟨h,fl,n,i,rfl,⟨p,c0,so,ls,hh,hp,hl,f2,f8,n1,n3⟩,q,qb⟩:=h
 have hpl:(ls.length:Int)=n:=by rw [hl]
 rwa[⟨_,(af (aI (cW (gp l8 w_lt aa (wv 1) (aG (cI (K:=K) rfl) rfl bj PySem.boot_len (ae ↑16 ac)))) (af (oG bS rfl vh hr ↑2 rfl ↑19)) aC)),?_⟩];by_cases z1:i<0
 ·left;exact ⟨_,rfl,λd nd=>qb (.inl z1) d _ (.upd nd) ak⟩
 by_cases z2:(n:Int)<=i
 ·left;exact ⟨_,rfl,λd nd=>qb (.inr z2) d _ (.upd nd) ak⟩
 ·left;exact q λz=>z.elim z1 z2
def va (kF kL kR:Addr)(H:Hp)(Q:VK)(E:XK):Du->Prop
 | .good=>∀H',av H H'->Q .non H'
 | .floor i=>∀d H',av H H'->H' d=some (.xd [(zb,.int i)])->E (.ref kF) (some d) H'
 | .lift i=>∀d H',av H H'->H' d=some (.xd [(Dy,.int i)])->E (.ref kL) (some d) H'
 | .ride=>∀H',av H H'->E (.ref kR) none H'
inductive vy (K:Fg)(kF kL kR:Addr)(vs:List V)(H:Hp)(Q:VK)(E:XK):Prop
 |mk (h fl n st go:_) (_:vs=[.ref h,.int st,.int go]) (_:yT K H h fl n) (_:va kF kL kR H Q E (CU fl n (.come 0 st go false)))
theorem EI {bv bI fb:Addr}(F:bw K "need_ride" "need_ride" om f fd)(fS:p9 P w K mg base 3 "need_floor" ["house","floor"] (mh K bv))(wS:mg "NoRide"=some (.ref fb))(wP:W.excIn K fb [.type "ValueError",.type "Exception",.type "BaseException",.type "object"] "ValueError.__new__"=true):aD P w K mg base (j4 P w) 4 f fd ["house","start","goal"] (vy K bv bI fb):=by
 rwa[F.okX zv ↑4 ↑1]
 ·obtain ⟨h,fl,n,st,gl,rfl,_⟩:=h;rfl
 obtain ⟨h,fl,n,st,gl,rfl,hh,T⟩:=h;erw[⟨_,(ag (aO (jg bS fS hr ↑2 rfl (ae (wv 0) ↑19))) (ag (aO (jg bS fS hr ↑2 rfl (ae (wv 0) (ae (wv 2) ac)))) (af (aI (ax ↑10 (wv 1) (wv 2) (au _)) (af (eM bS rfl wP PySem.F.excBase_ValueError rfl wS (ae ay ac))) aC)))),?_⟩];rwa[mh.mk _ _ _ _ rfl hh (λz1=> ?_) (λz1 d H' sm ed=> ?_)]
 ·ext;rwa[mh.mk _ _ _ _ rfl hh (λz2=> ?_) (λz2 d H' sm ed=> ?_)]
  ·by_cases z3:st=gl
   ·have e:CU fl n (.come 0 st gl false)= .ride:=(if_neg z1).trans ((if_neg z2).trans (if_pos z3));rw [e] at T;left;exact ⟨bx (by show 1<=1000000;decide),T _ (.refl _)⟩
   ·have e:CU fl n (.come 0 st gl false)= .good:=(if_neg z1).trans ((if_neg z2).trans (if_neg z3));rw [e] at T;left;exact T _ (.refl _)
  ·have e:CU fl n (.come 0 st gl false)= .floor gl:=(if_neg z1).trans (if_pos z2);rw [e] at T;exact T d H' sm ed
 ·have e:CU fl n (.come 0 st gl false)= .floor st:=if_pos z1;rw [e] at T;exact T d H' sm ed
inductive zg (K:Fg)(kF kL kR:Addr)(vs:List V)(H:Hp)(Q:VK)(E:XK):Prop
 |mk (h fl n a d:_) (_:vs=[.ref h,.ref a]) (_:yT K H h fl n) (_:xp H a d) (_:va kF kL kR H Q E (CU fl n d))
theorem va.imp {kF kL kR:Addr}{H:Hp}{Q Q':VK}{E:XK}{u:Du}(h:va kF kL kR H Q E u)(g:∀H',Q .non H'->Q' .non H'):va kF kL kR H Q' E u:=by
 cases u with
 |good=>exact λH' sm=>g H' (h H' sm)
 |floor i=>exact h
 |lift i=>exact h
 |ride=>exact h
theorem Ij {bv bI fb:Addr}(F:bw K "need_deed" "need_deed" oo f fd)(kE:p9 P w K mg base 4 "need_ride" ["house","start","goal"] (vy K bv bI fb))(kG:p9 P w K mg base 3 "need_lift" ["house","lift"] (vz K bI)):aD P w K mg base (j4 P w) 5 f fd ["house","deed"] (zg K bv bI fb):=by
 rwa[F.okX zx ↑4 ↑1]
 ·obtain ⟨h,fl,n,a,d,rfl,_⟩:=h;rfl
 obtain ⟨h,fl,n,a,d,rfl,hh,⟨ea,ok⟩,T⟩:=h;have hT:=aP.of (K:=K) ea;rwa[⟨_,(af (aI (ax ↑10 ↑12 ay (au _)) (af (aO (jg bS kE hr ↑2 rfl (ae (wv 0) (ae ↑12 (ae ↑12 ac)))))) (af (aI (ax (qa (K:=K) rfl) ↑12 (bt (ae ay (ae ay ac))) (by with_unfolding_all rfl)) (af (aO (jg bS kG hr ↑2 rfl (ae (wv 0) (ae ↑12 ac))))) aC)))),?_⟩]
 cases d with
 |come t s g k=>
  have hT:aP K H a [.str pG,.int t,.int s,.int g,.bl k]:=hT;ext;erw[ar hT rfl ?_];rwa[cO rfl ?_];left;exact vy.mk _ _ _ _ _ rfl hh (va.imp T λH' z=>z)
 |lf x i=>
  have hx:x≠pG:=by rcases ok with rfl|rfl|rfl|rfl|rfl<;>decide
  have hT:aP K H a [.str x,.int i]:=hT;ext;erw[ar hT rfl ?_];erw[bP (decide_eq_false hx) ?_];erw[ar hT rfl ?_];erw[cf ↑23 λl1 H1 s1 n1 e1=> ?_]
  have hin:uN (.str x) [.str (Str.ofString "fire"),.str (Str.ofString "calm")]=false:=by rcases ok with rfl|rfl|rfl|rfl|rfl<;>rfl
  rwa[nY (aP.of e1) rfl rfl ?_];rw [hin];ext;erw[cO rfl ?_];erw[ar (s1.seqT hT) rfl ?_];rwa[vz.mk _ _ _ _ rfl (hh.same s1) (λz=> ?_) (λz d H' sm ed=> ?_)]
  ·have e:CU fl n (.lf x i)= .good:=if_neg z;rw [e] at T;exact T _ s1
  ·have e:CU fl n (.lf x i)= .lift i:=if_pos z;rw [e] at T;exact T d H' (s1.trans sm) ed
 |sg x=>
  have hx:x≠pG:=by rcases ok with rfl|rfl<;>decide
  have hT:aP K H a [.str x]:=hT;ext;erw[ar hT rfl ?_];erw[bP (decide_eq_false hx) ?_];erw[ar hT rfl ?_];erw[cf ↑23 λl1 H1 s1 n1 e1=> ?_]
  have hin:uN (.str x) [.str (Str.ofString "fire"),.str (Str.ofString "calm")]=true:=by rcases ok with rfl|rfl<;>rfl
  rwa[nY (aP.of e1) rfl rfl ?_];rw [hin];ext;rwa[bP rfl ?_];exact T _ s1
theorem nG.at' {H:Hp}{h:Addr}{hs:Hs}(c:nG K H h hs):yT K H h hs.fl hs.ls.length:=by
 obtain ⟨o,p,xs,h1,h2,h3⟩:=c;exact ⟨p,_,_,xs,h1,h2,h3.len,o.f2,o.f8,o.l1,o.l3⟩
def Du.dw:Du->Dw
 | .floor i=> .floor i
 | .lift i=> .lift i
 | .ride=> .ride
 | .good=> .good
theorem OC {fl:Int}{n:Nat}{d:Dd}:km fl n d=(CU fl n d).dw:=by
 cases d with
 |come t s g k=>
  unfold CU km;dsimp only;by_cases h1:s<0\/fl<=s
  ·rw [if_pos h1,if_pos h1];rfl
  rw [if_neg h1,if_neg h1];by_cases h2:g<0\/fl<=g
  ·rw [if_pos h2,if_pos h2];rfl
  rw [if_neg h2,if_neg h2];by_cases h3:s=g
  ·rw [if_pos h3,if_pos h3];rfl
  ·rw [if_neg h3,if_neg h3];rfl
 |lf x i=>
  unfold CU km;dsimp only;by_cases h1:i<0\/(n:Int)<=i
  ·rw [if_pos h1,if_pos h1];rfl
  ·rw [if_neg h1,if_neg h1];rfl
 |sg x=>rfl
inductive qu (K:Fg)(vs:List V)(H:Hp)(Q:VK)(_e:XK):Prop
 |mk (st cs ws last fire:_) (_:vs=[.ref st]) (_:nu K H st cs ws last fire) (_:ws.length<=64) (_:(∀c∈cs,c.ps.length<=64)) (_:cs.length<=10) (_:∀l H',av H H'->H' l=some (.lst ((be cs ws).map V.int))->Q (.ref l) H')
theorem se {cs:List Cb}(h:∀c∈cs,c.ps.length<=64):(cs.flatMap λc=>c.ps.map (·.1)).length<=64*cs.length:=by
 induction cs with
 |nil=>simp
 |cons c cs ih=>
  rw [List.flatMap_cons,List.length_append,List.length_map,List.length_cons];have:=h c (.head _);have:=ih λc hc=>h c (.tail _ hc);omega
theorem Ic (F:bw K "tags_in" "tags_in" vS f fd):aD P w K mg base br 1 f fd ["state"] (qu K):=by
 rwa[F.ok fA ↑4 ↑1]
 ·obtain ⟨st,cs,ws,last,fire,rfl,_⟩:=h;rfl
 obtain ⟨st,cs,ws,last,fire,rfl,⟨tc,tw,xs,ys,h1,h2,h3,h4,h5⟩,wl,c64,cl,q⟩:=h;have yl:ys.length=ws.length:=aL h5;have xl:xs.length=cs.length:=h4.len;erw[⟨_,(ag (jM (i:=1) rfl fA.nd rfl ↑7 (aK (N':=["tag","start","goal","lift"]) (pk:=[none,none,none,none]) (by kernel_rfl)) (bF (K:=K) rfl ↑16) ↑18 (λC s H ex=>b5) (λC s H ex=>(wv 0))) (ag (d9 PassesOwn.never rfl (bF (K:=K) rfl ↑16) (dE (K:=K) (n:=5) rfl rfl (aE (az (i:=2) fA.nd rfl ↑7) (aE (az (i:=3) fA.nd rfl ↑7) (aE (az (i:=4) fA.nd rfl ↑7) (aE (az (i:=5) fA.nd rfl ↑7) (aE (az (i:=6) fA.nd rfl ↑7) cA)))))) (af (aO (dY (K:=K) rfl PySem.F.plainAttrs_list PySem.F.slot_list_extend PySem.F.type_list_extend qq (wv 1) (ae (bG rfl (aK (N':=["tag","goal"]) (pk:=[none,none]) (by kernel_rfl)) (bF (K:=K) rfl (wv 6)) (λC s H ex=>(dE (K:=K) (n:=2) rfl rfl (aE (az (i:=0) (show List.Nodup (["tag","goal"]:List Str) by decide+kernel) rfl ↑7) (aE (az (i:=1) (show List.Nodup (["tag","goal"]:List Str) by decide+kernel) rfl ↑7) cA)))) (λC s H ex=>b5) (λC s H ex=>(wv 0))) ac))))) (af (aq (wv 1))))),?_⟩];erw[ar h1 rfl ?_];rwa[dW h3 ?_];rwa[cJ (xs:=ys) (λj us HX=>av H HX/\us=((ws.take j).map (·.tag)).map V.int) (bx ↑6) ↑22 ⟨.refl _,rfl⟩ (λj us HX _ h=>h.1.seqT h3) (λj y us HX hy hP=> ?_) (λus HX hP l n=> ?_)]
 ·obtain ⟨sx,rfl⟩:=hP;obtain ⟨r,hr',dr⟩:=bJ (f:=bq.d) h5 hy;obtain ⟨ra,rfl,hT⟩:=eG (cm.same dr sx);ext;erw[iQ hT rfl ?_];erw[⟨iU,?_⟩];rwa[⟨sx,?_⟩];rw [List.take_add_one,hr',List.map_append,List.map_append];rfl
 obtain ⟨sx,rfl⟩:=hP;rw [yl,List.take_of_length_le ↑13];have s2:av HX (upd HX l (.lst ((ws.map (·.tag)).map V.int))):= .upd n;have e2:upd HX l (.lst ((ws.map (·.tag)).map V.int)) l=some (.lst ((ws.map (·.tag)).map V.int)):=ak;generalize hH2:upd HX l (.lst ((ws.map (·.tag)).map V.int))=H2 at s2 e2 ⊢;have n0:H l=none:=none_of sx n;have s02:=sx.trans s2;ext;erw[ar (s02.seqT h1) rfl ?_];rwa[dW (s02.seqT h2) ?_];rwa[yA (xs:=xs) (λi σ HY=>av H HY/\HY l=some (.lst ((ws.map (·.tag)++(cs.take i).flatMap λc=>c.ps.map (·.1)).map V.int))/\∃o2 o3 o4 o5 o6,σ=[some (.ref st),some (.ref l),o2,o3,o4,o5,o6]) ⟨s02,by rw [List.take_zero,List.flatMap_nil,List.append_nil];exact e2,_,_,_,_,_,rfl⟩ (λi σ HY _ pv=>pv.1.seqT h2) (λi x σ HY hx pv=> ?_) (λσ HY pv=> ?_)]
 ·obtain ⟨sY,eY,o2,o3,o4,o5,o6,rfl⟩:=pv;obtain ⟨c,hc,t,rfl,hct⟩:=h4.get1 hx;obtain ⟨b,bs,et,eb,db⟩:=hct.keep sY.st;have bl:bs.length=c.ps.length:=aL db;have c64':=c64 c (List.mem_of_getElem? hc);ext;erw[iQ (aP.of et) rfl ?_];erw[⟨.inl ⟨rfl,_,aS.of eY⟩,?_⟩];rwa[dW (aP.of eb) ?_];rwa[cJ (xs:=bs) (λj us HX=>av HY HX/\us=((c.ps.take j).map (·.1)).map V.int) (bx ↑6) ↑22 ⟨.refl _,rfl⟩ (λj us HX _ h=>h.1.seqT (aP.of eb)) (λj y us HX hy hP=> ?_) (λus HZ hP l3 n3=> ?_)]
  ·obtain ⟨sx,rfl⟩:=hP;obtain ⟨p,pt,hp,rfl,hpT⟩:=ji db hy;ext;erw[iQ (sx.seqT hpT) rfl ?_];erw[⟨gt,?_⟩];rwa[⟨sx,?_⟩];rw [List.take_add_one,hp,List.map_append,List.map_append];rfl
  obtain ⟨sx,rfl⟩:=hP;rw [bl,List.take_of_length_le ↑13];have s3:av HZ (upd HZ l3 (.lst ((c.ps.map (·.1)).map V.int))):= .upd n3;have e3:upd HZ l3 (.lst ((c.ps.map (·.1)).map V.int)) l3=some (.lst ((c.ps.map (·.1)).map V.int)):=ak;generalize hH3:upd HZ l3 (.lst ((c.ps.map (·.1)).map V.int))=H3 at s3 e3 ⊢;have sY3:=sx.trans s3;ext;rwa[FJ (sY3 _ _ eY) e3 (bx ?_) ?_]
  ·have h1:((cs.take i).flatMap λc=>c.ps.map (·.1)).length<=64*(cs.take i).length:=se λc hc=>c64 c (List.mem_of_mem_take hc)
   have h2:(cs.take i).length<=10:=by rw [List.length_take];omega
   simp only [List.length_map,List.length_append];omega
  ·rwa[⟨av.updF (sY.trans sY3) n0,?_,_,_,_,_,_,rfl⟩];rw [ak,List.take_add_one,hc];simp only [Option.toList_some,List.flatMap_append,List.flatMap_cons,List.flatMap_nil,List.append_nil,List.map_append,List.append_assoc]
 obtain ⟨sY,eY,o2,o3,o4,o5,o6,rfl⟩:=pv;rw [xl,List.take_of_length_le ↑13] at eY;ext;exact q l HY sY eY
theorem BX {fk b3:Addr}(F:bw K "__init__" "Twice.__init__" kY f fd)(ce:yU K b3)(b9:mg "CourtError"=some (.ref b3))(wL:jv K fk yY "ValueError.__new__"=true)(vQ:W.findIn K (.ref fk) "__setattr__"=some ↑29)(lT:W.findIn K (.ref fk) "tag"=some none)(wG:W.mroIn K fk (.type "object")=some true):aD P w K mg base br 1 f fd ["self","tag"] (zc fk "tag"):=by
 rwa[F.ok xV ↑4 ↑1]
 ·obtain ⟨a,v,rfl,_⟩:=h;rfl
 obtain ⟨a,v,rfl,ea,q⟩:=h;erw[⟨_,(ag (aO (rB (K:=K) rfl ce rfl b9 (ae (wv 0) (ae ay ac)))) (af (wk (K:=K) rfl (wv 0) (wv 1)))),?_⟩];erw[wN ea wL ?_];exact C5 ea wL vQ lT wG λd nd ne=>q d nd ne
def ke (ts:List Int)(kvs:List (dQ×V)):Prop:=∀t:Int,(ge kvs (Sum.inl t)).isSome=decide (t∈ts)
theorem ke.nil:ke [] []:=λt=>by
 show (none:Option V).isSome=_;simp
theorem ke.put {ts:List Int}{kvs:List (dQ×V)}(h:ke ts kvs)(t:Int)(v:V):ke (ts++[t]) (gx kvs (Sum.inl t) v):=λu=>by
 rw [Dm];by_cases e:u=t
 ·subst e;rw [if_pos rfl];simp
 ·rw [if_neg (λz=>e (by cases z;rfl)),h u];simp [e]
theorem Cy {ts:List Int}:∀ {us:List Int} {kvs:List (dQ×V)},ke us kvs->ke (us++ts) (gE kvs (ts.map λt=>(Sum.inl t,V.bl true))):=by
 induction ts with
 |nil=>intro us kvs h;rw [List.append_nil];exact h
 |cons t ts ih=>
  intro us kvs h;have:=ih (h.put t (V.bl true));rw [List.append_assoc] at this;exact this
theorem Gh {fl:Int}{n:Nat}{ts:List Int}{d:Dd}{ds:List Dd}:cc fl n ts (d::ds)=match km fl n d with
 | .good=>match d with
   | .come t _ _ _=>if t∈ts then .twice t else cc fl n (ts++[t]) ds
   |_=>cc fl n ts ds
 |u=>u:=rfl
theorem Lw {bv bI fb fk:Addr}(F:bw K "need_deeds" "need_deeds" le f fd)(Ff:mg "dict"=none)(gH:bp P w K mg base 1 "tags_in" ["state"] (qu K))(kI:p9 P w K mg base 5 "need_deed" ["house","deed"] (zg K bv bI fb))(y3:ML P w K mg base 1 "Twice" fk "tag"):aD P w K mg base (j4 P w) 7 f fd ["house","state","deeds"] (AK K bv bI fb fk):=by
 rwa[F.okX i7 ↑4 ↑1]
 ·obtain ⟨h,st,dl,hs,cs,ws,last,fire,ds,rfl,_⟩:=h;rfl
 obtain ⟨h,st,dl,hs,cs,ws,last,fire,ds,rfl,hH,hst,⟨xd,hxd,pd⟩,wl,c64,cl10,dl100,T⟩:=h;have xl:xd.length=ds.length:=pd.len;erw[⟨_,(ag (aA (i:=3) i7.nd rfl ↑7 (bU (G0 rfl) rfl Ff boot_dict (ae (bG rfl (aK (N':=["tag"]) (pk:=[none]) (by kernel_rfl)) (bF (K:=K) rfl (aj gH hr ↑2 rfl ↑19)) (λC s H ex=>(az (i:=0) (show List.Nodup (["tag"]:List Str) by decide+kernel) rfl ↑7)) (λC s H ex=>b5) (λC s H ex=>(bt (ae (wv 0) (ae fD ac))))) ac))) (af (d9 rD rfl (bF (K:=K) rfl (wv 2)) (az (i:=4) i7.nd rfl ↑7) (ag (aO (jg bS kI hr ↑2 rfl (ae (wv 0) (ae (wv 4) ac)))) (af (aI (ax ↑10 (ao ↑3 (wv 4) aa ↑5) ay (au _)) (ag (aI (K8 (Lg (JE hr) (ao ↑3 (wv 4) aa ↑5) (wv 3))) (af (oG bS rfl y3 hr ↑2 rfl (ae (ao ↑3 (wv 4) aa ↑5) ac))) aC) (af (HG (JE hr) (wv 3) (ao ↑3 (wv 4) aa ↑5) fD rfl))) aC)))))),?_⟩];rwa[qu.mk _ _ _ _ _ rfl hst wl c64 cl10 λl H1 s1 e1=> ?_]
 have tl:(be cs ws).length<=1000:=by
  unfold be;rw [List.length_append,List.length_map];have:=se c64;omega
 generalize hts:be cs ws=ts at e1 T tl;ext;rwa[dA (aS.of e1) ?_];rwa[b6 (xs:=ts.map V.int) (λj us HX=>av H1 HX/\Paired (λx (p:dQ×V)=>∃b,x=V.ref b/\HX b=some (.tup [kV p.1,p.2])) us ((ts.take j).map λt=>(Sum.inl t,V.bl true))) (bx (by rw [List.length_map];omega)) (λj us HX h=>by have:=h.2.len;rw [List.length_map,List.length_take] at this;omega) ⟨.refl _,.nil⟩ (λj us HX _ h=>h.1.seq (aS.of e1)) (λj y us HX hy hP=> ?_) (λus HX hP l2 n2=> ?_)]
 ·obtain ⟨sx,hp⟩:=hP;rw [List.getElem?_map] at hy;obtain ⟨v,hv,rfl⟩:=Option.map_eq_some_iff.mp hy;erw[⟨cE,?_⟩];rwa[cf ↑23 λb H3 s3 n3 e3=>⟨sx.trans s3,?_⟩];rw [List.take_add_one,hv,List.map_append];exact Paired.app (Paired.imp' (λx p ⟨c,ec,hc⟩=>⟨c,ec,s3 _ _ hc⟩) hp) (.cons ⟨b,rfl,e3⟩ .nil)
 obtain ⟨sx,hp⟩:=hP;rw [List.length_map,List.take_of_length_le ↑13] at hp;have s2:av HX (upd HX l2 (.lst us)):= .upd n2;have e2:upd HX l2 (.lst us) l2=some (.lst us):=ak;generalize hH2:upd HX l2 (.lst us)=H2 at s2 e2 ⊢;have s02:=s1.trans (sx.trans s2);ext;rwa[⟨us,ts.map λt=>(Sum.inl t,V.bl true),e2,Paired.imp' (λx p ⟨c,ec,hc⟩=>⟨c,ec,s2 _ _ hc⟩) hp,CT (by rw [List.length_map];omega),λd nd=> ?_⟩];have s3:av H2 (upd H2 d (.dK (gE [] (ts.map λt=>(Sum.inl t,V.bl true))))):= .upd nd;have e3:upd H2 d (.dK (gE [] (ts.map λt=>(Sum.inl t,V.bl true)))) d=some (.dK (gE [] (ts.map λt=>(Sum.inl t,V.bl true)))):=ak;generalize hH3:upd H2 d (.dK (gE [] (ts.map λt=>(Sum.inl t,V.bl true))))=H3 at s3 e3 ⊢;have nd0:H d=none:=none_of s02 nd
 have k0:ke ts (gE [] (ts.map λt=>(Sum.inl t,V.bl true))):=by
  have:=Cy (ts:=ts) ke.nil;rw [List.nil_append] at this;exact this
 have fl0:∀(qs:List (dQ×V)) (a:List (dQ×V)),(gE a qs).length<=a.length+qs.length:=by
  intro qs
  induction qs with
  |nil=>intro a;exact Nat.le_refl _
  |cons p qs ih=>
   intro a;have h1:=ih (gx a p.1 p.2);have h2:=dI a p.1 p.2;show (gE (gx a p.1 p.2) qs).length<=_;rw [List.length_cons];omega
 have l0:=fl0 (ts.map λt=>(Sum.inl t,V.bl true)) [];rw [List.length_map,List.length_nil] at l0;have s03:=s02.trans s3;generalize hk0:gE [] (ts.map λt=>((Sum.inl t:dQ),V.bl true))=kv0 at e3 k0 l0;ext;rwa[dA (s03.seq hxd) ?_];rwa[jX (xs:=xd) (λi σ HY=>av H HY/\∃ts' kvs o4,HY d=some (.dK kvs)/\ke ts' kvs/\kvs.length<=1000+i/\cc hs.fl hs.ls.length ts ds=cc hs.fl hs.ls.length ts' (ds.drop i)/\σ=[some (.ref h),some (.ref st),some (.ref dl),some (.ref d),o4]) ⟨s03,ts,kv0,_,e3,k0,by omega,rfl,rfl⟩ (λi σ HY _ pv=>pv.1.seq hxd) (λi x σ HY hx pv=> ?_) (λσ HY pv=> ?_)]
 ·obtain ⟨sY,ts',kvs,o4,eY,kk,kl,hbad,rfl⟩:=pv;obtain ⟨dd,hdd,ad,rfl,hda⟩:=pd.get1 hx;have il:i<ds.length:=(List.getElem?_eq_some_iff.mp hdd).1;have hda':=hda.same sY
  have hdr:ds.drop i=dd::ds.drop (i+1):=by
   rw [List.drop_eq_getElem_cons il];rw [List.getElem?_eq_getElem il] at hdd;cases hdd;rfl
  rw [hdr,Gh] at hbad;ext;rwa[zg.mk _ _ _ _ _ rfl ((hH.same sY).at') hda' ?_];rw [OC] at hbad
  cases hu:CU hs.fl hs.ls.length dd with
  |floor j=>
   rw [hu] at hbad;have hbad:cc hs.fl hs.ls.length ts ds= .floor j:=hbad;rw [hbad] at T;exact λd' H' sm ed=>T d' H' (sY.trans sm) ed
  |lift j=>
   rw [hu] at hbad;have hbad:cc hs.fl hs.ls.length ts ds= .lift j:=hbad;rw [hbad] at T;exact λd' H' sm ed=>T d' H' (sY.trans sm) ed
  |ride=>
   rw [hu] at hbad;have hbad:cc hs.fl hs.ls.length ts ds= .ride:=hbad;rw [hbad] at T;exact λH' sm=>T H' (sY.trans sm)
  |good=>
   rw [hu] at hbad;intro HZ sZ;have sHZ:=sY.trans sZ;have eZ:=sZ _ _ eY;have hdz:=hda'.same sZ;obtain ⟨edz,okz⟩:=hdz
   cases dd with
   |come t' s' g' k'=>
    have hbad:cc hs.fl hs.ls.length ts ds=if t'∈ts' then .twice t' else cc hs.fl hs.ls.length (ts'++[t']) (ds.drop (i+1)):=hbad;have hT:aP K HZ ad [.str pG,.int t',.int s',.int g',.bl k']:=aP.of edz;ext;erw[ar hT rfl ?_];erw[cO rfl ?_];erw[ar hT rfl ?_];erw[⟨d,_,rfl,GJ.k (k:=Sum.inl t') eZ,?_⟩];rwa[⟨_,rfl,?_⟩];by_cases hm:t'∈ts'
    ·rw [if_pos hm] at hbad;rw [hbad] at T;erw[cO (by rw [kk t'];exact decide_eq_true hm) ?_];erw[ar hT rfl ?_];exact ⟨_,rfl,λd' nd'=>T d' _ (sHZ.trans (.upd nd')) ak⟩
    ·rw [if_neg hm] at hbad;erw[bP (by rw [kk t'];exact decide_eq_false hm) ?_];erw[ar hT rfl ?_];rwa[⟨d,_,rfl,GI.k (k:=Sum.inl t') eZ (CT ↑6),?_⟩];exact ⟨av.updF sHZ nd0,ts'++[t'],_,_,ak,kk.put t' (.bl true),by have:=dI kvs (Sum.inl t') (V.bl true);omega,hbad,rfl⟩
   |lf x' i'=>
    have hbad:cc hs.fl hs.ls.length ts ds=cc hs.fl hs.ls.length ts' (ds.drop (i+1)):=hbad
    have hx:x'≠pG:=by rcases okz with rfl|rfl|rfl|rfl|rfl<;>decide
    have hT:aP K HZ ad [.str x',.int i']:=aP.of edz;ext;erw[ar hT rfl ?_];rwa[bP (decide_eq_false hx) ?_];exact ⟨sHZ,ts',kvs,_,eZ,kk,by omega,hbad,rfl⟩
   |sg x'=>
    have hbad:cc hs.fl hs.ls.length ts ds=cc hs.fl hs.ls.length ts' (ds.drop (i+1)):=hbad
    have hx:x'≠pG:=by rcases okz with rfl|rfl<;>decide
    have hT:aP K HZ ad [.str x']:=aP.of edz;ext;erw[ar hT rfl ?_];rwa[bP (decide_eq_false hx) ?_];exact ⟨sHZ,ts',kvs,_,eZ,kk,by omega,hbad,rfl⟩
 ·obtain ⟨sY,ts',kvs,o4,eY,kk,kl,hbad,rfl⟩:=pv;rw [xl,List.drop_length] at hbad;have hbad:cc hs.fl hs.ls.length ts ds= .good:=hbad;rw [hbad] at T;exact T HY sY
def cj (K:Fg)(H:Hp)(p:Addr)(cs:List nE):Prop:=∃xs,(aS K H p xs\/aP K H p xs)/\aN K H xs (cs.map nE.d)
theorem cj.same {H H':Hp}{p:Addr}{cs:List nE}(h:cj K H p cs)(s:av H H'):cj K H' p cs:=let ⟨xs,h1,h2⟩:=h;⟨xs,s.any h1,aN.same h2 s⟩
theorem Bh {H:Hp}{x:V}{c:nE}(h:cm K H x c.d):∃a b,x= .ref a/\aP K H a [.int c.pl,.int c.li,.int c.dr,.int c.mr,.ref b]:=by
 obtain ⟨a,xs,rfl,h1,h2⟩:=h.outT
 cases h2 with|cons q0 t0=>cases t0 with|cons q1 t1=>cases t1 with|cons q2 t2=>cases t2 with|cons q3 t3=>cases t3 with|cons q4 t4=>
 cases t4;cases q0.isInt;cases q1.isInt;cases q2.isInt;cases q3.isInt;obtain ⟨b,ys,rfl,_⟩:=q4.outT;exact ⟨a,b,rfl,h1⟩
theorem zK {H:Hp}{x:V}{r:Rd}(h:cm K H x r.d):∃a,x= .ref a/\aP K H a [.int r.t,.int r.s,.int r.g,.int r.l]:=by
 obtain ⟨a,xs,rfl,h1,h2⟩:=h.outT
 cases h2 with|cons q0 t0=>cases t0 with|cons q1 t1=>cases t1 with|cons q2 t2=>cases t2 with|cons q3 t3=>
 cases t3;cases q0.isInt;cases q1.isInt;cases q2.isInt;cases q3.isInt;exact ⟨a,rfl,h1⟩
theorem cj.at {H:Hp}{p:Addr}{cs:List nE}(h:cj K H p cs){i:Int}(h0:0<=i)(h1:i<cs.length){Q:VK}(g:∀c a b,cs[i.toNat]? =some c->aP K H a [.int c.pl,.int c.li,.int c.dr,.int c.mr,.ref b]->Q (.ref a) H):mx K p i H Q:=by
 obtain ⟨xs,hx,hd⟩:=h;have hl:=aL hd;obtain ⟨j,rfl⟩:=Int.eq_ofNat_of_zero_le h0
 have hj:j<xs.length:=by omega
 obtain ⟨c,hc,dc⟩:=bJ hd (List.getElem?_eq_getElem hj);obtain ⟨a,b,ea,ha⟩:=Bh dc;rwa[DV hx (v:= .ref a) (gb (by rw [List.getElem?_eq_getElem hj,ea])) (g c a b ?_ ha)];rw [show ((j:Int)).toNat=j by omega];exact hc
theorem cj.len {H:Hp}{p:Addr}{cs:List nE}(h:cj K H p cs){Q:VK}(g:Q (.int cs.length) H):iZ K p H Q:=by
 obtain ⟨xs,hx,hd⟩:=h;rwa[AO hx ?_];rw [aL hd];exact g
inductive uA (K:Fg)(vs:List V)(H:Hp)(Q:VK)(_e:XK):Prop
 |mk (a x0 x1 x2 m x4:_) (_:vs=[.ref a]) (_:aP K H a [x0,x1,x2,.int m,x4]) (_:Q (.bl (decide (m=0))) H)
theorem LB (F:bw K "is_serving" "is_serving" lm f fd):aD P w K mg base br 1 f fd ["cabin"] (uA K):=by
 rwa[F.ok x8 ↑4 ↑1]
 ·obtain ⟨a,x0,x1,x2,m,x4,rfl,_⟩:=h;rfl
 obtain ⟨a,x0,x1,x2,m,x4,rfl,hT,q⟩:=h;erw[⟨_,(af (aq (bX ↑10 ↑16 aa (au _)))),?_⟩];rwa[ar hT rfl ?_];exact q
abbrev bY (cs:List nE):List Bool:=cs.map nE.srv
theorem DF {cs:List nE}{i:Nat}{c:nE}(h:cs[i]? =some c):(bY cs).getD i false=decide (c.mr=0):=by
 rw [List.getD_eq_getElem?_getD,List.getElem?_map,h];rfl
inductive KK (K:Fg)(vs:List V)(H:Hp)(Q:VK)(_e:XK):Prop
 |mk (p cs first:_) (_:vs=[.ref p,.int first]) (_:cj K H p cs) (_:1<=cs.length) (_:cs.length<=3) (_:0<=first) (_:Q (.int (sf (bY cs) first)) H)
theorem Ob (F:bw K "serving_from" "serving_from" hU f fd)(bj:mg "len"=none)(bg:mg "range"=none){t1:Tok}(aW:mg "NO_LIFT"=some (.int (-1) t1))(dN:bp P w K mg base 1 "is_serving" ["cabin"] (uA K)):aD P w K mg base br 2 f fd ["cabins","first"] (KK K):=by
 have b1:aQ (.int (-1)) (.int (-1) t1):=⟨_,rfl⟩;rwa[F.ok eF ↑4 ↑1]
 ·obtain ⟨p,cs,first,rfl,_⟩:=h;rfl
 obtain ⟨p,cs,first,rfl,hC,c1,c3,f0,q⟩:=h;have bl:(bY cs).length=cs.length:=List.length_map _;erw[⟨_,(ag (aA (i:=2) eF.nd rfl ↑7 (aG (cI (K:=K) rfl) rfl bj PySem.boot_len (ae (wv 0) ac))) (ag (d9 PassesOwn.never rfl (cy rfl bg (ae (wv 2) ac)) (az (i:=3) eF.nd rfl ↑7) (ag (aA (i:=4) eF.nd rfl ↑7 (aH iG (aH ↑25 (wv 1) (wv 3)) (wv 2))) (af (aI (bZ (K:=K) rfl (aj dN hr ↑2 rfl (ae (ao ↑3 (wv 0) (wv 4) ↑5) ac))) (af (aq (wv 4))) aC)))) (af (aq (bh rfl aW b1))))),?_⟩];erw[hC.len ?_];rwa[⟨⟨by omega,by omega⟩,?_⟩];rwa[eu (λi σ HX=>HX=H/\sf (bY cs) first=KO (bY cs) first i (cs.length - i)/\∃o1 o2,σ=[some (.ref p),some (.int first),some (.int cs.length),o1,o2]) ⟨rfl,by unfold sf;rw [bl];rfl,_,_,rfl⟩ (λi σ HX hi pv=> ?_) (λσ HX pv=> ?_)]
 ·obtain ⟨rfl,hsf,o1,o2,rfl⟩:=pv
  have hi:i<cs.length:=by omega
  have i0:(0:Int)+(i:Nat)=((i:Nat):Int):=by omega
  rw [i0];have hm0:0<=(first+(i:Int))% (cs.length:Int):=Int.emod_nonneg _ ↑6;have hm1:(first+(i:Int))% (cs.length:Int)<(cs.length:Int):=Int.emod_lt_of_pos _ ↑6;rw [show cs.length - i=(cs.length - (i+1))+1 by omega] at hsf
  have hsf:sf (bY cs) first=if (bY cs).getD ((first+(i:Int))% (bY cs).length).toNat false=true then (first+(i:Int))% (bY cs).length else KO (bY cs) first (i+1) (cs.length - (i+1)):=hsf
  rw [bl] at hsf;ext;erw[⟨by omega,?_⟩];erw[hC.at hm0 hm1 λc a b hc hT=> ?_];rwa[uA.mk _ _ _ _ _ _ rfl hT ?_];rw [DF hc] at hsf;ext;rwa[oR (λz=> ?_) (λz=> ?_)]
  ·rw [if_pos (decide_eq_true z)] at hsf;rw [hsf] at q;exact q
  ·rw [if_neg (by rw [decide_eq_false z];decide)] at hsf;exact ⟨rfl,hsf,_,_,rfl⟩
 obtain ⟨rfl,hsf,o1,o2,rfl⟩:=pv;rw [show ((cs.length:Int)).toNat=cs.length by omega,Nat.sub_self] at hsf
 have hsf:sf (bY cs) first= -1:=hsf
 rw [hsf] at q;exact q
inductive qd (K:Fg)(vs:List V)(H:Hp)(Q:VK)(_e:XK):Prop
 |mk (p cs x1 x2 last:_) (_:vs=[.ref p,x1,x2,.int last]) (_:cj K H p cs) (_:1<=cs.length) (_:cs.length<=3) (_:0<=last) (_:∀r H',av H H'->H' r=some (.tup [.int (sf (bY cs) (last+1)),.int (if sf (bY cs) (last+1)= -1 then last else sf (bY cs) (last+1))])->Q (.ref r) H')
theorem EB (F:bw K "by_turns" "by_turns" rg f fd){t1:Tok}(aW:mg "NO_LIFT"=some (.int (-1) t1))(gm:bp P w K mg base 2 "serving_from" ["cabins","first"] (KK K)):aD P w K mg base br 3 f fd ["cabins","waiting","rider","last"] (qd K):=by
 have b1:aQ (.int (-1)) (.int (-1) t1):=⟨_,rfl⟩;rwa[F.ok uE ↑4 ↑1]
 ·obtain ⟨p,cs,x1,x2,last,rfl,_⟩:=h;rfl
 obtain ⟨p,cs,x1,x2,last,rfl,hC,c1,c3,l0,q⟩:=h;erw[⟨_,(ag (aA (i:=4) uE.nd rfl ↑7 (aj gm hr ↑2 rfl (ae (wv 0) (ae (aH ↑25 (wv 3) aa) ac)))) (af (aq (bt (ae (wv 4) (ae (cL (ax ↑10 (wv 4) (bh rfl aW b1) (au _)) (wv 3) (wv 4)) ac)))))),?_⟩];erw[KK.mk _ _ _ rfl hC c1 c3 ↑6 ?_];rwa[oR (λz=> ?_) (λz=> ?_)]
 ·ext;rw [if_pos z] at q;exact cf ↑23 λr H2 s2 n2 e2=>q r H2 s2 e2
 ·ext;rw [if_neg z] at q;exact cf ↑23 λr H2 s2 n2 e2=>q r H2 s2 e2
theorem Gd {cs:List nE}:(bY cs).length=cs.length:=List.length_map _
inductive nO (K:Fg)(vs:List V)(H:Hp)(Q:VK)(_e:XK):Prop
 |mk (p cs:_) (_:vs=[.ref p]) (_:cj K H p cs) (_:cs.length<=3) (_:∀l H',av H H'->H l=none->H' l=some (.lst ((srv (bY cs)).map λi:Nat=>V.int i))->Q (.ref l) H')
theorem Id (F:bw K "serving" "serving" qT f fd)(c4:mg "enumerate"=none)(dN:bp P w K mg base 1 "is_serving" ["cabin"] (uA K)):aD P w K mg base br 2 f fd ["cabins"] (nO K):=by
 rwa[F.ok BG ↑4 ↑1]
 ·obtain ⟨p,cs,rfl,_⟩:=h;rfl
 obtain ⟨p,cs,rfl,hC,c3,q⟩:=h;rwa[⟨_,(af (aq (bG rfl (aK (N':=["lift","cabin"]) (pk:=[none,none]) (by kernel_rfl)) (AC (K:=K) rfl rfl c4 (wv 0)) (λC s H ex=>(dE (K:=K) (n:=2) rfl rfl (aE (az (i:=0) (show List.Nodup (["lift","cabin"]:List Str) by decide+kernel) rfl ↑7) (aE (az (i:=1) (show List.Nodup (["lift","cabin"]:List Str) by decide+kernel) rfl ↑7) cA)))) (λC s H ex=>(eI (bZ (K:=K) rfl (aj dN hr ↑2 rfl ↑19)))) (λC s H ex=>(wv 0))))),?_⟩];obtain ⟨xs,hx,hd⟩:=hC;have hl:xs.length=cs.length:=aL hd
 have fin:∀ys H',av H H'/\ys=(j5 (bY cs) xs.length).map (λi:Nat=>V.int i)->∀p,H' p=none->Q (.ref p) (upd H' p (.lst ys)):=by
  rintro ys H' ⟨sm,rfl⟩ p0 n0;rwa[q p0 _ (sm.trans (.upd n0)) ?_ ?_]
  ·cases z:H p0 with
   |none=>rfl
   |some o=>rw [sm _ _ z] at n0;cases n0
  ·rw [ak,hl,<-Gd (cs:=cs)]
 have step:∀(i:Nat) x (ys:List V) H1 T H',xs[i]? =some x->(av H H1/\ys=(j5 (bY cs) i).map (λi:Nat=>V.int i))->av H1 H'->H' T=some (.tup [.int i,x])->∃c a b,x= .ref a/\cs[i]? =some c/\aP K H' a [.int c.pl,.int c.li,.int c.dr,.int c.mr,.ref b]/\aP K H' T [.int i,.ref a]/\av H H':=by
  rintro i x ys H1 T H' hxi ⟨sm,_⟩ s2 eT;obtain ⟨c,hc,dc⟩:=bJ hd hxi;obtain ⟨a,b,rfl,ha⟩:=Bh dc;exact ⟨c,a,b,rfl,hc,(sm.trans s2).seqT ha,aP.of eT,sm.trans s2⟩
 have nxt:∀(i:Nat) (c:nE),cs[i]? =some c->j5 (bY cs) (i+1)=j5 (bY cs) i++(if decide (c.mr=0)=true then [i] else []):=λi c hc=>by rw [Bx,DF hc]
 have run:∀(i:Nat) x (ys:List V) H1 T H',xs[i]? =some x->(av H H1/\ys=(j5 (bY cs) i).map (λi:Nat=>V.int i))->av H1 H'->H' T=some (.tup [.int i,x])->Br K 2 T H' λxs=>
  y6 (sd 0) (y6 (sd 1) Jr) xs (cY [none,none] (L2.start [Str.ofString "cabins"] [V.ref p])) H' λσ2 H2=>uo (cY [none,none] (L2.start [Str.ofString "cabins"] [V.ref p])) σ2/\
   Nb K (xM (uA K) [] E0 (Dz (G2 1) Ky)) σ2 H2 λb H3=>if b=true then G2 0 σ2 H3 λv H4=>av H H4/\ys++[v]=List.map (λi:Nat=>V.int i) (j5 (bY cs) (i+1)) else av H H3/\ys=List.map (λi:Nat=>V.int i) (j5 (bY cs) (i+1)):=by
  intro i x ys H1 T H' hxi hP s2 eT;obtain ⟨c,a,b,rfl,hc,ha,hT,s3⟩:=step i x ys H1 T H' hxi hP s2 eT;erw[iQ hT rfl ?_];erw[⟨⟨rfl,λi v h=>match i,h with|0,h=>(nomatch h)|1,h=>(nomatch h)|(i+2),h=>(nomatch h)⟩,?_⟩];rwa[uA.mk _ _ _ _ _ _ rfl ha ?_];show if decide (c.mr=0)=true then _ else _;by_cases z:c.mr=0
  ·rw [if_pos (decide_eq_true z)];ext;rwa[⟨s3,?_⟩];rw [nxt i c hc,if_pos (decide_eq_true z),hP.2,List.map_append];rfl
  ·rw [if_neg (by rw [decide_eq_false z];decide)];rwa[⟨s3,?_⟩];rw [nxt i c hc,if_neg (by rw [decide_eq_false z];decide),hP.2,List.append_nil]
 ext
 rcases hx with hx|hx
 ·erw[.inl ⟨xs,hx,?_⟩];exact FZ (xs:=xs) (λi ys H'=>av H H'/\ys=(j5 (bY cs) i).map (λi:Nat=>V.int i)) (bx ↑6) (λi ys H' h=>by rw [h.2,List.length_map];exact xQ) ⟨.refl _,rfl⟩ (λi ys H' _ h=>h.1.seq hx) (λi x ys H1 T H' hxi hP s2 eT=>run i x ys H1 T H' hxi hP s2 eT) (λys H' h=>fin ys H' h)
 ·erw[.inr ⟨xs,hx,?_⟩];exact FY (xs:=xs) (λi ys H'=>av H H'/\ys=(j5 (bY cs) i).map (λi:Nat=>V.int i)) (bx ↑6) (λi ys H' h=>by rw [h.2,List.length_map];exact xQ) ⟨.refl _,rfl⟩ (λi ys H' _ h=>h.1.seqT hx) (λi x ys H1 T H' hxi hP s2 eT=>run i x ys H1 T H' hxi hP s2 eT) (λys H' h=>fin ys H' h)
theorem aS.nt {H H':Hp}(s:bB H H'){a:Addr}{xs:List V}(h:aS K H a xs):aS K H' a xs:=by
 rcases h with (h|⟨o,h⟩)|h
 ·exact .inl (.inl (s _ _ (λps z=>by cases z) h))
 ·exact .inl (.inr ⟨o,s _ _ (λps z=>by cases z) h⟩)
 ·exact .inr h
theorem aP.nt {H H':Hp}(s:bB H H'){a:Addr}{xs:List V}(h:aP K H a xs):aP K H' a xs:=by
 rcases h with (h|⟨o,h⟩)|h
 ·exact .inl (.inl (s _ _ (λps z=>by cases z) h))
 ·exact .inl (.inr ⟨o,s _ _ (λps z=>by cases z) h⟩)
 ·exact .inr h
theorem cm.nt {H H':Hp}(s:bB H H'){x:V}{d:D}(h:cm K H x d):cm K H' x d:=by
 induction h with
 |non=>exact .non
 |bl a=>exact .bl a
 |int a=>exact .int a
 |str a=>exact .str a
 |lst h hl hi ih=>exact .lst (aS.nt s h) hl λi x d e1 e2=>ih i x d e1 e2
 |tup h hl hi ih=>exact .tup (aP.nt s h) hl λi x d e1 e2=>ih i x d e1 e2
theorem aN.nt {H H':Hp}(s:bB H H'){xs:List V}{ds:List D}(h:aN K H xs ds):aN K H' xs ds:=Paired.imp' (λ_ _ z=>cm.nt s z) h
theorem cj.nt {H H':Hp}(s:bB H H'){p:Addr}{cs:List nE}(h:cj K H p cs):cj K H' p cs:=let ⟨xs,h1,h2⟩:=h;⟨xs,h1.elim (λz=> .inl (aS.nt s z)) (λz=> .inr (aP.nt s z)),aN.nt s h2⟩
theorem HI {cs:List nE}{i:Nat}{c:nE}(h:cs[i]? =some c):Lb cs i=c.pl:=by unfold Lb;rw [h]
theorem Bl {cs:List nE}{i:Nat}{c:nE}(h:cs[i]? =some c):Mz cs i=c.ab.length:=by unfold Mz;rw [h]
theorem jO {cs:List nE}{i:Nat}{v:V}(h:((srv (bY cs)).map λi:Nat=>V.int i)[i]? =some v):∃j,(srv (bY cs))[i]? =some j/\v= .int (j:Nat)/\(srv (bY cs)).getD i 0=j/\j<cs.length:=by
 rw [List.getElem?_map] at h;obtain ⟨j,hj,rfl⟩:=Option.map_eq_some_iff.mp h;rwa[⟨j,hj,rfl,by rw [List.getD_eq_getElem?_getD,hj];rfl,?_⟩];have:=(qc.mp (List.mem_of_getElem? hj)).1;rw [Gd] at this;exact this
def Fd:Expr->Expr
 | .Call _ _ (⟨_,l,_⟩::_) _=>l
 |e=>e
def A1:Expr:=match bK fj with
 |[_,.Return (some (.Tuple (e::_) _ _)) _]=>Fd e
 |_=> .Constant .none 0 ⟨0,0,0,0⟩
def yu:Expr:=match bK du with
 |[_,.Assign _ e _,_]=>Fd e
 |_=> .Constant .none 0 ⟨0,0,0,0⟩
def II (st:Stmt):Expr->Scope
 | .Lambda _ _ sc _=>sc
 |_=>ai st
theorem LZ:jK ["lift"] ["cabins","place"] (II fj A1):=⟨rfl,rfl,rfl,by decide+kernel,by decide+kernel,by decide+kernel,by decide+kernel,by decide+kernel⟩
theorem IJ:jK ["lift"] ["cabins","dealt"] (II du yu):=⟨rfl,rfl,rfl,by decide+kernel,by decide+kernel,by decide+kernel,by decide+kernel,by decide+kernel⟩
abbrev qN:Str:="near"++".<locals>."++"<lambda>"
abbrev qL:Str:="least"++".<locals>."++"<lambda>"
inductive vx (K:Fg)(Pn:Addr)(vs:List V)(H:Hp)(Q:VK)(_e:XK):Prop
 |mk (p cs x1 rv r last:_) (_:vs=[.ref p,x1,rv,.int last]) (_:cj K H p cs) (_:cs.length<=3) (_:cm K H rv (Rd.d r)) (_:dP H Pn qN) (_:∀m t H',fg (bY cs) (uH cs r.s) m->fM Pn H H'->dP H' Pn qN->H' t=some (.tup [.int m,.int last])->Q (.ref t) H')
theorem Ik {c Pn:Addr}{kV doc pm ct oc:Value}{an od:Option Addr}{osl:Array (Option Value)}{t1:Tok}(lk:K.lookup f=some ⟨oc,od,.func (W.fnOf "near" "near" (cu fj) (bK fj) (ai fj) .none kV doc pm an (.ref c) ct),osl⟩)(hcd:W.codeIn K (.ref c) "near"=true)
(hCode:PySem.W.CodeHd base c Pn)(hBlt:kz base mg)(wF:mg "min"=none)(LY:mg "abs"=none)(aW:mg "NO_LIFT"=some (.int (-1) t1))(gJ:bp P w K mg base 2 "serving" ["cabins"] (nO K)):
 aD P w K mg base br 5 f (W.fnOf "near" "near" (cu fj) (bK fj) (ai fj) .none kV doc pm an (.ref c) ct) ["cabins","waiting","rider","last"] (vx K Pn):=by
 have b1:aQ (.int (-1)) (.int (-1) t1):=⟨_,rfl⟩;rwa[yB lk hcd DZ ↑4 (λA outer s H vs Q E hr h=> ?_)]
 ·obtain ⟨p,cs,x1,rv,r,last,rfl,_⟩:=h;rfl
 obtain ⟨p,cs,x1,rv,r,last,rfl,hC,c3,hrd,hTab,q⟩:=h;have hClos:PySem.closureFor (II fj A1) (envOfC "near" (ai fj) s.heap.objs.size f (.ref c))=(pure [("place",s.heap.objs.size+1+1),("cabins",s.heap.objs.size+1)]:Sem (List (Str×Addr))):=rfl;have lamI:pR (ng br P w K mg base ["cabins","waiting","rider","last","place"] "near" (ai fj) f (.ref c) A outer s H E).nox ["cabins","place"] [0,4] [("place",s.heap.objs.size+1+1),("cabins",s.heap.objs.size+1)]:=pR.two ↑2 rfl rfl rfl rfl rfl rfl (.inr rfl);have lamS:=LZ;rwa[⟨_,(ag (aA (i:=4) DZ.nd rfl (Or.inr rfl) (aH lZ aa ↑20)) (af (aq (bt (ae (Er rfl rfl wF hr (aj gJ hr ↑2 rfl (ae (wv 0) ac)) (Es rfl hCode hBlt rfl hClos) (bh rfl aW b1) lamS lamI rfl (λ_ _ _=>rfl) (λ_ _ s H hr=>(aG M9 rfl LY boot_abs (ae (aH eK (ao ↑3 (ao ↑3 (wv 1) (wv 0) ↑5) aa ↑5) (wv 2)) ac)))) (ae (wv 3) ac)))))),?_⟩];obtain ⟨ra,rfl,hrT⟩:=zK hrd;ext;erw[ar hrT rfl ?_];erw[⟨sE ↑2 ↑2,?_⟩];rwa[nO.mk _ _ rfl hC c3 λl H1 s1 n1 e1=> ?_];rwa[⟨hTab.same s1,λf' c' ctv H2 sP nf ef ec tab=> ?_⟩];obtain ⟨ps,hP,_⟩:=hTab.same s1;have sN:=sP.nt hP;have e2:H2 l=some (.lst ((srv (bY cs)).map λi:Nat=>V.int i)):=sN l _ (λps z=>by cases z) e1;have hC2:cj K H2 p cs:=(hC.same s1).nt sN
 have fin:∀m H3,fg (bY cs) (uH cs r.s) m->av H2 H3->IH [.int m,.int last] H3 Q:=λm H3 hb s3=>
  cf ↑23 λt H4 s4 n4 e4=>q m t H4 hb (λb o nb z=>s4 _ _ (s3 _ _ (sP b o nb (s1 b o z)))) ((tab.same s3).same s4) e4
 show ∃l f xs,_;rwa[⟨l,f',_,rfl,rfl,e2,λhx=> ?_,λhx=> ?_⟩]
 ·have hs:srv (bY cs)=[]:=List.map_eq_nil_iff.mp hx;exact fin (-1) H2 (xg hs) (.refl _)
 ·rwa[⟨c',ctv,[.ref p,.int (2*r.s)],λi=>uH cs r.s ((srv (bY cs)).getD i 0),λH3=>av H2 H3,rfl,.refl _,λH3 s3=>⟨s3 _ _ e2,s3 _ _ ef,s3 _ _ ec⟩,λi v H3 hv s3=> ?_,λi v H3 hv hb s3=> ?_⟩]
  ·obtain ⟨j,hj,rfl,gj,jl⟩:=jO hv;ext;erw[(hC2.same s3).at (by omega) ↑6 λcb a b hcb hab=> ?_];erw[ar hab rfl ?_];rwa[⟨?_,s3⟩];have hcb:cs[j]? =some cb:=hcb;show V.int _=V.int (uH cs r.s ((srv (bY cs)).getD i 0));rw [gj];unfold uH OQ;rw [HI hcb]
  ·obtain ⟨j,hj,rfl,gj,jl⟩:=jO hv;rwa[fin _ H3 (xf hj λi' hi'=> ?_) s3];exact hb i' (by rw [List.length_map];exact hi')
theorem F9 {H:Hp}{x:V}{c:nE}(h:cm K H x c.d):∃a b ys,x= .ref a/\aP K H a [.int c.pl,.int c.li,.int c.dr,.int c.mr,.ref b]/\aP K H b ys/\ys.length=c.ab.length:=by
 obtain ⟨a,xs,rfl,h1,h2⟩:=h.outT
 cases h2 with|cons q0 t0=>cases t0 with|cons q1 t1=>cases t1 with|cons q2 t2=>cases t2 with|cons q3 t3=>cases t3 with|cons q4 t4=>
 cases t4;cases q0.isInt;cases q1.isInt;cases q2.isInt;cases q3.isInt;obtain ⟨b,ys,rfl,hb,hy⟩:=q4.outT;exact ⟨a,b,ys,rfl,h1,hb,by have:=hy.length;rw [List.length_map] at this;exact this⟩
theorem cj.at2 {H:Hp}{p:Addr}{cs:List nE}(h:cj K H p cs){i:Int}(h0:0<=i)(h1:i<cs.length){Q:VK}(g:∀c a b ys,cs[i.toNat]? =some c->aP K H a [.int c.pl,.int c.li,.int c.dr,.int c.mr,.ref b]->aP K H b ys->ys.length=c.ab.length->Q (.ref a) H):mx K p i H Q:=by
 obtain ⟨xs,hx,hd⟩:=h;have hl:=aL hd;obtain ⟨j,rfl⟩:=Int.eq_ofNat_of_zero_le h0
 have hj:j<xs.length:=by omega
 obtain ⟨c,hc,dc⟩:=bJ hd (List.getElem?_eq_getElem hj);obtain ⟨a,b,ys,ea,ha,hb,hy⟩:=F9 dc;rwa[DV hx (v:= .ref a) (gb (by rw [List.getElem?_eq_getElem hj,ea])) (g c a b ys ?_ ha hb hy)];rw [show ((j:Int)).toNat=j by omega];exact hc
def JS (K:Fg)(H:Hp)(p:Addr)(rs:List Rd):Prop:=∃xs,(aS K H p xs\/aP K H p xs)/\aN K H xs (rs.map Rd.d)
abbrev fQ (rs:List Rd):List Int:=rs.map λr=>r.l
inductive AL (K:Fg)(Pl:Addr)(vs:List V)(H:Hp)(Q:VK)(_e:XK):Prop
 |mk (p cs wp rs x2 last:_) (_:vs=[.ref p,.ref wp,x2,.int last]) (_:cj K H p cs) (_:cs.length<=3) (_:JS K H wp rs) (_:rs.length<=64) (_:dP H Pl qL) (_:∀m t H',fg (bY cs) (gh cs (fQ rs)) m->fM Pl H H'->dP H' Pl qL->H' t=some (.tup [.int m,.int last])->Q (.ref t) H')
theorem ER {c Pl:Addr}{kV doc pm ct oc:Value}{an od:Option Addr}{osl:Array (Option Value)}{t1:Tok}(lk:K.lookup f=some ⟨oc,od,.func (W.fnOf "least" "least" (cu du) (bK du) (ai du) .none kV doc pm an (.ref c) ct),osl⟩)(hcd:W.codeIn K (.ref c) "least"=true)
(hCode:PySem.W.CodeHd base c Pl)(hBlt:kz base mg)(wF:mg "min"=none)(bj:mg "len"=none)(aW:mg "NO_LIFT"=some (.int (-1) t1))(gJ:bp P w K mg base 2 "serving" ["cabins"] (nO K)):
 aD P w K mg base br 5 f (W.fnOf "least" "least" (cu du) (bK du) (ai du) .none kV doc pm an (.ref c) ct) ["cabins","waiting","rider","last"] (AL K Pl):=by
 have b1:aQ (.int (-1)) (.int (-1) t1):=⟨_,rfl⟩;rwa[yB lk hcd vM ↑4 (λA outer s H vs Q E hr h=> ?_)]
 ·obtain ⟨p,cs,wp,rs,x2,last,rfl,_⟩:=h;rfl
 obtain ⟨p,cs,wp,rs,x2,last,rfl,hC,c3,hR,r10,hTab,q⟩:=h;have hClos:PySem.closureFor (II du yu) (envOfC "least" (ai du) s.heap.objs.size f (.ref c))=(pure [("dealt",s.heap.objs.size+1+1),("cabins",s.heap.objs.size+1)]:Sem (List (Str×Addr))):=rfl;have lamI:pR (ng br P w K mg base ["cabins","waiting","rider","last","dealt","fewest"] "least" (ai du) f (.ref c) A outer s H E).nox ["cabins","dealt"] [0,4] [("dealt",s.heap.objs.size+1+1),("cabins",s.heap.objs.size+1)]:=pR.two ↑2 rfl rfl rfl rfl rfl rfl (.inr rfl);have lamS:=IJ;rwa[⟨_,(ag (aA (i:=4) vM.nd rfl (Or.inr rfl) (bG rfl (aK (N':=["tag","start","goal","lift"]) (pk:=[none,none,none,none]) (by kernel_rfl)) (bF (K:=K) rfl (wv 1)) ↑18 (λC s H ex=>b5) (λC s H ex=>(wv 3)))) (ag (aA (i:=5) vM.nd rfl ↑7 (Er rfl rfl wF hr (aj gJ hr ↑2 rfl (ae (wv 0) ac)) (Es rfl hCode hBlt rfl hClos) (bh rfl aW b1) lamS lamI rfl (λ_ _ _=>rfl) (λ_ _ s H hr=>(aH ↑25 (aG (cI (K:=K) rfl) rfl bj PySem.boot_len (ae (ao ↑3 (ao ↑3 (wv 1) (wv 0) ↑5) aa ↑5) ac)) (dY (K:=K) rfl PySem.F.plainAttrs_list PySem.F.slot_list_count PySem.F.type_list_count (G1 (K:=K) rfl) (wv 2) (ae (wv 0) ac)))))) (af (aq (bt (ae (wv 5) (ae (wv 3) ac))))))),?_⟩];obtain ⟨xs,hx,hd⟩:=hR;have hl:xs.length=rs.length:=aL hd;ext
 rcases hx with hx|hx
 ·erw[dA hx ?_];rwa[b6 (xs:=xs) (λi ys H'=>av H H'/\ys=((fQ rs).take i).map V.int) (bx ↑6) (λi ys H' h=>by rw [h.2,List.length_map];exact List.length_take_le _ _) ⟨.refl _,rfl⟩ (λi ys H' _ h=>h.1.seq hx) (λi x ys H' hxi hP=> ?st) (λys H1 hP d n0=> ?rs)]
  case st=>
   obtain ⟨r,hr',dr⟩:=bJ hd hxi;obtain ⟨a,rfl,hT⟩:=zK (cm.same dr hP.1);ext;erw[iQ hT rfl ?_];erw[⟨⟨rfl,λi v h=>match i,h with|0,h=>(nomatch h)|1,h=>(nomatch h)|2,h=>(nomatch h)|3,h=>(nomatch h)|(i+4),h=>(nomatch h)⟩,?_⟩];rwa[⟨hP.1,?_⟩];rw [hP.2,List.take_add_one,List.getElem?_map,hr',List.map_append];rfl
  have e1:upd H1 d (.lst (((fQ rs).take xs.length).map V.int)) d=some (.lst ((fQ rs).map V.int)):=by rw [ak,List.take_of_length_le (by rw [List.length_map];omega)]
  have s1:av H (upd H1 d (.lst (((fQ rs).take xs.length).map V.int))):=hP.1.trans (.upd n0);rw [hP.2];generalize upd H1 d (.lst (((fQ rs).take xs.length).map V.int))=H2 at e1 s1;ext;rwa[nO.mk _ _ rfl (hC.same s1) c3 λl H3 s3 n3 e3=> ?_];have s13:=s1.trans s3;rwa[⟨hTab.same s13,λf' c' ctv H4 sP nf ef ec tab=> ?_⟩];obtain ⟨ps,hPt,_⟩:=hTab.same s13;have sN:=sP.nt hPt;have e4:H4 l=some (.lst ((srv (bY cs)).map λi:Nat=>V.int i)):=sN l _ (λps z=>by cases z) e3;have ed:H4 d=some (.lst ((fQ rs).map V.int)):=sN d _ (λps z=>by cases z) (s3 _ _ e1);have hC4:cj K H4 p cs:=(hC.same s13).nt sN
  have fin:∀m H5,fg (bY cs) (gh cs (fQ rs)) m->av H4 H5->IH [.int m,.int last] H5 Q:=λm H5 hb s5=>
   cf ↑23 λt H6 s6 n6 e6=>q m t H6 hb (λb o nb z=>s6 _ _ (s5 _ _ (sP b o nb (s13 b o z)))) ((tab.same s5).same s6) e6
  show ∃l f xs,_;rwa[⟨l,f',_,rfl,rfl,e4,λhx=> ?_,λhx=> ?_⟩]
  ·have hs:srv (bY cs)=[]:=List.map_eq_nil_iff.mp hx;exact fin (-1) H4 (xg hs) (.refl _)
  ·rwa[⟨c',ctv,[.ref p,.ref d],λi=>gh cs (fQ rs) ((srv (bY cs)).getD i 0),λH5=>av H4 H5,rfl,.refl _,λH5 s5=>⟨s5 _ _ e4,s5 _ _ ef,s5 _ _ ec⟩,λi v H5 hv s5=> ?_,λi v H5 hv hb s5=> ?_⟩]
   ·obtain ⟨j,hj,rfl,gj,jl⟩:=jO hv;ext;erw[(hC4.same s5).at2 ↑6 ↑6 λcb a b ys hcb hab hb hy=> ?_];erw[ar hab rfl ?_];erw[fW hb ?_];erw[⟨.inl ⟨rfl,_,aS.of (s5 _ _ ed)⟩,?_⟩];erw[⟨fQ rs,aS.of (s5 _ _ ed),?_⟩];rwa[⟨?_,s5⟩];have hcb:cs[j]? =some cb:=hcb;show V.int _=V.int (gh cs (fQ rs) ((srv (bY cs)).getD i 0));rw [gj];unfold gh;rw [Bl hcb,hy]
   ·obtain ⟨j,hj,rfl,gj,jl⟩:=jO hv;rwa[fin _ H5 (xf hj λi' hi'=> ?_) s5];exact hb i' (by rw [List.length_map];exact hi')
 ·erw[dW hx ?_];rwa[cJ (xs:=xs) (λi ys H'=>av H H'/\ys=((fQ rs).take i).map V.int) (bx ↑6) (λi ys H' h=>by rw [h.2,List.length_map];exact List.length_take_le _ _) ⟨.refl _,rfl⟩ (λi ys H' _ h=>h.1.seqT hx) (λi x ys H' hxi hP=> ?stT) (λys H1 hP d n0=> ?rsT)]
  case stT=>
   obtain ⟨r,hr',dr⟩:=bJ hd hxi;obtain ⟨a,rfl,hT⟩:=zK (cm.same dr hP.1);ext;erw[iQ hT rfl ?_];erw[⟨⟨rfl,λi v h=>match i,h with|0,h=>(nomatch h)|1,h=>(nomatch h)|2,h=>(nomatch h)|3,h=>(nomatch h)|(i+4),h=>(nomatch h)⟩,?_⟩];rwa[⟨hP.1,?_⟩];rw [hP.2,List.take_add_one,List.getElem?_map,hr',List.map_append];rfl
  have e1:upd H1 d (.lst (((fQ rs).take xs.length).map V.int)) d=some (.lst ((fQ rs).map V.int)):=by rw [ak,List.take_of_length_le (by rw [List.length_map];omega)]
  have s1:av H (upd H1 d (.lst (((fQ rs).take xs.length).map V.int))):=hP.1.trans (.upd n0);rw [hP.2];generalize upd H1 d (.lst (((fQ rs).take xs.length).map V.int))=H2 at e1 s1;ext;rwa[nO.mk _ _ rfl (hC.same s1) c3 λl H3 s3 n3 e3=> ?_];have s13:=s1.trans s3;rwa[⟨hTab.same s13,λf' c' ctv H4 sP nf ef ec tab=> ?_⟩];obtain ⟨ps,hPt,_⟩:=hTab.same s13;have sN:=sP.nt hPt;have e4:H4 l=some (.lst ((srv (bY cs)).map λi:Nat=>V.int i)):=sN l _ (λps z=>by cases z) e3;have ed:H4 d=some (.lst ((fQ rs).map V.int)):=sN d _ (λps z=>by cases z) (s3 _ _ e1);have hC4:cj K H4 p cs:=(hC.same s13).nt sN
  have fin:∀m H5,fg (bY cs) (gh cs (fQ rs)) m->av H4 H5->IH [.int m,.int last] H5 Q:=λm H5 hb s5=>
   cf ↑23 λt H6 s6 n6 e6=>q m t H6 hb (λb o nb z=>s6 _ _ (s5 _ _ (sP b o nb (s13 b o z)))) ((tab.same s5).same s6) e6
  show ∃l f xs,_;rwa[⟨l,f',_,rfl,rfl,e4,λhx=> ?_,λhx=> ?_⟩]
  ·have hs:srv (bY cs)=[]:=List.map_eq_nil_iff.mp hx;exact fin (-1) H4 (xg hs) (.refl _)
  ·rwa[⟨c',ctv,[.ref p,.ref d],λi=>gh cs (fQ rs) ((srv (bY cs)).getD i 0),λH5=>av H4 H5,rfl,.refl _,λH5 s5=>⟨s5 _ _ e4,s5 _ _ ef,s5 _ _ ec⟩,λi v H5 hv s5=> ?_,λi v H5 hv hb s5=> ?_⟩]
   ·obtain ⟨j,hj,rfl,gj,jl⟩:=jO hv;ext;erw[(hC4.same s5).at2 ↑6 ↑6 λcb a b ys hcb hab hb hy=> ?_];erw[ar hab rfl ?_];erw[fW hb ?_];erw[⟨.inl ⟨rfl,_,aS.of (s5 _ _ ed)⟩,?_⟩];erw[⟨fQ rs,aS.of (s5 _ _ ed),?_⟩];rwa[⟨?_,s5⟩];have hcb:cs[j]? =some cb:=hcb;show V.int _=V.int (gh cs (fQ rs) ((srv (bY cs)).getD i 0));rw [gj];unfold gh;rw [Bl hcb,hy]
   ·obtain ⟨j,hj,rfl,gj,jl⟩:=jO hv;rwa[fin _ H5 (xf hj λi' hi'=> ?_) s5];exact hb i' (by rw [List.length_map];exact hi')
inductive Dk where
 |near|least|turns
def sG (c:Cb):nE:=⟨c.pl,c.li,c.dr,c.mr,c.ps⟩
def Qh (r:bq):Rd:=⟨r.tag,r.start,r.goal,r.lift⟩
noncomputable def Gf (bs:List Bool)(ws:Nat->Int):Int:=Classical.epsilon (fg bs ws)
theorem Bj {bs:List Bool}{ws:Nat->Int}{m:Int}(h:fg bs ws m):m=Gf bs ws:=h.uniq (Classical.epsilon_spec ⟨m,h⟩)
def ux (cs:List Cb)(last:Int):Int:=sf (bY (cs.map sG)) (last+1)
noncomputable def uV:Dk->y0
 | .near=>λcs ws r last=>(Gf (bY (cs.map sG)) (uH (cs.map sG) r.start),last)
 | .least=>λcs ws r last=>(Gf (bY (cs.map sG)) (gh (cs.map sG) (fQ (ws.map Qh))),last)
 | .turns=>λcs ws r last=>(ux cs last,if ux cs last= -1 then last else ux cs last)
def rz:List Cb->List bq->bq->Int->Prop:=λcs ws r last=>1<=cs.length/\cs.length<=3/\ws.length<=64/\0<=last
def yZ (Pn Pl:Addr)(H:Hp):Prop:=dP H Pn qN/\dP H Pl qL
theorem Ah {Pn Pl:Addr}:GT (yZ Pn Pl):=λH H' s h=>⟨h.1.st s,h.2.st s⟩
theorem w9 {H:Hp}{tc:Addr}{xs:List V}{cs:List Cb}(h1:H tc=some (.tup xs))(h2:Paired (fh K H) xs cs):cj K H tc (cs.map sG):=by
 rwa[⟨xs,.inr (aP.of h1),?_⟩];rw [List.map_map];rwa[PySem.Paired.of (by rw [List.length_map];exact h2.len) λi x d e1 e2=> ?_];rw [List.getElem?_map] at e2;obtain ⟨c,hc,t,rfl,z⟩:=h2.get1 e1;rw [hc] at e2;cases e2;exact z.den
theorem K3 {H:Hp}{tw:Addr}{ys:List V}{ws:List bq}(h1:H tw=some (.tup ys))(h2:aN K H ys (ws.map bq.d)):JS K H tw (ws.map Qh):=by
 rwa[⟨ys,.inr (aP.of h1),?_⟩];rw [List.map_map];exact h2
def Dk.ad (kn kl kT:Addr):Dk->Addr
 | .near=>kn| .least=>kl| .turns=>kT
theorem Mr {Pn Pl kn kl kT:Addr}(hne:Pn≠Pl)(cn:lS P w K mg base 5 kn (vx K Pn))(cl:lS P w K mg base 5 kl (AL K Pl))(ct:lS P w K mg base 3 kT (qd K))(k:Dk):lS P w K mg base 5 (k.ad kn kl kT) (qy K (yZ Pn Pl) rz (uV k)):=by
 cases k with
 |near=>
  rwa[cn.imp ↑13 λvs H Q E h=> ?_];obtain ⟨tc,tw,x,cs,ws,r,last,xs,ys,rfl,h1,h2,h3,h4,h5,hg,⟨c1,c3,w64,l0⟩,q⟩:=h;rwa[vx.mk _ _ _ _ (Qh r) _ rfl (w9 h1 h2) (by rw [List.length_map];exact c3) h5 hg.1 λm t H' hb sP ht e=> ?_];obtain ⟨ps,hP,_⟩:=id hg.1;rwa[q t H' (sP.nt hP) ⟨ht,hg.2.sameP sP hP hne.symm⟩ ?_];rw [Bj hb] at e;exact e
 |least=>
  rwa[cl.imp ↑13 λvs H Q E h=> ?_];obtain ⟨tc,tw,x,cs,ws,r,last,xs,ys,rfl,h1,h2,h3,h4,h5,hg,⟨c1,c3,w64,l0⟩,q⟩:=h;rwa[AL.mk _ _ _ _ _ _ rfl (w9 h1 h2) (by rw [List.length_map];exact c3) (K3 h3 h4) (by rw [List.length_map];exact w64) hg.2 λm t H' hb sP ht e=> ?_];obtain ⟨ps,hP,_⟩:=id hg.2;rwa[q t H' (sP.nt hP) ⟨hg.1.sameP sP hP hne,ht⟩ ?_];rw [Bj hb] at e;exact e
 |turns=>
  rwa[ct.imp ↑2 λvs H Q E h=> ?_];obtain ⟨tc,tw,x,cs,ws,r,last,xs,ys,rfl,h1,h2,h3,h4,h5,hg,⟨c1,c3,w64,l0⟩,q⟩:=h;rwa[qd.mk _ _ _ _ _ rfl (w9 h1 h2) (by rw [List.length_map];exact c1) (by rw [List.length_map];exact c3) l0 λt H' s e=> ?_];exact q t H' s.nt (Ah _ _ s.st hg) e
abbrev wo:Str:=Str.ofString "o"
abbrev wx:Str:=Str.ofString "x"
abbrev wu:Str:=Str.ofString "u"
abbrev wd:Str:=Str.ofString "d"
abbrev ws:Str:=Str.ofString "s"
def iT (li he up dn:Int):Str:=if he=2 then wo else if he=1/\((li=1/\up=0)\/(li= -1/\dn=0)) then wx else if li= -1/\0<dn then wd else if 0<up then wu else if 0<dn then wd else ws
def MJ (he up dn:Int):Str:=if 0<he then (if he=2 then wo else wx) else if 0<up/\(dn=0\/up<=dn) then wu else if 0<dn then wd else ws
def xT (top fl li he:Int):Str:=if he=2 then wo else if he=1/\((fl=top/\li=1)\/(fl=0/\li= -1)) then wx else if li= -1 then (if fl≠0 then wd else wu) else if fl≠top then wu else wd
def yx (fl li he up dn:Int):Str:=if iT li he up dn=ws/\fl≠0 then wd else iT li he up dn
theorem lP.li {li he up dn:Int}(s:lP li he up dn):li= -1\/li=0\/li=1:=by have:=s.l0;have:=s.l1;omega
theorem lP.he {li he up dn:Int}(s:lP li he up dn):he=0\/he=1\/he=2:=by have:=s.h0;have:=s.h1;omega
inductive mf (vs:List V)(H:Hp)(Q:VK)(_e:XK):Prop
 |mk (li he up dn:Int) (_:vs=[.int li,.int he,.int up,.int dn]) (_:lP li he up dn) (_:Q (.str (iT li he up dn)) H)
theorem Hg {H:Hp}{Q:VK}{x y:Str}(q:Q (.str x) H)(e:x=y):Q (.str y) H:=e▸q
set_option maxHeartbeats 0 in
theorem EF (F:bw K "swept" "swept" zD f fd):aD P w K mg base br 1 f fd ["light","here","up","down"] mf:=by
 rwa[F.ok Ht ↑4 ↑1]
 ·obtain ⟨li,he,up,dn,rfl,_⟩:=h;rfl
 obtain ⟨li,he,up,dn,rfl,sn,q⟩:=h;rwa[⟨_,(ag (aI (ax ↑10 (wv 1) aa (au _)) (af (aq ay)) aC) (ag (aI (PW.pt (dj (ax ↑10 (wv 1) aa (au _)) (cF (PW.pt (fU (PW.pt (dj (ax ↑10 (wv 0) aa (au _)) (cF (ax ↑10 (wv 2) aa (au _))))) (eU (PW.pt (dj (ax ↑10 (wv 0) (mP lY aa) (au _)) (cF (ax ↑10 (wv 3) aa (au _))))))))))) (af (aq ay)) aC) (ag (aI (PW.pt (dj (ax ↑10 (wv 0) (mP lY aa) (au _)) (cF (ax iP (wv 3) aa (au _))))) (af (aq ay)) aC) (ag (aI (ax iP (wv 2) aa (au _)) (af (aq ay)) aC) (af (aq (cL (ax iP (wv 3) aa (au _)) ay ay))))))),?_⟩];have u0:=sn.u0;have d0:=sn.d0;have hli:=sn.li;have hhe:=sn.he;clear sn
 rcases (show up=0\/0<up by omega) with rfl|hu<;>rcases (show dn=0\/0<dn by omega) with rfl|hd<;>rcases hhe with rfl|rfl|rfl<;>rcases hli with rfl|rfl|rfl
 all_goals
  left;rwa[Hg q ?_];unfold iT;clear q hr F
  (try have hu': ¬up=0:=by omega)
  (try have hd': ¬dn=0:=by omega)
  simp [*]
inductive nR (vs:List V)(H:Hp)(Q:VK)(_e:XK):Prop
 |mk (he up dn:Int) (_:vs=[.int he,.int up,.int dn]) (_:0<=he) (_:he<=2) (_:0<=up) (_:0<=dn) (_:Q (.str (MJ he up dn)) H)
set_option maxHeartbeats 0 in
theorem zX (F:bw K "nearest" "nearest" qY f fd):aD P w K mg base br 1 f fd ["here","up","down"] nR:=by
 rwa[F.ok BI ↑4 ↑1]
 ·obtain ⟨he,up,dn,rfl,_⟩:=h;rfl
 obtain ⟨he,up,dn,rfl,h0,h1,u0,d0,q⟩:=h;rwa[⟨_,(ag (aI (ax iP (wv 0) aa (au _)) (af (aq (cL (ax ↑10 (wv 0) aa (au _)) ay ay))) aC) (ag (aI (PW.pt (dj (ax iP (wv 1) aa (au _)) (cF (PW.pt (fU (ax ↑10 (wv 2) aa (au _)) (eU (ax GZ (wv 2) (wv 1) (au _)))))))) (af (aq ay)) aC) (af (aq (cL (ax iP (wv 2) aa (au _)) ay ay))))),?_⟩]
 have hhe:he=0\/he=1\/he=2:=by omega
 clear h0 h1
 rcases (show up=0\/0<up by omega) with rfl|hu<;>rcases (show dn=0\/0<dn by omega) with rfl|hd<;>rcases hhe with rfl|rfl|rfl
 all_goals
  first
   |(left
     rwa[Hg q ?_];unfold MJ;clear q hr F
     (try have hu': ¬up=0:=by omega)
     (try have hd': ¬dn=0:=by omega)
     simp [*]
     done)
   |(by_cases hl:up<=dn
     all_goals
      left;rwa[Hg q ?_];unfold MJ;clear q hr F
      (try have hd': ¬dn=0:=by omega)
      simp [*])
inductive kN (vs:List V)(H:Hp)(Q:VK)(_e:XK):Prop
 |mk (top fl li he:Int) (_:vs=[.int top,.int fl,.int li,.int he]) (_: -1<=li) (_:li<=1) (_:0<=he) (_:he<=2) (_:0<top) (_:Q (.str (xT top fl li he)) H)
set_option maxHeartbeats 0 in
theorem yn (F:bw K "shuttled" "shuttled" oh f fd):aD P w K mg base br 1 f fd ["top","floor","light","here"] kN:=by
 rwa[F.ok qF ↑4 ↑1]
 ·obtain ⟨top,fl,li,he,rfl,_⟩:=h;rfl
 obtain ⟨top,fl,li,he,rfl,l0,l1,h0,h1,t0,q⟩:=h;rwa[⟨_,(ag (aA (i:=4) qF.nd rfl ↑7 (C8 (gQ (bX ↑10 (wv 1) (wv 0) (au _)) (ii (bX ↑10 (wv 2) aa (au _)))) (ii (gQ (bX ↑10 (wv 1) aa (au _)) (ii (bX ↑10 (wv 2) (mP lY aa) (au _))))))) (ag (aI (ax ↑10 (wv 3) aa (au _)) (af (aq ay)) aC) (ag (aI (PW.pt (dj (ax ↑10 (wv 3) aa (au _)) (cF (bZ (K:=K) rfl (wv 4))))) (af (aq ay)) aC) (ag (aI (ax ↑10 (wv 2) (mP lY aa) (au _)) (af (aq (cL (ax (gq (K:=K) rfl hr) (wv 1) aa (au _)) ay ay))) aC) (af (aq (cL (ax (gq (K:=K) rfl hr) (wv 1) (wv 0) (au _)) ay ay))))))),?_⟩]
 have hhe:he=0\/he=1\/he=2:=by omega
 have hli:li= -1\/li=0\/li=1:=by omega
 clear h0 h1 l0 l1
 rcases (show fl=0\/fl=top/\fl≠0\/fl≠top/\fl≠0 by omega) with hf|⟨hf,hf2⟩|⟨hf,hf2⟩<;>rcases hhe with rfl|rfl|rfl<;>rcases hli with rfl|rfl|rfl
 all_goals
  (try have hf3: ¬fl=top:=by omega)
  left;rwa[Hg q ?_];unfold xT;clear q hr F;simp [*]
  try (repeat (first|rw [if_neg ↑6]|rw [if_pos ↑6]))
  try (intro z;exfalso;omega)
def pT:List Nat:=[111,120,117,100,115]
theorem Ci:(Str.ofString "oxuds").cps.toList=pT:=by decide+kernel
unseal pH FI in
theorem Bu (c:Nat):pH ⟨#[c]⟩ (Str.ofString "oxuds")=decide (c∈pT):=by
 unfold pH;rw [PySem.StrLaws.found_one,Ci]
def uc (s:Str):Prop:=s.length=36/\∀c∈s.cps.toList,c∈pT
instance (s:Str):Decidable (uc s):=by unfold uc;infer_instance
inductive me (K:Fg)(kX:Addr)(vs:List V)(H:Hp)(Q:VK)(E:XK):Prop
 |mk (a s C dx:_) (_:vs=[.ref a,.str s]) (_:H a=some (.ins C dx [])) (_:ut K C) (_:aZ K C "letters") (_:s.length<=1000) (_:JZ s) (_:(uc s->∀H',(∀b o,b≠a->H b=some o->H' b=some o)->H' a=some (.ins C dx [(Str.ofString "letters",.str s)])->Q .non H')) (_:(¬uc s->∀H',av H H'->E (.ref kX) none H'))
theorem KA {kX:Addr}{H:Hp}{a:Addr}{s:Str}{C dx:Addr}{Q:VK}{E:XK}(h1:H a=some (.ins C dx []))(h2:ut K C)(h3:aZ K C "letters")(h4:s.length<=1000)(h5:JZ s)
(g:uc s->∀H',(∀b o,b≠a->H b=some o->H' b=some o)->H' a=some (.ins C dx [(Str.ofString "letters",.str s)])->Q .non H')(b: ¬uc s->∀H',av H H'->E (.ref kX) none H'):me K kX [.ref a,.str s] H Q E:=⟨a,s,C,dx,rfl,h1,h2,h3,h4,h5,g,b⟩
theorem EE {eW:Addr}{t1 t2:Tok}(F:bw K "__init__" "Table.__init__" k6 f fd)(bj:mg "len"=none)(LX:mg "any"=none)(dJ:mg "TABLE_SIZE"=some (.int 36 t1))(Aj:mg "WORDS"=some (.str (Str.ofString "oxuds") t2))(jV:mg "NoRule"=some (.ref eW))
(jU:W.excIn K eW [.type "ValueError",.type "Exception",.type "BaseException",.type "object"] "ValueError.__new__"=true):aD P w K mg base (j4 P w) 1 f fd ["self","letters"] (me K eW):=by
 have je:aQ (.int 36) (.int 36 t1):=⟨_,rfl⟩;have K4:aQ (.str (Str.ofString "oxuds")) (.str (Str.ofString "oxuds") t2):=⟨_,rfl⟩;rwa[F.okX xX ↑4 ↑1]
 ·obtain ⟨a,s,C,dx,rfl,_⟩:=h;rfl
 obtain ⟨a,z,C,dx,rfl,ea,cl,na,hz,hA,q,qb⟩:=h;rwa[⟨_,(ag (aI (PW.pt (fU (ax (gq (K:=K) rfl hr) (aG (cI (K:=K) rfl) rfl bj PySem.boot_len ↑19) (bh rfl dJ je) (au _)) (eU (bZ (K:=K) rfl (aG (M6 (K:=K) rfl rfl) rfl LX boot_any (ae (bG rfl (aK (N':=["letter"]) (pk:=[none]) (by kernel_rfl)) (bF (K:=K) rfl (wv 1)) (λC s H ex=>(az (i:=0) (show List.Nodup (["letter"]:List Str) by decide+kernel) rfl ↑7)) (λC s H ex=>b5) (λC s H ex=>(bX (qa (K:=K) rfl) (wv 0) (bh rfl Aj K4) (by with_unfolding_all rfl)))) ac)))))) (af (eM bS rfl jU PySem.F.excBase_ValueError rfl jV (ae (jN (wq (wv 1) (wn wr))) ac))) aC) (af (cx (K:=K) rfl (wv 0) (wv 1)))),?_⟩];have hzl:z.length<=sizeLine:=bx ↑6;have rl:=rp hA
 have rj:∀H',av H H'-> ¬uc z->(reprText z).length<=sizeLine/\(Str.empty++reprText z).length<=sizeLine/\(Str.empty++reprText z++Str.ofString " is no table").length<=sizeLine/\(Str.empty++reprText z++Str.ofString " is no table").length<=sizeLine/\[V.str (Str.empty++reprText z++Str.ofString " is no table")].length<=sizeLine/\E (.ref eW) none H':=λH' sm n=>by
  have e2:(Str.ofString " is no table").length<=100:=by decide
  rwa[⟨bx ↑6,bx ?_,bx ?_,bx ?_,bx ↑17,qb n H' sm⟩]
  ·rw [strLen_append,show Str.empty.length=0 from rfl];omega
  ·rw [strLen_append,strLen_append,show Str.empty.length=0 from rfl];omega
  ·rw [strLen_append,strLen_append,show Str.empty.length=0 from rfl];omega
 ext;rwa[⟨hzl,?_⟩];by_cases h36:(z.length:Int)=36
 ·left;rwa[FV (λi ys H'=>H'=H/\ys=(z.cps.toList.take i).map λc=>V.bl (!decide (c∈pT))) (by show z.length<=sizeLine;exact hzl) (λi ys H' p=>by rw [p.2,List.length_map,List.length_take];exact Nat.min_le_left _ _) ⟨rfl,rfl⟩ (λi c ys H' hc p=> ?_) (λys H' p l n=> ?_)]
  ·obtain ⟨rfl,rfl⟩:=p;rwa[⟨cE,?_⟩]
   have hc':z.cps.toList[i]? =some c:=by rw [Array.getElem?_toList];exact hc
   rwa[⟨rfl,?_⟩];show _++[V.bl (!pH ⟨#[c]⟩ (Str.ofString "oxuds"))]=_;rw [Bu,List.take_add_one,hc',List.map_append];rfl
  ·obtain ⟨rfl,rfl⟩:=p
   have e1:upd H' l (.lst ((z.cps.toList.take z.cps.size).map λc=>V.bl (!decide (c∈pT)))) l=some (.lst (List.map V.bl (z.cps.toList.map λc=> !decide (c∈pT)))):=by
    rw [ak,List.take_of_length_le ↑17,List.map_map];rfl
   have s1:av H' (upd H' l (.lst ((z.cps.toList.take z.cps.size).map λc=>V.bl (!decide (c∈pT))))):= .upd n;generalize upd H' l (.lst ((z.cps.toList.take z.cps.size).map λc=>V.bl (!decide (c∈pT))))=H1 at e1 s1 ⊢;ext;rwa[OP (aS.of e1) ?_];rw [List.any_map];rwa[rZ (λhb=> ?_) (λhb=> ?_)]
   ·left;rwa[rj H1 s1 λk=> ?_];obtain ⟨c,hc,e⟩:=List.any_eq_true.mp hb;have:=decide_eq_true (k.2 c hc);simp only [Function.comp,id,this] at e;cases e
   ·have hk:uc z:=⟨by omega,λc hc=>by
     have:=List.any_eq_false.mp hb c hc
     simpa using this⟩
    left;rwa[cz (s1.get ea) cl na ↑2 ?_];rwa[q hk _ (λb o hb2 e=> ?_) ak];rw [ap hb2];exact s1 b o e
 ·left;exact rj H (.refl _) λk=>h36 (by rw [k.1];rfl)
def ue (li he up dn:Int):Int:=12*(li+1)+4*he+2*(if 0<up then 1 else 0)+(if 0<dn then 1 else 0)
theorem rF {li he up dn:Int}(s:lP li he up dn):0<=ue li he up dn/\ue li he up dn<36:=by
 have:=s.l0;have:=s.l1;have:=s.h0;have:=s.h1;unfold ue;split<;>split<;>omega
inductive vw (vs:List V)(H:Hp)(Q:VK)(_e:XK):Prop
 |mk (li he up dn:Int) (_:vs=[.int li,.int he,.int up,.int dn]) (_:Q (.int (ue li he up dn)) H)
theorem EH (F:bw K "place_in_table" "place_in_table" gf f fd):aD P w K mg base br 1 f fd ["light","here","up","down"] vw:=by
 rwa[F.ok qG ↑4 ↑1]
 ·obtain ⟨li,he,up,dn,rfl,_⟩:=h;rfl
 obtain ⟨li,he,up,dn,rfl,q⟩:=h;rwa[⟨_,(af (aq (aH ↑25 (aH ↑25 (aH ↑25 (aH lZ aa (aH ↑25 (wv 0) aa)) (aH lZ aa (wv 1))) (aH lZ aa (cL (ax iP (wv 2) aa (au _)) aa aa))) (cL (ax iP (wv 3) aa (au _)) aa aa)))),?_⟩];unfold ue at q;by_cases hu:0<up<;>by_cases hd:0<dn
 ·rw [if_pos hu,if_pos hd] at q;left;exact q
 ·rw [if_pos hu,if_neg hd] at q;left;exact q
 ·rw [if_neg hu,if_pos hd] at q;left;exact q
 ·rw [if_neg hu,if_neg hd] at q;left;exact q
inductive Rk where
 |sw|ho|ne
 |ba (top:Int)
 |ta (s:Str)
def Rk.ix:Rk->Nat
 | .sw=>0| .ho=>1| .ne=>2| .ba _=>3| .ta _=>4
def Os (s:Str)(k:Int):Str:=⟨#[s.cps.toList.getD k.toNat 0]⟩
def Rk.word (r:Rk)(fl li he up dn:Int):Str:=match r with
 | .sw=>iT li he up dn
 | .ho=>yx fl li he up dn
 | .ne=>MJ he up dn
 | .ba top=>xT top fl li he
 | .ta s=>Os s (ue li he up dn)
def Rk.fs:Rk->List (Str×V)
 | .ba top=>[(Str.ofString "top",.int top)]
 | .ta s=>[(Str.ofString "letters",.str s)]
 |_=>[]
def Rk.ok:Rk->Prop
 | .ba top=>0<top
 | .ta s=>uc s
 |_=>True
structure Ks where
 r:Addr
 h:Addr
 n:Addr
 s:Addr
 t:Addr
def Rk.cl (k:Ks):Rk->Addr
 | .sw=>k.r| .ho=>k.h| .ne=>k.n| .ba _=>k.s| .ta _=>k.t
structure MO (K:Fg)(C:Addr):Prop where
 i:gN K C
 n:aZ K C "top"
 l:aZ K C "letters"
inductive dU (K:Fg)(i:Nat)(vs:List V)(H:Hp)(Q:VK)(_e:XK):Prop
 |mk (rk:Rk) (a s C dx:Addr) (fl li he up dn:Int) (_:vs=[.ref a,.ref s]) (_:rk.ix=i) (_:rk.ok) (_:H a=some (.ins C dx rk.fs)) (_:MO K C) (_:aP K H s [.int fl,.int li,.int he,.int up,.int dn]) (_:lP li he up dn) (_:Q (.str (rk.word fl li he up dn)) H)
theorem EA (F:bw K "word" "Rule.word" oj f fd)(pe:bp P w K mg base 1 "swept" ["light","here","up","down"] mf):aD P w K mg base br 2 f fd ["self","seen"] (dU K 0):=by
 rwa[F.ok zu ↑4 ↑1]
 ·obtain ⟨rk,a,s,C,dx,fl,li,he,up,dn,rfl,_⟩:=h;rfl
 obtain ⟨rk,a,z,C,dx,fl,li,he,up,dn,rfl,ix,ok,ea,cl,hs,sn,q⟩:=h;cases rk<;>cases ix;rwa[⟨_,(af (aq (aj pe hr ↑2 rfl (ae ↑12 (ae ↑12 (ae ↑12 (ae ↑12 ac))))))),?_⟩];left;exact mf.mk _ _ _ _ rfl sn q
theorem zT (F:bw K "word" "Homing.word" ja f fd)(pe:bp P w K mg base 1 "swept" ["light","here","up","down"] mf):aD P w K mg base br 2 f fd ["self","seen"] (dU K 1):=by
 rwa[F.ok mF ↑4 ↑1]
 ·obtain ⟨rk,a,s,C,dx,fl,li,he,up,dn,rfl,_⟩:=h;rfl
 obtain ⟨rk,a,z,C,dx,fl,li,he,up,dn,rfl,ix,ok,ea,cl,hs,sn,q⟩:=h;cases rk<;>cases ix;rwa[⟨_,(ag (aA (i:=2) mF.nd rfl ↑7 (aj pe hr ↑2 rfl (ae ↑12 (ae ↑12 (ae ↑12 (ae ↑12 ac)))))) (af (aq (cL (PW.pt (dj (ax ↑10 (wv 2) ay (au _)) (cF (ax (gq (K:=K) rfl hr) ↑12 aa (au _))))) ay (wv 2))))),?_⟩];have q:Q (.str (yx fl li he up dn)) H:=q;unfold yx at q;left;rwa[mf.mk _ _ _ _ rfl sn ?_];by_cases h1:iT li he up dn=ws
 ·by_cases h2:fl=0
  ·rw [if_neg (λz=>z.2 h2)] at q;left;exact q
  ·rw [if_pos ⟨h1,h2⟩] at q;left;exact q
 ·rw [if_neg (λz=>h1 z.1)] at q;left;exact q
theorem ym (F:bw K "word" "Nearest.word" hX f fd)(sM:bp P w K mg base 1 "nearest" ["here","up","down"] nR):aD P w K mg base br 2 f fd ["self","seen"] (dU K 2):=by
 rwa[F.ok tZ ↑4 ↑1]
 ·obtain ⟨rk,a,s,C,dx,fl,li,he,up,dn,rfl,_⟩:=h;rfl
 obtain ⟨rk,a,z,C,dx,fl,li,he,up,dn,rfl,ix,ok,ea,cl,hs,sn,q⟩:=h;cases rk<;>cases ix;rwa[⟨_,(af (aq (aj sM hr ↑2 rfl (ae ↑12 (ae ↑12 (ae ↑12 ac)))))),?_⟩];left;exact nR.mk _ _ _ rfl sn.h0 sn.h1 sn.u0 sn.d0 q
theorem yk (F:bw K "word" "Shuttle.word" hG f fd)(pf:bp P w K mg base 1 "shuttled" ["top","floor","light","here"] kN):aD P w K mg base br 2 f fd ["self","seen"] (dU K 3):=by
 rwa[F.ok tV ↑4 ↑1]
 ·obtain ⟨rk,a,s,C,dx,fl,li,he,up,dn,rfl,_⟩:=h;rfl
 obtain ⟨rk,a,z,C,dx,fl,li,he,up,dn,rfl,ix,ok,ea,cl,hs,sn,q⟩:=h;cases rk<;>cases ix;rwa[⟨_,(af (aq (aj pf hr ↑2 rfl (ae ↑11 (ae ↑12 (ae ↑12 (ae ↑12 ac))))))),?_⟩];left;rwa[fc ea cl.i.cl cl.n rfl ?_];left;exact kN.mk _ _ _ _ rfl sn.l0 sn.l1 sn.h0 sn.h1 ok q
theorem BZ (F:bw K "word" "Table.word" kZ f fd)(fe:bp P w K mg base 1 "place_in_table" ["light","here","up","down"] vw):aD P w K mg base br 2 f fd ["self","seen"] (dU K 4):=by
 rwa[F.ok xW ↑4 ↑1]
 ·obtain ⟨rk,a,s,C,dx,fl,li,he,up,dn,rfl,_⟩:=h;rfl
 obtain ⟨rk,a,z,C,dx,fl,li,he,up,dn,rfl,ix,ok,ea,cl,hs,sn,q⟩:=h;cases rk<;>cases ix;rename_i t;rwa[⟨_,(af (aq (ao ↑3 ↑11 (aj fe hr ↑2 rfl (ae ↑12 (ae ↑12 (ae ↑12 (ae ↑12 ac))))) ↑5))),?_⟩];have ok:uc t:=ok;obtain ⟨n0,n1⟩:=rF sn;left;rwa[fc ea cl.i.cl cl.l rfl ?_];left;erw[vw.mk _ _ _ _ rfl ?_]
 have hl:t.cps.toList.length=36:=by rw [bc];exact ok.1
 rwa[vI (bx (by rw [ok.1];decide)) (c:=t.cps.toList.getD (ue li he up dn).toNat 0) ?_ q];unfold pW Co;rw [if_pos n0,if_pos (by rw [hl];exact n1)];show t.cps.toList[(ue li he up dn).toNat]? =_;rw [List.getElem?_eq_getElem ↑6,List.getD_eq_getElem?_getD,List.getElem?_eq_getElem ↑6];rfl
theorem Ba (rk:Rk):rk.fs.lookup (Str.ofString "word")=none:=by cases rk<;>rfl
structure Pc (K:Fg)(P:Program)(w:World)(mg:Str->Option Value)(base:Heap)(k:Ks):Prop where
 c:∀rk:Rk,MO K (rk.cl k)
 m:∀rk:Rk,iN P w K mg base br 2 "word" (rk.cl k) (dU K rk.ix)
unseal gz in
theorem Oi {C kX:Addr}{E:XK}{s:Str}{H:Hp}{Q:VK}(c:MO K C)(h4:s.length<=1000)(h5:JZ s)(g:uc s->∀a dx H',av H H'->H a=none->H' a=some (.ins C dx [(Str.ofString "letters",.str s)])->Q (.ref a) H')(b: ¬uc s->∀H',av H H'->E (.ref kX) none H'):gz C (me K kX) E [.str s] H Q:=by
 show ∀a dx,H a=none->H dx=none->dx≠a->me K kX (.ref a::([.str s]++[])) (upd (upd H dx (.own a)) a (.ins C dx [])) (λv H2=>v= .non/\Q (.ref a) H2) E;intro a dx h1 h2 h3;rwa[KA ak c.i.cl c.l h4 h5 (λok H' hH ea=>⟨rfl,g ok a dx H' (λb' o e=> ?_) h1 ea⟩) (λno H' sm=>b no H' ((eg h1 h2).trans sm))];exact hH b' o (λz=>by rw [z,h1] at e;cases e) (eg h1 h2 b' o e)
inductive DG (K:Fg)(vs:List V)(H:Hp)(Q:VK)(_e:XK):Prop
 |mk (a t C dx:_) (_:vs=[.ref a,.int t]) (_:H a=some (.ins C dx [])) (_:ut K C) (_:aZ K C "top") (_:Q .non (upd H a (.ins C dx [(Str.ofString "top",.int t)])))
theorem EG (F:bw K "__init__" "Shuttle.__init__" hI f fd):aD P w K mg base br 1 f fd ["self","top"] (DG K):=by
 rwa[F.ok tW ↑4 ↑1]
 ·obtain ⟨a,t,C,dx,rfl,_⟩:=h;rfl
 obtain ⟨a,t,C,dx,rfl,ea,cl,na,q⟩:=h;erw[⟨_,(af (cx (K:=K) rfl (wv 0) (wv 1))),?_⟩];exact cz ea cl na ↑2 q
unseal gz in
theorem Oj {C:Addr}{E:XK}{t:Int}{H:Hp}{Q:VK}(c:MO K C)(g:∀a dx H',av H H'->H a=none->H' a=some (.ins C dx [(Str.ofString "top",.int t)])->Q (.ref a) H'):gz C (DG K) E [.int t] H Q:=by
 show ∀a dx,H a=none->H dx=none->dx≠a->DG K (.ref a::([.int t]++[])) (upd (upd H dx (.own a)) a (.ins C dx [])) (λv H2=>v= .non/\Q (.ref a) H2) E;intro a dx h1 h2 h3;rwa[DG.mk _ _ _ _ rfl ak c.i.cl c.n ⟨rfl,g a dx _ ?_ h1 ak⟩];intro b u z;rw [ap (λe=>by rw [e,h1] at z;cases z)];exact eg h1 h2 b u z
theorem Ee {j8 dz cr b8 eO:Addr}(mRule:iN P w K mg base br 2 "word" j8 (dU K 0))(mHoming:iN P w K mg base br 2 "word" dz (dU K 1))(mNearest:iN P w K mg base br 2 "word" cr (dU K 2))(mShuttle:iN P w K mg base br 2 "word" b8 (dU K 3))(mTable:iN P w K mg base br 2 "word" eO (dU K 4))(iRule:gN K j8)(tRule:aZ K j8 "top")(lRule:aZ K j8 "letters")(iHoming:gN K dz)(tHoming:aZ K dz "top")(lHoming:aZ K dz "letters")(iNearest:gN K cr)(tNearest:aZ K cr "top")(lNearest:aZ K cr "letters")(iShuttle:gN K b8)(tShuttle:aZ K b8 "top")(lShuttle:aZ K b8 "letters")(iTable:gN K eO)(tTable:aZ K eO "top")(lTable:aZ K eO "letters"):Pc K P w mg base ⟨j8,dz,cr,b8,eO⟩ where
 c:=λrk=>by
  cases rk with
  |sw=>exact ⟨iRule,tRule,lRule⟩
  |ho=>exact ⟨iHoming,tHoming,lHoming⟩
  |ne=>exact ⟨iNearest,tNearest,lNearest⟩
  |ba top=>exact ⟨iShuttle,tShuttle,lShuttle⟩
  |ta s=>exact ⟨iTable,tTable,lTable⟩
 m:=λrk=>by
  cases rk with
  |sw=>exact mRule
  |ho=>exact mHoming
  |ne=>exact mNearest
  |ba top=>exact mShuttle
  |ta s=>exact mTable
theorem Iz {s:Str}(h:uc s):JZ s:=λc hc=>by
 have:=h.2 c hc;simp only [pT,List.mem_cons,List.not_mem_nil,or_false] at this;omega
abbrev Kw:Str:=Str.ofString "sweep"
abbrev NJ:Str:=Str.ofString "homing"
abbrev NG:Str:=Str.ofString "nearest"
abbrev NA:Str:=Str.ofString "shuttle"
abbrev tQ:Str:=Str.ofString "table "
def fC (s:Str)(fl:Int):Option Rk:=if s=Kw then some .sw else if s=NJ then some .ho else if s=NG then some .ne else if s=NA then some (.ba (fl - 1)) else
 if Txt.slice s none (some 6)=tQ/\uc (Txt.slice s (some 6) none) then some (.ta (Txt.slice s (some 6) none)) else none
theorem mJ {s:Str}{fl:Int}(h:2<=fl){rk:Rk}(e:fC s fl=some rk):rk.ok:=by
 unfold fC at e;split at e
 ·cases e;trivial
 split at e
 ·cases e;trivial
 split at e
 ·cases e;trivial
 split at e
 ·cases e;show 0<fl - 1;omega
 split at e
 ·rename_i h;cases e;exact h.2
 ·cases e
theorem Bw {s:Str}:vp s tQ=decide (Txt.slice s none (some 6)=tQ):=by
 have c:=mv (x:=s) (n:=6) ↑2
 have hl:tQ.cps.toList.length=6:=by decide
 unfold vp Builtin.Str.subAt
 have e:(decide (0+tQ.length<=s.length)&&(s.cps.extract 0 (0+tQ.length)==tQ.cps))=decide (s.cps.toList.take 6=tQ.cps.toList):=by
  rw [Bool.eq_iff_iff,Bool.and_eq_true,decide_eq_true_eq,decide_eq_true_eq,beq_iff_eq]
  have x1:(s.cps.extract 0 (0+tQ.length)).toList=s.cps.toList.take 6:=by
   show (s.cps.extract 0 6).toList=_;simp
  constructor
  ·rintro ⟨_,h⟩;rw [<-x1,h]
  ·intro h;rwa[⟨?_,Array.toList_inj.mp (by rw [x1,h])⟩];have:=congrArg List.length h;rw [List.length_take,hl,bc] at this;show 0+6<=s.length;omega
 rw [e];rwa[decide_eq_decide.mpr ⟨λh=>vo (by rw [c];exact h),λh=> ?_⟩];have:=congrArg (λz:Str=>z.cps.toList) h;rw [<-this];exact c.symm
def tG (s:Str):Prop:=s.length<=1000/\JZ s
theorem tG.from {s:Str}(h:tG s){n:Int}(n0:0<=n):tG (Txt.slice s (some n) none):=by
 have c:=gW (x:=s) n0;rwa[⟨?_,λx hx=> ?_⟩]
 ·rw [<-bc,c,List.length_drop,bc];have:=h.1;omega
 ·rw [c] at hx;exact h.2 x (List.mem_of_mem_drop hx)
def iV (K:Fg)(k:Ks)(kX:Addr):Sp:=λvs H Q E=>∃s fl,vs=[.str s,.int fl]/\tG s/\2<=fl/\(∀rk,fC s fl=some rk->∀a dx H',av H H'->H a=none->H' a=some (.ins (rk.cl k) dx rk.fs)->Q (.ref a) H')/\(fC s fl=none->∀H',av H H'->E (.ref kX) none H')
theorem wc {k:Ks}{kX:Addr}{H:Hp}{s:Str}{fl:Int}{Q:VK}{E:XK}(h1:tG s)(h2:2<=fl)(g:∀rk,fC s fl=some rk->∀a dx H',av H H'->H a=none->H' a=some (.ins (rk.cl k) dx rk.fs)->Q (.ref a) H')(b:fC s fl=none->∀H',av H H'->E (.ref kX) none H'):iV K k kX [.str s,.int fl] H Q E:=⟨s,fl,rfl,h1,h2,g,b⟩
theorem B1 {k:Ks}{eW:Addr}{t1:Tok}(F:bw K "rule_of" "rule_of" vU f fd)(bj:mg "len"=none)(cS:MO K k.s)(cT:MO K k.t)(Fy:mg "Rule"=some (.ref k.r))(wU:mg "Homing"=some (.ref k.h))(r9:mg "Nearest"=some (.ref k.n))(E9:JT K k.r)(wB:JT K k.h)(rL:JT K k.n)(rP:jJ P w K mg base br 1 "Shuttle" k.s (DG K))(Aa:jJ P w K mg base (j4 P w) 1 "Table" k.t (me K eW))(fo:mg "TABLE_START"=some (.str (Str.ofString "table ") t1))(jV:mg "NoRule"=some (.ref eW))
(jU:W.excIn K eW [.type "ValueError",.type "Exception",.type "BaseException",.type "object"] "ValueError.__new__"=true):aD P w K mg base (j4 P w) 3 f fd ["text","floors"] (iV K k eW):=by
 have mK:aQ (.str (Str.ofString "table ")) (.str (Str.ofString "table ") t1):=⟨_,rfl⟩;rwa[F.okX DX ↑4 ↑1]
 ·obtain ⟨s,fl,rfl,_⟩:=h;rfl
 obtain ⟨z,fl,rfl,ht,hf,q,qb⟩:=h;rwa[⟨_,(ag (aI (ax ↑10 (wv 0) ay (au _)) (af (aq (zO E9 rfl Fy))) aC) (ag (aI (ax ↑10 (wv 0) ay (au _)) (af (aq (zO wB rfl wU))) aC) (ag (aI (ax ↑10 (wv 0) ay (au _)) (af (aq (zO rL rfl r9))) aC) (ag (aI (ax ↑10 (wv 0) ay (au _)) (af (aq (gP rP jh hr ↑2 rfl (ae (aH eK (wv 1) aa) ac)))) aC) (ag (aI (bZ (K:=K) rfl (dY (K:=K) rfl PySem.F.plainAttrs_str PySem.F.slot_str_startswith PySem.F.type_str_startswith Df (wv 0) (ae (bh rfl fo mK) ac))) (af (aq (gP Aa bS.passes hr ↑2 rfl (ae (jf (AD (K:=K) rfl) (wv 0) (lV (aG (cI (K:=K) rfl) rfl bj PySem.boot_len (ae (bh rfl fo mK) ac))) mM) ac)))) aC) (af (eM bS rfl jU PySem.F.excBase_ValueError rfl jV (ae (jN (wq (wv 0) (wn wr))) ac)))))))),?_⟩];have hz:z.length<=sizeLine:=bx (by have:=ht.1;omega);unfold fC at q qb;by_cases h1:z=Kw
 ·rw [if_pos h1] at q;left;exact LU (q _ rfl)
 rw [if_neg h1] at q qb;by_cases h2:z=NJ
 ·rw [if_pos h2] at q;left;exact LU (q _ rfl)
 rw [if_neg h2] at q qb;by_cases h3:z=NG
 ·rw [if_pos h3] at q;left;exact LU (q _ rfl)
 rw [if_neg h3] at q qb;by_cases h4:z=NA
 ·rw [if_pos h4] at q;left;exact Oj cS (q _ rfl)
 rw [if_neg h4] at q qb;have hst:=Bw (s:=z);left;erw[⟨rfl,?_⟩];rw [hst];rwa[oR (λh5=> ?_) (λh5=> ?_)]
 ·left;erw[⟨bx ↑2,?_⟩];erw[⟨hz,?_⟩];have tf:=ht.from (n:=6) ↑2;rwa[Oi cT tf.1 tf.2 (λok a dx H' sm na ea=> ?_) (λno H' sm=> ?_)]
  ·rw [if_pos ⟨h5,ok⟩] at q;exact q _ rfl a dx H' sm na ea
  ·rw [if_neg (λy=>no y.2)] at qb;exact qb rfl H' sm
 ·rw [if_neg (λy=>h5 y.1)] at qb;have rl:=rp ht.2;have zl:=ht.1
  have e2:(Str.ofString " is no rule").length<=100:=by decide
  left;rwa[⟨bx ↑6,bx ?_,bx ?_,bx ?_,bx ↑17,qb rfl H (.refl _)⟩]
  ·rw [strLen_append,show Str.empty.length=0 from rfl];omega
  ·rw [strLen_append,strLen_append,show Str.empty.length=0 from rfl];omega
  ·rw [strLen_append,strLen_append,show Str.empty.length=0 from rfl];omega
seal iV
def Kn (k:Int):List V:=[.int 1,.int (k / 12 - 1),.int (k / 4% 3),.int (k / 2% 2),.int (k% 2)]
theorem nK {k:Int}(h0:0<=k)(h1:k<36):lP (k / 12 - 1) (k / 4% 3) (k / 2% 2) (k% 2):=⟨by omega,by omega,by omega,by omega,by omega,by omega⟩
inductive qv (K:Fg)(vs:List V)(H:Hp)(Q:VK)(_e:XK):Prop
 |mk (k:Int) (_:vs=[.int k]) (_:∀r H',av H H'->H r=none->H' r=some (.tup (Kn k))->Q (.ref r) H')
theorem B0 (F:bw K "seen_at" "seen_at" vT f fd):aD P w K mg base br 1 f fd ["place"] (qv K):=by
 rwa[F.ok DW ↑4 ↑1]
 ·obtain ⟨k,rfl,_⟩:=h;rfl
 obtain ⟨k,rfl,q⟩:=h;rwa[⟨_,(af (aq (bt (ae aa (ae (aH eK (aH vk (wv 0) aa) aa) (ae (aH iG (aH vk (wv 0) aa) aa) (ae (aH iG (aH vk (wv 0) aa) aa) (ae (aH iG (wv 0) aa) ac)))))))),?_⟩];left;rwa[⟨by decide,?_⟩];left;rwa[⟨by decide,?_⟩];left;rwa[⟨by decide,?_⟩];left;exact cf KH λr H1 s1 n1 e1=>q r H1 s1 n1 e1
theorem uP {z:Str}(hz:z.length=0){ts:List Str}(h:∀t∈ts,t.length=1):(Builtin.Str.glued z ts).length<=ts.length/\ts.toArray.foldl (· + ·.length+z.length) 0<=ts.length:=by
 have go:∀(l:List Str) (acc:Array Nat),(∀t∈l,t.length=1)->(l.foldl (λacc p=>acc++z.cps++p.cps) acc).size=acc.size+l.length:=by
  intro l
  induction l with
  |nil=>intro acc _;simp
  |cons p l ih=>
   intro acc hl;have e1:p.cps.size=1:=hl p List.mem_cons_self;have e2:z.cps.size=0:=hz;rw [List.foldl_cons,ih _ λt ht=>hl t (List.mem_cons_of_mem _ ht),Array.size_append,Array.size_append,e1,e2,List.length_cons];omega
 have go2:∀(l:List Str) (n:Nat),(∀t∈l,t.length=1)->l.foldl (λx1 x2=>x1+x2.length+z.length) n=n+l.length:=by
  intro l
  induction l with
  |nil=>intro n _;simp
  |cons p l ih=>
   intro n hl;rw [List.foldl_cons,ih _ λt ht=>hl t (List.mem_cons_of_mem _ ht),hl p List.mem_cons_self,hz,List.length_cons];omega
 rwa[⟨?_,?_⟩]
 ·cases ts with
  |nil=>exact Nat.le_refl _
  |cons p l=>
   show (l.foldl (λacc p=>acc++z.cps++p.cps) p.cps).size<=_;rw [go l _ λt ht=>h t (List.mem_cons_of_mem _ ht)];have e1:p.cps.size=1:=h p List.mem_cons_self;rw [e1,List.length_cons];omega
 ·rw [List.foldl_toArray,go2 ts 0 h];omega
def isL (x:Str):Prop:=x.length=1/\∀c∈x.cps.toList,c∈pT
theorem A6 {x:Str}(h:x=wo\/x=wx\/x=wu\/x=wd\/x=ws):isL x:=by
 rcases h with rfl|rfl|rfl|rfl|rfl<;>exact ⟨by decide,by decide⟩
theorem AH (li he up dn:Int):isL (iT li he up dn):=A6 (by unfold iT;repeat (first|split|simp))
theorem LQ (he up dn:Int):isL (MJ he up dn):=A6 (by unfold MJ;repeat (first|split|simp))
theorem KM (top fl li he:Int):isL (xT top fl li he):=A6 (by unfold xT;repeat (first|split|simp))
theorem Mj (fl li he up dn:Int):isL (yx fl li he up dn):=by
 unfold yx;split
 ·exact A6 (.inr (.inr (.inr (.inl rfl))))
 ·exact AH ..
theorem Rk.isL {rk:Rk}(h:rk.ok){fl li he up dn:Int}(sn:lP li he up dn):My.isL (rk.word fl li he up dn):=by
 cases rk with
 |sw=>exact AH ..
 |ho=>exact Mj ..
 |ne=>exact LQ ..
 |ba top=>exact KM ..
 |ta s=>
  have h:uc s:=h;obtain ⟨n0,n1⟩:=rF sn
  have hl:s.cps.toList.length=36:=by rw [bc];exact h.1
  rwa[⟨rfl,λc hc=> ?_⟩];have hc:c∈[s.cps.toList.getD (ue li he up dn).toNat 0]:=hc;rw [List.mem_singleton.mp hc,List.getD_eq_getElem?_getD,List.getElem?_eq_getElem (show (ue li he up dn).toNat<s.cps.toList.length by omega)];exact h.2 _ (List.getElem_mem _)
def Rk.at (rk:Rk)(k:Int):Str:=rk.word 1 (k / 12 - 1) (k / 4% 3) (k / 2% 2) (k% 2)
def Rk.tbl (rk:Rk):Str:=Builtin.Str.glued (Str.ofString "") ((List.range 36).map λ(k:Nat)=>rk.at k)
inductive DR (K:Fg)(k:Ks)(vs:List V)(H:Hp)(Q:VK)(_e:XK):Prop
 |mk (rk:Rk) (a dx:Addr) (_:vs=[.ref a]) (_:rk.ok) (_:H a=some (.ins (rk.cl k) dx rk.fs)) (_:∀H',av H H'->Q (.str rk.tbl) H')
theorem LN {k:Ks}{t1:Tok}(F:bw K "as_table" "as_table" rn f fd)(bg:mg "range"=none)(R:Pc K P w mg base k)(dJ:mg "TABLE_SIZE"=some (.int 36 t1))(sL:bp P w K mg base 1 "seen_at" ["place"] (qv K)):aD P w K mg base br 3 f fd ["rule"] (DR K k):=by
 have je:aQ (.int 36) (.int 36 t1):=⟨_,rfl⟩;rwa[F.ok BQ ↑4 ↑1]
 ·obtain ⟨rk,a,dx,rfl,_⟩:=h;rfl
 obtain ⟨rk,a,dx,rfl,ok,ea,q⟩:=h;rwa[⟨_,(af (aq (dY (K:=K) rfl PySem.F.plainAttrs_str PySem.F.slot_str_join PySem.F.type_str_join (Dg (K:=K) rfl) ay (ae (bG rfl (aK (N':=["place","rule"]) (pk:=[none,some 0]) (by kernel_rfl)) (cy rfl bg (ae (bh rfl dJ je) ac)) (λC s H ex=>(az (i:=0) (show List.Nodup (["place","rule"]:List Str) by decide+kernel) rfl ↑7)) (λC s H ex=>b5) (λC s H ex=>(Da (P:=P) (w:=w) (K:=K) (mg:=mg) (base:=base) (n:=2) rfl rfl rfl rfl rfl jh hr ↑2 (wv 1) (ae (aj sL hr ↑2 rfl (ae (wv 0) ac)) ac)))) ac)))),?_⟩];left;erw[⟨rfl,?_⟩];rwa[⟨⟨by decide,by decide⟩,?_⟩];rwa[fL (λi ys H'=>av H H'/\ys=((List.range i).map λ(k:Nat)=>rk.at k).map V.str) (bx ↑2) (λi ys H' p=>by rw [p.2];simp) ⟨.refl _,rfl⟩ (λi ys H' hi p=> ?_) (λys H' p l n=> ?_)]
 ·obtain ⟨sm,rfl⟩:=p;erw[⟨cE,?_⟩];erw[ij (sm.get ea) (Ba rk) (R.m rk) ?_];erw[qv.mk _ rfl λz H1 s1 n1 e1=> ?_]
  have hi':(0+(i:Int))<36:=by omega
  rwa[dU.mk _ _ _ _ _ _ _ _ _ _ rfl rfl ok ((sm.trans s1).get ea) (R.c rk) (aP.of e1) (nK ↑6 hi') ?_];rwa[⟨sm.trans s1,?_⟩];rw [List.range_succ,List.map_append,List.map_append];show _++[V.str (rk.at (0+(i:Int)))]=_;rw [Int.zero_add];rfl
 ·obtain ⟨sm,rfl⟩:=p
  obtain ⟨g1,g2⟩:=uP (z:=Str.ofString "") (by decide+kernel) (ts:=(List.range 36).map λ(k:Nat)=>rk.at k) (λt ht=>by
   obtain ⟨k,hk,rfl⟩:=List.mem_map.mp ht;have:=List.mem_range.mp hk
   exact (Rk.isL ok (nK ↑6 ↑6)).1)
  simp only [List.length_map,List.length_range] at g1 g2;ext;exact Fo (ts:=(List.range 36).map λ(k:Nat)=>rk.at k) (aS.of ak) (bx ↑6) (bx ↑6) (q _ (sm.trans (.upd n)))
theorem yy {z:Str}(hz:z.cps.toList=[])(ts:List Str):(Builtin.Str.glued z ts).cps.toList=(ts.map λt=>t.cps.toList).flatten:=by
 have go:∀(l:List Str) (acc:Array Nat),(l.foldl (λacc p=>acc++z.cps++p.cps) acc).toList=acc.toList++(l.map λt=>t.cps.toList).flatten:=by
  intro l
  induction l with
  |nil=>intro acc;simp
  |cons p l ih=>intro acc;rw [List.foldl_cons,ih];simp [hz]
 unfold Builtin.Str.glued;show ((ts.drop 1).foldl (λacc p=>acc++z.cps++p.cps) (ts.headD Str.empty).cps).toList=_;rw [go]
 cases ts with
 |nil=>rfl
 |cons t ts=>rfl
def OV (ts:List Str):Prop:=ts.length=36/\∀x∈ts,isL x
theorem uR:∀(ts:List Str),(∀x∈ts,isL x)->((ts.map λt=>t.cps.toList).flatten).length=ts.length
 |[],_=>rfl
 |t::ts,h=>by
  have h1:=(h t (.head _)).1;have h2:=uR ts λx hx=>h x (.tail _ hx);rw [List.map_cons,List.flatten_cons,List.length_append,h2,bc,h1,List.length_cons];omega
theorem AZ {ts:List Str}(h:OV ts):uc (Builtin.Str.glued (Str.ofString "") ts):=by
 have hc:=yy (z:=Str.ofString "") (by decide+kernel) ts;rwa[⟨?_,λc hx=> ?_⟩]
 ·rw [<-bc,hc,uR ts h.2,h.1]
 ·rw [hc] at hx;obtain ⟨l,hl,hx⟩:=List.mem_flatten.mp hx;obtain ⟨x,hx',rfl⟩:=List.mem_map.mp hl;exact (h.2 x hx').2 c hx
theorem Fk {i:Int}(h0:0<=i)(h1:i<5):∃c,pW (Str.ofString "oxuds").cps.toList i=some c/\isL ⟨#[c]⟩:=by
 rcases (show i=0\/i=1\/i=2\/i=3\/i=4 by omega) with rfl|rfl|rfl|rfl|rfl<;>exact ⟨_,rfl,rfl,by decide⟩
theorem Ds {rk:Rk}(h:rk.ok):OV ((List.range 36).map λ(k:Nat)=>rk.at k):=⟨by simp,λx hx=>by
 obtain ⟨k,hk,rfl⟩:=List.mem_map.mp hx;have:=List.mem_range.mp hk
 exact Rk.isL h (nK ↑6 ↑6)⟩
theorem Kq {rk:Rk}(h:rk.ok):uc rk.tbl:=AZ (Ds h)
theorem Qx {x:Str}(h:isL x):x∈eR:=by
 obtain ⟨h1,h2⟩:=h
 have hl:x.cps.toList.length=1:=by rw [bc];exact h1
 obtain ⟨⟨l⟩⟩:=x
 match l,hl with
 |[c],_=>
  have hc:c∈pT:=h2 c ↑17;unfold pT at hc;simp only [List.mem_cons,List.not_mem_nil,or_false] at hc
  rcases hc with rfl|rfl|rfl|rfl|rfl
  ·exact (show (⟨#[111]⟩:Str)=Str.ofString "o" by decide+kernel)▸ .head _
  ·exact (show (⟨#[120]⟩:Str)=Str.ofString "x" by decide+kernel)▸ .tail _ (.head _)
  ·exact (show (⟨#[117]⟩:Str)=Str.ofString "u" by decide+kernel)▸ .tail _ (.tail _ (.head _))
  ·exact (show (⟨#[100]⟩:Str)=Str.ofString "d" by decide+kernel)▸ .tail _ (.tail _ (.tail _ (.head _)))
  ·exact (show (⟨#[115]⟩:Str)=Str.ofString "s" by decide+kernel)▸ .tail _ (.tail _ (.tail _ (.tail _ (.head _))))
theorem K0 {k:Ks}(R:Pc K P w mg base k){H:Hp}{a dx:Addr}{rk:Rk}(ok:rk.ok)(e:H a=some (.ins (rk.cl k) dx rk.fs)):CY P w K mg base H a rk.word:=
 ⟨rk.cl k,dx,rk.fs,dU K rk.ix,e,Ba rk,R.m rk,λfl li he up dn s=>Qx (Rk.isL ok s),λH' sa fl li he up dn Q E h1 h2 h3 h4=>dU.mk _ _ _ _ _ _ _ _ _ _ rfl rfl ok h1 (R.c rk) h2 h3 h4⟩
def yN (x:Str):Prop:=x.length<=1000/\JZ x
instance (x:Str):Decidable (yN x):=by unfold yN JZ;infer_instance
def iC.d (l:iC):D:= .tup [.int l.start,.int l.room,.int l.turns,.str l.kind]
def A7 (fl:Int)(ls:List iC)(lo:Int)(so:Str):List D:=[.int fl,.tup (ls.map iC.d),.int lo,.str so]
def xo (K:Fg)(H:Hp)(t:V)(fl:Int)(ls:List iC)(lo:Int)(so:Str):Prop:=∃p xs,t= .ref p/\H p=some (.tup xs)/\aN K H xs (A7 fl ls lo so)
def Go (K:Fg)(H:Hp)(a:Addr)(ds:List D):Prop:=cm K H (.ref a) (.lst ds)\/cm K H (.ref a) (.tup ds)
def nU (K:Fg)(c:Addr):Sp:=λvs H Q E=>∃fl a lo so ls,vs=[.int fl,.ref a,.int lo,.str so]/\Go K H a (ls.map iC.d)/\ls.length<=700/\yN so/\
 (GL fl ls lo so=true->∀t H',av H H'->xo K H' t fl ls lo so->Q t H')/\(GL fl ls lo so=false->∀H',av H H'->E (.ref c) none H')
theorem On {c:Addr}{H:Hp}{fl:Int}{a:Addr}{lo:Int}{so:Str}{ls:List iC}{Q:VK}{E:XK}(h1:Go K H a (ls.map iC.d))(h3:ls.length<=700)(h4:yN so)
(g:GL fl ls lo so=true->∀t H',av H H'->xo K H' t fl ls lo so->Q t H')(b:GL fl ls lo so=false->∀H',av H H'->E (.ref c) none H'):nU K c [.int fl,.ref a,.int lo,.str so] H Q E:=
 ⟨fl,a,lo,so,ls,rfl,h1,h3,h4,g,b⟩
seal nU
inductive zm (K:Fg)(vs:List V)(H:Hp)(Q:VK)(_e:XK):Prop
 |mk (fl:_) (l:iC) (_:vs=[.int fl,.int l.start,.int l.room,.int l.turns,.str l.kind]) (_:Q (.bl (l.ok fl)) H)
theorem Gg {a x:Str}:(a==x)=decide (x=a):=by
 by_cases h:x=a
 ·rw [decide_eq_true h,h,beq_self_eq_true]
 ·rw [decide_eq_false h,beq_eq_false_iff_ne.mpr (Ne.symm h)]
theorem Ra {x a b c:Str}:uN (.str x) [.str a,.str b,.str c]=decide (x=a\/x=b\/x=c):=by
 show ((a==x)||((b==x)||((c==x)||false)))=_;rw [Gg,Gg,Gg,Bool.or_false,<-Bool.decide_or,<-Bool.decide_or]
theorem Rb {x a b:Str}:uN (.str x) [.str a,.str b]=decide (x=a\/x=b):=by
 show ((a==x)||((b==x)||false))=_;rw [Gg,Gg,Bool.or_false,<-Bool.decide_or]
theorem Iu {kDOOR_KINDS:Addr}{t1 t2:Tok}(F:bw K "fits_lift" "fits_lift" oA f fd)(lE:mg "MOST_ROOM"=some (.int 6 t1))(jo:mg "MOST_TURNS"=some (.int 4 t2))(jr:mg "DOOR_KINDS"=some (.ref kDOOR_KINDS))(jI:∀H:Hp,aP K H kDOOR_KINDS [.str (Str.ofString "plain"),.str (Str.ofString "hasty"),.str (Str.ofString "slow")]):aD P w K mg base br 1 f fd ["floors","start","room","turns","kind"] (zm K):=by
 have zM:aQ (.int 6) (.int 6 t1):=⟨_,rfl⟩;have yf:aQ (.int 4) (.int 4 t2):=⟨_,rfl⟩;rwa[F.ok zz ↑4 ↑1]
 ·obtain ⟨fl,l,rfl,_⟩:=h;rfl
 obtain ⟨fl,⟨st,ro,tu,ki⟩,rfl,q⟩:=h;have T:=jI H
 have no: ¬(0<=st/\st<fl/\1<=ro/\ro<=6/\1<=tu/\tu<=4/\(ki=Str.ofString "plain"\/ki=Str.ofString "hasty"\/ki=Str.ofString "slow"))->Q (.bl false) H:=λz=>by
  rw [show iC.ok fl ⟨st,ro,tu,ki⟩=false from decide_eq_false z] at q;exact q
 rwa[⟨_,(ag (aI (cW (gp l8 w_lt aa (wv 1) (wv 0))) (af (aq fD)) aC) (af (aq (gQ (qo l8 l8 aa (wv 2) (bh rfl lE zM)) (gQ (qo l8 l8 aa (wv 3) (bh rfl jo yf)) (ii (bX (Bq (K:=K) rfl) (wv 4) (mQ rfl jr) (by with_unfolding_all rfl)))))))),?_⟩];by_cases h1:0<=st
 ·by_cases h2:st<fl
  ·by_cases h3:1<=ro
   ·by_cases h4:ro<=6
    ·by_cases h5:1<=tu
     ·by_cases h6:tu<=4
      ·left;rwa[KP T rfl rfl ?_];rw [Ra];have e:iC.ok fl ⟨st,ro,tu,ki⟩=decide (ki=Str.ofString "plain"\/ki=Str.ofString "hasty"\/ki=Str.ofString "slow"):=decide_eq_decide.mpr ⟨λz=>z.2.2.2.2.2.2,λz=>⟨h1,h2,h3,h4,h5,h6,z⟩⟩;rw [e] at q;exact q
      ·left;exact no λz=>h6 z.2.2.2.2.2.1
     ·left;exact no λz=>h5 z.2.2.2.2.1
    ·left;exact no λz=>h4 z.2.2.2.1
   ·left;exact no λz=>h3 z.2.2.1
  ·left;exact no λz=>h2 z.2.1
 ·left;exact no λz=>h1 z.1
inductive zj (K:Fg)(vs:List V)(H:Hp)(Q:VK)(_e:XK):Prop
 |mk (fl a:_) (ls:List iC) (_:vs=[.int fl,.ref a]) (_:Go K H a (ls.map iC.d)) (_:ls.length<=700) (_:∀H',av H H'->Q (.bl (decide (1<=ls.length/\ls.length<=3)&&ls.all (iC.ok fl))) H')
theorem Go.out {H:Hp}{a:Addr}{ds:List D}(h:Go K H a ds):∃xs,(aS K H a xs\/aP K H a xs)/\aN K H xs ds:=by
 rcases h with h|h
 ·obtain ⟨_,xs,e,h1,h2⟩:=h.outL;cases e;exact ⟨xs,.inl h1,h2⟩
 ·obtain ⟨_,xs,e,h1,h2⟩:=h.outT;cases e;exact ⟨xs,.inr h1,h2⟩
theorem Ir {t1:Tok}(F:bw K "fits_lifts" "fits_lifts" lu f fd)(bj:mg "len"=none)(Cg:mg "all"=none)(jp:mg "MOST_LIFTS"=some (.int 3 t1))(lJ:bp P w K mg base 1 "fits_lift" ["floors","start","room","turns","kind"] (zm K)):aD P w K mg base br 2 f fd ["floors","lifts"] (zj K):=by
 have yg:aQ (.int 3) (.int 3 t1):=⟨_,rfl⟩;rwa[F.ok ya ↑4 ↑1]
 ·obtain ⟨fl,a,ls,rfl,_⟩:=h;rfl
 obtain ⟨fl,a,ls,rfl,hD,hl,q⟩:=h;obtain ⟨xs,hq,dx⟩:=hD.out;have hx:=aL dx;rwa[⟨_,(ag (aI (cW (gp l8 l8 aa (aG (cI (K:=K) rfl) rfl bj PySem.boot_len ↑19) (bh rfl jp yg))) (af (aq fD)) aC) (af (aq (aG (Ju (K:=K) rfl rfl) rfl Cg boot_all (ae (bG rfl (aK (N':=["start","room","turns","kind","floors"]) (pk:=[none,none,none,none,some 0]) (by kernel_rfl)) (bF (K:=K) rfl (wv 1)) (λC s H ex=>(dE (K:=K) (n:=4) rfl rfl (aE (az (i:=0) (show List.Nodup (["start","room","turns","kind","floors"]:List Str) by decide+kernel) rfl ↑7) (aE (az (i:=1) (show List.Nodup (["start","room","turns","kind","floors"]:List Str) by decide+kernel) rfl ↑7) (aE (az (i:=2) (show List.Nodup (["start","room","turns","kind","floors"]:List Str) by decide+kernel) rfl ↑7) (aE (az (i:=3) (show List.Nodup (["start","room","turns","kind","floors"]:List Str) by decide+kernel) rfl ↑7) cA)))))) (λC s H ex=>b5) (λC s H ex=>(aj lJ hr ↑2 rfl (ae (wv 4) (ae (wv 0) (ae (wv 1) (ae (wv 2) (ae (wv 3) ac)))))))) ac))))),?_⟩]
 have no: ¬(1<=ls.length/\ls.length<=3)->Q (.bl false) H:=λz=>by
  have:=q H (.refl _);rw [decide_eq_false z] at this;exact this
 ext;rwa[AO hq ?_];by_cases h1:1<=ls.length
 ·by_cases h2:ls.length<=3
  ·left
   rcases hq with hq|hq
   all_goals
    first|refine dA hq ?_|refine dW hq ?_
    first
     |refine b6 (xs:=xs) (λi ys H'=>H'=H/\ys=((ls.map (iC.ok fl)).take i).map V.bl) (bx ↑6) (λi ys H' p=>by rw [p.2,List.length_map,List.length_take];exact Nat.min_le_left _ _) ⟨rfl,rfl⟩ (λi ys H' _ p=>by rw [p.1];exact hq) (λi x ys H' hxi p=> ?_) (λys H' p l2 n2=> ?_)
     |refine cJ (xs:=xs) (λi ys H'=>H'=H/\ys=((ls.map (iC.ok fl)).take i).map V.bl) (bx ↑6) (λi ys H' p=>by rw [p.2,List.length_map,List.length_take];exact Nat.min_le_left _ _) ⟨rfl,rfl⟩ (λi ys H' _ p=>by rw [p.1];exact hq) (λi x ys H' hxi p=> ?_) (λys H' p l2 n2=> ?_)
    ·obtain ⟨rfl,rfl⟩:=p;obtain ⟨l,hli,dp⟩:=bJ dx hxi;obtain ⟨u,us,rfl,hu,dus⟩:=dp.outT
     cases dus with|cons q0 t0=>cases t0 with|cons q1 t1=>cases t1 with|cons q2 t2=>cases t2 with|cons q3 t3=>
     cases t3;cases q0.isInt;cases q1.isInt;cases q2.isInt;cases q3.isStr;left;rwa[⟨iU,?_⟩];left;rwa[zm.mk _ l rfl ?_];rwa[⟨rfl,?_⟩];rw [List.take_succ,List.map_append,List.getElem?_map,hli];rfl
    ·obtain ⟨rfl,rfl⟩:=p;ext;rwa[JP (bs:=ls.map (iC.ok fl)) (aS.of (by rw [ak,List.take_of_length_le (by rw [List.length_map];omega)])) ?_];have:=q _ (av.upd (o:= .lst (((ls.map (iC.ok fl)).take xs.length).map V.bl)) n2);rw [decide_eq_true ⟨h1,h2⟩,Bool.true_and] at this;rw [List.all_map];exact this
  ·left;exact no λz=>h2 z.2
 ·left;exact no λz=>h1 z.1
inductive vC (vs:List V)(H:Hp)(Q:VK)(_e:XK):Prop
 |mk (fl lo:Int) (_:vs=[.int fl,.int lo]) (_:2<=fl) (_:fl<=8) (_:Q (.bl (decide (0<=lo/\lo<2^fl.toNat/\lo% 2=0))) H)
theorem EU (F:bw K "fits_locked" "fits_locked" jb f fd)(lN:bp P w K mg base 1 "bit" ["k"] iY)(ft:bp P w K mg base 2 "has" ["mask","k"] d3):aD P w K mg base br 3 f fd ["floors","locked"] vC:=by
 rwa[F.ok vP ↑4 ↑1]
 ·obtain ⟨fl,lo,rfl,_⟩:=h;rfl
 obtain ⟨fl,lo,rfl,f2,f8,q⟩:=h;rwa[⟨_,(af (aq (gQ (qo l8 w_lt aa (wv 1) (aj lN hr ↑2 rfl (ae (wv 0) ac))) (ii (C9 (K:=K) rfl (aj ft hr ↑2 rfl (ae (wv 1) (ae aa ac)))))))),?_⟩];obtain ⟨n,rfl⟩:=Int.eq_ofNat_of_zero_le (show 0<=fl by omega)
 have ep:((2:Int)^((n:Int)).toNat)=((2^n:Nat):Int):=by rw [Int.toNat_natCast,Int.natCast_pow];rfl
 by_cases h1:0<=lo
 ·obtain ⟨M,rfl⟩:=Int.eq_ofNat_of_zero_le h1;left;erw[iY.mk _ rfl ↑6 ?_];rw [ep] at q;by_cases h2:(M:Int)<((2^n:Nat):Int)
  ·erw[m3 h2 ?_];rwa[d3.mk _ 0 rfl ↑2 ?_]
   have e:decide (0<=(M:Int)/\(M:Int)<((2^n:Nat):Int)/\(M:Int)% 2=0)= !(M.testBit 0):=by
    rw [Nat.testBit_zero,<-decide_not];exact decide_eq_decide.mpr ⟨λz=>by omega,λz=>⟨h1,h2,by omega⟩⟩
   rw [e] at q;exact q
  ·rwa[cP h2 ?_];rw [decide_eq_false (λz=>h2 z.2.1)] at q;left;exact q
 ·rw [decide_eq_false (λz=>h1 z.1)] at q;left;exact q
unseal nU in
theorem Il {io kSORTS:Addr}{t1 t2:Tok}(F:bw K "made_house" "made_house" lj f fd)(b2:mg "tuple"=none)(gB:mg "NoHouse"=some (.ref io))
(gA:W.excIn K io [.type "ValueError",.type "Exception",.type "BaseException",.type "object"] "ValueError.__new__"=true)(gk:mg "LEAST_FLOORS"=some (.int 2 t1))(ip:mg "MOST_FLOORS"=some (.int 8 t2))(Ak:mg "SORTS"=some (.ref kSORTS))(Aw:∀H:Hp,aP K H kSORTS [.str (Str.ofString "free"),.str (Str.ofString "way")])
(jF:bp P w K mg base 2 "fits_lifts" ["floors","lifts"] (zj K))(iz:bp P w K mg base 3 "fits_locked" ["floors","locked"] vC):
 aD P w K mg base (j4 P w) 4 f fd ["floors","lifts","locked","sort"] (nU K io):=by
 have ua:aQ (.int 2) (.int 2 t1):=⟨_,rfl⟩;have wj:aQ (.int 8) (.int 8 t2):=⟨_,rfl⟩;rwa[F.okX x5 ↑4 ↑1]
 ·obtain ⟨fl,a,lo,so,ls,rfl,_⟩:=h;rfl
 obtain ⟨fl,a,lo,so,ls,rfl,hD,hl,hso,q,qb⟩:=h;obtain ⟨xs,hq,dx⟩:=hD.out;rwa[⟨_,(ag (aI (cW (gp l8 l8 (bh rfl gk ua) (wv 0) (bh rfl ip wj))) (af (eM bS rfl gA PySem.F.excBase_ValueError rfl gB (ae ay ac))) aC) (ag (aI (cW (bZ (K:=K) rfl (aj jF hr ↑2 rfl (ae (wv 0) ↑19)))) (af (eM bS rfl gA PySem.F.excBase_ValueError rfl gB (ae ay ac))) aC) (ag (aI (cW (bZ (K:=K) rfl (aj iz hr ↑2 rfl (ae (wv 0) (ae (wv 2) ac))))) (af (eM bS rfl gA PySem.F.excBase_ValueError rfl gB (ae ay ac))) aC) (ag (aI (ax (qa (K:=K) rfl) (wv 3) (mQ rfl Ak) (by with_unfolding_all rfl)) (af (eM bS rfl gA PySem.F.excBase_ValueError rfl gB (ae (jN (wq (wv 3) (wn wr))) ac))) aC) (af (aq (bt (ae (wv 0) (ae (bU (gR (K:=K) rfl) rfl b2 boot_tuple ↑19) (ae (wv 2) (ae (wv 3) ac))))))))))),?_⟩]
 have rj:∀H',av H H'-> ¬((2<=fl/\fl<=8)/\(1<=ls.length/\ls.length<=3)/\ls.all (iC.ok fl)=true/\(0<=lo/\lo<2^fl.toNat/\lo% 2=0)/\(so=Str.ofString "free"\/so=Str.ofString "way"))->E (.ref io) none H':=λH' sm z=>by
  rwa[qb ?_ H' sm]
  cases e:GL fl ls lo so with
  |false=>rfl
  |true=>exact absurd (wz.mp e) z
 by_cases f2:2<=fl
 ·by_cases f8:fl<=8
  ·left;erw[zj.mk _ _ _ rfl hD hl λH1 s1=> ?_];rwa[rZ (λh1=> ?_) (λh1=> ?_)]
   ·ext
    exact ⟨bx ↑2,rj H1 s1 λz=>by
     rw [decide_eq_true z.2.1,z.2.2.1] at h1;exact absurd h1 ↑2⟩
   have h1':(1<=ls.length/\ls.length<=3)/\ls.all (iC.ok fl)=true:=by simpa using h1
   left;erw[vC.mk _ _ rfl f2 f8 ?_];rwa[rZ (λh2=> ?_) (λh2=> ?_)]
   ·ext
    exact ⟨bx ↑2,rj H1 s1 λz=>by
     rw [decide_eq_true z.2.2.2.1] at h2;exact absurd h2 ↑2⟩
   have h2':0<=lo/\lo<2^fl.toNat/\lo% 2=0:=by simpa using h2
   left;rwa[nY (Aw H1) rfl rfl ?_];rw [Rb];ext;rwa[QA (λh3=> ?_) (λh3=> ?_)]
   ·ext;have hr:=rp hso.2;have hl':=hso.1
    have hrl:(reprText so).length<=4002:=by omega
    rwa[⟨bx ↑6,bx ?_,bx ?_,bx ?_,bx ↑17,rj H1 s1 λz=>h3 z.2.2.2.2⟩]
    ·rw [strLen_append];show 0+(reprText so).length<=1000000;omega
    ·rw [strLen_append,strLen_append,show Str.empty.length=0 from rfl];have e2:(Str.ofString " is no sort of a house").length<=100:=by decide
     omega
    ·rw [strLen_append,strLen_append,show Str.empty.length=0 from rfl];have e2:(Str.ofString " is no sort of a house").length<=100:=by decide
     omega
   have hok:GL fl ls lo so=true:=wz.mpr ⟨⟨f2,f8⟩,h1'.1,h1'.2,h2',h3⟩;have hq1:=s1.any hq;have dx1:=aN.same dx s1
   rcases hq1 with hq1|hq1
   ·ext;erw[kK hq1 λl H2 s2 n2 e2=> ?_];rwa[cf (bx (by show 4<=1000000;decide)) λl3 H3 s3 n3 e3=> ?_];exact q hok _ _ ((s1.trans s2).trans s3) ⟨l3,_,rfl,e3,.cons (.int _) (.cons (gF (aP.of (s3.get e2)) (aN.same (aN.same dx1 s2) s3)) (.cons (.int _) (.cons (.str _) .nil)))⟩
   ·ext;erw[Nv hq1 ?_];rwa[cf (bx (by show 4<=1000000;decide)) λl3 H3 s3 n3 e3=> ?_];exact q hok _ _ (s1.trans s3) ⟨l3,_,rfl,e3,.cons (.int _) (.cons (gF (s3.seqT hq1) (aN.same dx1 s3)) (.cons (.int _) (.cons (.str _) .nil)))⟩
  ·left;exact ⟨bx ↑2,rj H (.refl _) λz=>f8 z.1.2⟩
 ·left;exact ⟨bx ↑2,rj H (.refl _) λz=>f2 z.1.1⟩
inductive Hk (K:Fg)(vs:List V)(H:Hp)(Q:VK)(_e:XK):Prop
 |mk (a h ru df C dx:_) (_:vs=[.ref a,.ref h,.ref ru,.ref df]) (_:H a=some (.ins C dx [])) (_:Jp K C) (_:∀H',fM a H H'->H' a=some (.ins C dx (oY h ru df))->Q .non H')
theorem EZ (F:bw K "__init__" "Court.__init__" lx f fd):aD P w K mg base br 1 f fd ["self","house","rule","dealer"] (Hk K):=by
 rwa[F.ok yc ↑4 ↑1]
 ·obtain ⟨a,h,ru,df,C,dx,rfl,_⟩:=h;rfl
 obtain ⟨a,h,ru,df,C,dx,rfl,ea,cC,q⟩:=h;erw[⟨_,(ag (cx (K:=K) rfl (wv 0) (wv 1)) (ag (cx (K:=K) rfl (wv 0) (wv 2)) (af (cx (K:=K) rfl (wv 0) (wv 3))))),?_⟩];erw[cz ea cC.i.cl cC.house ↑2 ?_];erw[cz ak cC.i.cl cC.rule (by show 1<1000;decide) ?_];rwa[cz ak cC.i.cl cC.dealer (by show 2<1000;decide) ?_];rwa[q _ (λb o n e=> ?_) ak];rw [ap n,ap n,ap n];exact e
unseal gz in
theorem Qq {C:Addr}{E:XK}{H:Hp}{h ru df:Addr}{Q:VK}(cC:Jp K C)(g:∀a dx H',av H H'->H a=none->H' a=some (.ins C dx (oY h ru df))->Q (.ref a) H'):gz C (Hk K) E [.ref h,.ref ru,.ref df] H Q:=by
 show ∀a dx,H a=none->H dx=none->dx≠a->Hk K (.ref a::([.ref h,.ref ru,.ref df]++[])) (upd (upd H dx (.own a)) a (.ins C dx [])) (λv H2=>v= .non/\Q (.ref a) H2) E;intro a dx h1 h2 h3;have sm:av H (upd (upd H dx (.own a)) a (.ins C dx [])):=eg h1 h2;exact ⟨a,h,ru,df,C,dx,rfl,ak,cC,λH' sp e=>⟨rfl,g a dx H' (λb o e=>sp b o (λz=>by rw [z,h1] at e;cases e) (sm b o e)) h1 e⟩⟩
def Fj (l:iC):Lf:=⟨l.start,l.room,l.turns,l.kind⟩
def MC (hs:Hs):Prop:=∀l∈hs.ls,0<=l.st/\l.st<hs.fl
theorem Oq {H:Hp}{x:V}{l:iC}(h:cm K H x l.d):ME K H x (Fj l):=by
 obtain ⟨a,xs,rfl,h1,h2⟩:=h.outT
 cases h2 with|cons q0 t0=>cases t0 with|cons q1 t1=>cases t1 with|cons q2 t2=>cases t2 with|cons q3 t3=>
 cases t3;cases q0.isInt;cases q1.isInt;cases q2.isInt;cases q3.isStr;exact ⟨a,rfl,h1⟩
theorem Fr {H:Hp}{t:V}{fl:Int}{ls:List iC}{lo:Int}{so:Str}(h:xo K H t fl ls lo so)(ok:GL fl ls lo so=true):∃p,t= .ref p/\nG K H p ⟨fl,ls.map Fj,lo.toNat,so⟩/\MC ⟨fl,ls.map Fj,lo.toNat,so⟩:=by
 obtain ⟨⟨f2,f8⟩,⟨l1,l3⟩,ha,⟨lo0,_,_⟩,hs⟩:=wz.mp ok;obtain ⟨p,xs,rfl,h1,h2⟩:=h;unfold A7 at h2
 cases h2 with|cons q0 t0=>cases t0 with|cons q1 t1=>cases t1 with|cons q2 t2=>cases t2 with|cons q3 t3=>
 cases t3;cases q0.isInt;cases q2.isInt;cases q3.isStr;obtain ⟨b,ys,rfl,h3,h4⟩:=q1.outT;have all:∀l∈ls,iC.ok fl l=true:=λl hl=>List.all_eq_true.mp ha l hl;rwa[⟨p,rfl,⟨⟨f2,f8,by show 1<=(ls.map Fj).length;rw [List.length_map];exact l1,by show (ls.map Fj).length<=3;rw [List.length_map];exact l3,λl hl=> ?_,hs⟩,b,ys,?_,h3,?_⟩,λl hl=> ?_⟩]
 ·obtain ⟨m,hm,rfl⟩:=List.mem_map.mp hl;have z:=all m hm;unfold iC.ok at z;have z:=of_decide_eq_true z;exact ⟨z.2.2.1,z.2.2.2.1,z.2.2.2.2.1,z.2.2.2.2.2.1,z.2.2.2.2.2.2⟩
 ·have e:((lo.toNat:Nat):Int)=lo:=by omega
  show aP K H p [.int fl,.ref b,.int ((lo.toNat:Nat):Int),.str so];rw [e];exact aP.of h1
 ·rwa[PySem.Paired.of (by rw [List.length_map];exact aL h4) λi x l e1 e2=> ?_];obtain ⟨m,hm,dm⟩:=bJ h4 e1;rw [List.getElem?_map,hm] at e2;cases e2;exact Oq dm
 ·obtain ⟨m,hm,rfl⟩:=List.mem_map.mp hl;have z:=all m hm;unfold iC.ok at z;have z:=of_decide_eq_true z;exact ⟨z.1,z.2.1⟩
def OJ (l:Lf):Cb:=⟨2*l.st,0,0,0,[]⟩
inductive DP (K:Fg)(vs:List V)(H:Hp)(Q:VK)(_e:XK):Prop
 |mk (x l:_) (_:vs=[x]) (_:ME K H x l) (_:∀v H',av H H'->fh K H' v (OJ l)->Q v H')
theorem LJ (F:bw K "cabin_of" "cabin_of" rf f fd):aD P w K mg base br 1 f fd ["lift"] (DP K):=by
 rwa[F.ok BO ↑4 ↑1]
 ·obtain ⟨x,l,rfl,_⟩:=h;rfl
 obtain ⟨x,l,rfl,⟨b,rfl,hT⟩,q⟩:=h;erw[⟨_,(af (aq (bt (ae (aH lZ aa ↑16) (ae aa (ae aa (ae aa (ae (bt ac) ac)))))))),?_⟩];erw[ar hT rfl ?_];erw[⟨sE ↑2 ↑2,?_⟩];erw[cf (bx (by show 0<=1000000;decide)) λb H1 s1 n1 e1=> ?_];exact cf (bx (by show 5<=1000000;decide)) λa H2 s2 n2 e2=>q _ H2 (s1.trans s2) ⟨a,rfl,b,[],e2,s2 _ _ e1,.nil⟩
inductive vE (K:Fg)(vs:List V)(H:Hp)(Q:VK)(_e:XK):Prop
 |mk (a C dx h ru df hs:_) (_:vs=[.ref a]) (_:H a=some (.ins C dx (oY h ru df))) (_:Jp K C) (_:nG K H h hs) (_:∀st H',av H H'->nu K H' st (hs.ls.map OJ) [] ((hs.ls.length:Int) - 1) false->Q (.ref st) H')
theorem E2 (F:bw K "begin" "Court.begin" jc f fd)(bj:mg "len"=none)(b2:mg "tuple"=none)(py:bp P w K mg base 1 "cabin_of" ["lift"] (DP K)):aD P w K mg base br 2 f fd ["self"] (vE K):=by
 rwa[F.ok mG ↑4 ↑1]
 ·obtain ⟨a,C,dx,h,ru,df,hs,rfl,_⟩:=h;rfl
 obtain ⟨a,C,dx,h,ru,df,hs,rfl,ea,cC,⟨hok,p,xs,h1,h2,h3⟩,q⟩:=h;have l3:=hok.l3;have xl:=h3.len;erw[⟨_,(ag (aA (i:=1) mG.nd rfl ↑7 (bU (gR (K:=K) rfl) rfl b2 boot_tuple (ae (bG rfl (aK (N':=["lift"]) (pk:=[none]) (by kernel_rfl)) (bF (K:=K) rfl (ao ↑3 ↑11 aa ↑5)) (λC s H ex=>(az (i:=0) (show List.Nodup (["lift"]:List Str) by decide+kernel) rfl ↑7)) (λC s H ex=>b5) (λC s H ex=>(aj py hr ↑2 rfl (ae (wv 0) ac)))) ac))) (af (aq (bt (ae (wv 1) (ae (bt ac) (ae (aH eK (aG (cI (K:=K) rfl) rfl bj PySem.boot_len ↑19) aa) (ae fD ac)))))))),?_⟩];erw[fc ea cC.i.cl cC.house (v:= .ref h) rfl ?_];erw[ar h1 rfl ?_];rwa[dW h2 ?_];rwa[cJ (xs:=xs) (λi ys H'=>av H H'/\Paired (fh K H') ys ((hs.ls.take i).map OJ)) (bx ↑6) (λi ys H' p=> ?_) ⟨.refl _,by rw [List.take_zero];exact .nil⟩ (λi ys H' _ p=>p.1.seqT h2) (λi x ys H' hxi p=> ?_) (λys H' p l nl=> ?_)]
 ·rw [p.2.len,List.length_map,List.length_take];omega
 ·obtain ⟨sm,pp⟩:=p;obtain ⟨lf,hlf,hat⟩:=h3.get1 hxi;obtain ⟨b,rfl,hb⟩:=hat;ext;erw[⟨cE,?_⟩];rwa[DP.mk _ _ rfl ⟨b,rfl,sm.seqT hb⟩ λv H2 s2 hv=>⟨sm.trans s2,?_⟩];rw [List.take_add_one,hlf,List.map_append];exact Paired.app (Paired.imp' (λx c z=>fh.keep z s2.st) pp) (.cons hv .nil)
 ·obtain ⟨sm,pp⟩:=p;have s2:av H' (upd H' l (.lst ys)):= .upd nl;rw [xl,List.take_of_length_le ↑13] at pp
  have yl:ys.length=hs.ls.length:=by rw [pp.len,List.length_map]
  ext;erw[kK (aS.of ak) λtc H3 s3 n3 e3=> ?_];erw[cf (bx (by show 0<=1000000;decide)) λtw H4 s4 n4 e4=> ?_];erw[fW (aP.of (s4 _ _ e3)) ?_];rw [yl];have sAll:=((s2.trans s3).trans s4);rwa[cf (bx (by show 4<=1000000;decide)) λst H5 s5 n5 e5=>q st H5 ((sm.trans sAll).trans s5) ⟨tc,tw,ys,[],aP.of e5,aP.of (s5 _ _ (s4 _ _ e3)),aP.of (s5 _ _ e4),Paired.imp' (λx c z=>fh.keep z (sAll.trans s5).st) pp,.nil⟩]
def iW:Sp:=λ_ _ _ _=>False
theorem Oc (F:bw K "read_lifts" "read_lifts" qU f fd):aD P w K mg base (j4 P w) 1 f fd ["words","house"] iW:=FE
theorem HV (F:bw K "zone_of" "zone_of" AQ f fd):aD P w K mg base br 1 f fd ["lifts"] iW:=FE
theorem EV (F:bw K "fixed_of" "fixed_of" yd f fd):aD P w K mg base br 1 f fd ["lifts"] iW:=FE
def Dk.tx:Dk->Str
 | .near=>Str.ofString "near"| .least=>Str.ofString "least"| .turns=>Str.ofString "turns"
def DO (kn kl kT:Addr):Sp:=λvs H Q _=>∃(k:Dk) (h:Addr),vs=[.str k.tx,.ref h]/\Q (.ref (k.ad kn kl kT)) H
theorem Rg {kn kl kT h:Addr}{k:Dk}{H:Hp}{Q:VK}{E:XK}(g:Q (.ref (k.ad kn kl kT)) H):DO kn kl kT [.str k.tx,.ref h] H Q E:=⟨k,h,rfl,g⟩
theorem Of {rV knear kleast kby_turns:Addr}{t1:Tok}(F:bw K "dealer_of" "dealer_of" oF f fd)(bj:mg "len"=none)(jq:mg "MOST_FIXED"=some (.int 9 t1))(wT:mg "NoDeal"=some (.ref rV))(wQ:W.excIn K rV [.type "ValueError",.type "Exception",.type "BaseException",.type "object"] "ValueError.__new__"=true)(uQ:mg "near"=some (.ref knear))(oV:mg "least"=some (.ref kleast))(fw:mg "by_turns"=some (.ref kby_turns))(fR:p9 P w K mg base 1 "read_lifts" ["words","house"] iW)(sI:bp P w K mg base 1 "zone_of" ["lifts"] iW)(pj:bp P w K mg base 1 "fixed_of" ["lifts"] iW):aD P w K mg base (j4 P w) 2 f fd ["text","house"] (DO knear kleast kby_turns):=by
 have yh:aQ (.int 9) (.int 9 t1):=⟨_,rfl⟩;rwa[F.okX kU ↑4 ↑1]
 ·obtain ⟨k,h,rfl,_⟩:=h;rfl
 obtain ⟨k,h,rfl,q⟩:=h;rwa[⟨_,(ag (aI (ax ↑10 (wv 0) ay (au _)) (af (aq (mQ rfl uQ))) aC) (ag (aI (ax ↑10 (wv 0) ay (au _)) (af (aq (mQ rfl oV))) aC) (ag (aI (ax ↑10 (wv 0) ay (au _)) (af (aq (mQ rfl fw))) aC) (ag (aA (i:=2) kU.nd rfl ↑7 (dY (K:=K) rfl PySem.F.plainAttrs_str PySem.F.slot_str_split PySem.F.type_str_split GX (wv 0) (ae ay ac))) (ag (aA (i:=3) kU.nd rfl ↑7 (jf (AD (K:=K) rfl) (wv 2) (lV aa) mM)) (ag (aI (PW.pt (dj (ax ↑10 ↑20 ay (au _)) (cF (ax ↑10 (aG (cI (K:=K) rfl) rfl bj PySem.boot_len (ae (wv 3) ac)) ↑12 (au _))))) (af (aq (aj sI hr ↑2 rfl (ae (jg bS fR hr ↑2 rfl (ae (wv 3) ↑19)) ac)))) aC) (ag (aI (PW.pt (dj (ax ↑10 ↑20 ay (au _)) (cF (gp l8 l8 aa (aG (cI (K:=K) rfl) rfl bj PySem.boot_len (ae (wv 3) ac)) (bh rfl jq yh))))) (af (aq (aj pj hr ↑2 rfl (ae (jg bS fR hr ↑2 rfl (ae (wv 3) ↑19)) ac)))) aC) (af (eM bS rfl wQ PySem.F.excBase_ValueError rfl wT (ae (jN (wq (wv 0) (wn wr))) ac)))))))))),?_⟩]
 cases k with
 |near=>
  ext;erw[m3 rfl ?_];exact q
 |least=>
  ext;erw[cP (by decide+kernel) ?_];erw[m3 rfl ?_];exact q
 |turns=>
  ext;erw[cP (by decide+kernel) ?_];erw[cP (by decide+kernel) ?_];erw[m3 rfl ?_];exact q
seal DO iW
theorem MP.uniq {hs:Hs}{wf:Wf}{M:MS}{i:Int}{c:Cb}{l:Lf}{rs:List bq}{A B:MS}(h:MP hs wf M i c l rs A)(k:MP hs wf M i c l rs B):A=B:=by
 obtain ⟨f,u,d,e,hu,hd,rfl⟩:=h;obtain ⟨f',u',d',e',hu',hd',rfl⟩:=k
 obtain rfl:f=f':=by omega
 rw [hu.uniq hu',hd.uniq hd']
theorem Bn.uniq {hs:Hs}{wf:Wf}{M:MS}{i:Int}{c:Cb}{l:Lf}{A B:MS}(h:Bn hs wf M i c l A)(k:Bn hs wf M i c l B):A=B:=by
 unfold Bn at h k;split at h
 ·rename_i z;rw [if_pos z] at k;rw [h,k]
 ·rename_i z;rw [if_neg z] at k;split at h
  ·rename_i y;rw [if_pos y] at k;rw [h,k]
  ·rename_i y;rw [if_neg y] at k;exact h.uniq k
theorem JW.uniq {hs:Hs}{wf:Wf}{M:MS}{i:Int}{c:Cb}{l:Lf}{A B:MS}(h:JW hs wf M i c l A)(k:JW hs wf M i c l B):A=B:=by
 rcases h with ⟨h1,h2⟩|⟨h1,h2,h3⟩|⟨h1,h2,h3⟩<;>rcases k with ⟨k1,k2⟩|⟨k1,k2,k3⟩|⟨k1,k2,k3⟩
 ·rw [h2,k2]
 ·rw [h1] at k1;cases k1
 ·rw [h1] at k1;cases k1
 ·rw [h1] at k1;cases k1
 ·rw [h3,k3]
 ·rw [h2] at k2;cases k2
 ·rw [h1] at k1;cases k1
 ·rw [h2] at k2;cases k2
 ·exact h3.uniq k3
theorem GH.uniq {hs:Hs}{wf:Wf}{M:MS}:∀ {n:Nat} {A B:MS},GH hs wf n M A->GH hs wf n M B->A=B
 |0,A,B,h,k=>by rw [show A=M from h,show B=M from k]
 |n+1,A,B,⟨M1,c1,l1,h1,h2,h3,h4⟩,⟨M2,c2,l2,k1,k2,k3,k4⟩=>by
  obtain rfl:=GH.uniq h1 k1
  have hc:c1=c2:=by have:=h2.2.symm.trans k2.2;exact Option.some.inj this
  have hl:l1=l2:=by have:=h3.symm.trans k3;exact Option.some.inj this
  subst hc;subst hl;exact h4.uniq k4
structure QT (hs:Hs)(n:Nat)(cs:List Cb)(ws:List bq)(last:Int):Prop where
 len:cs.length=hs.ls.length
 ck:∀c∈cs,lR hs.fl c
 rk:∀r∈ws,iA hs.fl r
 w:ws.length<=n
 l0:0<=last
theorem Hh {so:Str}{room pl fl:Int}{s:CV}{r:bq}(h6:room<=64)(hl: -1<=s.light/\s.light<=1)(hk:s.kept.length<=64)(hg:∀p∈s.kept,0<=p.2/\p.2<fl)(hr:iA fl r):(-1<=(dZ so room pl s r).light/\(dZ so room pl s r).light<=1)/\(dZ so room pl s r).kept.length<=64/\∀p∈(dZ so room pl s r).kept,0<=p.2/\p.2<fl:=by
 unfold dZ;split
 ·rename_i e;unfold iq at e
  have e2:(s.kept.length:Int)<room:=by
   rw [Bool.and_eq_true,Bool.and_eq_true] at e;exact of_decide_eq_true e.1.2
  rwa[⟨?_,by show (s.kept++_).length<=64;rw [List.length_append];simp;omega,λp hp=> ?_⟩]
  ·show -1<=(if so=Str.ofString "way" then xC r else s.light)/\(if so=Str.ofString "way" then xC r else s.light)<=1;split
   ·unfold xC;split<;>omega
   ·exact hl
  ·rcases List.mem_append.mp hp with z|z
   ·exact hg p z
   ·rw [List.mem_singleton.mp z];exact ⟨hr.g0,hr.g1⟩
 ·exact ⟨hl,hk,hg⟩
theorem xO {so:Str}{room pl fl:Int}(h6:room<=64):∀(rs:List bq) (s:CV),(-1<=s.light/\s.light<=1)->s.kept.length<=64->(∀p∈s.kept,0<=p.2/\p.2<fl)->(∀r∈rs,iA fl r)->(-1<=(cq so room pl s rs).light/\(cq so room pl s rs).light<=1)/\(cq so room pl s rs).kept.length<=64/\∀p∈(cq so room pl s rs).kept,0<=p.2/\p.2<fl
 |[],s,hl,hk,hg,_=>⟨hl,hk,hg⟩
 |r::rs,s,hl,hk,hg,hr=>by
  have h:=Hh (so:=so) (room:=room) (pl:=pl) (fl:=fl) h6 hl hk hg (hr r (.head _));exact xO h6 rs (dZ so room pl s r) h.1 h.2.1 h.2.2 λq hq=>hr q (.tail _ hq)
theorem DT {α:Type}{xs:List α}{i:Nat}{x:α}(h:xs[i]? =some x):xs.set i x=xs:=by
 obtain ⟨h1,h2⟩:=List.getElem?_eq_some_iff.mp h;rw [<-h2];exact List.set_getElem_self h1
theorem DD {hs:Hs}{l:Lf}{c:Cb}{wd:Str}{f0:Nat}(ok:lR hs.fl c)(e:c.pl=2*(f0:Int))(hd: ¬0<c.dr)(hw:wd∈eR):lR hs.fl (xP hs l c wd):=by
 have h5:=Oz (pF (so:=hs.so) (pl:=c.pl) (li:=c.li) (ps:=c.ps) hw);have p0:=ok.p0;have p1:=ok.p1;have l0:=ok.l0;have l1:=ok.l1
 have lt: -1<=(if c.ps=[] then (0:Int) else c.li)/\(if c.ps=[] then (0:Int) else c.li)<=1:=by split<;>omega
 unfold xP;generalize cB hs.so c.pl c.li c.ps wd=x at h5
 rcases h5 with rfl|rfl|rfl|rfl|rfl
 ·rw [JH];exact ⟨p0,p1,l0,l1,ok.m0,λ_=>by show c.pl% 2=0;omega,ok.len,ok.gs⟩
 ·rw [JG];exact ⟨p0,p1,by show (-1:Int)<=0;decide,by show (0:Int)<=1;decide,ok.m0,λ_=>by show c.pl% 2=0;omega,ok.len,ok.gs⟩
 ·by_cases z:c.pl / 2<hs.fl - 1
  ·rw [FN z];exact ⟨by show 0<=c.pl+1;omega,by show c.pl+1<=_;omega,by show (-1:Int)<=1;decide,by show (1:Int)<=1;decide,ok.m0,λy=>absurd y hd,ok.len,ok.gs⟩
  ·rw [Ao z];exact ⟨p0,p1,lt.1,lt.2,ok.m0,λy=>absurd y hd,ok.len,ok.gs⟩
 ·by_cases z:0<c.pl
  ·rw [FP z];exact ⟨by show 0<=c.pl - 1;omega,by show c.pl - 1<=_;omega,by show (-1:Int)<= -1;decide,by show (-1:Int)<=1;decide,ok.m0,λy=>absurd y hd,ok.len,ok.gs⟩
  ·rw [Ap z];exact ⟨p0,p1,lt.1,lt.2,ok.m0,λy=>absurd y hd,ok.len,ok.gs⟩
 ·rw [FO];exact ⟨p0,p1,lt.1,lt.2,ok.m0,λy=>absurd y hd,ok.len,ok.gs⟩
theorem Ft {so:Str}{li:Int}{a b c:Bool}:0<=iJ so li a b c/\iJ so li a b c<=2:=by
 unfold iJ;split
 ·omega
 ·split
  ·omega
  ·split<;>omega
theorem JW.ok {hs:Hs}{wf:Wf}{M M':MS}{i:Int}{c:Cb}{l:Lf}(h:JW hs wf M i c l M')(ok:lR hs.fl c)(hc:atC M i c)(l6:l.rm<=6)(hf:M.fire=false)(hw:∀fl li he up dn,lP li he up dn->wf fl li he up dn∈eR)(hr:∀r∈M.ws,iA hs.fl r):M'.fire=false/\M'.last=M.last/\∃c',lR hs.fl c'/\M'.cs=M.cs.set i.toNat c':=by
 rcases h with ⟨_,rfl⟩|⟨_,h2,_⟩|⟨_,_,h3⟩
 ·exact ⟨hf,rfl,c,ok,(DT hc.2).symm⟩
 ·rw [hf] at h2;cases h2
 ·unfold Bn at h3;split at h3
  ·rename_i z;subst h3;rwa[⟨hf,rfl,_,?_,rfl⟩];have hrs:∀r∈eV i M,iA hs.fl r:=λr hr'=>hr r (by unfold eV at hr';exact (List.mem_filter.mp hr').1);have kp:∀p∈fY c.pl c.ps,0<=p.2/\p.2<hs.fl:=λp hp=>ok.gs p (List.mem_filter.mp hp).1;have st:=xO (so:=hs.so) (pl:=c.pl) (fl:=hs.fl) (show l.rm<=64 by omega) (eV i M) ⟨c.li,fY c.pl c.ps,[]⟩ ⟨ok.l0,ok.l1⟩ (Nat.le_trans (List.length_filter_le _ _) ok.len) kp hrs;exact ⟨ok.p0,ok.p1,st.1.1,st.1.2,ok.m0,λ_=>ok.ev z,st.2.1,st.2.2⟩
  ·rename_i z;split at h3
   ·rename_i y;subst h3;have p0:=ok.p0;have p1:=ok.p1;have l0:=ok.l0;have l1:=ok.l1;exact ⟨hf,rfl,⟨c.pl+c.li,c.li,0,c.mr,c.ps⟩,⟨by show 0<=c.pl+c.li;omega,by show c.pl+c.li<=_;omega,l0,l1,ok.m0,λy=>absurd y (by show ¬(0:Int)<0;decide),ok.len,ok.gs⟩,rfl⟩
   ·obtain ⟨f0,u,d,e,hu,hd,rfl⟩:=h3;rwa[⟨hf,rfl,_,DD ok e z (hw _ _ _ _ _ ?_),rfl⟩];exact ⟨ok.l0,ok.l1,Ft.1,Ft.2,by rcases hu with ⟨h,_⟩|⟨h,_⟩<;>omega,by rcases hd with ⟨h,_⟩|⟨h,_⟩<;>omega⟩
theorem GH.ok {hs:Hs}{wf:Wf}{M:MS}(hk:hs.ok)(hw:∀fl li he up dn,lP li he up dn->wf fl li he up dn∈eR)(hf:M.fire=false)(hcs:∀c∈M.cs,lR hs.fl c)(hr:∀r∈M.ws,iA hs.fl r)(w64:M.ws.length<=64):∀ {n:Nat} {M':MS},GH hs wf n M M'->M'.fire=false/\M'.last=M.last/\(∀c∈M'.cs,lR hs.fl c)/\kA hs M n M'
 |0,M',h=>by
  obtain rfl:M'=M:=h;exact ⟨hf,rfl,hcs,⟨rfl,λ_ _=>rfl,λ_ h=>h,Nat.le_refl _,by omega⟩⟩
 |n+1,M',⟨M1,c,l,h1,h2,h3,h4⟩=>by
  obtain ⟨f1,l1,c1,a1⟩:=GH.ok hk hw hf hcs hr w64 h1;have hcm:c∈M1.cs:=List.mem_of_getElem? h2.2;have w1:M1.ws.length<=64:=Nat.le_trans a1.wl w64;obtain ⟨g1,g2,c',g3,g4⟩:=h4.ok (c1 c hcm) h2 (hk.lf l (List.mem_of_getElem? h3)).2.1 f1 hw λr hr'=>hr r (a1.ws r hr');rwa[⟨g1,g2.trans l1,λx hx=> ?_,a1.go (c1 c hcm).len w1 h4⟩];rw [g4] at hx
  rcases wE hx with z|z
  ·exact c1 x z
  ·rw [z];exact g3
theorem KN {bs:List Bool}{first:Int}(h:0<=first): -1<=sf bs first:=by
 have go:∀(n k:Nat),-1<=KO bs first k n:=by
  intro n
  induction n with
  |zero=>intro k;simp [KO]
  |succ n ih=>
   intro k;unfold KO;split
   ·by_cases z:(bs.length:Int)=0
    ·rw [z,Int.emod_zero];omega
    ·have:=Int.emod_nonneg (first+(k:Int)) z;omega
   ·exact ih _
 exact go _ _
theorem FR {k:Dk}{cs:List Cb}{ws:List bq}{r:bq}{last:Int}(h:0<=last):0<=(uV k cs ws r last).2:=by
 cases k with
 |near=>exact h
 |least=>exact h
 |turns=>
  show 0<=(if ux cs last= -1 then last else ux cs last);split
  ·exact h
  ·have:=KN (bs:=bY (cs.map sG)) (first:=last+1) ↑6;rename_i z;unfold ux at z ⊢;omega
theorem ss {dl:y0}(hd:∀cs ws r last,0<=last->0<=(dl cs ws r last).2){W:List bq}{M:MS}(h:0<=M.last):∀i,0<=(bD dl W i M).last/\(bD dl W i M).fire=M.fire
 |0=>⟨h,rfl⟩
 |i+1=>by
  have ih:=ss hd (W:=W) h i;unfold bD;split
  ·split
   ·unfold jw;split
    ·exact ⟨hd _ _ _ _ ih.1,ih.2⟩
    ·exact ⟨hd _ _ _ _ ih.1,ih.2⟩
   ·exact ih
  ·exact ih
theorem FF {α:Type}{CX:nJ}{k:Nat}{ps:List Str}{sp:α->Sp}(F:∀a,aD P w K mg base CX k f fd ps (sp a))(hl:∀vs H Q E,(∃a,sp a vs H Q E)->vs.length=ps.length):aD P w K mg base CX k f fd ps (λvs H Q E=>∃a,sp a vs H Q E):=
 ⟨λvs H Q E ⟨a,q⟩=>(F a).len vs H Q E q,λA outer s H args us vs Q E hr he hb hv ⟨a,hs⟩=>(F a).run A outer s H args us vs Q E hr he hb hv hs⟩
theorem Bg {n:Nat}{x:Str}{ps:List Str}{sp sp':Sp}(c:bp P w K mg base n x ps sp)(h:∀vs H Q E,sp' vs H Q E->sp vs H Q E):bp P w K mg base n x ps sp':=by
 obtain ⟨f,fd,F,b⟩:=c.ex;exact ⟨f,fd,F.imp h,b⟩
def qf (P:Program)(w:World)(K:Fg)(mg:Str->Option Value)(base:Heap)(C Pn Pl:Addr):Sp:=λvs H Q E=>∃k:Dk,vD P w K mg base C (yZ Pn Pl) rz (uV k) vs H Q E
def mm (P:Program)(w:World)(K:Fg)(mg:Str->Option Value)(base:Heap)(C Pn Pl:Addr):Sp:=λvs H Q E=>∃k:Dk,mq P w K mg base C (yZ Pn Pl) rz (uV k) vs H Q E
def jP (P:Program)(w:World)(K:Fg)(mg:Str->Option Value)(base:Heap)(kF kL kR kT Pn Pl:Addr):Sp:=λvs H Q E=>∃k:Dk,ze P w K mg base kF kL kR kT (yZ Pn Pl) rz (uV k) vs H Q E
theorem EX {C Pn Pl:Addr}{t1:Tok}(F:bw K "deal" "deal" AR f fd)(cM:tJ K C)(b2:mg "tuple"=none)(aW:mg "NO_LIFT"=some (.int (-1) t1))(de:bp P w K mg base 1 "dealt_to" ["rider","lift"] (jQ K)):aD P w K mg base br 6 f fd ["moment","dealer","place","rider"] (qf P w K mg base C Pn Pl):=
 FF (λk=>AW (dl:=uV k) (pre:=rz) F Ah cM b2 aW de) λvs H Q E ⟨k,h⟩=>(AW (P:=P) (w:=w) (base:=base) (dl:=uV k) (pre:=rz) F Ah cM b2 aW de).len vs H Q E h
theorem B8 {C Pn Pl:Addr}{t1:Tok}(F:bw K "deal_all" "deal_all" mI f fd)(cM:tJ K C)(fE:mg "list"=none)(c4:mg "enumerate"=none)(aW:mg "NO_LIFT"=some (.int (-1) t1))(yJ:bp P w K mg base 6 "deal" ["moment","dealer","place","rider"] (qf P w K mg base C Pn Pl)):aD P w K mg base br 7 f fd ["moment","dealer"] (mm P w K mg base C Pn Pl):=by
 have G:∀k,aD P w K mg base br 7 f fd ["moment","dealer"] (mq P w K mg base C (yZ Pn Pl) rz (uV k)):=λk=>EY F Ah cM fE c4 aW (Bg yJ λvs H Q E h=>⟨k,h⟩);exact FF G λvs H Q E ⟨k,h⟩=>(G k).len vs H Q E h
theorem EC {kM kF kL kR kT Pn Pl:Addr}(F:bw K "turn" "Court.turn" ia f fd)(cM:tJ K kM)(bj:mg "len"=none)(bg:mg "range"=none)(eJ:p9 P w K mg base 7 "need_deeds" ["house","state","deeds"] (AK K kF kL kR kT))(mW:jJ P w K mg base br 1 "Moment" kM (DJ K))(jG:bp P w K mg base 5 "do_deed" ["moment","deed"] (Hj K kM))(gM:bp P w K mg base 7 "deal_all" ["moment","dealer"] (mm P w K mg base kM Pn Pl))(c_go:bp P w K mg base 8 "go" ["moment","rule","lift"] (Hi P w K mg base kM))(gI:bp P w K mg base 1 "state_of" ["moment"] (AJ K kM)):aD P w K mg base (j4 P w) 9 f fd ["self","state","deeds"] (jP P w K mg base kF kL kR kT Pn Pl):=by
 have G:∀k,aD P w K mg base (j4 P w) 9 f fd ["self","state","deeds"] (ze P w K mg base kF kL kR kT (yZ Pn Pl) rz (uV k)):=λk=>Ib Ah F cM bj bg eJ mW jG (Bg gM λvs H Q E h=>⟨k,h⟩) c_go gI;exact FF G λvs H Q E ⟨k,h⟩=>(G k).len vs H Q E h
seal qf mm
def Gu (fl:Int)(k:Int×Int):Prop:=0<=k.1/\k.1<fl/\0<=k.2/\k.2<fl/\k.1≠k.2
def gc (K:Fg)(H:Hp)(p:Addr)(fl:Int)(ks:List (Int×Int)):Prop:=∃xs,H p=some (.lst xs)/\aN K H xs (ks.map cZ)/\1<=ks.length/\ks.length<=4/\∀k∈ks,Gu fl k
theorem gc.nt {H H':Hp}(s:bB H H'){p:Addr}{fl:Int}{ks:List (Int×Int)}(h:gc K H p fl ks):gc K H' p fl ks:=by
 obtain ⟨xs,h1,h2,r⟩:=h;exact ⟨xs,s _ _ ↑28 h1,s.dens h2,r⟩
theorem gc.den {H:Hp}{p:Addr}{fl:Int}{ks:List (Int×Int)}(h:gc K H p fl ks):cm K H (.ref p) (.lst (ks.map cZ)):=by
 obtain ⟨xs,h1,h2,r⟩:=h;exact FS (aS.of h1) h2
structure vc (K:Fg)(H:Hp)(st:Addr)(hs:Hs)(n:Nat)(cs:List Cb)(ws:List bq)(last:Int):Prop where
 a:nu K H st cs ws last false
 o:QT hs n cs ws last
 h:hs.ok
theorem vc.nt {H H':Hp}(s:bB H H'){st:Addr}{hs:Hs}{n:Nat}{cs:List Cb}{ws:List bq}{last:Int}(h:vc K H st hs n cs ws last):vc K H' st hs n cs ws last:=⟨NM s h.a,h.o,h.h⟩
theorem vc.cl {H:Hp}{st:Addr}{hs:Hs}{n:Nat}{cs:List Cb}{ws:List bq}{last:Int}(h:vc K H st hs n cs ws last):cs.length<=10:=by have:=h.o.len;have:=h.h.l3;omega
theorem vc.c64 {H:Hp}{st:Addr}{hs:Hs}{n:Nat}{cs:List Cb}{ws:List bq}{last:Int}(h:vc K H st hs n cs ws last):∀c∈cs,c.ps.length<=64:=λc hc=>(h.o.ck c hc).len
def fz (K:Fg):Sp:=λvs H Q _=>∃st hs n cs ws last k,vs=[.ref st,.int k]/\vc K H st hs n cs ws last/\n<=64/\∀H',av H H'->Q (.bl (decide (k∈be cs ws))) H'
theorem AS {H:Hp}{st:Addr}{hs:Hs}{n:Nat}{cs:List Cb}{ws:List bq}{last k:Int}{Q:VK}{E:XK}(h1:vc K H st hs n cs ws last)(h2:n<=64)(g:∀H',av H H'->Q (.bl (decide (k∈be cs ws))) H'):fz K [.ref st,.int k] H Q E:=⟨st,hs,n,cs,ws,last,k,rfl,h1,h2,g⟩
theorem Ih (F:bw K "present" "present" qW f fd)(gH:bp P w K mg base 1 "tags_in" ["state"] (qu K)):aD P w K mg base br 2 f fd ["state","kind"] (fz K):=by
 rwa[F.ok BH ↑4 ↑1]
 ·obtain ⟨st,hs,n,cs,ws,last,k,rfl,_⟩:=h;rfl
 obtain ⟨st,hs,n,cs,ws,last,k,rfl,hS,n64,q⟩:=h;erw[⟨_,(af (aq (bX (Bq (K:=K) rfl) (wv 1) (aj gH hr ↑2 rfl (ae (wv 0) ac)) (by with_unfolding_all rfl)))),?_⟩];erw[qu.mk _ _ _ _ _ rfl hS.a (Nat.le_trans hS.o.w n64) hS.c64 hS.cl λl H1 s1 e1=> ?_];rwa[qC (aS.of e1) rfl (oW _) ?_];rw [wO];exact q H1 s1
seal fz
def Cu (ts:List Int)(i:Nat):List Int:=((List.range i).filter λ(k:Nat)=> !decide ((k:Int)∈ts)).map λk:Nat=>(k:Int)
def JN (n:Nat)(ts:List Int):List Int:= -1::Cu ts n
theorem m4 {ts:List Int}{i:Nat}:(Cu ts i).length<=i:=by
 unfold Cu;rw [List.length_map];exact Nat.le_trans (List.length_filter_le _ _) ↑17
def tR (K:Fg):Sp:=λvs H Q _=>∃st kp hs n cs ws last fl ks,vs=[.ref st,.ref kp]/\vc K H st hs n cs ws last/\n<=64/\gc K H kp fl ks/\∀l H',av H H'->H l=none->H' l=some (.lst ((JN ks.length (be cs ws)).map V.int))->Q (.ref l) H'
theorem Pb {H:Hp}{st kp:Addr}{hs:Hs}{n:Nat}{cs:List Cb}{ws:List bq}{last fl:Int}{ks:List (Int×Int)}{Q:VK}{E:XK}(h1:vc K H st hs n cs ws last)(h2:n<=64)(h3:gc K H kp fl ks)(g:∀l H',av H H'->H l=none->H' l=some (.lst ((JN ks.length (be cs ws)).map V.int))->Q (.ref l) H'):tR K [.ref st,.ref kp] H Q E:=⟨st,kp,hs,n,cs,ws,last,fl,ks,rfl,h1,h2,h3,g⟩
theorem qj {i:Nat}{ts:List Int}:Cu ts (i+1)=Cu ts i++if decide ((i:Int)∈ts)=true then [] else [(i:Int)]:=by
 unfold Cu;rw [List.range_succ,List.filter_append,List.map_append];congr 1;cases e:decide ((i:Int)∈ts)<;>simp [e]
theorem Og {t1:Tok}(F:bw K "choices" "choices" re f fd)(bj:mg "len"=none)(bg:mg "range"=none)(jW:mg "NOBODY"=some (.int (-1) t1))(gL:bp P w K mg base 2 "present" ["state","kind"] (fz K)):aD P w K mg base br 3 f fd ["state","kinds"] (tR K):=by
 have wg:aQ (.int (-1)) (.int (-1) t1):=⟨_,rfl⟩;rwa[F.ok BM ↑4 ↑1]
 ·obtain ⟨st,kp,hs,n,cs,ws,last,fl,ks,rfl,_⟩:=h;rfl
 obtain ⟨st,kp,hs,n,cs,ws,last,fl,ks,rfl,hS,n64,⟨xs,hx,hd,k1,k4,hk⟩,q⟩:=h;have xl:xs.length=ks.length:=aL hd;erw[⟨_,(af (aq (aH ↑25 (dF (ae (bh rfl jW wg) ac)) (bG rfl (aK (N':=["kind","state"]) (pk:=[none,some 0]) (by kernel_rfl)) (cy rfl bg (ae (aG (cI (K:=K) rfl) rfl bj PySem.boot_len ↑19) ac)) (λC s H ex=>(az (i:=0) (show List.Nodup (["kind","state"]:List Str) by decide+kernel) rfl ↑7)) (λC s H ex=>(eI (cW (bZ (K:=K) rfl (aj gL hr ↑2 rfl (ae (wv 1) (ae (wv 0) ac))))))) (λC s H ex=>(wv 0)))))),?_⟩];erw[ly (bx ↑17) λl1 H1 s1 n1 e1=> ?_];erw[eE (aS.of (s1 _ _ hx)) ?_];rw [xl];rwa[⟨⟨by omega,by omega⟩,?_⟩];rwa[fL (λi ys H'=>av H1 H'/\ys=(Cu (be cs ws) i).map V.int) (bx ↑6) (λi ys H' p=> ?_) ⟨.refl _,rfl⟩ (λi ys H' hi p=> ?_) (λys H' p l nl=> ?_)]
 ·rw [p.2,List.length_map];exact m4
 ·obtain ⟨sm,rfl⟩:=p;ext;erw[⟨cE,?_⟩];rwa[AS ((hS.nt s1.nt).nt sm.nt) n64 λH2 s2=> ?_]
  have i0:(0:Int)+(i:Nat)=((i:Nat):Int):=by omega
  rw [i0];ext
  cases hb:decide ((i:Int)∈be cs ws) with
  |true=>
   rwa[⟨sm.trans s2,?_⟩];rw [qj,hb];simp
  |false=>
   rwa[⟨sm.trans s2,?_⟩];rw [qj,hb];simp
 ·obtain ⟨sm,rfl⟩:=p;rw [show ((ks.length:Int)).toNat=ks.length by omega];have s2:av H' (upd H' l (.lst ((Cu (be cs ws) ks.length).map V.int))):= .upd nl;ext;rwa[Bf (s2 _ _ (sm _ _ e1)) ak (bx ?_) λl3 H3 s3 n3 e3=> ?_]
  ·have:=m4 (ts:=be cs ws) (i:=ks.length);simp only [List.length_map,List.length_cons,List.length_nil];omega
  ·have sAll:=((s1.trans sm).trans s2).trans s3;rwa[q l3 H3 sAll (none_of ((s1.trans sm).trans s2) n3) ?_];rw [e3];rfl
seal tR
def u9 (hs:Hs)(wf:Wf)(k:Dk)(cs:List Cb)(ws:List bq)(last:Int)(ds:List Dd)(cs':List Cb)(ws':List bq)(last':Int):Prop:=∃M',GH hs wf hs.ls.length (rM (uV k) (bb hs.lo ⟨cs,ws,last,false,0,[]⟩ ds)) M'/\M'.cs=cs'/\M'.ws=ws'/\M'.last=last'
theorem u9.uniq {hs:Hs}{wf:Wf}{k:Dk}{cs:List Cb}{ws:List bq}{last:Int}{ds:List Dd}{a a':List Cb}{b b':List bq}{c c':Int}(h:u9 hs wf k cs ws last ds a b c)(h':u9 hs wf k cs ws last ds a' b' c'):a=a'/\b=b'/\c=c':=by
 obtain ⟨M,h1,rfl,rfl,rfl⟩:=h;obtain ⟨M',h1',rfl,rfl,rfl⟩:=h';rw [h1.uniq h1'];exact ⟨rfl,rfl,rfl⟩
def yO (fl:Int)(ts:List Int)(ds:List Dd):Prop:=ds=[]\/∃t s g,ds=[.come t s g false]/\Gu fl (s,g)/\t∉ts
theorem yO.good {fl:Int}{n:Nat}{ts:List Int}{ds:List Dd}(h:yO fl ts ds):cc fl n ts ds= .good:=by
 rcases h with rfl|⟨t,s,g,rfl,⟨k1,k2,k3,k4,k5⟩,ht⟩
 ·rfl
 ·have e:km fl n (.come t s g false)= .good:=by
   unfold km
   first
    |(rw [if_neg ↑6,if_neg ↑6,if_neg k5])
    |(simp only [];rw [if_neg ↑6,if_neg ↑6,if_neg k5])
    |(split<;>first|omega|(split<;>first|omega|(split<;>first|rfl|(rename_i z;exact absurd z k5)|omega)))
  unfold cc;rw [e];show (if t∈ts then Dw.twice t else cc fl n (ts++[t]) [])= .good;rw [if_neg ht];rfl
theorem yO.deeds {fl:Int}{ts:List Int}{ds:List Dd}{lo:Nat}{cs:List Cb}{ws:List bq}{last:Int}(h:yO fl ts ds)(hr:∀r∈ws,iA fl r):(bb lo ⟨cs,ws,last,false,0,[]⟩ ds).fire=false/\(bb lo ⟨cs,ws,last,false,0,[]⟩ ds).cs=cs/\(bb lo ⟨cs,ws,last,false,0,[]⟩ ds).last=last/\(bb lo ⟨cs,ws,last,false,0,[]⟩ ds).ws.length<=ws.length+1/\∀r∈(bb lo ⟨cs,ws,last,false,0,[]⟩ ds).ws,iA fl r:=by
 rcases h with rfl|⟨t,s,g,rfl,⟨k1,k2,k3,k4,k5⟩,ht⟩
 ·exact ⟨rfl,rfl,rfl,Nat.le_succ _,hr⟩
 ·show (jx lo ⟨cs,ws,last,false,0,[]⟩ t s g false).fire=false/\(jx lo ⟨cs,ws,last,false,0,[]⟩ t s g false).cs=cs/\(jx lo ⟨cs,ws,last,false,0,[]⟩ t s g false).last=last/\(jx lo ⟨cs,ws,last,false,0,[]⟩ t s g false).ws.length<=ws.length+1/\∀r∈(jx lo ⟨cs,ws,last,false,0,[]⟩ t s g false).ws,iA fl r;unfold jx;split
  ·exact ⟨rfl,rfl,rfl,Nat.le_succ _,hr⟩
  ·rw [if_neg (λz=>by have z:false=true:=z;cases z)];rwa[⟨rfl,rfl,rfl,by simp,λr hr'=> ?_⟩]
   rcases List.mem_append.mp hr' with z|z
   ·exact hr r z
   ·rw [List.mem_singleton.mp z];exact ⟨k1,k2,k3,k4,k5⟩
theorem Dr {kF kL kR kT Pn Pl C:Addr}{H:Hp}{a st dp dx h ru df:Addr}{hs:Hs}{wf:Wf}{cs:List Cb}{ws:List bq}{last:Int}{ds:List Dd}{n:Nat}{k:Dk}{Q:VK}{E:XK}(h1:H a=some (.ins C dx (oY h ru df)))(cC:Jp K C)(hH:nG K H h hs)(hru:CY P w K mg base H ru wf)(hcal:lS P w K mg base 5 df (qy K (yZ Pn Pl) rz (uV k)))(hg:yZ Pn Pl H)(hS:vc K H st hs n cs ws last)(n60:n<60)(hds:vd K H dp ds)(hd:yO hs.fl (be cs ws) ds)
(g:∀r st' ll cs' ws' last' H',bB H H'->yZ Pn Pl H'->H' r=some (.tup [.ref st',.ref ll])->vc K H' st' hs (n+1) cs' ws' last'->u9 hs wf k cs ws last ds cs' ws' last'->Q (.ref r) H'):jP P w K mg base kF kL kR kT Pn Pl [.ref a,.ref st,.ref dp] H Q E:=by
 have good:=hd.good (n:=hs.ls.length);have hw:=hS.o.w
 have dl1:ds.length<=1:=by rcases hd with rfl|⟨t,s,g,rfl,_⟩<;>simp
 obtain ⟨f1,c1,l1,w1,r1⟩:=hd.deeds (lo:=hs.lo) (cs:=cs) (last:=last) hS.o.rk;have lst:∀i,0<=(bD (uV k) (bb hs.lo ⟨cs,ws,last,false,0,[]⟩ ds).ws i (bb hs.lo ⟨cs,ws,last,false,0,[]⟩ ds)).last/\(bD (uV k) (bb hs.lo ⟨cs,ws,last,false,0,[]⟩ ds).ws i (bb hs.lo ⟨cs,ws,last,false,0,[]⟩ ds)).fire=(bb hs.lo ⟨cs,ws,last,false,0,[]⟩ ds).fire:=ss (λ_ _ _ _ h=>FR h) (by rw [l1];exact hS.o.l0)
 have hwf:∀fl li he up dn,lP li he up dn->wf fl li he up dn∈eR:=by
  obtain ⟨_,_,_,_,_,_,_,z,_⟩:=hru;exact z
 have l1':=hS.h.l1;have l3':=hS.h.l3;have cl:=hS.o.len;rwa[⟨k,a,st,dp,C,dx,h,ru,df,hs,wf,cs,ws,last,false,ds,rfl,h1,cC,hH,hru,hcal,hg,hS.a,hds,⟨hS.o.len,hS.o.ck,hS.o.rk,by simp⟩,by omega,λ_ _ i r _ _=> ?_,λ_ r st' ll zs M' H' sN hg' er hst' ell hlog hno hgo=> ?_,λnb=>absurd good nb⟩]
 ·have dlen:=fK (dl:=uV k) (W:=(bb hs.lo ⟨cs,ws,last,false,0,[]⟩ ds).ws) (M:=bb hs.lo ⟨cs,ws,last,false,0,[]⟩ ds) i;rwa[⟨?_,?_,?_,(lst i).1⟩]
  ·rw [dlen.2.1,c1];omega
  ·rw [dlen.2.1,c1];omega
  ·rw [dlen.1];omega
 ·have mo:pY hs (ws.length+1) (bb hs.lo ⟨cs,ws,last,false,0,[]⟩ ds):=by
   have z:pY hs ws.length ⟨cs,ws,last,false,0,[]⟩:=⟨hS.o.len,hS.o.ck,hS.o.rk,by simp⟩;have:=z.deeds (ds:=ds) (λd hd'=> ?_) ds.length
   ·rw [List.take_of_length_le ↑13] at this;exact ⟨this.len,this.cs,this.ws,by have:=this.sum;omega⟩
   ·rcases hd with rfl|⟨t,s,g,rfl,kk,_⟩
    ·cases hd'
    ·rw [List.mem_singleton.mp hd'];exact ⟨trivial,kk⟩
  have mid:rM (uV k) (bb hs.lo ⟨cs,ws,last,false,0,[]⟩ ds)=bD (uV k) (bb hs.lo ⟨cs,ws,last,false,0,[]⟩ ds).ws (bb hs.lo ⟨cs,ws,last,false,0,[]⟩ ds).ws.length (bb hs.lo ⟨cs,ws,last,false,0,[]⟩ ds):=by unfold rM;rw [if_neg (by rw [f1];decide)]
  have hgo0:=hgo;rw [mid] at hgo;have dlen:=fK (dl:=uV k) (W:=(bb hs.lo ⟨cs,ws,last,false,0,[]⟩ ds).ws) (M:=bb hs.lo ⟨cs,ws,last,false,0,[]⟩ ds) (bb hs.lo ⟨cs,ws,last,false,0,[]⟩ ds).ws.length;have mo2:=mo.deals (dl:=uV k) mo.ws (bb hs.lo ⟨cs,ws,last,false,0,[]⟩ ds).ws.length;obtain ⟨g1,g2,g3,g4⟩:=hgo.ok hS.h hwf ((lst _).2.trans f1) mo2.cs mo2.ws (by rw [dlen.1];omega);rwa[g r st' ll M'.cs M'.ws M'.last H' sN hg' er ⟨?_,⟨?_,g3,λr hr=>mo2.ws r (g4.ws r hr),?_,?_⟩,hS.h⟩ ⟨M',hgo0,rfl,rfl,rfl⟩]
  ·rw [g1] at hst';exact hst'
  ·rw [g4.len];exact mo2.len
  ·have:=g4.wl;rw [dlen.1] at this;omega
  ·rw [g2];exact (lst _).1
seal jP
structure GN (P:Program)(w:World)(K:Fg)(mg:Str->Option Value)(base:Heap)(C Pn Pl:Addr)(H:Hp)(a:Addr)(hs:Hs)(wf:Wf)(k:Dk):Prop where
 ex:∃dx h ru df,H a=some (.ins C dx (oY h ru df))/\nG K H h hs/\CY P w K mg base H ru wf/\lS P w K mg base 5 df (qy K (yZ Pn Pl) rz (uV k))
 gg:yZ Pn Pl H
theorem GN.nt {C Pn Pl:Addr}{H H':Hp}{a:Addr}{hs:Hs}{wf:Wf}{k:Dk}(c:GN P w K mg base C Pn Pl H a hs wf k)(s:bB H H')(g:yZ Pn Pl H'):GN P w K mg base C Pn Pl H' a hs wf k:=by
 obtain ⟨dx,h,ru,df,h1,h2,h3,h4⟩:=c.ex;exact ⟨⟨dx,h,ru,df,s _ _ ↑28 h1,JF s h2,Jy s h3,h4⟩,g⟩
theorem GN.same {C Pn Pl:Addr}{H H':Hp}{a:Addr}{hs:Hs}{wf:Wf}{k:Dk}(c:GN P w K mg base C Pn Pl H a hs wf k)(s:av H H'):GN P w K mg base C Pn Pl H' a hs wf k:=c.nt s.nt (Ah _ _ s.st c.gg)
def Jq (n:Nat)(ts:List Int)(ch:Int):Prop:=ch= -1\/(0<=ch/\ch<(n:Int)/\ch∉ts)
def CF (ks:List (Int×Int))(ch:Int):List Dd:=if ch= -1 then [] else [.come ch (ks.getD ch.toNat (0,0)).1 (ks.getD ch.toNat (0,0)).2 false]
theorem F5 {fl:Int}{ks:List (Int×Int)}{ts:List Int}{ch:Int}(hk:∀k∈ks,Gu fl k)(h:Jq ks.length ts ch):yO fl ts (CF ks ch):=by
 unfold CF
 rcases h with rfl|⟨h0,h1,h2⟩
 ·rw [if_pos rfl];exact .inl rfl
 ·rw [if_neg ↑6];rwa[.inr ⟨_,_,_,rfl,?_,h2⟩]
  have:ch.toNat<ks.length:=by omega
  rw [List.getD_eq_getElem?_getD,List.getElem?_eq_getElem this];exact hk _ (List.getElem_mem this)
def ml (P:Program)(w:World)(K:Fg)(mg:Str->Option Value)(base:Heap)(C Pn Pl:Addr):Sp:=λvs H Q _=>∃a kp st ch hs wf k n cs ws last ks,vs=[.ref a,.ref kp,.ref st,.int ch]/\GN P w K mg base C Pn Pl H a hs wf k/\gc K H kp hs.fl ks/\vc K H st hs n cs ws last/\n<60/\Jq ks.length (be cs ws) ch/\∀st' cs' ws' last' H',bB H H'->yZ Pn Pl H'->vc K H' st' hs (n+1) cs' ws' last'->u9 hs wf k cs ws last (CF ks ch) cs' ws' last'->Q (.ref st') H'
theorem Ot {C Pn Pl:Addr}{H:Hp}{a kp st:Addr}{ch:Int}{hs:Hs}{wf:Wf}{k:Dk}{n:Nat}{cs:List Cb}{ws:List bq}{last:Int}{ks:List (Int×Int)}{Q:VK}{E:XK}(h1:GN P w K mg base C Pn Pl H a hs wf k)(h2:gc K H kp hs.fl ks)(h3:vc K H st hs n cs ws last)(h4:n<60)(h5:Jq ks.length (be cs ws) ch)(g:∀st' cs' ws' last' H',bB H H'->yZ Pn Pl H'->vc K H' st' hs (n+1) cs' ws' last'->u9 hs wf k cs ws last (CF ks ch) cs' ws' last'->Q (.ref st') H'):ml P w K mg base C Pn Pl [.ref a,.ref kp,.ref st,.int ch] H Q E:=⟨a,kp,st,ch,hs,wf,k,n,cs,ws,last,ks,rfl,h1,h2,h3,h4,h5,g⟩
theorem JC {H:Hp}{xs:List V}{ks:List (Int×Int)}{ch:Int}(hd:aN K H xs (ks.map cZ))(h0:0<=ch)(h1:ch<(ks.length:Int)):∃b,pW xs ch=some (.ref b)/\aP K H b [.int (ks.getD ch.toNat (0,0)).1,.int (ks.getD ch.toNat (0,0)).2]:=by
 have xl:xs.length=ks.length:=aL hd;obtain ⟨j,rfl⟩:=Int.eq_ofNat_of_zero_le h0
 have hj:j<xs.length:=by omega
 obtain ⟨p,pt,hp,e,hT⟩:=ji hd (List.getElem?_eq_getElem hj);rwa[⟨pt,by rw [gb (List.getElem?_eq_getElem hj),e],?_⟩];rw [show ((j:Int)).toNat=j by omega,List.getD_eq_getElem?_getD,hp];exact hT
theorem Ly {kC Pn Pl kF kL kR kT:Addr}{t1:Tok}(F:bw K "led" "led" KS f fd)(jW:mg "NOBODY"=some (.int (-1) t1))(cC:Jp K kC)(c5:iN P w K mg base (j4 P w) 9 "turn" kC (jP P w K mg base kF kL kR kT Pn Pl)):aD P w K mg base br 10 f fd ["court","kinds","state","choice"] (ml P w K mg base kC Pn Pl):=by
 have wg:aQ (.int (-1)) (.int (-1) t1):=⟨_,rfl⟩;rwa[F.ok Jx ↑4 ↑1]
 ·obtain ⟨a,kp,st,ch,hs,wf,k,n,cs,ws,last,ks,rfl,_⟩:=h;rfl
 obtain ⟨a,kp,st,ch,hs,wf,k,n,cs,ws,last,ks,rfl,hC,hK,hS,n60,hch,q⟩:=h;rwa[⟨_,(ag (aA (i:=4) Jx.nd rfl ↑7 (cL (ax ↑10 (wv 3) (bh rfl jW wg) (au _)) (dF ac) (dF (ae (bt (ae ay (ae (wv 3) (ae (ao ↑3 (ao ↑3 (wv 1) (wv 3) ↑5) aa ↑5) (ae (ao ↑3 (ao ↑3 (wv 1) (wv 3) ↑5) aa ↑5) (ae fD ac)))))) ac)))) (af (aq (ao ↑3 (lW (n:=9) (AU (X:=_)) hr ↑2 (wv 0) (ae (wv 2) (ae (wv 4) ac))) aa ↑5)))),?_⟩]
 have one:yO hs.fl (be cs ws) (CF ks ch):=by obtain ⟨_,_,_,_,_,hk⟩:=hK;exact F5 hk hch
 ext;by_cases z:ch= -1
 ·erw[m3 z ?_];rwa[ly (bx ↑17) λdp H9 s9 n9 e9=> ?_]
  have hds:vd K H9 dp (CF ks ch):=by unfold CF;rw [if_pos z];exact ⟨[],aS.of e9,.nil⟩
  obtain ⟨dx,h,ru,df,e1,e2,e3,e4⟩:=(hC.same s9).ex;ext;erw[ij e1 rfl c5 ?_];erw[Dr e1 cC e2 e3 e4 (hC.same s9).gg (hS.nt s9.nt) n60 hds one λr st' ll cs' ws' last' H3 sN g3 er hs' ht=> ?_];rwa[ar (aP.of er) rfl ?_];exact q st' cs' ws' last' H3 (s9.nt.trans sN) g3 hs' ht
 ·rwa[cP z ?_]
  obtain ⟨h0,h1,h2⟩:0<=ch/\ch<(ks.length:Int)/\ch∉be cs ws:=by rcases hch with y|y;exact absurd y z;exact y
  obtain ⟨xs,hx,hd,_,_,_⟩:=id hK;obtain ⟨b,hb,hT⟩:=JC hd h0 h1;ext;erw[cg (aS.of hx) hb ?_];erw[ar hT rfl ?_];erw[cg (aS.of hx) hb ?_];erw[ar hT rfl ?_];erw[cf (bx (by show 5<=1000000;decide)) λdt H8 s8 n8 e8=> ?_];rwa[ly (bx ↑17) λdp H9 s9' n9 e9=> ?_];have s9:=s8.trans s9'
  have hds:vd K H9 dp (CF ks ch):=by unfold CF;rw [if_neg z];exact ⟨_,aS.of e9,.cons ⟨dt,rfl,s9' _ _ e8,trivial⟩ .nil⟩
  obtain ⟨dx,h,ru,df,e1,e2,e3,e4⟩:=(hC.same s9).ex;ext;erw[ij e1 rfl c5 ?_];erw[Dr e1 cC e2 e3 e4 (hC.same s9).gg (hS.nt s9.nt) n60 hds one λr st' ll cs' ws' last' H3 sN g3 er hs' ht=> ?_];rwa[ar (aP.of er) rfl ?_];exact q st' cs' ws' last' H3 (s9.nt.trans sN) g3 hs' ht
seal ml
theorem bM {H H':Hp}{a:Addr}{ns:List Int}(h:CW K H a ns)(s:av H H'):CW K H' a ns:=⟨s.seq h.1,h.2⟩
theorem KQ {H H':Hp}{a:Addr}{ns:List Int}(h:CW K H a ns)(s:bB H H'):CW K H' a ns:=⟨s.sqL h.1,h.2⟩
theorem L6 (ls:List iC):noLs (ls.map iC.d)=true:=by
 induction ls with
 |nil=>rfl
 |cons l ls ih=>rw [List.map_cons,noLs,ih];rfl
theorem Op {fl i:Int}(f8:2<=fl)(h0:0<=i)(h1:i<fl - 1):0<=(1:Int)*2^(1+i).toNat/\(1:Int)*2^(1+i).toNat<2^fl.toNat/\(1:Int)*2^(1+i).toNat% 2=0:=by
 obtain ⟨f,rfl⟩:=Int.eq_ofNat_of_zero_le (show 0<=fl by omega);obtain ⟨j,rfl⟩:=Int.eq_ofNat_of_zero_le h0
 have e1:(1+(j:Int)).toNat=j+1:=by omega
 have e2:((f:Int)).toNat=f:=by omega
 rw [e1,e2,Int.one_mul];have p:(0:Int)<2^(j+1):=Int.pow_pos ↑2;have lt:(2:Nat)^(j+1)<2^f:=Nat.pow_lt_pow_right ↑2 ↑6
 have ec:∀n:Nat,(2:Int)^n=((2^n:Nat):Int):=λn=>by rw [Int.natCast_pow];rfl
 rwa[⟨by omega,?_,?_⟩]
 ·rw [ec,ec];omega
 ·rw [Int.pow_succ];omega
theorem Mb {i:Int}(h0:0<=i)(h1:i<3):∃s,pW [V.str (Str.ofString "plain"),.str (Str.ofString "hasty"),.str (Str.ofString "slow")] i=some (.str s)/\(s=Str.ofString "plain"\/s=Str.ofString "hasty"\/s=Str.ofString "slow"):=by
 rcases (show i=0\/i=1\/i=2 by omega) with rfl|rfl|rfl
 ·exact ⟨_,rfl,.inl rfl⟩
 ·exact ⟨_,rfl,.inr (.inl rfl)⟩
 ·exact ⟨_,rfl,.inr (.inr rfl)⟩
theorem KL {i:Int}(h0:0<=i)(h1:i<2):∃s,pW [V.str (Str.ofString "free"),.str (Str.ofString "way")] i=some (.str s)/\(s=Str.ofString "free"\/s=Str.ofString "way")/\yN s:=by
 rcases (show i=0\/i=1 by omega) with rfl|rfl
 ·exact ⟨_,rfl,.inl rfl,by decide+kernel⟩
 ·exact ⟨_,rfl,.inr rfl,by decide+kernel⟩
inductive zi (K:Fg)(vs:List V)(H:Hp)(Q:VK)(_e:XK):Prop
 |mk (a ns:_) (_:vs=[.ref a]) (_:CW K H a ns) (_:∀p hs H',av H H'->nG K H' p hs->MC hs->Q (.ref p) H')
theorem Ip {kNH:Addr}(F:bw K "_law_house" "_law_house" v3 f fd)(bg:mg "range"=none)(aT:bp P w K mg base 1 "_law_draw" ["_law_script","_law_k","_law_many"] (qz K))(jA:bp P w K mg base 4 "made_house" ["floors","lifts","locked","sort"] (λvs H Q _=>nU K kNH vs H Q E0)):aD P w K mg base br 5 f fd ["_law_script"] (zi K):=by
 rwa[F.ok eL ↑4 ↑1]
 ·obtain ⟨a,ns,rfl,_⟩:=h;rfl
 obtain ⟨a,ns,rfl,hS,q⟩:=h;erw[⟨_,(ag (aA (i:=1) eL.nd rfl ↑7 (aH ↑25 aa ↑26)) (ag (aA (i:=2) eL.nd rfl ↑7 (dF ac)) (ag (d9 PassesOwn.never rfl (cy rfl bg (ae (aH ↑25 aa ↑26) ac)) (az (i:=3) eL.nd rfl ↑7) (ag (aA (i:=4) eL.nd rfl ↑7 (ao ↑3 (dF (ae ay (ae ay (ae ay ac)))) (aj aT hr ↑2 rfl (ae (wv 0) (ae (aH ↑25 aa (wv 3)) (ae aa ac)))) ↑5)) (ag (aA (i:=5) eL.nd rfl ↑7 (aH ↑25 aa (aj aT hr ↑2 rfl (ae (wv 0) (ae (aH ↑25 aa (wv 3)) (ae aa ac)))))) (af (aO (dY (K:=K) rfl PySem.F.plainAttrs_list PySem.F.slot_list_append PySem.F.type_list_append dB (wv 2) (ae (bt (ae (aj aT hr ↑2 rfl (ae (wv 0) (ae (aH ↑25 aa (wv 3)) ↑19))) (ae (wv 5) (ae (aH ↑25 aa (aj aT hr ↑2 rfl (ae (wv 0) (ae (aH ↑25 aa (wv 3)) (ae aa ac))))) (ae (wv 4) ac))))) ac))))))) (ag (aA (i:=6) eL.nd rfl ↑7 aa) (mL (aI (ax ↑10 ↑26 aa (au _)) (af (aA (i:=6) eL.nd rfl ↑7 (aH Js aa (aH ↑25 aa (aj aT hr ↑2 rfl (ae (wv 0) (ae aa (ae (aH eK (wv 1) aa) ac)))))))) aC) (af (aq (aj jA hr ↑2 rfl (ae (wv 1) (ae (wv 2) (ae (wv 6) (ae (ao ↑3 (dF (ae ay (ae ay ac))) ↑26 ↑5) ac)))))))))))),?_⟩];rwa[qz.mk _ _ _ _ rfl hS ↑2 ↑2 ↑2 λfl0 f0 f1=> ?_];obtain ⟨fl,hfl⟩:∃fl:Int,2+fl0=fl:=⟨_,rfl⟩
 have f2:2<=fl:=by omega
 have f8:fl<=8:=by omega
 ext;erw[ly (bx ↑17) λl H1 s1 n1 e1=> ?_];erw[qz.mk _ _ _ _ rfl (bM hS s1) ↑2 ↑2 ↑2 λm m0 m1=> ?_];rwa[⟨⟨by omega,by omega⟩,?_⟩];rwa[eu (λj σ HX=>av H HX/\∃(ys:List V) (ls:List iC) (o3 o4 o5 o6:Option V),σ=[some (.ref a),some (.int fl),some (.ref l),o3,o4,o5,o6]/\HX l=some (.lst ys)/\aN K HX ys (ls.map iC.d)/\ls.length=j/\∀x∈ls,iC.ok fl x=true) ⟨s1,[],[],_,_,_,_,by rw [<-hfl];rfl,e1,.nil,rfl,λx hx=>nomatch hx⟩ (λj σ HX hj pv=> ?_) (λσ HX pv=> ?_)]
 ·obtain ⟨sX,ys,ls,o3,o4,o5,o6,rfl,eX,dX,rfl,hx⟩:=pv
  have hj':(ls.length:Int)<3:=by omega
  have yl:ys.length=ls.length:=aL dX;have hSX:=bM hS sX;ext;erw[ly (bx ↑17) λlk H2 s2 n2 e2=> ?_];rwa[qz.mk _ _ _ _ rfl (bM hSX s2) ↑6 ↑6 ↑2 λi i0 i1=> ?_];obtain ⟨kd,ek,hk⟩:=Mb i0 i1;ext;erw[cg (aS.of e2) ek ?_];erw[qz.mk _ _ _ _ rfl (bM hSX s2) ↑6 ↑6 ↑2 λr r0 r1=> ?_];erw[⟨.inl ⟨rfl,_,aS.of (s2 _ _ eX)⟩,?_⟩];erw[qz.mk _ _ _ _ rfl (bM hSX s2) ↑6 ↑6 ↑6 λst st0 st1=> ?_];erw[qz.mk _ _ _ _ rfl (bM hSX s2) ↑6 ↑6 ↑2 λtn tn0 tn1=> ?_];rwa[cf (bx (by show 4<=1000000;decide)) λt H3 s3 n3 e3=> ?_];have s23:=s2.trans s3;ext;rwa[iK (s23 _ _ eX) (CT ↑6) ?_];have eX3:=s23 _ _ eX;rwa[⟨av.updF (sX.trans s23) n1,ys++[.ref t],ls++[⟨st,1+r,1+tn,kd⟩],_,_,_,_,rfl,ak,?_,by simp,λx hx'=> ?_⟩]
  ·rw [List.map_append];exact Paired.app (m9 (aN.same dX s23) (L6 ls) eX3) (.cons (cm.noL (d:=iC.d ⟨st,1+r,1+tn,kd⟩) (gF (aP.of e3) (.cons (.int _) (.cons (.int _) (.cons (.int _) (.cons (.str _) .nil))))) rfl eX3) .nil)
  ·rcases List.mem_append.mp hx' with z|z
   ·exact hx x z
   ·rw [List.mem_singleton.mp z];unfold iC.ok;exact decide_eq_true ⟨st0,st1,by show 1<=1+r;omega,by show 1+r<=6;omega,by show 1<=1+tn;omega,by show 1+tn<=4;omega,hk⟩
 obtain ⟨sX,ys,ls,o3,o4,o5,o6,rfl,eX,dX,hl,hx⟩:=pv;have hSX:=bM hS sX;ext;rwa[FU (λσ HY=>HY=HX/\∃(lo:Int) (o3 o4 o5:Option V),σ=[some (.ref a),some (.int fl),some (.ref l),o3,o4,o5,some (.int lo)]/\0<=lo/\lo<2^fl.toNat/\lo% 2=0) ?_ ?_]
 ·ext;erw[qz.mk _ _ _ _ rfl hSX ↑2 ↑2 ↑2 λz z0 z1=> ?_];rwa[oR (λy=> ?_) (λy=> ?_)]
  ·ext;erw[qz.mk _ _ _ _ rfl hSX ↑2 ↑2 ↑6 λi i0 i1=> ?_];rwa[⟨JM ↑6 ↑6 ↑2,?_⟩];obtain ⟨l1,l2,l3⟩:=Op f2 i0 i1;exact ⟨rfl,_,_,_,_,rfl,l1,l2,l3⟩
  ·exact ⟨rfl,0,_,_,_,rfl,by decide,Int.pow_pos ↑2,by decide⟩
 rintro σ' H' ⟨rfl,lo,o3,o4,o5,rfl,lo0,lo1,lo2⟩;ext;erw[ly (bx ↑17) λl2 H2 s2 n2 e2=> ?_];rwa[qz.mk _ _ _ _ rfl (bM hSX s2) ↑2 ↑2 ↑2 λi i0 i1=> ?_];obtain ⟨so,es,hso,sok⟩:=KL i0 i1;ext;erw[cg (aS.of e2) es ?_];have hok:GL fl ls lo so=true:=wz.mpr ⟨⟨f2,f8⟩,⟨by omega,by omega⟩,List.all_eq_true.mpr hx,⟨lo0,lo1,lo2⟩,hso⟩;rwa[On (.inl (FS (aS.of (s2 _ _ eX)) (aN.same dX s2))) ↑6 sok (λ_ t H3 s3 hh=> ?_) (λno=>by rw [hok] at no;cases no)];obtain ⟨p,rfl,hC,hst⟩:=Fr hh hok;exact q p _ H3 ((sX.trans s2).trans s3) hC hst
theorem Dt {s:Str}{fl:Int}(h:uc s):fC (tQ++s) fl=some (.ta s)/\tG (tQ++s):=by
 have hl:s.cps.toList.length=36:=by rw [bc];exact h.1
 have c6:tQ.cps.toList.length=6:=by decide
 have ca:(tQ++s).cps.toList=tQ.cps.toList++s.cps.toList:=pC ..
 have e1:Txt.slice (tQ++s) none (some 6)=tQ:=by
  apply vo;rw [mv ↑2,ca];show (tQ.cps.toList++s.cps.toList).take 6=_;rw [List.take_append_of_le_length ↑6,List.take_of_length_le ↑6]
 have e2:Txt.slice (tQ++s) (some 6) none=s:=by
  apply vo;rw [gW ↑2,ca];show (tQ.cps.toList++s.cps.toList).drop 6=_;rw [List.drop_append_of_le_length ↑6,List.drop_of_length_le ↑6,List.nil_append]
 have ne:∀t:Str,t.cps.toList.length<40->tQ++s≠t:=λt ht z=>by
  have:=congrArg (λx:Str=>x.cps.toList.length) z;simp only [ca,List.length_append] at this;omega
 rwa[⟨?_,?_,?_⟩]
 ·unfold fC;rw [if_neg (ne _ ↑2),if_neg (ne _ ↑2),if_neg (ne _ ↑2),if_neg (ne _ ↑2),e1,e2,if_pos ⟨rfl,h⟩]
 ·rw [<-bc,ca,List.length_append];omega
 ·intro c hc;rw [ca] at hc
  rcases List.mem_append.mp hc with z|z
  ·exact (show ∀c∈tQ.cps.toList,c<128 by decide) c z
  ·exact Iz h c z
theorem K7 {s:Str}{k:Int}{c:Nat}(h:uc s)(k0:0<=k)(k1:k<36)(hc:isL ⟨#[c]⟩):uc (Txt.slice s none (some k)++⟨#[c]⟩++Txt.slice s (some (k+1)) none):=by
 have hl:s.cps.toList.length=36:=by rw [bc];exact h.1
 have ca:(Txt.slice s none (some k)++⟨#[c]⟩++Txt.slice s (some (k+1)) none).cps.toList=s.cps.toList.take k.toNat++[c]++s.cps.toList.drop (k+1).toNat:=by
  rw [pC,pC,mv k0,gW ↑6]
 rwa[⟨?_,λx hx=> ?_⟩]
 ·rw [<-bc,ca];simp only [List.length_append,List.length_take,List.length_drop,List.length_cons,List.length_nil];omega
 ·rw [ca] at hx
  rcases List.mem_append.mp hx with z|z
  ·rcases List.mem_append.mp z with z|z
   ·exact h.2 x (List.mem_of_mem_take z)
   ·rw [List.mem_singleton.mp z];exact hc.2 c ↑17
  ·exact h.2 x (List.mem_of_mem_drop z)
theorem Cv {i fl:Int}(h0:0<=i)(h1:i<4):∃s rk,pW [V.str Kw,.str NJ,.str NG,.str NA] i=some (.str s)/\fC s fl=some rk/\tG s:=by
 rcases (show i=0\/i=1\/i=2\/i=3 by omega) with rfl|rfl|rfl|rfl
 ·exact ⟨Kw,.sw,rfl,by unfold fC;rw [if_pos rfl],by decide,show ∀c∈Kw.cps.toList,c<128 by decide⟩
 ·exact ⟨NJ,.ho,rfl,by unfold fC;rw [if_neg ↑2,if_pos rfl],by decide,show ∀c∈NJ.cps.toList,c<128 by decide⟩
 ·exact ⟨NG,.ne,rfl,by unfold fC;rw [if_neg ↑2,if_neg ↑2,if_pos rfl],by decide,show ∀c∈NG.cps.toList,c<128 by decide⟩
 ·exact ⟨NA,.ba (fl - 1),rfl,by unfold fC;rw [if_neg ↑2,if_neg ↑2,if_neg ↑2,if_pos rfl],by decide,show ∀c∈NA.cps.toList,c<128 by decide⟩
inductive DH (K:Fg)(k:Ks)(vs:List V)(H:Hp)(Q:VK)(_e:XK):Prop
 |mk (a ns fl:_) (_:vs=[.ref a,.int fl]) (_:CW K H a ns) (_:2<=fl) (_:∀ra dx (rk:Rk) H',rk.ok->av H H'->H' ra=some (.ins (rk.cl k) dx rk.fs)->Q (.ref ra) H')
theorem Lv {k:Ks}{kNR:Addr}(F:bw K "_law_rule" "_law_rule" zF f fd)(bg:mg "range"=none)(aT:bp P w K mg base 1 "_law_draw" ["_law_script","_law_k","_law_many"] (qz K))(jy:bp P w K mg base 3 "rule_of" ["text","floors"] (λvs H Q _=>iV K k kNR vs H Q E0))(pB:bp P w K mg base 3 "as_table" ["rule"] (DR K k)):aD P w K mg base br 4 f fd ["_law_script","_law_floors"] (DH K k):=by
 rwa[F.ok jR ↑4 ↑1]
 ·obtain ⟨a,ns,fl,rfl,_⟩:=h;rfl
 obtain ⟨a,ns,fl,rfl,hS,f2,q⟩:=h;erw[⟨_,(ag (aA (i:=2) jR.nd rfl ↑7 ↑26) (ag (aI (ax w_lt (wv 2) aa (au _)) (af (aq (aj jy hr ↑2 rfl (ae (ao ↑3 (dF (ae ay (ae ay (ae ay (ae ay ac))))) (wv 2) ↑5) ↑19)))) aC) (ag (aA (i:=3) jR.nd rfl ↑7 (aj pB hr ↑2 rfl (ae (aj jy hr ↑2 rfl (ae ay ↑19)) ac))) (mL (aI (ax w_lt (wv 2) aa (au _)) (ag (aA (i:=4) jR.nd rfl ↑7 ↑26) (af (aA (i:=3) jR.nd rfl ↑7 (aH ↑25 (aH ↑25 (jf (AD (K:=K) rfl) (wv 3) mM (lV (wv 4))) (ao ↑3 ay ↑26 ↑5)) (jf (AD (K:=K) rfl) (wv 3) (lV (aH ↑25 (wv 4) aa)) mM))))) (af (aA (i:=3) jR.nd rfl ↑7 (dY (K:=K) rfl PySem.F.plainAttrs_str PySem.F.slot_str_join PySem.F.type_str_join (Dg (K:=K) rfl) ay (ae (bG rfl (aK (N':=["_law_k","_law_script"]) (pk:=[none,some 0]) (by kernel_rfl)) (cy rfl bg (ae aa ac)) (λC s H ex=>(az (i:=0) (show List.Nodup (["_law_k","_law_script"]:List Str) by decide+kernel) rfl ↑7)) (λC s H ex=>b5) (λC s H ex=>(ao ↑3 ay (aj aT hr ↑2 rfl (ae (wv 1) (ae (aH ↑25 aa (wv 0)) (ae aa ac)))) ↑5))) ac))))) (af (aq (aj jy hr ↑2 rfl (ae (aH ↑25 ay (wv 3)) ↑19)))))))),?_⟩];erw[qz.mk _ _ _ _ rfl hS ↑2 ↑2 ↑2 λway w0 w1=> ?_];rwa[oR (λz=> ?_) (λz=> ?_)]
 ·ext;rwa[ly (bx ↑17) λl1 H1 s1 n1 e1=> ?_];obtain ⟨s,rk,es,er,ht⟩:=Cv (fl:=fl) w0 z;ext;erw[cg (aS.of e1) es ?_];exact wc ht f2 (λrk' er' ra dx H2 s2 n2 e2=>q ra dx rk' H2 (mJ f2 er') (s1.trans s2) e2) (λno=>by rw [er] at no;cases no)
 ext;erw[wc (s:=Kw) ⟨by decide,show ∀c∈Kw.cps.toList,c<128 by decide⟩ f2 (λrk er ra dx H1 s1 n1 e1=> ?_) (λno=>by unfold fC at no;rw [if_pos rfl] at no;cases no)];rwa[DR.mk _ _ _ rfl (mJ f2 er) e1 λH2 s2=> ?_];have okS:=Kq (mJ f2 er);generalize rk.tbl=L at okS;have s02:=s1.trans s2;have hS2:=bM hS s02;ext;rwa[FU (λσ HX=>av H HX/\∃(t:Str) (o3:Option V),σ=[some (.ref a),some (.int fl),some (.int way),some (.str t),o3]/\uc t) ?_ ?_]
 ·ext;rwa[oR (λy=> ?_) (λy=> ?_)]
  ·ext;erw[qz.mk _ _ _ _ rfl hS2 ↑2 ↑2 ↑2 λat' a0 a1=> ?_];have lL:L.length=36:=okS.1;erw[⟨bx ↑6,?_⟩];rwa[qz.mk _ _ _ _ rfl hS2 ↑2 ↑2 ↑2 λj j0 j1=> ?_];obtain ⟨c,ec,hL⟩:=Fk j0 j1;ext;rwa[vI (bx ↑2) ec ?_]
   have la:(Txt.slice L none (some at')).length<=36:=by rw [<-bc,mv a0,List.length_take,bc];omega
   have lb:(Txt.slice L (some (at'+1)) none).length<=36:=by rw [<-bc,gW ↑6,List.length_drop,bc];omega
   have lc:(⟨#[c]⟩:Str).length=1:=rfl;ext;erw[⟨bx ↑6,?_⟩];erw[⟨bx ↑6,?_⟩];rwa[⟨bx (by rw [strLen_append];omega),?_⟩];exact ⟨s02,_,_,rfl,K7 okS a0 a1 hL⟩
  ·ext;erw[⟨rfl,?_⟩];rwa[⟨⟨by decide,by decide⟩,?_⟩];rwa[fL (λi ys HX=>HX=H2/\∃ts:List Str,ys=ts.map V.str/\ts.length=i/\∀x∈ts,isL x) (bx ↑2) (λi ys HX p=>by obtain ⟨_,ts,rfl,l,_⟩:=p;rw [List.length_map,l];exact Nat.le_refl _) ⟨rfl,[],rfl,rfl,λx hx=>nomatch hx⟩ (λi ys HX hi p=> ?_) (λys HX p l n=> ?_)]
   ·obtain ⟨rfl,ts,rfl,lt,ht⟩:=p;have hi':i<36:=hi;ext;erw[⟨cE,?_⟩];rwa[qz.mk _ _ _ _ rfl hS2 ↑6 ↑6 ↑2 λj j0 j1=> ?_];obtain ⟨c,ec,hL⟩:=Fk j0 j1;ext;rwa[vI (bx ↑2) ec ?_];rwa[⟨rfl,ts++[⟨#[c]⟩],by rw [List.map_append];rfl,by rw [List.length_append,lt];rfl,λx hx=> ?_⟩]
    rcases List.mem_append.mp hx with hx|hx
    ·exact ht x hx
    ·rw [List.mem_singleton.mp hx];exact hL
   ·obtain ⟨rfl,ts,rfl,lt,ht⟩:=p;have lt:ts.length=36:=lt;obtain ⟨g1,g2⟩:=uP (z:=Str.ofString "") (by decide+kernel) (ts:=ts) λt h=>(ht t h).1;ext;rwa[Fo (ts:=ts) (aS.of ak) (bx ↑6) (bx ↑6) ?_];exact ⟨s02.trans (.upd n),_,_,rfl,AZ ⟨lt,ht⟩⟩
 rintro σ' H' ⟨sX,t,o3,rfl,ot⟩;obtain ⟨er2,ht2⟩:=Dt (fl:=fl) ot;ext;have lt:t.length=36:=ot.1
 have l6:(Str.ofString "table ").length=6:=by decide
 erw[⟨bx ↑6,?_⟩];exact wc ht2 f2 (λrk' er' ra dx H3 s3 n3 e3=>q ra dx rk' H3 (mJ f2 er') (sX.trans s3) e3) (λno=>by rw [er2] at no;cases no)
theorem Ou {s i fl:Int}(s0:0<=s)(s1:s<fl)(i0:0<=i)(i1:i<fl - 1):Gu fl (s,(s+1+i)% fl):=by
 rwa[⟨s0,s1,Int.emod_nonneg _ ↑6,Int.emod_lt_of_pos _ ↑6,λz=> ?_⟩];have z:s=(s+1+i)% fl:=z;by_cases w:s+1+i<fl
 ·rw [Int.emod_eq_of_lt ↑6 w] at z;omega
 ·have e:(s+1+i)% fl=s+1+i - fl:=by
   rw [show s+1+i=(s+1+i - fl)+fl by omega,Int.add_emod_right,Int.emod_eq_of_lt ↑6 ↑6];omega
  omega
inductive DK (K:Fg)(vs:List V)(H:Hp)(Q:VK)(_e:XK):Prop
 |mk (a ns fl:_) (_:vs=[.ref a,.int fl]) (_:CW K H a ns) (_:2<=fl) (_:∀p ks H',av H H'->gc K H' p fl ks->Q (.ref p) H')
theorem LA (F:bw K "_law_kinds" "_law_kinds" v0 f fd)(bg:mg "range"=none)(aT:bp P w K mg base 1 "_law_draw" ["_law_script","_law_k","_law_many"] (qz K)):aD P w K mg base br 2 f fd ["_law_script","_law_floors"] (DK K):=by
 rwa[F.ok mE ↑4 ↑1]
 ·obtain ⟨a,ns,fl,rfl,_⟩:=h;rfl
 obtain ⟨a,ns,fl,rfl,hS,f2,q⟩:=h;erw[⟨_,(ag (aA (i:=2) mE.nd rfl ↑7 (dF ac)) (ag (d9 PassesOwn.never rfl (cy rfl bg (ae (aH ↑25 aa ↑26) ac)) (az (i:=3) mE.nd rfl ↑7) (ag (aA (i:=4) mE.nd rfl ↑7 (aj aT hr ↑2 rfl (ae (wv 0) (ae (aH ↑25 aa (wv 3)) ↑19)))) (af (aO (dY (K:=K) rfl PySem.F.plainAttrs_list PySem.F.slot_list_append PySem.F.type_list_append dB (wv 2) (ae (bt (ae (wv 4) (ae (aH iG (aH ↑25 (aH ↑25 (wv 4) aa) (aj aT hr ↑2 rfl (ae (wv 0) (ae (aH ↑25 aa (wv 3)) (ae (aH eK (wv 1) aa) ac))))) (wv 1)) ac))) ac)))))) (af (aq (wv 2))))),?_⟩];erw[ly (bx ↑17) λl H1 s1 n1 e1=> ?_];erw[qz.mk _ _ _ _ rfl (bM hS s1) ↑2 ↑2 ↑2 λm m0 m1=> ?_];rwa[⟨⟨by omega,by omega⟩,?_⟩];rwa[eu (λj σ HX=>av H HX/\∃(ys:List V) (ks:List (Int×Int)) (o3 o4:Option V),σ=[some (.ref a),some (.int fl),some (.ref l),o3,o4]/\HX l=some (.lst ys)/\aN K HX ys (ks.map cZ)/\ks.length=j/\∀k∈ks,Gu fl k) ⟨s1,[],[],_,_,rfl,e1,.nil,rfl,λx hx=>nomatch hx⟩ (λj σ HX hj pv=> ?_) (λσ HX pv=> ?_)]
 ·obtain ⟨sX,ys,ks,o3,o4,rfl,eX,dX,rfl,hk⟩:=pv
  have hj':(ks.length:Int)<4:=by omega
  have yl:ys.length=ks.length:=aL dX;have hSX:=bM hS sX;ext;erw[qz.mk _ _ _ _ rfl hSX ↑6 ↑6 ↑6 λst st0 st1=> ?_];erw[⟨.inl ⟨rfl,_,aS.of eX⟩,?_⟩];erw[qz.mk _ _ _ _ rfl hSX ↑6 ↑6 ↑6 λi i0 i1=> ?_];erw[⟨by omega,?_⟩];erw[cf ↑23 λt H3 s3 n3 e3=> ?_];have eX3:=s3 _ _ eX;rwa[iK eX3 (CT ↑6) ?_];rwa[⟨av.updF (sX.trans s3) n1,ys++[.ref t],ks++[(st,(st+1+i)% fl)],_,_,rfl,ak,?_,by simp,λx hx=> ?_⟩]
  ·rw [List.map_append];exact Paired.app (m9 (aN.same dX s3) (fu ks) eX3) (.cons (cm.noL (d:=cZ (st,(st+1+i)% fl)) (gF (aP.of e3) (.cons (.int _) (.cons (.int _) .nil))) rfl eX3) .nil)
  ·rcases List.mem_append.mp hx with z|z
   ·exact hk x z
   ·rw [List.mem_singleton.mp z];exact Ou st0 st1 i0 i1
 obtain ⟨sX,ys,ks,o3,o4,rfl,eX,dX,hl,hk⟩:=pv;ext;exact q l ks HX sX ⟨ys,eX,dX,by omega,by omega,hk⟩
theorem LC (F:bw K "_law_inside" "_law_inside" qZ f fd):aD P w K mg base br 2 f fd ["_law_state","_law_kind"] (fz K):=by
 rwa[F.ok jS ↑4 ↑1]
 ·unfold fz at h;obtain ⟨st,hs,n,cs,ws,last,k,rfl,_⟩:=h;rfl
 unfold fz at h;obtain ⟨st,hs,n,cs,ws,last,k,rfl,hS,n64,q⟩:=h;have c64:=hS.c64;have cl:=hS.cl;have wl:ws.length<=64:=Nat.le_trans hS.o.w n64;obtain ⟨tc,tw,xs,ys,h1,h2,h3,h4,h5⟩:=hS.a;have yl:ys.length=ws.length:=aL h5;have xl:xs.length=cs.length:=h4.len;erw[⟨_,(ag (jM (i:=2) rfl jS.nd rfl ↑7 (aK (N':=["_law_rider"]) (pk:=[none]) (by kernel_rfl)) (bF (K:=K) rfl ↑16) (λC s H ex=>(az (i:=0) (show List.Nodup (["_law_rider"]:List Str) by decide+kernel) rfl ↑7)) (λC s H ex=>b5) (λC s H ex=>↑16)) (ag (d9 PassesOwn.never rfl (bF (K:=K) rfl ↑16) (az (i:=3) jS.nd rfl ↑7) (af (aA (i:=2) jS.nd rfl ↑7 (aH ↑25 (wv 2) (bG rfl (aK (N':=["_law_pair"]) (pk:=[none]) (by kernel_rfl)) (bF (K:=K) rfl (ao ↑3 (wv 3) aa ↑5)) (λC s H ex=>(az (i:=0) (show List.Nodup (["_law_pair"]:List Str) by decide+kernel) rfl ↑7)) (λC s H ex=>b5) (λC s H ex=>↑16)))))) (af (aq (bX (Bq (K:=K) rfl) (wv 1) (wv 2) (by with_unfolding_all rfl)))))),?_⟩];erw[ar h1 rfl ?_];rwa[dW h3 ?_];rwa[cJ (xs:=ys) (λj us HX=>av H HX/\us=((ws.take j).map (·.tag)).map V.int) (bx ↑6) ↑22 ⟨.refl _,rfl⟩ (λj us HX _ h=>h.1.seqT h3) (λj y us HX hy hP=> ?_) (λus HX hP l n=> ?_)]
 ·obtain ⟨sx,rfl⟩:=hP;obtain ⟨r,hr',dr⟩:=bJ (f:=bq.d) h5 hy;obtain ⟨ra,rfl,hT⟩:=eG (cm.same dr sx);ext;erw[⟨cE,?_⟩];rwa[ar hT rfl ?_];rwa[⟨sx,?_⟩];rw [List.take_add_one,hr',List.map_append,List.map_append];rfl
 obtain ⟨sx,rfl⟩:=hP;rw [yl,List.take_of_length_le ↑13];have s2:av HX (upd HX l (.lst ((ws.map (·.tag)).map V.int))):= .upd n;have e2:upd HX l (.lst ((ws.map (·.tag)).map V.int)) l=some (.lst ((ws.map (·.tag)).map V.int)):=ak;generalize hH2:upd HX l (.lst ((ws.map (·.tag)).map V.int))=H2 at s2 e2 ⊢;have s02:=sx.trans s2;ext;erw[ar (s02.seqT h1) rfl ?_];rwa[dW (s02.seqT h2) ?_];rwa[yA (xs:=xs) (λi σ HY=>av H HY/\∃(lt:Addr) (o3:Option V),σ=[some (.ref st),some (.int k),some (.ref lt),o3]/\HY lt=some (.lst ((ws.map (·.tag)++(cs.take i).flatMap λc=>c.ps.map (·.1)).map V.int))) ⟨s02,l,_,rfl,by rw [List.take_zero,List.flatMap_nil,List.append_nil];exact e2⟩ (λi σ HY _ pv=>pv.1.seqT h2) (λi x σ HY hx pv=> ?_) (λσ HY pv=> ?_)]
 ·obtain ⟨sY,lt,o3,rfl,eY⟩:=pv;obtain ⟨c,hc,t,rfl,hct⟩:=h4.get1 hx;obtain ⟨b,bs,et,eb,db⟩:=hct.keep sY.st;have bl:bs.length=c.ps.length:=aL db;have c64':=c64 c (List.mem_of_getElem? hc);ext;erw[ar (aP.of et) rfl ?_];rwa[dW (aP.of eb) ?_];rwa[cJ (xs:=bs) (λj us HX=>av HY HX/\us=((c.ps.take j).map (·.1)).map V.int) (bx ↑6) ↑22 ⟨.refl _,rfl⟩ (λj us HX _ h=>h.1.seqT (aP.of eb)) (λj y us HX hy hP=> ?_) (λus HZ hP l3 n3=> ?_)]
  ·obtain ⟨sx,rfl⟩:=hP;obtain ⟨p,pt,hp,rfl,hpT⟩:=ji db hy;ext;erw[⟨cE,?_⟩];rwa[ar (sx.seqT hpT) rfl ?_];rwa[⟨sx,?_⟩];rw [List.take_add_one,hp,List.map_append,List.map_append];rfl
  obtain ⟨sx,rfl⟩:=hP;rw [bl,List.take_of_length_le ↑13];have s3:av HZ (upd HZ l3 (.lst ((c.ps.map (·.1)).map V.int))):= .upd n3;have e3:upd HZ l3 (.lst ((c.ps.map (·.1)).map V.int)) l3=some (.lst ((c.ps.map (·.1)).map V.int)):=ak;generalize hH3:upd HZ l3 (.lst ((c.ps.map (·.1)).map V.int))=H3 at s3 e3 ⊢;have sY3:=sx.trans s3;ext;rwa[Bf (sY3 _ _ eY) e3 (bx ?_) λl4 H4 s4 n4 e4=> ?_]
  ·have h1:((cs.take i).flatMap λc=>c.ps.map (·.1)).length<=64*(cs.take i).length:=se λc hc=>c64 c (List.mem_of_mem_take hc)
   have h2:(cs.take i).length<=10:=by rw [List.length_take];omega
   simp only [List.length_map,List.length_append];omega
  ·rwa[⟨(sY.trans sY3).trans s4,l4,_,rfl,?_⟩];rw [e4,List.take_add_one,hc];simp only [Option.toList_some,List.flatMap_append,List.flatMap_cons,List.flatMap_nil,List.append_nil,List.map_append,List.append_assoc]
 obtain ⟨sY,lt,o3,rfl,eY⟩:=pv;rw [xl,List.take_of_length_le ↑13] at eY;ext;rwa[qC (aS.of eY) rfl (oW _) ?_];rw [wO];exact q HY sY
theorem LH (F:bw K "_law_choices" "_law_choices" ow f fd)(bj:mg "len"=none)(bg:mg "range"=none)(dM:bp P w K mg base 2 "_law_inside" ["_law_state","_law_kind"] (fz K)):aD P w K mg base br 3 f fd ["_law_state","_law_kinds_here"] (tR K):=by
 rwa[F.ok zy ↑4 ↑1]
 ·unfold tR at h;obtain ⟨st,kp,hs,n,cs,ws,last,fl,ks,rfl,_⟩:=h;rfl
 unfold tR at h;obtain ⟨st,kp,hs,n,cs,ws,last,fl,ks,rfl,hS,n64,⟨xs,hx,hd,k1,k4,hk⟩,q⟩:=h;have xl:xs.length=ks.length:=aL hd;erw[⟨_,(af (aq (aH ↑25 (dF (ae (mP lY aa) ac)) (bG rfl (aK (N':=["_law_kind","_law_state"]) (pk:=[none,some 0]) (by kernel_rfl)) (cy rfl bg (ae (aG (cI (K:=K) rfl) rfl bj PySem.boot_len ↑19) ac)) (λC s H ex=>(az (i:=0) (show List.Nodup (["_law_kind","_law_state"]:List Str) by decide+kernel) rfl ↑7)) (λC s H ex=>(eI (cW (bZ (K:=K) rfl (aj dM hr ↑2 rfl (ae (wv 1) (ae (wv 0) ac))))))) (λC s H ex=>(wv 0)))))),?_⟩];erw[ly (bx ↑17) λl1 H1 s1 n1 e1=> ?_];erw[eE (aS.of (s1 _ _ hx)) ?_];rw [xl];rwa[⟨⟨by omega,by omega⟩,?_⟩];rwa[fL (λi ys H'=>av H1 H'/\ys=(Cu (be cs ws) i).map V.int) (bx ↑6) (λi ys H' p=> ?_) ⟨.refl _,rfl⟩ (λi ys H' hi p=> ?_) (λys H' p l nl=> ?_)]
 ·rw [p.2,List.length_map];exact m4
 ·obtain ⟨sm,rfl⟩:=p;ext;erw[⟨cE,?_⟩];rwa[AS ((hS.nt s1.nt).nt sm.nt) n64 λH2 s2=> ?_]
  have i0:(0:Int)+(i:Nat)=((i:Nat):Int):=by omega
  rw [i0];ext
  cases hb:decide ((i:Int)∈be cs ws) with
  |true=>
   rwa[⟨sm.trans s2,?_⟩];rw [qj,hb];simp
  |false=>
   rwa[⟨sm.trans s2,?_⟩];rw [qj,hb];simp
 ·obtain ⟨sm,rfl⟩:=p;rw [show ((ks.length:Int)).toNat=ks.length by omega];have s2:av H' (upd H' l (.lst ((Cu (be cs ws) ks.length).map V.int))):= .upd nl;ext;rwa[Bf (s2 _ _ (sm _ _ e1)) ak (bx ?_) λl3 H3 s3 n3 e3=> ?_]
  ·have:=m4 (ts:=be cs ws) (i:=ks.length);simp only [List.length_map,List.length_cons,List.length_nil];omega
  ·have sAll:=((s1.trans sm).trans s2).trans s3;rwa[q l3 H3 sAll (none_of ((s1.trans sm).trans s2) n3) ?_];rw [e3];rfl
theorem LM {kC Pn Pl kF kL kR kT:Addr}(F:bw K "_law_behind" "_law_behind" q8 f fd)(cC:Jp K kC)(c5:iN P w K mg base (j4 P w) 9 "turn" kC (jP P w K mg base kF kL kR kT Pn Pl)):aD P w K mg base br 10 f fd ["_law_court","_law_kinds_here","_law_state","_law_choice"] (ml P w K mg base kC Pn Pl):=by
 rwa[F.ok uD ↑4 ↑1]
 ·unfold ml at h;obtain ⟨a,kp,st,ch,hs,wf,k,n,cs,ws,last,ks,rfl,_⟩:=h;rfl
 unfold ml at h;obtain ⟨a,kp,st,ch,hs,wf,k,n,cs,ws,last,ks,rfl,hC,hK,hS,n60,hch,q⟩:=h;rwa[⟨_,(ag (aA (i:=4) uD.nd rfl ↑7 (dF ac)) (mL (aI (ax GZ (wv 3) aa (au _)) (af (aO (dY (K:=K) rfl PySem.F.plainAttrs_list PySem.F.slot_list_append PySem.F.type_list_append dB (wv 4) (ae (bt (ae ay (ae (wv 3) (ae (ao ↑3 (ao ↑3 (wv 1) (wv 3) ↑5) aa ↑5) (ae (ao ↑3 (ao ↑3 (wv 1) (wv 3) ↑5) aa ↑5) (ae fD ac)))))) ac)))) aC) (af (aq (ao ↑3 (lW (n:=9) (AU (X:=_)) hr ↑2 (wv 0) (ae (wv 2) (ae (wv 4) ac))) aa ↑5))))),?_⟩]
 have one:yO hs.fl (be cs ws) (CF ks ch):=by obtain ⟨_,_,_,_,_,hk⟩:=hK;exact F5 hk hch
 ext;erw[ly (bx ↑17) λdp H1 s1 n1 e1=> ?_];rwa[FU (λσ HX=>av H HX/\σ=[some (.ref a),some (.ref kp),some (.ref st),some (.int ch),some (.ref dp)]/\vd K HX dp (CF ks ch)) ?_ ?_]
 ·ext;by_cases z:ch= -1
  ·rwa[cP ↑6 ?_];rwa[⟨s1,rfl,?_⟩];unfold CF;rw [if_pos z];exact ⟨[],aS.of e1,.nil⟩
  ·obtain ⟨h0,h1,h2⟩:0<=ch/\ch<(ks.length:Int)/\ch∉be cs ws:=by rcases hch with y|y;exact absurd y z;exact y
   obtain ⟨xs,hx,hd,_,_,_⟩:=hK.nt s1.nt;obtain ⟨b,hb,hT⟩:=JC hd h0 h1;erw[m3 ↑6 ?_];erw[⟨.inl ⟨rfl,_,aS.of e1⟩,?_⟩];erw[cg (aS.of hx) hb ?_];erw[ar hT rfl ?_];erw[cg (aS.of hx) hb ?_];erw[ar hT rfl ?_];erw[cf (bx (by show 5<=1000000;decide)) λdt H8 s8 n8 e8=> ?_];rwa[iK (s8 _ _ e1) (CT (by show 0<1000000;decide)) ?_];rwa[⟨av.updF (s1.trans s8) n1,rfl,?_⟩];unfold CF;rw [if_neg z];rwa[⟨_,aS.of ak,.cons ⟨dt,rfl,?_,trivial⟩ .nil⟩];rw [ap (λy=>by rw [y] at n8;rw [n8] at e1;cases e1)];exact e8
 rintro σ' H9 ⟨s9,rfl,hds⟩;obtain ⟨dx,h,ru,df,e1,e2,e3,e4⟩:=(hC.same s9).ex;ext;erw[ij e1 rfl c5 ?_];erw[Dr e1 cC e2 e3 e4 (hC.same s9).gg (hS.nt s9.nt) n60 hds one λr st' ll cs' ws' last' H3 sN g3 er hs' ht=> ?_];rwa[ar (aP.of er) rfl ?_];exact q st' cs' ws' last' H3 (s9.nt.trans sN) g3 hs' ht
theorem mZ {H:Hp}{l:Addr}{is:List Int}(h:H l=some (.lst (is.map V.int))):cm K H (.ref l) (.lst (is.map D.int)):=by
 rwa[FS (aS.of h) (PySem.Paired.of ↑17 λi x d e1 e2=> ?_)];rw [List.getElem?_map] at e1 e2
 cases z:is[i]? with
 |none=>rw [z] at e1;cases e1
 |some k=>rw [z] at e1 e2;cases e1;cases e2;exact .int k
theorem Cz (is:List Int):deps (is.map D.int)=0:=by
 induction is with
 |nil=>rfl
 |cons i is ih=>rw [List.map_cons,deps,ih];rfl
theorem yE (is:List Int):oX (.lst (is.map D.int))<=60:=by rw [oX,Cz];decide
inductive AI (K:Fg)(vs:List V)(H:Hp)(Q:VK)(_e:XK):Prop
 |mk (st kp hs n cs ws last fl ks:_) (_:vs=[.ref st,.ref kp]) (_:vc K H st hs n cs ws last) (_:n<=64) (_:gc K H kp fl ks) (_:∀H',av H H'->Q (.bl true) H')
theorem Ls (F:bw K "_law_told" "_law_told" zE f fd)(bO:mg "isinstance"=none)(fE:mg "list"=none)(uK:mg "bool"=none)(bj:mg "len"=none)(bg:mg "range"=none)(c9:bp P w K mg base 3 "_law_choices" ["_law_state","_law_kinds_here"] (tR K))(nq:bp P w K mg base 3 "choices" ["state","kinds"] (tR K))(lG:bp P w K mg base 1 "_law_whole" ["_law_thing"] vq)(gL:bp P w K mg base 2 "present" ["state","kind"] (fz K))(dM:bp P w K mg base 2 "_law_inside" ["_law_state","_law_kind"] (fz K)):aD P w K mg base br 4 f fd ["_law_state","_law_kinds_here"] (AI K):=by
 rwa[F.ok mz ↑4 ↑1]
 ·obtain ⟨st,kp,hs,n,cs,ws,last,fl,ks,rfl,_⟩:=h;rfl
 obtain ⟨st,kp,hs,n,cs,ws,last,fl,ks,rfl,hS,n64,hK,q⟩:=h;erw[⟨_,(ag (aA (i:=2) mz.nd rfl ↑7 (aj c9 hr ↑2 rfl (ae (wv 0) ↑19))) (ag (aA (i:=3) mz.nd rfl ↑7 (aj nq hr ↑2 rfl (ae (wv 0) ↑19))) (ag (aI (PW.pt (fU (cW (bZ (K:=K) rfl (aG (qp (K:=K) rfl) rfl bO boot_isinstance (ae (wv 3) (ae (mR (v:= .ty "list") rfl fE boot_list rfl) ac))))) (fU (ax (gq (K:=K) rfl hr) (wv 3) (wv 2) (au _)) (eU (ax (gq (K:=K) rfl hr) (bG rfl (aK (N':=["_law_one"]) (pk:=[none]) (by kernel_rfl)) (bF (K:=K) rfl (wv 3)) (λC s H ex=>(az (i:=0) (show List.Nodup (["_law_one"]:List Str) by decide+kernel) rfl ↑7)) (λC s H ex=>(eI (cW (bZ (K:=K) rfl (aj lG hr ↑2 rfl (ae (wv 0) ac)))))) (λC s H ex=>(wv 0))) (dF ac) (au _)))))) (af (aq fD)) aC) (ag (aO (dY (K:=K) rfl PySem.F.plainAttrs_list PySem.F.slot_list_append PySem.F.type_list_append dB (wv 3) (ae aa ac))) (ag (aI (ax (gq (K:=K) rfl hr) (aj nq hr ↑2 rfl (ae (wv 0) ↑19)) (wv 2) (au _)) (af (aq fD)) aC) (ag (d9 PassesOwn.never rfl (cy rfl bg (ae (aG (cI (K:=K) rfl) rfl bj PySem.boot_len ↑19) ac)) (az (i:=4) mz.nd rfl ↑7) (ag (aA (i:=5) mz.nd rfl ↑7 (aj gL hr ↑2 rfl (ae (wv 0) (ae (wv 4) ac)))) (af (aI (PW.pt (fU (cW (bZ (K:=K) rfl (aG (qp (K:=K) rfl) rfl bO boot_isinstance (ae (wv 5) (ae (mR (v:= .ty "bool") rfl uK boot_bool rfl) ac))))) (eU (ax (gq (K:=K) rfl hr) (wv 5) (aj dM hr ↑2 rfl (ae (wv 0) (ae (wv 4) ac))) (au _))))) (af (aq fD)) aC)))) (af (aq fD)))))))),?_⟩];erw[Pb hS n64 hK λl1 H1 s1 n1 e1=> ?_];rwa[Pb (hS.nt s1.nt) n64 (hK.nt s1.nt) λl2 H2 s2 n2 e2=> ?_];have e12:=s2 _ _ e1;have s02:=s1.trans s2
 have cl4:(JN ks.length (be cs ws)).length<=5:=by
  have:=m4 (ts:=be cs ws) (i:=ks.length);obtain ⟨_,_,_,_,k4,_⟩:=hK;show (Cu (be cs ws) ks.length).length+1<=5;omega
 have n20:H l2=none:=none_of s1 n2;generalize hC:JN ks.length (be cs ws)=C at e1 e2 e12 cl4;ext;erw[wM rfl (.lst e2) rfl ?_];erw[bP rfl ?_];erw[si (mZ e2) (mZ e12) (yE C) ?_];erw[bP rfl ?_];rwa[dA (aS.of e2) ?_];rwa[b6 (xs:=C.map V.int) (λi ys HX=>HX=H2/\ys=[]) (bx (by rw [List.length_map];omega)) (λi ys HX p=>by rw [p.2];exact Nat.zero_le _) ⟨rfl,rfl⟩ (λi ys HX _ p=>by rw [p.1];exact aS.of e2) (λi x ys HX hxi p=> ?_) (λys HX p l3 n3=> ?_)]
 ·obtain ⟨rfl,rfl⟩:=p;rw [List.getElem?_map] at hxi
  cases z:C[i]? with
  |none=>rw [z] at hxi;cases hxi
  |some ch=>
   rw [z] at hxi;cases hxi;ext;erw[⟨cE,?_⟩];rwa[vq.mk _ rfl ?_];exact ⟨rfl,rfl⟩
 obtain ⟨rfl,rfl⟩:=p;have s3:av HX (upd HX l3 (.lst [])):= .upd n3;have e3:upd HX l3 (.lst []) l3=some (.lst []):=ak;generalize upd HX l3 (.lst [])=H3 at s3 e3 ⊢;ext;erw[ly (bx ↑17) λl4 H4 s4 n4 e4=> ?_];erw[si (FS (aS.of (s4 _ _ e3)) .nil) (FS (aS.of e4) .nil) ↑2 ?_];rwa[bP rfl ?_];have s24:=s3.trans s4;have e24:=s24 _ _ e2;ext;erw[⟨.inl ⟨rfl,_,aS.of e24⟩,?_⟩];rwa[iK e24 (CT (by rw [List.length_map];omega)) ?_]
 have d12:l1≠l2:=λz=>by rw [z] at e1;rw [n2] at e1;cases e1
 have s5:av H (upd H4 l2 (.lst (C.map V.int++[.int 7]))):=av.updF (s02.trans s24) n20
 have e15:upd H4 l2 (.lst (C.map V.int++[.int 7])) l1=some (.lst (C.map V.int)):=by rw [ap d12];exact s24 _ _ e12
 generalize upd H4 l2 (.lst (C.map V.int++[.int 7]))=H5 at s5 e15 ⊢;ext;rwa[Pb (hS.nt s5.nt) n64 (hK.nt s5.nt) λl6 H6 s6 n6 e6=> ?_];rw [hC] at e6;ext;erw[si (mZ e6) (mZ (s6 _ _ e15)) (yE C) ?_];rwa[bP rfl ?_];have s06:=s5.trans s6;obtain ⟨xs,hx,hd,k1,k4,hk⟩:=hK.nt s06.nt;have xl:xs.length=ks.length:=aL hd;ext;erw[eE (aS.of hx) ?_];rwa[⟨⟨by omega,by omega⟩,?_⟩];rwa[eu (λj σ HX=>av H HX/\∃(x2 x3:V) (o4 o5:Option V),σ=[some (.ref st),some (.ref kp),some x2,some x3,o4,o5]) ⟨s06,_,_,_,_,rfl⟩ (λj σ HX hj pv=> ?_) (λσ HX pv=> ?_)]
 ·obtain ⟨sX,x2,x3,o4,o5,rfl⟩:=pv;ext;erw[AS (hS.nt sX.nt) n64 λH7 s7=> ?_];erw[⟨rfl,?_⟩];erw[bP rfl ?_];erw[AS ((hS.nt sX.nt).nt s7.nt) n64 λH8 s8=> ?_];rwa[bP ↑17 ?_];exact ⟨(sX.trans s7).trans s8,_,_,_,_,rfl⟩
 ·obtain ⟨sX,x2,x3,o4,o5,rfl⟩:=pv;exact q _ sX
end
end My
namespace My
open PySem L2 PyProof.Rows
seal PE PT PS uq PA PI PG Gq GM PW PO dD MM bH CZ yP JR Gp
seal uO iZ mx vJ Jd qD lC qB AN A3 Jg Jk yr Bt yw setL Br Al uj tK CS GK pH FI Ha yC
seal F7 oQ Af L2.pN L2.putAt L2.wD gz IU Mq IH Pa Je Jh Dx
seal Hn rY qm iV nU DO iW qf mm fz tR jP ml
section
variable {P:Program}{w:World}{K:Fg}{mg:Str->Option Value}{base:Heap}{f:Addr}{fd:FuncData}
def QF (c:Cb):D:= .tup (JO c.pl c.li c.dr c.mr c.ps)
def QR (cs:List Cb)(ws:List bq)(last:Int):D:= .tup [.tup (cs.map QF),.tup (ws.map bq.d),.int last,.bl false]
theorem DE {H:Hp}{st:Addr}{cs:List Cb}{ws:List bq}{last:Int}(h:nu K H st cs ws last false):cm K H (.ref st) (QR cs ws last):=by
 obtain ⟨tc,tw,xs,ys,h1,h2,h3,h4,h5⟩:=h;rwa[gF h1 (.cons (gF h2 ?_) (.cons (gF h3 h5) (.cons (.int _) (.cons (.bl _) .nil))))];rwa[PySem.Paired.of (by rw [List.length_map];exact h4.len) λi x d e1 e2=> ?_];rw [List.getElem?_map] at e2;obtain ⟨c,hc,t,rfl,z⟩:=h4.get1 e1;rw [hc] at e2;cases e2;exact z.den
theorem wY {α:Type}{g:α->D}{n:Nat}(h:∀a,oX (g a)<=n):∀as:List α,deps (as.map g)<=n
 |[]=>Nat.zero_le _
 |a::as=>by rw [List.map_cons,deps];exact Nat.max_le.mpr ⟨h a,wY h as⟩
theorem Mt (c:Cb):oX (QF c)<=3:=by
 have:=uW c.ps;show max 0 (max 0 (max 0 (max 0 (max (deps (c.ps.map cZ)+1) 0))))+1<=3;omega
theorem Ms (cs:List Cb)(ws:List bq)(last:Int):oX (QR cs ws last)<=60:=by
 have h1:=wY Mt cs;have h2:deps (ws.map bq.d)<=1:=wY (λr=>by show max 0 (max 0 (max 0 (max 0 0)))+1<=1;decide) ws;show max (deps (cs.map QF)+1) (max (deps (ws.map bq.d)+1) (max 0 (max 0 0)))+1<=60;omega
theorem Ja (ks:List (Int×Int)):oX (.lst (ks.map cZ))<=60:=by
 have:=uW ks;rw [oX];omega
theorem FG {hs:Hs}(h:hs.ok)(ht:MC hs):QT hs 0 (hs.ls.map OJ) [] ((hs.ls.length:Int) - 1):=by
 rwa[⟨by rw [List.length_map],λc hc=> ?_,(λr hr=>nomatch hr),Nat.le_refl _,by have:=h.l1;omega⟩];obtain ⟨l,hl,rfl⟩:=List.mem_map.mp hc;obtain ⟨t0,t1⟩:=ht l hl;exact ⟨by show 0<=2*l.st;omega,by show 2*l.st<=_;omega,by show (-1:Int)<=0;decide,by show (0:Int)<=1;decide,by show (0:Int)<=0;decide,λz=>absurd z (by show ¬(0:Int)<0;decide),by show 0<=64;decide,λp hp=>nomatch hp⟩
theorem OH {n:Nat}{ts:List Int}{ch:Int}(h:ch∈JN n ts):Jq n ts ch:=by
 rcases List.mem_cons.mp h with z|z
 ·exact .inl z
 ·unfold Cu at z;obtain ⟨k,hk,rfl⟩:=List.mem_map.mp z;have hk:=List.mem_filter.mp hk;have hk1:=List.mem_range.mp hk.1;exact .inr ⟨by omega,by omega,by simpa using hk.2⟩
theorem OF {i:Int}(h0:0<=i)(h1:i<3):∃k:Dk,pW [V.str (Str.ofString "near"),.str (Str.ofString "turns"),.str (Str.ofString "least")] i=some (.str k.tx):=by
 rcases (show i=0\/i=1\/i=2 by omega) with rfl|rfl|rfl
 ·exact ⟨.near,rfl⟩
 ·exact ⟨.turns,rfl⟩
 ·exact ⟨.least,rfl⟩
theorem uy {H:Hp}{P:Addr}{q:Str}(h:H P=some (.tbl #[])):dP H P q:=⟨#[],h,trivial,λpos cv e=>by cases e⟩
inductive xS (K:Fg)(Pn Pl:Addr)(vs:List V)(H:Hp)(Q:VK)(_e:XK):Prop
 |mk (a:Addr) (ns:List Int) (_:vs=[.ref a]) (_:CW K H a ns) (_:dP H Pn qN) (_:dP H Pl qL) (_:∀H',Q (.bl true) H')
theorem Lz {fF Pn Pl kn kl kT:Addr}{k:Ks}(hne:Pn≠Pl)(F:bw K "law" "law" KU f fd)(R:Pc K P w mg base k)(bg:mg "range"=none)(LV:mg "max"=none)(wF:mg "min"=none)(bj:mg "len"=none)(fE:mg "list"=none)(bO:mg "isinstance"=none)(b2:mg "tuple"=none)(cC:Jp K fF)(Ac:jJ P w K mg base br 1 "Court" fF (Hk K))(iB:iN P w K mg base br 2 "begin" fF (vE K))(uQ:mg "near"=some (.ref kn))(oV:mg "least"=some (.ref kl))(fw:mg "by_turns"=some (.ref kT))
(Gb:bp P w K mg base 5 "near" ["cabins","waiting","rider","last"] (vx K Pn))(As:bp P w K mg base 5 "least" ["cabins","waiting","rider","last"] (AL K Pl))(pz:bp P w K mg base 3 "by_turns" ["cabins","waiting","rider","last"] (qd K))(lM:bp P w K mg base 2 "dealer_of" ["text","house"] (λvs H Q _=>DO kn kl kT vs H Q E0))(Mu:bp P w K mg base 10 "led" ["court","kinds","state","choice"] (ml P w K mg base fF Pn Pl))(aT:bp P w K mg base 1 "_law_draw" ["_law_script","_law_k","_law_many"] (qz K))(lI:bp P w K mg base 5 "_law_house" ["_law_script"] (zi K))(pi:bp P w K mg base 4 "_law_rule" ["_law_script","_law_floors"] (DH K k))(lH:bp P w K mg base 2 "_law_kinds" ["_law_script","_law_floors"] (DK K))(c9:bp P w K mg base 3 "_law_choices" ["_law_state","_law_kinds_here"] (tR K))(j3:bp P w K mg base 4 "_law_told" ["_law_state","_law_kinds_here"] (AI K))(jB:bp P w K mg base 10 "_law_behind" ["_law_court","_law_kinds_here","_law_state","_law_choice"] (ml P w K mg base fF Pn Pl)):aD P w K mg base br 11 f fd ["_law_script"] (xS K Pn Pl):=by
 rwa[F.ok iI ↑4 ↑1]
 ·obtain ⟨a,ns,rfl,_⟩:=h;rfl
 obtain ⟨a,ns,rfl,hS,tN,tL,q⟩:=h
 have cv:∀d:Dk,lS P w K mg base 5 (d.ad kn kl kT) (qy K (yZ Pn Pl) rz (uV d)):=by
  obtain ⟨f1,x1,F1⟩:=Gb.fnv;rw [uQ] at x1;cases x1;obtain ⟨f2,x2,F2⟩:=As.fnv;rw [oV] at x2;cases x2;obtain ⟨f3,x3,F3⟩:=pz.fnv;rw [fw] at x3;cases x3;exact Mr hne F1.cal F2.cal F3.cal
 erw[⟨_,(ag (aA (i:=1) iI.nd rfl ↑7 (aj lI hr ↑2 rfl (ae (wv 0) ac))) (ag (aA (i:=2) iI.nd rfl ↑7 (aj lM hr ↑2 rfl (ae (ao ↑3 (dF (ae ay (ae ay (ae ay ac)))) ↑26 ↑5) ↑19))) (ag (aA (i:=3) iI.nd rfl ↑7 (gP Ac jh hr ↑2 rfl (ae (wv 1) (ae (aj pi hr ↑2 rfl (ae (wv 0) (ae ↑12 ac))) (ae (wv 2) ac))))) (ag (aA (i:=4) iI.nd rfl ↑7 (aj lH hr ↑2 rfl (ae (wv 0) (ae ↑12 ac)))) (ag (aA (i:=5) iI.nd rfl ↑7 (bU (vj (K:=K) rfl) rfl fE boot_list (ae (wv 4) ac))) (ag (aA (i:=6) iI.nd rfl ↑7 (Db (n:=2) jh hr ↑2 (wv 3))) (ag (d9 PassesOwn.never rfl (cy rfl bg (ae (aG (M4 rfl) rfl LV boot_max (ae aa (ae (aG (M3 rfl) rfl wF boot_min (ae (aG (cI (K:=K) rfl) rfl bj PySem.boot_len (ae (wv 0) ac)) (ae aa ac))) ac))) ac)) (az (i:=7) iI.nd rfl ↑7) (ag (aI (cW (bZ (K:=K) rfl (aj j3 hr ↑2 rfl (ae (wv 6) (ae (wv 5) ac))))) (af (aq fD)) aC) (ag (aA (i:=8) iI.nd rfl ↑7 (aj c9 hr ↑2 rfl (ae (wv 6) (ae (wv 4) ac)))) (ag (aA (i:=9) iI.nd rfl ↑7 (ao ↑3 (wv 8) (aj aT hr ↑2 rfl (ae (wv 0) (ae (aH ↑25 aa (wv 7)) (ae (aG (cI (K:=K) rfl) rfl bj PySem.boot_len (ae (wv 8) ac)) ac)))) ↑5)) (ag (aA (i:=10) iI.nd rfl ↑7 (aj Mu hr ↑2 rfl (ae (wv 3) (ae (wv 5) (ae (wv 6) (ae (wv 9) ac)))))) (ag (aI (PW.pt (fU (cW (bZ (K:=K) rfl (aG (GY (K:=K) rfl) rfl bO boot_isinstance (ae (wv 10) (ae (mR (v:= .ty "tuple") rfl b2 boot_tuple rfl) ac))))) (fU (ax (gq (K:=K) rfl hr) (wv 10) (aj jB hr ↑2 rfl (ae (wv 3) (ae (wv 4) (ae (wv 6) (ae (wv 9) ac))))) (au _)) (eU (ax (gq (K:=K) rfl hr) (wv 5) (wv 4) (au _)))))) (af (aq fD)) aC) (af (aA (i:=6) iI.nd rfl ↑7 (wv 10))))))))) (af (aq (aj j3 hr ↑2 rfl (ae (wv 6) (ae (wv 5) ac)))))))))))),?_⟩];rwa[zi.mk _ _ rfl hS λh hs H1 s1 hH hst=> ?_];have hS1:=bM hS s1;ext;erw[ly (bx ↑17) λl2 H2 s2 n2 e2=> ?_];rwa[qz.mk _ _ _ _ rfl (bM hS1 s2) ↑2 ↑2 ↑2 λi i0 i1=> ?_];obtain ⟨d,ed⟩:=OF i0 i1;ext;erw[cg (aS.of e2) ed ?_];rwa[Rg ?_];have hH2:=hH.same s2;obtain ⟨hok,hp,hxs,hh1,_,_⟩:=id hH2;ext;erw[ar hh1 rfl ?_];erw[DH.mk _ _ _ rfl (bM hS1 s2) hok.f2 λra rdx rk H3 rok s3 e3=> ?_];rwa[Qq cC λca cdx H4 s4 n4 e4=> ?_];have s14:=(s1.trans s2).trans (s3.trans s4);have hH4:=hH2.same (s3.trans s4);have crt:GN P w K mg base fF Pn Pl H4 ca hs rk.word d:=⟨⟨cdx,h,ra,d.ad kn kl kT,e4,hH4,K0 R rok (s4 _ _ e3),cv d⟩,Ah _ _ s14.st ⟨tN,tL⟩⟩;have hS4:=bM hS s14;obtain ⟨_,hp,hxs,hh1,_,_⟩:=id hH4;ext;erw[ar hh1 rfl ?_];rwa[DK.mk _ _ _ rfl hS4 hok.f2 λkp ks H5 s5 hK=> ?_];obtain ⟨kxs,hkx,hkd,k1,k4,hk⟩:=id hK;ext;rwa[qg (.inl (aS.of hkx)) λkq H6 s6 n6 e6=> ?_];have hK6:=hK.nt s6.nt;have hQ6:gc K H6 kq hs.fl ks:=⟨kxs,e6,aN.same hkd s6,k1,k4,hk⟩;have s46:=s5.trans s6;ext;erw[ij (s46 _ _ e4) rfl iB ?_];rwa[vE.mk _ _ _ _ _ _ _ rfl (s46 _ _ e4) cC (hH4.same s46) λst H7 s7 hst7=> ?_];have s47:=s46.trans s7;have st7:vc K H7 st hs 0 (hs.ls.map OJ) [] ((hs.ls.length:Int) - 1):=⟨hst7,FG hok hst,hok⟩;have hS7:=bM hS4 s47;ext;rwa[eE hS7.1 ?_];rw [List.length_map];ext
 obtain ⟨m,em,hm⟩:∃m:Nat,(if (if (44:Int)<(ns.length:Int) then (44:Int) else (ns.length:Int))>8 then (if (44:Int)<(ns.length:Int) then (44:Int) else (ns.length:Int)) else 8)=m/\m<=44:=by
  by_cases y:(44:Int)<(ns.length:Int)
  ·exact ⟨44,by rw [if_pos y];rfl,by decide⟩
  ·rw [if_neg y];by_cases z:(ns.length:Int)>8
   ·exact ⟨ns.length,by rw [if_pos z],by omega⟩
   ·exact ⟨8,by rw [if_neg z];rfl,by decide⟩
 first|rw [em]|skip
 rwa[⟨⟨by omega,by omega⟩,?_⟩];rwa[eu (λj σ HX=>∃(x1 x2:V) (st:Addr) (cs:List Cb) (ws:List bq) (last:Int) (o7 o8 o9 o10:Option V),σ=[some (.ref a),some x1,some x2,some (.ref ca),some (.ref kp),some (.ref kq),some (.ref st),o7,o8,o9,o10]/\CW K HX a ns/\GN P w K mg base fF Pn Pl HX ca hs rk.word d/\gc K HX kp hs.fl ks/\gc K HX kq hs.fl ks/\vc K HX st hs j cs ws last) ⟨_,_,st,_,_,_,_,_,_,_,rfl,hS7,crt.same s47,hK6.nt s7.nt,hQ6.nt s7.nt,st7⟩ (λj σ HX hj pv=> ?_) (λσ HX pv=> ?_)]
 ·obtain ⟨x1,x2,st,cs,ws,last,o7,o8,o9,o10,rfl,hSX,cX,kX,qX,tX⟩:=pv
  have hj':j<44:=by omega
  ext;erw[AI.mk _ _ _ _ _ _ _ _ _ rfl tX ↑6 qX λHA sA=> ?_];erw[bP rfl ?_];rwa[Pb (tX.nt sA.nt) ↑6 (kX.nt sA.nt) λlc HB sB nB eB=> ?_];have sXB:=sA.trans sB
  have cpos:0<(JN ks.length (be cs ws)).length:=by show 0<(Cu (be cs ws) ks.length).length+1;omega
  ext;rwa[eE (aS.of eB) ?_];rw [List.length_map];ext;rwa[qz.mk _ _ _ _ rfl (bM hSX sXB) ↑6 ↑6 ↑6 λci ci0 ci1=> ?_];obtain ⟨cn,rfl⟩:=Int.eq_ofNat_of_zero_le ci0
  have hcn:cn<(JN ks.length (be cs ws)).length:=by omega
  obtain ⟨ch,hch⟩:∃ch,(JN ks.length (be cs ws))[cn]? =some ch:=⟨_,List.getElem?_eq_getElem hcn⟩;have chok:=OH (List.mem_of_getElem? hch);ext;erw[cg (aS.of eB) (v:= .int ch) (gb (by rw [List.getElem?_map,hch];rfl)) ?_];rwa[Ot (cX.same sXB) (qX.nt sXB.nt) (tX.nt sXB.nt) ↑6 chok λst1 cs1 ws1 last1 HC sC gC tC r1=> ?_];have sXC:=sXB.nt.trans sC;have cC1:=(cX.same sXB).nt sC gC;obtain ⟨ta,tb,tc',td,tT,_⟩:=id tC.a;ext;erw[Mi tT rfl rfl ?_];erw[bP rfl ?_];rwa[Ot cC1 (kX.nt sXC) (tX.nt sXC) ↑6 chok λst2 cs2 ws2 last2 HD sD gD tD r2=> ?_];obtain ⟨u1,u2,u3⟩:=r1.uniq r2;subst u1;subst u2;subst u3;have sXD:=sXC.trans sD;ext;erw[si (DE (tC.nt sD).a) (DE tD.a) (Ms _ _ _) ?_];erw[bP rfl ?_];erw[si (qX.nt sXD).den (kX.nt sXD).den (Ja ks) ?_];rwa[bP rfl ?_];exact ⟨_,_,st1,_,_,_,_,_,_,_,rfl,KQ hSX sXD,cC1.nt sD gD,kX.nt sXD,qX.nt sXD,tC.nt sD⟩
 ·obtain ⟨x1,x2,st,cs,ws,last,o7,o8,o9,o10,rfl,hSX,cX,kX,qX,tX⟩:=pv;ext;rwa[AI.mk _ _ _ _ _ _ _ _ _ rfl tX ↑6 qX λHA sA=> ?_];exact q _
end
theorem Fm {K:Fg}{H:Hp}{a:Addr}{ns:List Int}{E:XK}(hS:aS K H a (ns.map V.int))(hl:ns.length<=63)(hb:∀i∈ns,Builtin.Int.intBits i<=2^20)(hT:∀t∈([(327,323),(332,330)]:List (Addr×Addr)),H t.2=some (.tbl #[])):xS K 323 330 [.ref a] H (λv _=>v= .bl true) E:=⟨a,ns,rfl,⟨hS,hl⟩,uy (hT (327,323) ↑17),uy (hT (332,330) ↑17),λ_=>rfl⟩
theorem FQ {P:Program}{w:World}{K:Fg}{mg:Str->Option Value}{base:Heap}{kD kH kS:Addr}(iD:gN K kD)(nD:aZ K kD "turns")(iH:gN K kH)(nH:aZ K kH "turns")(iS:gN K kS)(nS:aZ K kS "turns")(mD:iN P w K mg base br 1 "left" kD (iX K La))(mH:iN P w K mg base br 1 "left" kH (iX K hst))(mS:iN P w K mg base br 1 "left" kS (iX K Hl)):JX P w K mg base kD kH kS:=by
 rwa[⟨λk hk=> ?_,λk hk=> ?_⟩]
 ·rcases hk with rfl|rfl|rfl
  ·rw [Md];exact ⟨iD,nD⟩
  ·rw [Me];exact ⟨iH,nH⟩
  ·rw [Mc];exact ⟨iS,nS⟩
 ·rcases hk with rfl|rfl|rfl
  ·rw [Md];exact mD
  ·rw [Me];exact mH
  ·rw [Mc];exact mS
theorem Mx {l:PySem.W.OpenLaw}{w:World}{K:Fg}{h:Heap}{mg:Str->Option Value}{fa:Addr}(X:K.In h)(G:h.Ns mainGlobals mg)(hfa:mg "law"=some (.ref fa))
{ug mX wJ j8 dz cr b8 eO rV knear kleast kby_turns b3 bv bI fb fk wK eW io fF f1 f2 f3 f4 f5 f6 f7 f8 f9 f10 f11 f12 f13 f14 f15 f16 f17 f18 f19 f20 f21 f22 f23 f24 f25 f26 f27 f28 f29 f30 f31 f32 f33 f34 f35 f36 f37 f38 f39 f40 f41 f42 f43 f44 f45 f46 f47 f48 f49 f50 f51 f52 f53 f54 f55 f56 f57 f58 f59 f60 f61 f62 f63 f64 f65 f66 f67 f68 f69 f70 f71 f72 f73 f74 f75 f76 f77 f78 f79 f80 f81 f82 f83 f84 f85 f86 f87 f88 f89 f90 f91 f92 f93 f94 f95 f96 f97 f98 f99 f100 f101 f102 f103 f104 f105 kDOOR_KINDS kSORTS:Addr}{od44 an44:Option Addr}{sl44:Array (Option Value)}{oc44 kV44 dc44 pm44 ct44:Value}{od45 an45:Option Addr}{sl45:Array (Option Value)}{oc45 kV45 dc45 pm45 ct45:Value}{Dv:Tok}{Ku:Tok}{Kt:Tok}{xL:Tok}{xI:Tok}{Kr:Tok}{vm:Tok}{za:Tok}{xJ:Tok}{odDOOR_KINDS:Option Addr}{nDOOR_KINDS:Nat}{slDOOR_KINDS:Array (Option Value)}{tDOOR_KINDS0 tDOOR_KINDS1 tDOOR_KINDS2:Tok}{xK:Tok}{tO:Tok}{vn:Tok}{odSORTS:Option Addr}{nSORTS:Nat}{slSORTS:Array (Option Value)}{tSORTS0 tSORTS1:Tok}{G7:Tok}
(MY:W.nsIn K mainGlobals "Door"=some (some (.ref ug)))
(Ke:W.nsIn K mainGlobals "Hasty"=some (some (.ref mX)))
(MW:W.nsIn K mainGlobals "Slow"=some (some (.ref wJ)))
(MX:W.nsIn K mainGlobals "Rule"=some (some (.ref j8)))
(GV:W.nsIn K mainGlobals "Homing"=some (some (.ref dz)))
(C3:W.nsIn K mainGlobals "Nearest"=some (some (.ref cr)))
(C0:W.nsIn K mainGlobals "Shuttle"=some (some (.ref b8)))
(J6:W.nsIn K mainGlobals "Table"=some (some (.ref eO)))
(GR:W.nsIn K mainGlobals "NoDeal"=some (some (.ref rV)))
(MR:W.nsIn K mainGlobals "near"=some (some (.ref knear)))
(J3:W.nsIn K mainGlobals "least"=some (some (.ref kleast)))
(Bo:W.nsIn K mainGlobals "by_turns"=some (some (.ref kby_turns)))
(xA:W.nsIn K mainGlobals "CourtError"=some (some (.ref b3)))
(C2:W.nsIn K mainGlobals "NoFloor"=some (some (.ref bv)))
(GQ:W.nsIn K mainGlobals "NoLift"=some (some (.ref bI)))
(GP:W.nsIn K mainGlobals "NoRide"=some (some (.ref fb)))
(J5:W.nsIn K mainGlobals "Twice"=some (some (.ref fk)))
(GU:W.nsIn K mainGlobals "Moment"=some (some (.ref wK)))
(GO:W.nsIn K mainGlobals "NoRule"=some (some (.ref eW)))
(C1:W.nsIn K mainGlobals "NoHouse"=some (some (.ref io)))
(Kf:W.nsIn K mainGlobals "Court"=some (some (.ref fF)))
(c3Door:JY K ug)
(c3Hasty:JY K mX)
(c3Slow:JY K wJ)
(cM:tJ K wK)
(cC:Jp K fF)
(h1:L2.NF K "bit" KZ f1)
(h2:L2.NF K "has" KY f2)
(h3:L2.NF K "with_bit" qO f3)
(h4:L2.NF K "below" zH f4)
(h5:L2.NF K "above" zI f5)
(h6:L2.NF K "mask_of" vW f6)
(h7:L2.NF K "listed" vY f7)
(h8:L2.NF K "lowest" vX f8)
(h9:L2.NF K "highest" q9 f9)
(h10:L2.NF K "floor_of" rb f10)
(h11:L2.NF K "goals_aboard" hZ f11)
(h12:L2.NF K "way_of" zC f12)
(h13:L2.NF K "tasks_of" qQ f13)
(h14:L2.NF K "goes_along" lr f14)
(h15:L2.NF K "here_of" v6 f15)
(h16:L2.NF K "view" Ec f16)
(h17:L2.NF K "turned" vR f17)
(h18:L2.NF K "bounded" rh f18)
(h19:L2.NF K "with_changes" g9 f19)
(h20:L2.NF K "steered" qR f20)
(h21:L2.NF K "may_step_in" lh f21)
(h22:L2.NF K "exchanged" lv f22)
(h23:L2.MF K ug "__init__" "Door.__init__" oE f23)
(h24:L2.MF K ug "left" "Door.left" oC f24)
(h25:L2.MF K mX "left" "Hasty.left" lq f25)
(h26:L2.MF K wJ "left" "Slow.left" og f26)
(h27:L2.NF K "door_of" v7 f27)
(h28:L2.NF K "room_of" vV f28)
(h29:L2.NF K "turns_of" qP f29)
(h30:L2.NF K "kind_of" v4 f30)
(h31:L2.NF K "do_come" wa f31)
(h32:L2.NF K "dealt_to" rc f32)
(h33:L2.NF K "with_marks" kW f33)
(h34:L2.NF K "without" qM f34)
(h35:L2.NF K "put_mark" qV f35)
(h36:L2.NF K "lose_mark" oq f36)
(h37:L2.NF K "do_fire" v8 f37)
(h38:L2.NF K "is_left" v5 f38)
(h39:L2.NF K "do_calm" wb f39)
(h40:L2.NF K "do_deed" v9 f40)
(h41:L2.NF K "is_serving" lm f41)
(h42:L2.NF K "serving" qT f42)
(h43:L2.NF K "serving_from" hU f43)
(a44:W.nsIn K mainGlobals "near"=some (some (.ref f44)))(l44:K.lookup f44=some ⟨oc44,od44,.func (W.fnOf "near" "near" (cu fj) (bK fj) (ai fj) .none kV44 dc44 pm44 an44 (.ref 327) ct44),sl44⟩)(c44:W.codeIn K (.ref 327) "near"=true)(k44:W.keepIn K (.ref f44)=true)
(hd44:W.codeHdIn K 327 323=true)
(a45:W.nsIn K mainGlobals "least"=some (some (.ref f45)))(l45:K.lookup f45=some ⟨oc45,od45,.func (W.fnOf "least" "least" (cu du) (bK du) (ai du) .none kV45 dc45 pm45 an45 (.ref 332) ct45),sl45⟩)(c45:W.codeIn K (.ref 332) "least"=true)(k45:W.keepIn K (.ref f45)=true)
(hd45:W.codeHdIn K 332 330=true)
(h46:L2.NF K "by_turns" rg f46)
(h47:L2.NF K "zone_of" AQ f47)
(h48:L2.NF K "fixed_of" yd f48)
(h49:L2.NF K "read_lifts" qU f49)
(h50:L2.NF K "dealer_of" oF f50)
(h51:L2.NF K "deal" AR f51)
(h52:L2.NF K "deal_all" mI f52)
(h53:L2.NF K "log_steps" ou f53)
(h54:L2.NF K "open_below" k7 f54)
(h55:L2.NF K "go_in_fire" oy f55)
(h56:L2.NF K "exchange" oB f56)
(h57:L2.NF K "go_by_rule" oz f57)
(h58:L2.NF K "go_without_fire" fB f58)
(h59:L2.NF K "go" Qg f59)
(h60:L2.MF K wK "__init__" "Moment.__init__" i9 f60)
(h61:L2.NF K "state_of" qS f61)
(h62:L2.MF K bv "__init__" "NoFloor.__init__" hV f62)
(h63:L2.MF K bI "__init__" "NoLift.__init__" i8 f63)
(h64:L2.NF K "need_floor" k9 f64)
(h65:L2.NF K "need_lift" on f65)
(h66:L2.NF K "need_ride" om f66)
(h67:L2.NF K "need_deed" oo f67)
(h68:L2.NF K "tags_in" vS f68)
(h69:L2.MF K fk "__init__" "Twice.__init__" kY f69)
(h70:L2.NF K "need_deeds" le f70)
(h71:L2.MF K fF "turn" "Court.turn" ia f71)
(h72:L2.NF K "swept" zD f72)
(h73:L2.NF K "nearest" qY f73)
(h74:L2.NF K "shuttled" oh f74)
(h75:L2.NF K "place_in_table" gf f75)
(h76:L2.NF K "seen_at" vT f76)
(h77:L2.MF K j8 "word" "Rule.word" oj f77)
(h78:L2.MF K dz "word" "Homing.word" ja f78)
(h79:L2.MF K cr "word" "Nearest.word" hX f79)
(h80:L2.MF K b8 "word" "Shuttle.word" hG f80)
(h81:L2.MF K eO "word" "Table.word" kZ f81)
(h82:L2.MF K b8 "__init__" "Shuttle.__init__" hI f82)
(h83:L2.MF K eO "__init__" "Table.__init__" k6 f83)
(h84:L2.NF K "as_table" rn f84)
(h85:L2.NF K "rule_of" vU f85)
(h86:L2.NF K "fits_lift" oA f86)
(h87:L2.NF K "fits_lifts" lu f87)
(h88:L2.NF K "fits_locked" jb f88)
(h89:L2.NF K "made_house" lj f89)
(h90:L2.MF K fF "__init__" "Court.__init__" lx f90)
(h91:L2.NF K "cabin_of" rf f91)
(h92:L2.MF K fF "begin" "Court.begin" jc f92)
(h93:L2.NF K "present" qW f93)
(h94:L2.NF K "choices" re f94)
(h95:L2.NF K "led" KS f95)
(h96:L2.NF K "_law_draw" zG f96)
(h97:L2.NF K "_law_whole" vZ f97)
(h98:L2.NF K "_law_house" v3 f98)
(h99:L2.NF K "_law_rule" zF f99)
(h100:L2.NF K "_law_kinds" v0 f100)
(h101:L2.NF K "_law_inside" qZ f101)
(h102:L2.NF K "_law_choices" ow f102)
(h103:L2.NF K "_law_told" zE f103)
(h104:L2.NF K "_law_behind" q8 f104)
(h105:L2.NF K "law" KU f105)
(JV:L2.gN K ug)
(yW:W.findIn K (.ref ug) "turns"=some none)
(GF:L2.gN K mX)
(xq:W.findIn K (.ref mX) "turns"=some none)
(JU:L2.gN K wJ)
(yV:W.findIn K (.ref wJ) "turns"=some none)
(GE:L2.gN K j8)
(ve:W.findIn K (.ref j8) "top"=some none)
(kB:W.findIn K (.ref j8) "letters"=some none)
(xn:L2.gN K dz)
(pS:W.findIn K (.ref dz) "top"=some none)
(iL:W.findIn K (.ref dz) "letters"=some none)
(tI:L2.gN K cr)
(nF:W.findIn K (.ref cr) "top"=some none)
(gO:W.findIn K (.ref cr) "letters"=some none)
(nz:L2.gN K b8)
(iE:W.findIn K (.ref b8) "top"=some none)
(eD:W.findIn K (.ref b8) "letters"=some none)
(xm:L2.gN K eO)
(lU:W.findIn K (.ref eO) "top"=some none)
(fO:W.findIn K (.ref eO) "letters"=some none)
(J2:W.nsIn K mainGlobals "range"=some none)
(Pi:W.nsIn K mainGlobals "len"=some none)
(J0:W.nsIn K mainGlobals "tuple"=some none)
(LT:L2.Mk K ug f23)
(IF:L2.Mk K mX f23)
(LS:L2.Mk K wJ f23)
(C4:W.nsIn K mainGlobals "NO_LIFT"=some (some (.int (-1) Dv)))
(Pm:W.nsIn K mainGlobals "all"=some none)
(Kb:W.nsIn K mainGlobals "STUCK"=some (some (.int 0 Ku)))
(Ka:W.nsIn K mainGlobals "TAKEN"=some (some (.int 1 Kt)))
(y1:W.nsIn K mainGlobals "enumerate"=some none)
(Pg:W.nsIn K mainGlobals "min"=some none)
(Po:W.nsIn K mainGlobals "abs"=some none)
(xy:W.nsIn K mainGlobals "MOST_FIXED"=some (some (.int 9 xL)))
(wQ:W.excIn K rV [.type "ValueError",.type "Exception",.type "BaseException",.type "object"] "ValueError.__new__"=true)
(MT:W.nsIn K mainGlobals "list"=some none)
(ce:L2.yU K b3)
(mY:L2.jv K bv L2.yY "ValueError.__new__"=true)
(oa:W.findIn K (.ref bv) "__setattr__"=some ↑29)
(fP:W.findIn K (.ref bv) "floor"=some none)
(oN:W.mroIn K bv (.type "object")=some true)
(qh:L2.jv K bI L2.yY "ValueError.__new__"=true)
(qK:W.findIn K (.ref bI) "__setattr__"=some ↑29)
(iF:W.findIn K (.ref bI) "lift"=some none)
(rQ:W.mroIn K bI (.type "object")=some true)
(Bp:L2.XI K bv f62)
(C6:L2.XI K bI f63)
(wP:W.excIn K fb [.type "ValueError",.type "Exception",.type "BaseException",.type "object"] "ValueError.__new__"=true)
(wL:L2.jv K fk L2.yY "ValueError.__new__"=true)
(vQ:W.findIn K (.ref fk) "__setattr__"=some ↑29)
(lT:W.findIn K (.ref fk) "tag"=some none)
(wG:W.mroIn K fk (.type "object")=some true)
(MU:W.nsIn K mainGlobals "dict"=some none)
(GW:L2.XI K fk f69)
(Fc:L2.Mk K wK f60)
(Pk:W.nsIn K mainGlobals "any"=some none)
(xv:W.nsIn K mainGlobals "TABLE_SIZE"=some (some (.int 36 xI)))
(J4:W.nsIn K mainGlobals "WORDS"=some (some (.str (Str.ofString "oxuds") Kr)))
(jU:W.excIn K eW [.type "ValueError",.type "Exception",.type "BaseException",.type "object"] "ValueError.__new__"=true)
(E9:L2.JT K j8)
(wB:L2.JT K dz)
(rL:L2.JT K cr)
(Ce:L2.Mk K b8 f82)
(IE:L2.Mk K eO f83)
(vf:W.nsIn K mainGlobals "TABLE_START"=some (some (.str (Str.ofString "table ") vm)))
(y2:W.nsIn K mainGlobals "MOST_ROOM"=some (some (.int 6 za)))
(xw:W.nsIn K mainGlobals "MOST_TURNS"=some (some (.int 4 xJ)))
(xz:W.nsIn K mainGlobals "DOOR_KINDS"=some (some (.ref kDOOR_KINDS)))
(l_DOOR_KINDS:K.lookup kDOOR_KINDS=some ⟨.type "tuple",odDOOR_KINDS,.seq #[.str (Str.ofString "plain") tDOOR_KINDS0,.str (Str.ofString "hasty") tDOOR_KINDS1,.str (Str.ofString "slow") tDOOR_KINDS2] nDOOR_KINDS,slDOOR_KINDS⟩)
(xx:W.nsIn K mainGlobals "MOST_LIFTS"=some (some (.int 3 xK)))
(gA:W.excIn K io [.type "ValueError",.type "Exception",.type "BaseException",.type "object"] "ValueError.__new__"=true)
(tM:W.nsIn K mainGlobals "LEAST_FLOORS"=some (some (.int 2 tO)))
(vg:W.nsIn K mainGlobals "MOST_FLOORS"=some (some (.int 8 vn)))
(Kc:W.nsIn K mainGlobals "SORTS"=some (some (.ref kSORTS)))
(l_SORTS:K.lookup kSORTS=some ⟨.type "tuple",odSORTS,.seq #[.str (Str.ofString "free") tSORTS0,.str (Str.ofString "way") tSORTS1] nSORTS,slSORTS⟩)
(GS:W.nsIn K mainGlobals "NOBODY"=some (some (.int (-1) G7)))
(Gx:L2.ut K fF)
(xu:W.nsIn K mainGlobals "isinstance"=some none)
(Pj:W.nsIn K mainGlobals "int"=some none)
(MV:W.nsIn K mainGlobals "bool"=some none)
(Ph:W.nsIn K mainGlobals "max"=some none)
(IG:L2.Mk K fF f90):
 ∃fd:FuncData,(∀(s:Shared) (v:Value),BindsTo s fd ⟨[v],[]⟩ [("_law_script",v)])/\∀base:Heap,K.In base->base.Ns mainGlobals mg->L2.kz base mg->aD l.prog w K mg base br 11 fa fd ["_law_script"] (xS K 323 330):=by
 obtain ⟨a105,_,F105⟩:=h105;cases hfa.symm.trans (W.mg_of X G a105);rwa[⟨_,F105.law,λbase KB _ BB=> ?_⟩];have T:L2.pX l.prog w K mg base h:=⟨X,G⟩;have Ow:=T.gl MY;have Mn:=T.gl Ke;have Ov:=T.gl MW;have Fy:=T.gl MX;have wU:=T.gl GV;have r9:=T.gl C3;have Fx:=T.gl C0;have Mm:=T.gl J6;have wT:=T.gl GR;have uQ:=T.gl MR;have oV:=T.gl J3;have fw:=T.gl Bo;have b9:=T.gl xA;have Fz:=T.gl C2;have IR:=T.gl GQ;have wS:=T.gl GP;have Ml:=T.gl J5;have IS:=T.gl GU;have jV:=T.gl GO;have gB:=T.gl C1;have Mo:=T.gl Kf;have F44:=wV (x:="near") (qual:="near") (st:=fj) l44 c44 k44
 have b44:=F44.binds (ps:=["cabins","waiting","rider","last"]) λ_ _ _ _ _ _ us hl=>match us,hl with|[_,_,_,_],_=>rfl
 have F45:=wV (x:="least") (qual:="least") (st:=du) l45 c45 k45
 have b45:=F45.binds (ps:=["cabins","waiting","rider","last"]) λ_ _ _ _ _ _ us hl=>match us,hl with|[_,_,_,_],_=>rfl
 have O0:=JV.cl;have MH:=GF.cl;have OY:=JU.cl;have OZ:=GE.cl;have Jn:=xn.cl;have Gw:=tI.cl;have Gv:=nz.cl;have MG:=xm.cl;have bg:=T.no J2;have bj:=T.no Pi;have b2:=T.no J0;have aW:=T.gl C4;have Cg:=T.no Pm;have lD:=T.gl Kb;have wR:=T.gl Ka;have c4:=T.no y1;have wF:=T.no Pg;have LY:=T.no Po;have jq:=T.gl xy;have fE:=T.no MT;have Ff:=T.no MU;have LX:=T.no Pk;have dJ:=T.gl xv;have Aj:=T.gl J4;have fo:=T.gl vf;have lE:=T.gl y2;have jo:=T.gl xw;have jr:=T.gl xz;have jI:∀H:L2.Hp,L2.aP K H kDOOR_KINDS [.str (Str.ofString "plain"),.str (Str.ofString "hasty"),.str (Str.ofString "slow")]:=λH=> .inr ⟨_,_,_,l_DOOR_KINDS,rfl,rfl,L2.bx (by show 3<=1000000;decide),(.cons ⟨_,rfl⟩ (.cons ⟨_,rfl⟩ (.cons ⟨_,rfl⟩ .nil)))⟩;have jp:=T.gl xx;have gk:=T.gl tM;have ip:=T.gl vg;have Ak:=T.gl Kc;have Aw:∀H:L2.Hp,L2.aP K H kSORTS [.str (Str.ofString "free"),.str (Str.ofString "way")]:=λH=> .inr ⟨_,_,_,l_SORTS,rfl,rfl,L2.bx (by show 2<=1000000;decide),(.cons ⟨_,rfl⟩ (.cons ⟨_,rfl⟩ .nil))⟩;have jW:=T.gl GS;have bO:=T.no xu;have LW:=T.no Pj;have uK:=T.no MV;have LV:=T.no Ph;have lN:=T.cal' h1 λF=>LL F;have ft:=T.cal' h2 λF=>LD F lN;have c7:=T.cal' h3 λF=>Ey F lN;have pA:=T.cal' h4 λF=>E1 F lN;have At:=T.cal' h5 λF=>E4 F pA;have nj:=T.cal' h6 λF=>B3 F c7;have xc:=T.cal' h7 λF=>B5 F bg ft;have xb:=T.cal' h8 λF=>B4 F xc;have sR:=T.cal' h9 λF=>zY F;have bo:=T.cal' h10 λF=>ET F;have bL:=T.cal' h11 λF=>ES F;have fq:=T.cal' h12 λF=>Lr F;have pc:=T.cal' h13 λF=>ED F bj bL nj;have jC:=T.cal' h14 λF=>E3 F fq;have sS:=T.cal' h15 λF=>Iq F bo ft bL jC;have Ga:=T.cal' h16 λF=>Ia F bo pc At xb pA sR sS;have xa:=T.cal' h17 λF=>zW F bj bo bL;have tz:=T.cal' h18 λF=>zZ F bo;have aR:=T.cal' h19 λF=>HW F;have sK:=T.cal' h20 λF=>zV F bj xa tz aR;have iw:=T.cal' h21 λF=>Lx F fq;have lK:=T.cal' h22 λF=>Iw F bj b2 bo fq iw;obtain ⟨a23,_,F23⟩:=h23;have q23:=T.ok (Io F23);have Fi:=T.mkc F23 LT Ow q23;have Ab:=T.mkc F23 IF Mn q23;have Fh:=T.mkc F23 LS Ov q23;have Az:=T.mcal' h24 O0 h24.1 λF=>EO F;have yQ:=T.mcal' h25 MH h25.1 λF=>EN F;have Ay:=T.mcal' h26 OY h26.1 λF=>EM F;have sU:=T.cal' h27 λF=>B7 F c3Door c3Hasty c3Slow Fi Ab Fh;have gK:=T.cal' h28 λF=>Ie F;have c8:=T.cal' h29 λF=>zU F;have sO:=T.cal' h30 λF=>B6 F;have sW:=T.cal' h31 λF=>Ix F cM aW ft;have de:=T.cal' h32 λF=>EW F;have dL:=T.cal' h33 λF=>Lq F;have sJ:=T.cal' h34 λF=>zS F lN ft;have jZ:=T.cal' h35 λF=>Ig F cM aW c7 dL de;have iy:=T.cal' h36 λF=>EL F cM sJ dL;have sV:=T.cal' h37 λF=>Iv F cM;have sQ:=T.cal' h38 λF=>EQ F bj;have tm:=T.cal' h39 λF=>Iy F cM Cg sQ;have jG:=T.cal' h40 λF=>Oe F cM lD wR sW c7 jZ iy sV tm;have dN:=T.cal' h41 λF=>LB F;have gJ:=T.cal' h42 λF=>Id F c4 dN;have gm:=T.cal' h43 λF=>Ob F bj bg aW dN;have q44:=T.ok (Ik l44 c44 (W.codeHd_of_K KB hd44) BB wF LY aW gJ);have Gb:L2.bp l.prog w K mg base _ "near" ["cabins","waiting","rider","last"] _:=⟨_,_,q44,b44,k44,T.gl a44⟩;have q45:=T.ok (ER l45 c45 (W.codeHd_of_K KB hd45) BB wF bj aW gJ);have As:L2.bp l.prog w K mg base _ "least" ["cabins","waiting","rider","last"] _:=⟨_,_,q45,b45,k45,T.gl a45⟩;have pz:=T.cal' h46 λF=>EB F aW gm;have sI:=T.cal' h47 λF=>HV F;have pj:=T.cal' h48 λF=>EV F;have fR:=T.calX' h49 λF=>Oc F;have y4:=T.calX' h50 λF=>Of F bj jq wT wQ uQ oV fw fR sI pj;have lM:=y4.calm;have yJ:=T.cal' h51 λF=>EX (Pn:=323) (Pl:=330) F cM b2 aW de;have gM:=T.cal' h52 λF=>B8 (Pn:=323) (Pl:=330) F cM fE c4 aW yJ;have dG:=T.cal' h53 λF=>Im F cM bo;have jz:=T.cal' h54 λF=>Ii F cM bj dG c8;have jD:=T.cal' h55 λF=>LF F cM jz ft aR;have pq:=T.cal' h56 λF=>LG F cM (FQ JV yW GF xq JU yV Az yQ Ay) bj gK c8 sO lK dG sU ft aR;have jE:=T.cal' h57 λF=>LK F cM gK c8 Ga sK;have ez:=T.cal' h58 λF=>LE F cM pq aR jE;have c_go:=T.cal' h59 λF=>Od F cM lD ft jD ez;have mW:=T.mkc' h60 Fc IS λF=>EK F fE;have gI:=T.cal' h61 λF=>Lu F cM b2;have ql:=T.xmk' h62 Bp Fz λF=>BY F ce b9 mY oa fP oN;have vh:=T.xmk' h63 C6 IR λF=>Ex F ce b9 qh qK iF rQ;have fS:=T.calX' h64 λF=>B2 F ql;have kG:=T.calX' h65 λF=>EJ F bj vh;have kE:=T.calX' h66 λF=>EI (bI:=bI) F fS wS wP;have kI:=T.calX' h67 λF=>Ij F kE kG;have gH:=T.cal' h68 λF=>Ic F;have y3:=T.xmk' h69 GW Ml λF=>BX F ce b9 wL vQ lT wG;have eJ:=T.calX' h70 λF=>Lw F Ff gH kI y3;have c5:=T.mcal' h71 Gx h71.1 λF=>EC (Pn:=323) (Pl:=330) F cM bj bg eJ mW jG gM c_go gI;have pe:=T.cal' h72 λF=>EF F;have sM:=T.cal' h73 λF=>zX F;have pf:=T.cal' h74 λF=>yn F;have fe:=T.cal' h75 λF=>EH F;have sL:=T.cal' h76 λF=>B0 F;have tH:=T.mcal' h77 OZ h77.1 λF=>EA F pe;have nv:=T.mcal' h78 Jn h78.1 λF=>zT F pe;have ky:=T.mcal' h79 Gw h79.1 λF=>ym F sM;have kx:=T.mcal' h80 Gv h80.1 λF=>yk F pf;have pQ:=T.mcal' h81 MG h81.1 λF=>BZ F fe;have rP:=T.mkc' h82 Ce Fx λF=>EG F;have Aa:=T.mkc' h83 IE Mm λF=>EE F bj LX dJ Aj jV jU;have pB:=T.cal' h84 λF=>LN (k:=⟨j8,dz,cr,b8,eO⟩) F bg (Ee tH nv ky kx pQ GE ve kB xn pS iL tI nF gO nz iE eD xm lU fO) dJ sL;have C7:=T.calX' h85 λF=>B1 (k:=⟨j8,dz,cr,b8,eO⟩) F bj (.mk nz iE eD) (.mk xm lU fO) Fy wU r9 E9 wB rL rP Aa fo jV jU;have jy:=C7.calm;have lJ:=T.cal' h86 λF=>Iu F lE jo jr jI;have jF:=T.cal' h87 λF=>Ir F bj Cg jp lJ;have iz:=T.cal' h88 λF=>EU F lN ft;have xB:=T.calX' h89 λF=>Il F b2 gB gA gk ip Ak Aw jF iz;have jA:=xB.calm;have Ac:=T.mkc' h90 IG Mo λF=>EZ F;have py:=T.cal' h91 λF=>LJ F;have iB:=T.mcal' h92 Gx h92.1 λF=>E2 F bj b2 py;have gL:=T.cal' h93 λF=>Ih F gH;have nq:=T.cal' h94 λF=>Og F bj bg jW gL;have Mu:=T.cal' h95 λF=>Ly F jW cC c5;have aT:=T.cal' h96 λF=>Qo F bj;have lG:=T.cal' h97 λF=>Ez F bO LW uK;have lI:=T.cal' h98 λF=>Ip F bg aT jA;have pi:=T.cal' h99 λF=>Lv (k:=⟨j8,dz,cr,b8,eO⟩) F bg aT jy pB;have lH:=T.cal' h100 λF=>LA F bg aT;have dM:=T.cal' h101 λF=>LC F;have c9:=T.cal' h102 λF=>LH F bj bg dM;have j3:=T.cal' h103 λF=>Ls F bO fE uK bj bg c9 nq lG gL dM;have jB:=T.cal' h104 λF=>LM F cC c5;exact Lz (Pn:=323) (Pl:=330) (k:=⟨j8,dz,cr,b8,eO⟩) ↑2 F105 (Ee tH nv ky kx pQ GE ve kB xn pS iL tI nF gO nz iE eD xm lU fO) bg LV wF bj fE bO b2 cC Ac iB uQ oV fw Gb As pz lM Mu aT lI pi lH c9 j3 jB
theorem Pq {l:PySem.W.OpenLaw}{q:Program}{loose:List Str}{XP:(Str->Option Value)->Heap->Prop}{YP:World->Heap->Prop}{d:DefRec}{K:Params->Fg}(hn:l.most=some 63)(hdf:d.params.defaults=[])
(hY:∀(w:World) (h:Heap),YP w h->(K w.params).In h/\∀t∈([(327,323),(332,330)]:List (Addr×Addr)),h.get? t.2=some (W.tabObj #[]))(hnt:∀w:World,W.noTabs (K w.params)=true)(hcd:∀w:World,∀t∈([(327,323),(332,330)]:List (Addr×Addr)),W.codeHdIn (K w.params) t.1 t.2=true)
(F:∀(w:World) (mg:Str->Option Value) (fa:Addr) (h:Heap),(K w.params).In h->h.Ns mainGlobals mg->mg d.name=some (.ref fa)->
   ∃fd:FuncData,(∀(s:Shared) (u:Value),BindsTo s fd ⟨[u],[]⟩ [("_law_script",u)])/\∀base:Heap,(K w.params).In base->base.Ns mainGlobals mg->L2.kz base mg->aD l.prog w (K w.params) mg base br 11 fa fd ["_law_script"] (xS (K w.params) 323 330)):
 PySem.W.WalkO q loose XP YP l.row.toRowW d [] (λf vs=>PySem.call f vs):=
 L2.De (tabs:=λ_=>[(327,323),(332,330)]) (n:=63) (k:=11) (x:="_law_script") (CX:=λ_=>br) (sp:=λw=>xS (K w.params) 323 330) hn ↑2 hdf ⟨rfl,by decide,by decide⟩ hY hnt hcd F (λ_ _ a ns hl hb hT hS=>Fm hS hl hb hT) λ_ _ _ _ _ z=>z
end My
open PySem PySem.W PyProof.Rows
local macro_rules | `(tactic| walk_at "l3t") => `(tactic| first | (refine' L2.Oh ?_ ?_ ?_ ?_; all_goals try k_is) | (refine' L2.Om ?_ ?_ ?_ ?_ ?_; all_goals try k_is) | k_is | kernel_rfl | (refine L2.Q8 ?_; constructor <;> walk_at "l3t"))
set_option maxRecDepth 100000 in
set_option maxHeartbeats 0 in
theorem PySem.Challenge.cw_liftcourt_k60_choices_holds : PySem.Challenge.rw_liftcourt_k60_choices.Holds := by
 w_on;o_law;k_head;(case hw=>w_witness2)
 k_fill
 rwa[My.Pq (l:=PySem.Challenge.rw_liftcourt_k60_choices) rfl rfl (λw h Y=>⟨PySem.W.km_in_of Y,λt ht=>PySem.W.km_tabs_of Y _ (by simp only [List.mem_cons,List.not_mem_nil,or_false] at ht;rcases ht with rfl|rfl<;>decide)⟩) ?lnt ?lhc ?F]
 (case lnt=>intro w;kernel_rfl)
 (case lhc=>intro w t ht;simp only [List.mem_cons,List.not_mem_nil,or_false] at ht;rcases ht with rfl|rfl<;>kernel_rfl)
 case F=>
  intro w mg fa h KX G hmg;refine' My.Mx KX G hmg ?_ ?_ ?_ ?_ ?_ ?_ ?_ ?_ ?_ ?_ ?_ ?_ ?_ ?_ ?_ ?_ ?_ ?_ ?_ ?_ ?_ ?_ ?_ ?_ ?_ ?_ ?_ ?_ ?_ ?_ ?_ ?_ ?_ ?_ ?_ ?_ ?_ ?_ ?_ ?_ ?_ ?_ ?_ ?_ ?_ ?_ ?_ ?_ ?_ ?_ ?_ ?_ ?_ ?_ ?_ ?_ ?_ ?_ ?_ ?_ ?_ ?_ ?_ ?_ ?_ ?_ ?_ ?_ ?_ ?_ ?_ ?_ ?_ ?_ ?_ ?_ ?_ ?_ ?_ ?_ ?_ ?_ ?_ ?_ ?_ ?_ ?_ ?_ ?_ ?_ ?_ ?_ ?_ ?_ ?_ ?_ ?_ ?_ ?_ ?_ ?_ ?_ ?_ ?_ ?_ ?_ ?_ ?_ ?_ ?_ ?_ ?_ ?_ ?_ ?_ ?_ ?_ ?_ ?_ ?_ ?_ ?_ ?_ ?_ ?_ ?_ ?_ ?_ ?_ ?_ ?_ ?_ ?_ ?_ ?_ ?_ ?_ ?_ ?_ ?_ ?_ ?_ ?_ ?_ ?_ ?_ ?_ ?_ ?_ ?_ ?_ ?_ ?_ ?_ ?_ ?_ ?_ ?_ ?_ ?_ ?_ ?_ ?_ ?_ ?_ ?_ ?_ ?_ ?_ ?_ ?_ ?_ ?_ ?_ ?_ ?_ ?_ ?_ ?_ ?_ ?_ ?_ ?_ ?_ ?_ ?_ ?_ ?_ ?_ ?_ ?_ ?_ ?_ ?_ ?_ ?_ ?_ ?_ ?_ ?_ ?_ ?_ ?_ ?_ ?_ ?_ ?_ ?_ ?_ ?_ ?_ ?_ ?_ ?_ ?_ ?_ ?_ ?_ ?_ ?_ ?_ ?_
  all_goals try walk_at "l3t"
